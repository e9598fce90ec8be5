/- What the leaf functions of package pen do: bytes from a number, a number from bytes, a copy of bytes. -/
import Derived.Test.YtamgoknoapcnjaaDoorRows
import Derived.Test.YtamgoknoapcnjaaDoorLaws
import Derived.WalkSpells
import Derived.WalkLawsBesides
import Derived.Handy
namespace Go.Proofs.YtamgoknoapcnjaaDoor
open Go Go.RowKit

theorem ret_int {k : IntKind} {a b : Int} (h : a = b) : Ending.returned (.int k a) = .returned (.int k b) := by rw [h]
abbrev u8s (l : List Int) : List Value := l.map (Value.int .u8)
theorem info5 : (Tryd.prog.info? 5).map (fun i => (i.zero, i.size, i.bytes)) = some (some (.int .u8 0), 1, 1) := by kernel_rfl

/-- A slice value through which the bytes zs are seen. -/
def Sees (w : World) (v : Value) (zs : List Int) : Prop :=
  (zs = [] ∧ ∃ ao cap, v = .slice ao 0 cap ∧ (ao = none → cap = 0) ∧ cap ≤ maxLen) ∨
  ∃ b off cap, v = .slice (some ⟨b, off, none⟩) zs.length cap ∧ 0 < zs.length ∧ zs.length ≤ cap ∧ cap ≤ maxLen ∧ ∀ i, i < zs.length → w.cell? ⟨b, off + i, none⟩ = some (.int .u8 (zs.getD i 0))

theorem rd_step {zs : List Int} {k : Nat} (hk : k < zs.length) : rd (zs.take (k + 1)) = rd (zs.take k) * 256 + zs[k] := by
  rw [List.take_succ_eq_append_getElem hk, rd_snoc]
theorem rd_take_bd {zs : List Int} (hb : isB zs) (h8 : zs.length ≤ 8) {k : Nat} (hk : k < zs.length) : 0 ≤ rd (zs.take k) ∧ rd (zs.take k) * 256 + 255 < 18446744073709551616 := by
  have h := rd_bd k (zs.take k) (by simp; omega) (fun x hx => hb x (List.mem_of_mem_take hx))
  rcases (by omega : k = 0 ∨ k = 1 ∨ k = 2 ∨ k = 3 ∨ k = 4 ∨ k = 5 ∨ k = 6 ∨ k = 7) with rfl | rfl | rfl | rfl | rfl | rfl | rfl | rfl <;> (simp only [Int.reducePow] at h; omega)

set_option maxRecDepth 100000 in
set_option maxHeartbeats 400000 in
theorem fbe_any (v : Value) (zs : List Int) (w : World) (hv : Sees w v zs) (h8 : zs.length ≤ 8) (hb : isB zs) :
    Calls Tryd.prog 65 #[v] w fun e w' => e = .returned (.int .u64 (rd zs)) ∧ w' = w := by
  rcases hv with ⟨rfl, ao, cap, rfl, _, _⟩ | ⟨b, off, cap, rfl, h0, _, _, hc⟩
  · go_enter Tryd.func65, Tryd.ntmps65
    go_wp2
    go_rounds 1
    go_ret
    exact ⟨rfl, rfl⟩
  · go_enter Tryd.func65, Tryd.ntmps65
    go_wp2
    go_loop [3, 8] (fun n i => ∃ k : Nat, k ≤ zs.length ∧ i = .int .i64 k ∧ n = .int .u64 (rd (zs.take k))) (fun _ i => zs.length - (intOf i).toNat)
    case atStart => exact ⟨0, Nat.zero_le _, rfl, rfl⟩
    case round =>
      obtain ⟨k, hk, rfl, rfl⟩ := hrel
      by_cases hlt : k < zs.length
      · have hck := hc k hlt
        have HW : Hid (0 ≤ zs[k] ∧ zs[k] ≤ 255) := hb _ (List.getElem_mem hlt)
        have HB : Hid (0 ≤ rd (zs.take k) ∧ rd (zs.take k) * 256 + 255 < 18446744073709551616) := rd_take_bd hb h8 hlt
        clear hc hb
        go_wp2
        go_round
        case rel => exact ⟨k + 1, by omega, by go_num, by rw [or_u64 _ _ HB.out.1 HB.out.2 HW.out.1 HW.out.2, rd_step hlt]⟩
        case measure => simp [intOf]; omega
      · clear hc hb
        go_wp2
        go_ret
        exact ⟨ret_int (by rw [List.take_of_length_le (by omega)]), rfl⟩

set_option maxRecDepth 100000 in
set_option maxHeartbeats 4000000 in
theorem be_any (n : Int) (w : World) (h0 : 0 ≤ n) (h1 : n < 18446744073709551616) :
    Calls Tryd.prog 87 #[.int .u64 n] w fun e w' => e = .returned (.agg (u8s (be n)).toArray) ∧ Below w.heap.size w w' := by
  go_enter Tryd.func87, Tryd.ntmps87
  go_wp2
  go_rounds 9
  exact bodyPost_ret (v := .agg (u8s (be n)).toArray) (by simp [results, Tryd.results87, go_sem, be]) rfl ⟨rfl, ((Below.refl _ _).alloc (Nat.le_refl _) _).alloc (by simp) _⟩

theorem Sees.upd {w w' : World} {S : Nat → Prop} {v : Value} {zs : List Int} (h : Sees w v zs) (hu : Upd w w' S) (hS : ∀ k, v.ownBlock = some k → 0 < zs.length → ¬ S k) : Sees w' v zs := by
  rcases h with h | ⟨b, off, cap, rfl, h0, h1, h2, hc⟩
  · exact .inl h
  · refine .inr ⟨b, off, cap, rfl, h0, h1, h2, fun i hi => ?_⟩
    have h := hc i hi
    rw [← h]
    refine hu.cell (p := ⟨b, off + i, none⟩) ?_ (hS b rfl h0)
    exact World.block_lt_of_cell? _ _ h
theorem Sees.below {w w' : World} {v : Value} {zs : List Int} (h : Sees w v zs) (hb : Below w.heap.size w w') : Sees w' v zs := h.upd (S := fun _ => False) (Upd.ofBelow hb) (fun _ _ _ h => h)

theorem Src_sees {w : World} {v : Value} {zs : List Int} (h : Sees w v zs) : Src Tryd.prog 1 26 v zs.length (u8s zs) w := by
  have h27 : Tryd.prog.underlying 26 = some (.slice 5) := Tryd.underlying26
  rcases h with ⟨rfl, ao, cap, rfl, _, _⟩ | ⟨b, off, cap, rfl, _, _, _, hc⟩
  · cases ao with
    | none => exact Src.ofNil w h27 cap
    | some a => exact Src.ofSlice w h27 a 0 cap [] rfl (fun j u h => by simp at h) (fun u h => by cases h)
  · refine Src.ofSlice w h27 ⟨b, off, none⟩ _ cap (u8s zs) (by simp) (fun j u h => ?_) (ints_oneCell _ _)
    simp only [u8s, List.getElem?_map, Option.map_eq_some_iff] at h
    obtain ⟨x, hx, rfl⟩ := h
    obtain ⟨hj, rfl⟩ := List.getElem?_eq_some_iff.1 hx
    rw [Addr.add_lit, hc j hj, List.getD_eq_getElem?_getD, hx]
    rfl

set_option maxRecDepth 100000 in
set_option maxHeartbeats 400000 in
theorem clone_any (v : Value) (zs : List Int) (w : World) (hv : Sees w v zs) (hb : zs.length ≤ 1000000) :
    Calls Tryd.prog 61 #[v] w fun e w' => ∃ v', e = .returned v' ∧ w'.ownsRow w.heap.size 5 1 v' zs.length (u8s zs) ∧ Below w.heap.size w w' := by
  have hsrc := Src_sees hv
  obtain ⟨i0, hi, hz0, hz1, hz2⟩ := info_parts info5
  have hnil := fun (w' : World) a n c => Lib.run_eql_slice_nil (P := Tryd.prog) w' 26 5 a n c 0 0 Tryd.underlying26
  obtain ⟨ao, n, cap, rfl⟩ : ∃ ao n cap, v = .slice ao n cap := by
    rcases hv with ⟨_, ao, cap, rfl, _⟩ | ⟨b, off, cap, rfl, _⟩ <;> exact ⟨_, _, _, rfl⟩
  cases ao with
  | none =>
    obtain rfl : zs = [] := by
      rcases hv with ⟨rfl, _⟩ | ⟨b, off, cap, h, _⟩
      · rfl
      · cases h
    clear hsrc
    go_enter Tryd.func61, Tryd.ntmps61
    go_wp2
    go_ret
    exact ⟨_, rfl, World.ownsRow_nil _ _ _ _, Below.refl _ _⟩
  | some a =>
    have hsrc' := Src_sees (hv.below ((Below.refl _ _).alloc (Nat.le_refl _) (.cells #[] 5)))
    clear hsrc hv
    have hown : (w.alloc (.cells #[] 5)).ownsRow w.heap.size 5 1 (.slice (some ⟨w.heap.size, 0, none⟩) 0 0) 0 [] := World.ownsRow_lit (size := 1) (e := 5) w #[] 0 (Nat.le_refl _) (by decide) rfl
    go_enter Tryd.func61, Tryd.ntmps61
    go_wp2_with (at_builtin; refine wpList_app _ rfl (.tmp 5) (.tmp 6) 26 26 rfl w.heap.size 5 i0 Tryd.underlying26 hi hz0 hz1 hz2 _ 0 [] rfl hown _ rfl _ _ hsrc' (by omega) (by simp) ?_; intro v' w' h1 h2 h3 h4)
    go_ret
    refine ⟨_, rfl, by simpa using h1, ?_⟩
    exact ((Below.refl _ _).alloc (Nat.le_refl _) _).trans (h2.below (by simp) (fun k hk e => by have := Option.some.inj (show some k = some w.heap.size from e); omega))
end Go.Proofs.YtamgoknoapcnjaaDoor
