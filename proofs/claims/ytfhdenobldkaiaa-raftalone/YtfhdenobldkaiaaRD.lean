/- Bytes seen through a slice; a copy of bytes; bytes as a text. -/
import Derived.Test.YtfhdenobldkaiaaRC
import Derived.WalkSpells
import Derived.WalkLawsBesides
import Derived.Lib.UnsafeStr
namespace Go.Proofs.Ytfhdenobldkaiaa
open Go Go.RowKit
abbrev u8s (l : List Int) : List Value := l.map (Value.int .u8)

/-- A slice value through which the bytes zs are seen. -/
def Sees (w : World) (v : Value) (zs : List Int) : Prop :=
  (zs = [] ∧ ∃ ao cap, v = .slice ao 0 cap ∧ (ao = none → cap = 0) ∧ cap ≤ maxLen) ∨
  ∃ b off cap, v = .slice (some ⟨b, off, none⟩) zs.length cap ∧ 0 < zs.length ∧ zs.length ≤ cap ∧ cap ≤ maxLen ∧ ∀ i, i < zs.length → w.cell? ⟨b, off + i, none⟩ = some (.int .u8 (zs.getD i 0))

theorem Sees.upd {w w' : World} {S : Nat → Prop} {v : Value} {zs : List Int} (h : Sees w v zs) (hu : Upd w w' S) (hS : ∀ k, v.ownBlock = some k → 0 < zs.length → ¬ S k) : Sees w' v zs := by
  rcases h with h | ⟨b, off, cap, rfl, h0, h1, h2, hc⟩
  · exact .inl h
  · refine .inr ⟨b, off, cap, rfl, h0, h1, h2, fun i hi => ?_⟩
    have h := hc i hi
    rw [← h]
    refine hu.cell (p := ⟨b, off + i, none⟩) ?_ (hS b rfl h0)
    exact World.block_lt_of_cell? _ _ h
theorem Sees.below {w w' : World} {v : Value} {zs : List Int} (h : Sees w v zs) (hb : Below w.heap.size w w') : Sees w' v zs := h.upd (S := fun _ => False) (Upd.ofBelow hb) (fun _ _ _ h => h)

theorem Src_sees {w : World} {v : Value} {zs : List Int} (h : Sees w v zs) : Src Try.prog 1 35 v zs.length (u8s zs) w := by
  have h27 : Try.prog.underlying 35 = some (.slice 5) := Try.underlying35
  rcases h with ⟨rfl, ao, cap, rfl, _, _⟩ | ⟨b, off, cap, rfl, _, _, _, hc⟩
  · cases ao with
    | none => exact Src.ofNil w h27 cap
    | some a => exact Src.ofSlice w h27 a 0 cap [] rfl (fun j u h => by simp at h) (fun u h => by cases h)
  · refine Src.ofSlice w h27 ⟨b, off, none⟩ _ cap (u8s zs) (by simp) (fun j u h => ?_) (ints_oneCell _ _)
    simp only [u8s, List.getElem?_map, Option.map_eq_some_iff] at h
    obtain ⟨x, hx, rfl⟩ := h
    obtain ⟨hj, rfl⟩ := List.getElem?_eq_some_iff.1 hx
    rw [Addr.add_lit, hc j hj, List.getD_eq_getElem?_getD, hx]
    rfl

set_option maxHeartbeats 400000 in
theorem clone_any (v : Value) (zs : List Int) (w : World) (hv : Sees w v zs) (hb : zs.length ≤ 1000000) :
    Calls Try.prog 26 #[v] w fun e w' => ∃ v', e = .returned v' ∧ w'.ownsRow w.heap.size 5 1 v' zs.length (u8s zs) ∧ Below w.heap.size w w' := by
  have hsrc := Src_sees hv
  obtain ⟨i0, hi, hz0, hz1, hz2⟩ := info_parts infoB
  have hnil := fun (w' : World) a n c => Lib.run_eql_slice_nil (P := Try.prog) w' 35 5 a n c 0 0 Try.underlying35
  obtain ⟨ao, n, cap, rfl⟩ : ∃ ao n cap, v = .slice ao n cap := by
    rcases hv with ⟨_, ao, cap, rfl, _⟩ | ⟨b, off, cap, rfl, _⟩ <;> exact ⟨_, _, _, rfl⟩
  cases ao with
  | none =>
    obtain rfl : zs = [] := by
      rcases hv with ⟨rfl, _⟩ | ⟨b, off, cap, h, _⟩
      · rfl
      · cases h
    clear hsrc
    go_enter Try.func26, Try.ntmps26
    go_wp2
    go_ret
    exact ⟨_, rfl, World.ownsRow_nil _ _ _ _, Below.refl _ _⟩
  | some a =>
    have hsrc' := Src_sees (hv.below ((Below.refl _ _).alloc (Nat.le_refl _) (.cells #[] 5)))
    clear hsrc hv
    have hown : (w.alloc (.cells #[] 5)).ownsRow w.heap.size 5 1 (.slice (some ⟨w.heap.size, 0, none⟩) 0 0) 0 [] := World.ownsRow_lit (size := 1) (e := 5) w #[] 0 (Nat.le_refl _) (by decide) rfl
    go_enter Try.func26, Try.ntmps26
    go_wp2_with (at_builtin; refine wpList_app _ rfl (.tmp 5) (.tmp 6) 35 35 rfl w.heap.size 5 i0 Try.underlying35 hi hz0 hz1 hz2 _ 0 [] rfl hown _ rfl _ _ hsrc' (by omega) (by simp) ?_; intro v' w' h1 h2 h3 h4)
    go_ret
    refine ⟨_, rfl, by simpa using h1, ?_⟩
    exact ((Below.refl _ _).alloc (Nat.le_refl _) _).trans (h2.below (by simp) (fun k hk e => by have := Option.some.inj (show some k = some w.heap.size from e); omega))
theorem conv_sees {w : World} {v : Value} {zs : List Int} (h : Sees w v zs) : (convert 35 9 v).run Try.prog w = .ok (.string (strOfNums zs)) w := by
  rcases h with ⟨rfl, ao, cap, rfl, _, _⟩ | ⟨b, off, cap, rfl, _, _, _, hc⟩
  · cases ao with
    | none => exact run_convert_bytes_nil w 35 5 Try.underlying35 Try.underlying5 0 cap 9 Try.underlying9
    | some a =>
      have hl : (loadCells a 0).run Try.prog w = .ok (([] : List Int).map (Value.int .u8)).toArray w := by
        exact run_loadCells_list (P := Try.prog) w a [] (fun j v hj => by simp at hj)
      rw [run_convert_bytes_string w 35 9 5 _ 0 cap Try.underlying35 Try.underlying5 Try.underlying9, run_bytesToString w _ 0 cap [] hl, foldl_push_bytes]
      rfl
  · exact run_convert_bytes_arg w 35 5 Try.underlying35 Try.underlying5 b off _ cap zs rfl hc 9 Try.underlying9

theorem sees_new (w : World) (zs : List Int) (fr : Nat × Nat) (h0 : 0 < zs.length) (hl : zs.length ≤ maxLen) : Sees (w.alloc (.cells (u8s zs).toArray 5 fr)) (.slice (some ⟨w.heap.size, 0, none⟩) zs.length zs.length) zs := by
  refine .inr ⟨w.heap.size, 0, zs.length, rfl, h0, Nat.le_refl _, hl, fun i hi => ?_⟩
  rw [cell_of_row _ _ _ _ _ _ (heap_alloc_new w _)]
  simp [u8s, List.getD_eq_getElem?_getD, List.getElem?_eq_getElem hi]
theorem owns_cells {B : Nat} {w : World} {g cap : Nat} {xs : List Int} (h : w.ownsRow B 5 1 (.slice (some ⟨g, 0, none⟩) xs.length cap) xs.length (u8s xs)) (i : Nat) (hi : i < xs.length) : w.cell? ⟨g, i, none⟩ = some (.int .u8 (xs.getD i 0)) := by
  rw [h.cellAt i (by omega)]
  simp [u8s, List.getD_eq_getElem?_getD, List.getElem?_eq_getElem hi]
theorem sees_own {B : Nat} {w : World} {v : Value} {xs : List Int} (h : w.ownsRow B 5 1 v xs.length (u8s xs)) : Sees w v xs := by
  rcases h.2 with ⟨rfl, h0⟩ | ⟨g, cap, cur, rfl, hb, hg, hnc, hcm, hcs, ht⟩
  · exact .inl ⟨List.eq_nil_of_length_eq_zero h0, _, _, rfl, fun _ => rfl, by decide⟩
  · by_cases h0 : xs.length = 0
    · exact .inl ⟨List.eq_nil_of_length_eq_zero h0, some ⟨g, 0, none⟩, cap, by rw [h0], (fun e => by cases e), hcm⟩
    · refine .inr ⟨g, 0, cap, rfl, by omega, hnc, hcm, fun i hi => ?_⟩
      have := h.cellAt i (by omega)
      rw [Nat.zero_add, this]
      simp [u8s, List.getD_eq_getElem?_getD, List.getElem?_eq_getElem hi]
theorem owns_form {w : World} {B : Nat} {e : TypeId} {v : Value} {n : Nat} {xs : List Value} (h : w.ownsRow B e 1 v n xs) : ∃ ao c, v = .slice ao n c := by
  rcases h.2 with ⟨rfl, rfl⟩ | ⟨g, cap, cur, rfl, _⟩ <;> exact ⟨_, _, rfl⟩

end Go.Proofs.Ytfhdenobldkaiaa
