/- What a store tells of keys, by a look at each. -/
import Derived.Test.YteeflkkoifgcbabGreatGRI
namespace Go.Proofs.YteeflkkoifgcbabGreat
open Go Go.RowKit

def kvC (k : KVd) : List Value := [.string k.key, .string k.value, .int .i64 k.create, .int .i64 k.mod, .int .i64 k.version, .int .i64 k.lease]
def kvsC (l : List KVd) : List Value := l.flatMap kvC
theorem kvsC_len (l : List KVd) : (kvsC l).length = l.length * 6 := by
  unfold kvsC
  rw [List.length_flatMap]
  induction l with
  | nil => rfl
  | cons a l ih => simp only [List.map_cons, List.sum_cons, List.length_cons, ih]; simp [kvC]; omega
def toldL (limit : Int) (l : List KVd) : List KVd := if limit < 1 then l else l.take limit.toNat
theorem toldL_more {limit : Int} {l : List KVd} {x : KVd} (h : limit < 1 ∨ (l.length : Int) + 1 ≤ limit) : toldL limit (l ++ [x]) = toldL limit l ++ [x] := by
  unfold toldL
  by_cases h1 : limit < 1
  · rw [if_pos h1, if_pos h1]
  · rw [if_neg h1, if_neg h1, List.take_of_length_le (by simp; omega), List.take_of_length_le (by omega)]
theorem toldL_full {limit : Int} {l : List KVd} {x : KVd} (h : ¬ limit < 1) (h2 : ¬ (l.length : Int) + 1 ≤ limit) : toldL limit (l ++ [x]) = toldL limit l := by
  unfold toldL
  rw [if_neg h, if_neg h, List.take_append_of_le_length (by omega)]
theorem toldL_len (limit : Int) (l : List KVd) : (toldL limit l).length ≤ l.length := by
  unfold toldL
  split
  · omega
  · rw [List.length_take]; omega
theorem info56 : (Tryz.prog.info? 40).map (fun i => (i.zero, i.size, i.bytes)) = some (some (.agg #[.string ⟨#[]⟩, .string ⟨#[]⟩, .int .i64 0, .int .i64 0, .int .i64 0, .int .i64 0]), 6, 64) := by kernel_rfl
/-- A row of keys that was told. -/
def KR (w wr : World) (v : Value) (l : List KVd) : Prop := wr.ownsRow w.heap.size 40 6 v l.length (kvsC l) ∧ Below w.heap.size w wr
theorem fm_take {f : ByteArray → Option KVd} {ks : List ByteArray} {i : Nat} {k : ByteArray} (hk : ks[i]? = some k) : (ks.take (i + 1)).filterMap f = (ks.take i).filterMap f ++ (f k).toList := by
  rw [List.take_add_one, hk, List.filterMap_append]
  cases h : f k <;> simp [h]
set_option maxRecDepth 100000 in
set_option maxHeartbeats 2000000 in
theorem tell_any (kp : Option Addr) (kc : Nat) (ks : List ByteArray) (limit : Int) (p1 p2 : Value) (f : ByteArray → Option KVd) (w : World)
    (hR : Row w (.slice kp ks.length kc) ks) (hn : ks.length ≤ 1000000)
    (hf : ∀ W k, k ∈ ks → Below w.heap.size w W → Calls Tryz.prog 29 #[.string k, p1, p2] W fun e w' => e = .returned (.tuple #[encKV ((f k).getD noKV), .bool (f k).isSome]) ∧ Below W.heap.size W w') :
    Calls Tryz.prog 27 #[.slice kp ks.length kc, .int .i64 limit, .func (.func 29) #[] #[p1, p2]] w fun e w' => ∃ p c, e = .returned (.tuple #[.slice p (toldL limit (ks.filterMap f)).length c, .int .i64 (ks.filterMap f).length]) ∧ KR w w' (.slice p (toldL limit (ks.filterMap f)).length c) (toldL limit (ks.filterMap f)) := by
  have HR := Hid.mk'' hR
  have HF := Hid.mk'' hf
  clear hR hf
  obtain ⟨t9, hti, hz0, hz1, hz2⟩ := info_parts info56
  go_enter Tryz.func27, Tryz.ntmps27
  go_wp2
  go_loopg [8, 9, 16] (ks.length + 1) (fun kx s8 s9 s16 wr => ∃ (i : Nat) (p : Option Addr) (c : Nat), s8 = .slice p (toldL limit ((ks.take i).filterMap f)).length c ∧ s9 = .int .i64 ((ks.take i).filterMap f).length ∧ s16 = .int .i64 i ∧ kx + i = ks.length + 1 ∧ i ≤ ks.length ∧ Hid (KR w wr (.slice p (toldL limit ((ks.take i).filterMap f)).length c) (toldL limit ((ks.take i).filterMap f))))
  case atStart =>
    have e : toldL limit (([] : List ByteArray).filterMap f) = [] := by unfold toldL; split <;> simp
    exact ⟨0, none, 0, by simp [toldL], by simp, rfl, rfl, Nat.zero_le _, by rw [List.take_zero, e]; exact ⟨World.ownsRow_nil _ _ _ _, Below.refl _ _⟩⟩
  case round =>
    obtain ⟨i, p, c, rfl, rfl, rfl, hk, hi, HM⟩ := hrel
    have hl1 : ((ks.take i).filterMap f).length ≤ i := Nat.le_trans (List.length_filterMap_le _ _) (by rw [List.length_take]; omega)
    have hl2 := toldL_len limit ((ks.take i).filterMap f)
    by_cases hlt : i < ks.length
    · obtain ⟨k, hkk⟩ : ∃ k, ks[i]? = some k := ⟨_, List.getElem?_eq_getElem hlt⟩
      have hfm := fm_take (f := f) hkk
      obtain ⟨g, cg, hv, hgl, hgc⟩ := (HR.out).at_ i k hkk
      have kcell := (HM.out.2.cell (p := ⟨g, i, none⟩) hgl).trans hgc
      have hcall := HF.out wr k (List.mem_of_getElem? hkk) HM.out.2
      have hkp : kp = some ⟨g, 0, none⟩ := by cases hv; rfl
      subst hkp
      clear hv hgc hgl hkk
      generalize hfd : (ks.take i).filterMap f = fd at *
      cases hfk : f k with
      | none =>
        rw [hfk] at hcall hfm
        simp only [Option.toList_none, List.append_nil] at hfm
        have HM2 : Hid (∀ W, Below wr.heap.size wr W → KR w W (.slice p (toldL limit fd).length c) (toldL limit fd)) := fun W hb => ⟨ownsRow_upd HM.out.1 (Upd.ofBelow (S := fun _ => False) hb) (fun _ _ h => h), HM.out.2.trans (hb.mono HM.out.2.size)⟩
        dsimp only [Option.getD_none, encKV, noKV, Option.isSome_none] at hcall
        clear HM hfk HF
        go_wp2_with (go_at_call 29; refine hcall.mono ?_; rintro e w3 ⟨rfl, hb3⟩)
        go_roundg (ks.length - i)
        case measure => omega
        case rel => exact ⟨i + 1, p, c, by rw [hfm], by rw [hfm], by congr 1, by omega, by omega, by rw [hfm]; exact HM2.out _ (hb3.alloc (by have := hb3.size; omega) _)⟩
      | some kv =>
        rw [hfk] at hcall hfm
        simp only [Option.toList_some] at hfm
        have HM3 : Hid (KR w wr (.slice p (toldL limit fd).length c) (toldL limit fd)) := HM.out
        obtain ⟨kk, kvv, kcr, kmo, kve, kle⟩ := kv
        dsimp only [Option.getD_some, encKV, Option.isSome_some] at hcall
        have HFM := Hid.mk'' hfm
        clear HM hfk HF hfm
        go_upto_region 8 with (go_at_call 29; refine hcall.mono ?_; rintro e w3 ⟨rfl, hb3⟩)
        obtain ⟨w4, hw4⟩ : ∃ w4, w4 = w3.alloc (.cells #[.string kk, .string kvv, .int .i64 kcr, .int .i64 kmo, .int .i64 kve, .int .i64 kle] 40) := ⟨_, rfl⟩
        rw [← hw4]
        obtain ⟨bx, hbx⟩ : ∃ bx, bx = w3.heap.size := ⟨_, rfl⟩
        rw [← hbx]
        have r4 : w4.heap[bx]? = some (.cells #[.string kk, .string kvv, .int .i64 kcr, .int .i64 kmo, .int .i64 kve, .int .i64 kle] 40 (0, 0)) := by rw [hw4, hbx]; exact row_alloc w3 _ _
        have b34 : Below wr.heap.size wr w4 := by rw [hw4]; exact hb3.alloc hb3.size _
        have HK4 : Hid (KR w w4 (.slice p (toldL limit fd).length c) (toldL limit fd)) := ⟨ownsRow_upd HM3.out.1 (Upd.ofBelow (S := fun _ => False) b34) (fun _ _ h => h), HM3.out.2.trans (b34.mono HM3.out.2.size)⟩
        obtain ⟨⟨x0, x1, x2, x3, x4, x5⟩, -⟩ := box6 r4
        clear hw4 hbx b34 hb3 hcall HM3 r4
        by_cases hmore : limit < 1 ∨ (fd.length : Int) + 1 ≤ limit
        · have hto := toldL_more (x := (⟨kk, kvv, kcr, kmo, kve, kle⟩ : KVd)) hmore
          have HTO := Hid.mk'' hto
          have hba : Below w4.heap.size w4 (w4.alloc (.cells #[.string kk, .string kvv, .int .i64 kcr, .int .i64 kmo, .int .i64 kve, .int .i64 kle] 40)) := (Below.refl _ w4).alloc (Nat.le_refl _) _
          have hsrc : Src Tryz.prog 6 33 (.slice (some ⟨w4.heap.size, 0, none⟩) 1 1) 1 (kvsC [⟨kk, kvv, kcr, kmo, kve, kle⟩]) (w4.alloc (.cells #[.string kk, .string kvv, .int .i64 kcr, .int .i64 kmo, .int .i64 kve, .int .i64 kle] 40)) := Src.ofSlice _ Tryz.underlying33 ⟨w4.heap.size, 0, none⟩ 1 1 _ rfl (fun j u hj => by
            rw [Addr.add_lit, Nat.zero_add, cell_of_row _ _ _ _ _ _ (row_alloc w4 _ 40)]; simpa [kvsC, kvC] using hj) (fun u hu => by simp [kvsC, kvC] at hu; rcases hu with rfl | rfl | rfl | rfl | rfl | rfl <;> rfl)
          have hown : (w4.alloc (.cells #[.string kk, .string kvv, .int .i64 kcr, .int .i64 kmo, .int .i64 kve, .int .i64 kle] 40)).ownsRow w.heap.size 40 6 (.slice p (toldL limit fd).length c) (toldL limit fd).length (kvsC (toldL limit fd)) := ownsRow_upd HK4.out.1 (Upd.ofBelow (S := fun _ => False) hba) (fun _ _ h => h)
          have hwz : w.heap.size ≤ w4.heap.size := HK4.out.2.size
          have hl3 : (toldL limit fd).length ≤ 1000000 := by omega
          have HFIN : Hid (∀ w', Upd (w4.alloc (.cells #[.string kk, .string kvv, .int .i64 kcr, .int .i64 kmo, .int .i64 kve, .int .i64 kle] 40)) w' (fun k => some k = (Value.slice p (toldL limit fd).length c).ownBlock) → Below w.heap.size w w')   := fun w' hu => (HK4.out.2.trans (hba.mono hwz)).trans (hu.below (HK4.out.2.trans (hba.mono hwz)).size (fun k hk e => by have := (HK4.out.1.lt k e.symm).1; omega))
          have HTL := Hid.mk'' (rfl : toldL limit fd = toldL limit fd)
          generalize htl : toldL limit fd = tl at *
          clear hto hba HK4 HTL
          rcases Int.lt_or_le limit 1 with hli | hli
          · go_wp2_with (at_builtin; refine wpList_appS _ rfl (.tmp 37) (.tmp 39) 33 33 rfl w.heap.size 40 t9 _ 6 Tryz.underlying33 hti hz0 hz1 rfl (by rw [hz2]; decide) _ tl.length (kvsC tl) rfl hown _ rfl 1 (kvsC [⟨kk, kvv, kcr, kmo, kve, kle⟩]) hsrc (by omega) (by simp; omega) ?_; intro v' w' q1 q2 q3 q4; obtain ⟨np, nc, hnv⟩ := owns_formB0 q1; subst hnv; clear q3 q4)
            go_roundg (ks.length - i)
            case measure => omega
            case rel => exact ⟨i + 1, np, nc, by rw [HFM.out, HTO.out]; simp, by rw [HFM.out]; simp, by congr 1, by omega, by omega, by rw [HFM.out, HTO.out]; exact ⟨by simpa [kvsC] using q1, HFIN.out _ q2⟩⟩
          · have hm2 : (fd.length : Int) + 1 ≤ limit := by omega
            go_wp2_with (at_builtin; refine wpList_appS _ rfl (.tmp 37) (.tmp 39) 33 33 rfl w.heap.size 40 t9 _ 6 Tryz.underlying33 hti hz0 hz1 rfl (by rw [hz2]; decide) _ tl.length (kvsC tl) rfl hown _ rfl 1 (kvsC [⟨kk, kvv, kcr, kmo, kve, kle⟩]) hsrc (by omega) (by simp; omega) ?_; intro v' w' q1 q2 q3 q4; obtain ⟨np, nc, hnv⟩ := owns_formB0 q1; subst hnv; clear q3 q4)
            go_roundg (ks.length - i)
            case measure => omega
            case rel => exact ⟨i + 1, np, nc, by rw [HFM.out, HTO.out]; simp, by rw [HFM.out]; simp, by congr 1, by omega, by omega, by rw [HFM.out, HTO.out]; exact ⟨by simpa [kvsC] using q1, HFIN.out _ q2⟩⟩
        · have h1 : ¬ limit < 1 := fun h => hmore (.inl h)
          have h2 : ¬ (fd.length : Int) + 1 ≤ limit := fun h => hmore (.inr h)
          have HTO := Hid.mk'' (toldL_full (x := (⟨kk, kvv, kcr, kmo, kve, kle⟩ : KVd)) h1 h2)
          clear hmore
          go_wp2
          go_roundg (ks.length - i)
          case measure => omega
          case rel => exact ⟨i + 1, p, c, by rw [HFM.out, HTO.out], by rw [HFM.out]; simp, by congr 1, by omega, by omega, by rw [HFM.out, HTO.out]; exact HK4.out⟩
    · obtain rfl : i = ks.length := by omega
      rw [List.take_length] at HM ⊢
      have HB := HM
      go_wp2
      refine bodyPost_ret (results_tmp2 rfl _ _ _) rfl ?_
      exact ⟨p, c, rfl, HB.out⟩
end Go.Proofs.YteeflkkoifgcbabGreat
