/- The document's Ask. -/
import Derived.Test.YtcghaepjklmggaaRR1
namespace Go.Proofs.Ytcghaepjklmggaa
open Go Go.RowKit
variable {Y : Nat → Prop} {B x : Nat} {v : Value} {L : List Ro} {g : Int → Value}
def RAskP (Y : Nat → Prop) (w : World) (A : List Ro) (c s : Int) (e : Ending) (w' : World) : Prop :=
  ∃ v, e = .returned (.tuple #[repV (askA A c s).1 v, .bool (askA A c s).2.2]) ∧ RSs Y w' v (askA A c s).2.1 ∧ Below w.heap.size w w'
theorem RAskP.nil {A : List Ro} {w w' : World} {c s : Int} {rp : Rp} {bo : Bool} (he : askA A c s = (rp, [], bo)) (hb : Below w.heap.size w w') : RAskP Y w A c s (.returned (.tuple #[repV rp (.slice none 0 0), .bool bo])) w' := by
  unfold RAskP
  rw [he]
  exact ⟨_, rfl, RSs.nil _ _, hb⟩
set_option maxRecDepth 20000 in
set_option maxHeartbeats 1000000 in
theorem rask_any (c s : Int) (w : World) (h : Rt Y B w x v L g) (few : L.length ≤ 64) (hup : upL L) : Calls Try.prog 9 #[ptr x, .int .i64 c, .int .i64 s] w (RAskP Y w L c s) := by
  by_cases c0 : c = 0
  · subst c0
    have e : askA L 0 s = (rp0, [], true) := by simp [askA]
    clear h
    go_enter Try.func9, Try.ntmps9
    go_wp2
    refine bodyPost_ret (results_two rfl _ _ w.heap.size 33 #[.int .i64 0, .int .i64 0, .bool false, .slice none 0 0, .int .i64 0] (0, 0) _ rfl (heap_alloc_new w _) Try.underlying33 rfl (by kernel_rfl)) rfl ?_
    exact RAskP.nil e ((Below.refl _ _).alloc (Nat.le_refl _) _)
  by_cases hneg : c < 0
  · have e : askA L c s = (rpE 1, [], false) := by simp [askA, c0, hneg]
    clear h
    go_enter Try.func9, Try.ntmps9
    go_wp2
    refine bodyPost_ret (results_two rfl _ _ w.heap.size 33 #[.int .i64 1, .int .i64 0, .bool false, .slice none 0 0, .int .i64 0] (0, 0) _ rfl (heap_alloc_new w _) Try.underlying33 rfl (by kernel_rfl)) rfl ?_
    exact RAskP.nil e ((Below.refl _ _).alloc (Nat.le_refl _) _)
  by_cases hs1 : s < 1
  · have e : askA L c s = (rpE 1, [], false) := by simp [askA, c0, hs1]
    clear h
    go_enter Try.func9, Try.ntmps9
    go_wp2
    refine bodyPost_ret (results_two rfl _ _ w.heap.size 33 #[.int .i64 1, .int .i64 0, .bool false, .slice none 0 0, .int .i64 0] (0, 0) _ rfl (heap_alloc_new w _) Try.underlying33 rfl (by kernel_rfl)) rfl ?_
    exact RAskP.nil e ((Below.refl _ _).alloc (Nat.le_refl _) _)
  have hba : Below w.heap.size w (w.alloc (.cells #[.int .i64 0, .int .i64 0, .bool false, .slice none 0 0, .int .i64 0] 33)) := (Below.refl _ _).alloc (Nat.le_refl _) _
  have hT := h.below hba
  have hat := rat_any c _ hT few
  have q0 := hT.c0
  have hxl := h.lt
  obtain ⟨p, cc, rfl, hcc⟩ := h.form
  cases hl : lookL c L with
  | none =>
    by_cases hf : 64 ≤ L.length
    · have e : askA L c s = (rpE 4, [], false) := by simp [askA, c0, hneg, hs1, hl, hf]
      have hz : (64 : Int) ≤ (L.length : Int) := by omega
      go_enter Try.func9, Try.ntmps9
      go_wp2_with (go_at_call 16; refine hat.mono ?_; rintro e w1 ⟨k, rfl, hk, hw1⟩; obtain rfl := hw1.symm; obtain rfl := hk.none hl)
      refine bodyPost_ret (results_two rfl _ _ w.heap.size 33 #[.int .i64 4, .int .i64 0, .bool false, .slice none 0 0, .int .i64 0] (0, 0) _ rfl (heap_alloc_new w _) Try.underlying33 rfl (by kernel_rfl)) rfl ?_
      exact RAskP.nil e ((Below.refl _ _).alloc (Nat.le_refl _) _)
    · have e : askA L c s = (rp0, [], true) := by simp [askA, c0, hneg, hs1, hl, hf]
      have hz : ¬ (64 : Int) ≤ (L.length : Int) := by omega
      go_enter Try.func9, Try.ntmps9
      go_wp2_with (go_at_call 16; refine hat.mono ?_; rintro e w1 ⟨k, rfl, hk, hw1⟩; obtain rfl := hw1.symm; obtain rfl := hk.none hl)
      refine bodyPost_ret (results_two rfl _ _ w.heap.size 33 #[.int .i64 0, .int .i64 0, .bool false, .slice none 0 0, .int .i64 0] (0, 0) _ rfl (heap_alloc_new w _) Try.underlying33 rfl (by kernel_rfl)) rfl ?_
      exact RAskP.nil e ((Below.refl _ _).alloc (Nat.le_refl _) _)
  | some r =>
    have hm := List.mem_of_find?_eq_some hl
    have hri := (look_parts hl).1
    have HI : Hid (∀ k, AtIs L c k → ∃ i : Nat, k = i ∧ L[i]? = some r) := fun k hk => by
      obtain ⟨i, l', e1, h1, h2⟩ := hk.some (by rw [hl]; rfl)
      refine ⟨i, e1, ?_⟩
      rw [h1, up_inj hup (List.mem_of_getElem? h1) hm (h2.trans hri.symm)]
    have HROW := Hid.mk'' hT.row
    obtain ⟨gp, gc, hge, _⟩ := h.res r hm
    have HRES := Hid.mk'' (hT.res r hm)
    rw [hge] at HRES
    have HGE := Hid.mk'' hge
    by_cases h24 : s < r.sq
    · have e : askA L c s = (rpE 24, [], false) := by simp [askA, c0, hneg, hs1, hl, h24]
      have h24' : ¬ r.sq < s := by omega
      clear hT h hl hm hri
      go_enter Try.func9, Try.ntmps9
      go_wp2_with (go_at_call 16; refine hat.mono ?_; rintro e w1 ⟨k, rfl, hk, hw1⟩; obtain rfl := hw1.symm; obtain ⟨i, rfl, hi⟩ := HI.out k hk
                   obtain ⟨gb, hg, hcells, hgl, _⟩ := row_ro HROW.out hi
                   have k1 := hcells 1 _ (by omega) rfl
                   subst hg
                   have hil : i < L.length := (List.getElem?_eq_some_iff.1 hi).1
                   clear hcells hi hk hat)
      refine bodyPost_ret (results_two rfl _ _ w.heap.size 33 #[.int .i64 24, .int .i64 0, .bool false, .slice none 0 0, .int .i64 0] (0, 0) _ rfl (heap_alloc_new w _) Try.underlying33 rfl (by kernel_rfl)) rfl ?_
      exact RAskP.nil e ((Below.refl _ _).alloc (Nat.le_refl _) _)
    by_cases heq : r.sq = s
    · have e : askA L c s = (r.rp, r.rs, false) := by simp [askA, c0, hneg, hs1, hl, heq]
      have h24' : ¬ r.sq < s := by omega
      have HE := Hid.mk'' e
      have HR0 := Hid.mk'' (h.res r hm)
      rw [hge] at HR0
      clear hT h hl hm hri e
      go_enter Try.func9, Try.ntmps9
      go_wp2_with (go_at_call 16; refine hat.mono ?_; rintro e w1 ⟨k, rfl, hk, hw1⟩; obtain rfl := hw1.symm; obtain ⟨i, rfl, hi⟩ := HI.out k hk
                   obtain ⟨gb, hg, hcells, hgl, _⟩ := row_ro HROW.out hi
                   have k1 := hcells 1 _ (by omega) rfl
                   have k2 := hcells 2 _ (by omega) rfl
                   have k3 := hcells 3 _ (by omega) rfl
                   have k4 := hcells 4 _ (by omega) rfl
                   have k5 := hcells 5 _ (by omega) (congrArg some HGE.out)
                   have k6 := hcells 6 _ (by omega) rfl
                   subst hg
                   have hil : i < L.length := (List.getElem?_eq_some_iff.1 hi).1
                   clear hcells hi hk hat)
      refine bodyPost_ret (results_two rfl _ _ w.heap.size 33 #[.int .i64 r.rp.err, .int .i64 r.rp.rev, .bool r.rp.thn, .slice gp r.rs.length gc, .int .i64 r.rp.tim] (0, 0) _ rfl (heap_alloc_new w _) Try.underlying33 rfl (by kernel_rfl)) rfl ?_
      unfold RAskP
      rw [HE.out]
      have hb9 : Below w.heap.size w (w.alloc (.cells #[.int .i64 r.rp.err, .int .i64 r.rp.rev, .bool r.rp.thn, .slice gp r.rs.length gc, .int .i64 r.rp.tim] 33)) := (Below.refl _ _).alloc (Nat.le_refl _) _
      exact ⟨_, rfl, HR0.out.below hb9, hb9⟩
    · have e : askA L c s = (rp0, [], true) := by simp [askA, c0, hneg, hs1, hl, h24, heq]
      have h24' : r.sq < s := by omega
      clear hT h hl hm hri
      go_enter Try.func9, Try.ntmps9
      go_wp2_with (go_at_call 16; refine hat.mono ?_; rintro e w1 ⟨k, rfl, hk, hw1⟩; obtain rfl := hw1.symm; obtain ⟨i, rfl, hi⟩ := HI.out k hk
                   obtain ⟨gb, hg, hcells, hgl, _⟩ := row_ro HROW.out hi
                   have k1 := hcells 1 _ (by omega) rfl
                   subst hg
                   have hil : i < L.length := (List.getElem?_eq_some_iff.1 hi).1
                   clear hcells hi hk hat)
      refine bodyPost_ret (results_two rfl _ _ w.heap.size 33 #[.int .i64 0, .int .i64 0, .bool false, .slice none 0 0, .int .i64 0] (0, 0) _ rfl (heap_alloc_new w _) Try.underlying33 rfl (by kernel_rfl)) rfl ?_
      exact RAskP.nil e ((Below.refl _ _).alloc (Nat.le_refl _) _)
end Go.Proofs.Ytcghaepjklmggaa
