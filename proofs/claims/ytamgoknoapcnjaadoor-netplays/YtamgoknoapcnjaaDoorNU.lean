/- A net of small messages: delivering the first; where there is none. -/
import Derived.Test.YtamgoknoapcnjaaDoorNT
namespace Go.Proofs.YtamgoknoapcnjaaDoor
open Go Go.RowKit
theorem Nt.upd2 {base d : Nat} {w w' : World} {v : Value} {l : List Int} {bs : List Nat} {S : Nat → Prop} (h : Nt base w d v l bs) (hu : Upd w w' S) (hd : ¬ S d) (hv : ∀ k, v.ownBlock = some k → ¬ S k) (hb : ∀ b ∈ bs, ¬ S b) : Nt base w' d v l bs :=
  ⟨h.x.upd hu hd, h.row.upd hu hv, h.len, fun i b s h1 h2 => (h.m i b s h1 h2).upd hu (hb b (List.mem_of_getElem? h1))⟩
theorem pickF_zero (n : Nat) (_hn : 0 < n) : pickF 0 n = 0 := by
  unfold pickF
  have : (0 : Int).tmod n = 0 := by simp
  rw [this, Int.zero_add]
  exact Int.emod_self
set_option maxRecDepth 100000 in
set_option maxHeartbeats 2000000 in
theorem deliver_first {base d : Nat} {w : World} {v : Value} {s : Int} {l : List Int} {b : Nat} {bs : List Nat} (h : Nt base w d v (s :: l) (b :: bs)) (hl : l.length ≤ 100000) :
    Calls Tryd.prog 19 #[ptr d, iv 0] w fun e w' => e = .returned (.tuple #[.agg (srow s), iv 0]) ∧ ∃ v', Nt base w' d v' l bs ∧ Upd w w' (fun k => k = d ∨ some k = v.ownBlock) := by
  obtain ⟨w1, hw1⟩ : ∃ w1, w1 = w.alloc (.cells zrow 28) := ⟨_, rfl⟩
  have hb1 : Below w.heap.size w w1 := by rw [hw1]; exact (Below.refl _ _).alloc (Nat.le_refl _) _
  have HY1 : Bx w.heap.size zrow 28 w1 := by rw [hw1]; exact row_alloc w _ 28
  have h1 := h.below hb1
  have hp := pick_some h1 0 (by simp) (by simp; omega)
  rw [pickF_zero _ (by simp)] at hp
  have ht := take_first h1 hl
  have HN := Hid.mkW h1
  have HN0 := Hid.mkW h
  have HB1 := Hid.mkW hb1
  clear h h1 hb1
  unfold zrow at hw1
  go_enter Tryd.func19, Tryd.ntmps19
  go_upto_region 1 with fail
  rw [← hw1]
  clear hw1
  go_upto_region 4 with (go_at_call 49; refine hp.mono ?_; rintro e w2 ⟨rfl, hw2⟩; obtain rfl := hw2.symm)
  go_wp2_with (fail)
  refine ht.mono ?_
  rintro e w2 ⟨rfl, v', hn, hu⟩
  have hy2 : Bx w.heap.size zrow 28 w2 := HY1.upd hu (fun e => by
    rcases e with e | e
    · have e1 : w.heap.size = d := e
      exact bx_ne HY1 HN.out.x (by decide) e1
    · exact rowO_ne HN.out.row HY1 (by decide) e)
  have H2 := Hid.mkW (And.intro hn hu)
  clear hn hu ht hp HY1
  go_wp2_with (refine wpList_store_row rfl 28 _ _ rfl w.heap.size (srow s) rfl rfl 28 zrow hy2 (by kernel_rfl) rfl (by kernel_rfl) ?_)
  obtain ⟨HXF, uF⟩ := hy2.fill (row' := srow s)
  refine bodyPost_ret (results_ct rfl _ _ w.heap.size 28 (srow s) (0, 0) _ rfl HXF Tryd.underlying28 rfl (by kernel_rfl)) rfl ?_
  obtain ⟨hn, hu⟩ := H2.out
  refine ⟨rfl, v', hn.upd2 uF (bx_ne hn.x hy2 (by decide)) (fun k hk e => ?_) (fun c hc e => ?_), ?_⟩
  · have e1 : k = w.heap.size := e
    rw [e1] at hk
    exact rowO_ne hn.row hy2 (by decide) hk.symm
  · obtain ⟨i, hi⟩ := List.getElem?_of_mem hc
    have hil : i < l.length := by have h1 := (List.getElem?_eq_some_iff.1 hi).1; have h2 := hn.len; omega
    have := (HN0.out.m (i + 1) c l[i] (by simpa using hi) (by simp [List.getElem?_eq_getElem hil])).lt
    have e1 : c = w.heap.size := e
    omega
  · refine ((Upd.ofBelow (S := fun k => k = d ∨ some k = v.ownBlock) HB1.out).trans hu (fun _ _ h => h)).trans uF (fun j hj e => ?_)
    have e1 : j = w.heap.size := e
    omega
set_option maxRecDepth 100000 in
theorem deliver_none {base d : Nat} {w : World} {v : Value} (h : Nt base w d v [] []) (i : Int) :
    Calls Tryd.prog 19 #[ptr d, iv i] w fun e w' => e = .returned (.tuple #[.agg zrow, iv 2]) ∧ Below w.heap.size w w' := by
  obtain ⟨w1, hw1⟩ : ∃ w1, w1 = w.alloc (.cells zrow 28) := ⟨_, rfl⟩
  have hb1 : Below w.heap.size w w1 := by rw [hw1]; exact (Below.refl _ _).alloc (Nat.le_refl _) _
  have HY1 : Bx w.heap.size zrow 28 w1 := by rw [hw1]; exact row_alloc w _ 28
  have hp := pick_none (h.below hb1) i
  have HB1 := Hid.mkW hb1
  clear h hb1
  unfold zrow at hw1
  go_enter Tryd.func19, Tryd.ntmps19
  go_upto_region 1 with fail
  rw [← hw1]
  clear hw1
  go_wp2_with (first | (go_at_call 49; refine hp.mono ?_; rintro e w2 ⟨rfl, hw2⟩; obtain rfl := hw2.symm) | (refine wpList_store_row rfl 28 _ _ rfl w.heap.size zrow rfl rfl 28 zrow HY1 (by kernel_rfl) rfl (by kernel_rfl) ?_))
  obtain ⟨HXF, uF⟩ := HY1.fill (row' := zrow)
  refine bodyPost_ret (results_ct rfl _ _ w.heap.size 28 zrow (0, 0) _ rfl HXF Tryd.underlying28 rfl (by kernel_rfl)) rfl ?_
  exact ⟨rfl, HB1.out.trans (uF.below HB1.out.size (fun k hk e => by have e1 : k = w.heap.size := e; omega))⟩
set_option maxRecDepth 100000 in
theorem drop_none {base d : Nat} {w : World} {v : Value} (h : Nt base w d v [] []) (i : Int) :
    Calls Tryd.prog 20 #[ptr d, iv i] w fun e w' => e = .returned (iv 2) ∧ Below w.heap.size w w' := by
  have hc := deliver_none h i
  unfold zrow at hc
  clear h
  go_enter Tryd.func20, Tryd.ntmps20
  go_wp2_with (go_at_call 19; refine hc.mono ?_; rintro e w2 ⟨rfl, hb⟩)
  go_ret
  exact ⟨rfl, hb.trans (((Below.refl _ _).alloc (Nat.le_refl _) _).mono hb.size)⟩
end Go.Proofs.YtamgoknoapcnjaaDoor
