/- A net of any messages: delivering, dropping. -/
import Derived.Test.YtamgoknoapcnjaaDoorNPI
import Derived.Test.YtamgoknoapcnjaaDoorNI
namespace Go.Proofs.YtamgoknoapcnjaaDoor
open Go Go.RowKit
section
variable {base d : Nat} {X : Nat → Prop} {w : World} {v : Value} {l : List Md} {bs : List Nat}
set_option maxRecDepth 100000 in
set_option maxHeartbeats 4000000 in
theorem Nn.deliver (h : Nn base X w d v l bs) (i : Int) (k : Nat) (m : Md) (hk : pickF i l.length = k) (hs : l[k]? = some m) (hl : l.length ≤ 100000) :
    Calls Tryd.prog 19 #[ptr d, iv i] w fun e w' => ∃ ve vv vd, e = .returned (.tuple #[.agg (mrow m ve vv vd), iv 0]) ∧ Ms (fun j => j ≤ w.heap.size ∧ ¬ X j) w' ve vv vd m ∧ ∃ v', Nn base X w' d v' (l.eraseIdx k) (bs.eraseIdx k) ∧ Upd w w' (fun k => k = d ∨ some k = v.ownBlock) := by
  have hkl := (List.getElem?_eq_some_iff.1 hs).1
  obtain ⟨w1, hw1⟩ : ∃ w1, w1 = w.alloc (.cells zrow 28) := ⟨_, rfl⟩
  have hb1 : Below w.heap.size w w1 := by rw [hw1]; exact (Below.refl _ _).alloc (Nat.le_refl _) _
  have HY1 : Bx w.heap.size zrow 28 w1 := by rw [hw1]; exact row_alloc w _ 28
  have hs1 : Hid (w1.heap.size = w.heap.size + 1) := by show _ = _; rw [hw1]; simp
  -- the result's box is none of the net's
  have h1 : Nn base (fun j => X j ∨ j = w.heap.size) w1 d v l bs := (h.reX (X' := fun j => X j ∨ j = w.heap.size) (fun j hj e => by
    rcases e with e | e
    · exact e
    · omega)).below hb1
  have hp := h1.pick_some i (by omega) (by omega)
  rw [hk] at hp
  have ht := h1.take k m hs hl
  have HN := Hid.mkW h1
  have HB1 := Hid.mkW hb1
  clear h h1 hb1 hk
  unfold zrow at hw1
  go_enter Tryd.func19, Tryd.ntmps19
  go_upto_region 1 with fail
  rw [← hw1]
  clear hw1
  go_upto_region 4 with (go_at_call 49; refine hp.mono ?_; rintro e w2 ⟨rfl, hw2⟩; obtain rfl := hw2.symm)
  go_wp2_with (fail)
  refine ht.mono ?_
  rintro e w2 ⟨ve, vv, vd, rfl, hm2, v', hn, hu⟩
  obtain ⟨R, hR⟩ : ∃ R, R = mrow m ve vv vd := ⟨_, rfl⟩
  rw [← hR]
  have HR := Hid.mkW hR
  have HRs : Hid (R.size = 15) := by show _ = _; rw [hR]; rfl
  have hRa : R.all (·.oneCell') = true := by
    obtain ⟨pe, ce, rfl, -, -, -⟩ := hm2.e
    obtain ⟨pv, cv, rfl, -, -, -⟩ := hm2.v
    obtain ⟨pd, cd, rfl⟩ := hm2.d.slice
    rw [hR]
    kernel_rfl
  have hy2 : Bx w.heap.size zrow 28 w2 := HY1.upd hu (fun e => by
    rcases e with e | e
    · exact HN.out.nd (.inr e.symm)
    · exact HN.out.nv _ e.symm (.inr rfl))
  have H2 := Hid.mkW (And.intro hm2 (And.intro hn hu))
  clear hn hu ht hp HY1 hm2 hR
  go_wp2_with (refine wpList_store_row rfl 28 _ _ rfl w.heap.size R rfl rfl 28 zrow hy2 (by rw [HRs.out]; kernel_rfl) (by rw [HRs.out]; rfl) hRa ?_)
  obtain ⟨HXF, uF⟩ := hy2.fill (row' := R)
  refine bodyPost_ret (results_ct rfl _ _ w.heap.size 28 R (0, 0) _ rfl HXF Tryd.underlying28 rfl (by rw [HRs.out]; kernel_rfl)) rfl ?_
  obtain ⟨hm2, hn, hu⟩ := H2.out
  have hss := hs1.out
  refine ⟨ve, vv, vd, congrArg (fun r => Ending.returned (.tuple #[.agg r, iv 0])) HR.out, (hm2.upd uF (fun j hj _ e => ?_)).mono (fun j hj => ⟨by have := hj.1; omega, fun e => hj.2 (.inl e)⟩), v', (hn.law uF (fun j _ e => .inr e)).reX (fun j _ e => .inl e), ?_⟩
  · have e1 : j = w.heap.size := e
    exact hj.2 (.inr e1)
  · refine ((Upd.ofBelow (S := fun k => k = d ∨ some k = v.ownBlock) HB1.out).trans hu (fun _ _ h => h)).trans uF (fun j hj e => ?_)
    have e1 : j = w.heap.size := e
    omega
set_option maxRecDepth 100000 in
theorem Nn.deliver_none (h : Nn base X w d v [] []) (i : Int) :
    Calls Tryd.prog 19 #[ptr d, iv i] w fun e w' => e = .returned (.tuple #[.agg zrow, iv 2]) ∧ Below w.heap.size w w' := by
  obtain ⟨w1, hw1⟩ : ∃ w1, w1 = w.alloc (.cells zrow 28) := ⟨_, rfl⟩
  have hb1 : Below w.heap.size w w1 := by rw [hw1]; exact (Below.refl _ _).alloc (Nat.le_refl _) _
  have HY1 : Bx w.heap.size zrow 28 w1 := by rw [hw1]; exact row_alloc w _ 28
  have hp := (h.below hb1).pick_none i
  have HB1 := Hid.mkW hb1
  clear h hb1
  unfold zrow at hw1
  go_enter Tryd.func19, Tryd.ntmps19
  go_upto_region 1 with fail
  rw [← hw1]
  clear hw1
  go_wp2_with (first | (go_at_call 49; refine hp.mono ?_; rintro e w2 ⟨rfl, hw2⟩; obtain rfl := hw2.symm) | (refine wpList_store_row rfl 28 _ _ rfl w.heap.size zrow rfl rfl 28 zrow HY1 (by kernel_rfl) rfl (by kernel_rfl) ?_))
  obtain ⟨HXF, uF⟩ := HY1.fill (row' := zrow)
  refine bodyPost_ret (results_ct rfl _ _ w.heap.size 28 zrow (0, 0) _ rfl HXF Tryd.underlying28 rfl (by kernel_rfl)) rfl ?_
  exact ⟨rfl, HB1.out.trans (uF.below HB1.out.size (fun k hk e => by have e1 : k = w.heap.size := e; omega))⟩
set_option maxRecDepth 100000 in
theorem Nn.drop_none (h : Nn base X w d v [] []) (i : Int) :
    Calls Tryd.prog 20 #[ptr d, iv i] w fun e w' => e = .returned (iv 2) ∧ Below w.heap.size w w' := by
  have hc := h.deliver_none i
  unfold zrow at hc
  clear h
  go_enter Tryd.func20, Tryd.ntmps20
  go_wp2_with (go_at_call 19; refine hc.mono ?_; rintro e w2 ⟨rfl, hb⟩)
  go_ret
  exact ⟨rfl, hb.trans (((Below.refl _ _).alloc (Nat.le_refl _) _).mono hb.size)⟩
set_option maxRecDepth 100000 in
set_option maxHeartbeats 4000000 in
theorem Nn.drop (h : Nn base X w d v l bs) (i : Int) (k : Nat) (m : Md) (hk : pickF i l.length = k) (hs : l[k]? = some m) (hl : l.length ≤ 100000) :
    Calls Tryd.prog 20 #[ptr d, iv i] w fun e w' => e = .returned (iv 0) ∧ ∃ v', Nn base X w' d v' (l.eraseIdx k) (bs.eraseIdx k) ∧ Upd w w' (fun k => k = d ∨ some k = v.ownBlock) := by
  have hc := h.deliver i k m hk hs hl
  clear h hk
  go_enter Tryd.func20, Tryd.ntmps20
  go_wp2_with (fail)
  refine hc.mono ?_
  rintro e w2 ⟨ve, vv, vd, rfl, hm2, v', hn, hu⟩
  obtain ⟨R, hR⟩ : ∃ R, R = mrow m ve vv vd := ⟨_, rfl⟩
  rw [← hR]
  have HRs : Hid (R.size = 15) := by show _ = _; rw [hR]; rfl
  have hRa : R.all (·.oneCell') = true := by
    obtain ⟨pe, ce, rfl, -, -, -⟩ := hm2.e
    obtain ⟨pv, cv, rfl, -, -, -⟩ := hm2.v
    obtain ⟨pd, cd, rfl⟩ := hm2.d.slice
    rw [hR]
    kernel_rfl
  have hr2 : (w2.alloc (.cells zrow 28)).heap[w2.heap.size]? = some (.cells zrow 28 (0, 0)) := row_alloc w2 zrow 28
  obtain ⟨hx2, hb2⟩ := boxed w2 R
  have H2 := Hid.mkW (And.intro hn (And.intro hu hb2))
  clear hn hu hc hm2 hR hx2 hb2
  go_wp2_with (refine wpList_store_row rfl 28 _ _ rfl w2.heap.size R rfl rfl 28 zrow hr2 (by rw [HRs.out]; kernel_rfl) (by rw [HRs.out]; rfl) hRa ?_)
  go_ret
  obtain ⟨hn, hu, hb2⟩ := H2.out
  exact ⟨rfl, v', hn.below hb2, hu.trans (Upd.ofBelow (S := fun k => k = d ∨ some k = v.ownBlock) hb2) (fun _ _ h => h)⟩
end
end Go.Proofs.YtamgoknoapcnjaaDoor
