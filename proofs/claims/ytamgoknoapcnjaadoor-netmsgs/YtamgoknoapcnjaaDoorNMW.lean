/- The walk of NetMsgs. -/
import Derived.Test.YtamgoknoapcnjaaDoorNSD
import Derived.Test.YtamgoknoapcnjaaDoorNSE
import Derived.Test.YtamgoknoapcnjaaDoorGKB
import Derived.Deep.RegionHeldLaw
namespace Go.Proofs.YtamgoknoapcnjaaDoor
open Go Go.RowKit
theorem load_box {d : Nat} {R : Array Value} {W : World} (h : Bx d R 28 W) (hs : R.size = 15) : (loadVar 28 ⟨d, 0, none⟩).run Tryd.prog W = .ok (.agg R) W :=
  run_loadVar_row W d 28 28 R (0, 0) _ h Tryd.underlying28 rfl (by rw [hs]; kernel_rfl)
theorem Is.strong {Z : Nat → Prop} {w : World} {v : Value} {l : List Int} (h : Is Z w v l) : Is (fun k => Z k ∧ k < w.heap.size) w v l := by
  obtain ⟨p, c, rfl, a, b, hh⟩ := h
  exact ⟨p, c, rfl, a, b, fun i x hi => by
    obtain ⟨g, o, e, hz, hc⟩ := hh i x hi
    exact ⟨g, o, e, ⟨hz, World.block_lt_of_cell? _ _ hc⟩, hc⟩⟩
theorem Es.strong {Z : Nat → Prop} {w : World} {v : Value} {l : List Ent} (h : Es Z w v l) : Es (fun k => Z k ∧ k < w.heap.size) w v l := by
  obtain ⟨p, c, rfl, a, b, hh⟩ := h
  exact ⟨p, c, rfl, a, b, fun i x hi => by
    obtain ⟨g, o, e, hz, hc⟩ := hh i x hi
    obtain ⟨v, h3, hb⟩ := hc.c3
    exact ⟨g, o, e, ⟨hz, World.block_lt_of_cell? _ _ hc.c0⟩, hc.c0, hc.c1, hc.c2, v, h3, hb.strong⟩⟩
theorem Ms.strong {Z : Nat → Prop} {w : World} {ve vv vd : Value} {m : Md} (h : Ms Z w ve vv vd m) : Ms (fun k => Z k ∧ k < w.heap.size) w ve vv vd m := ⟨h.e.strong, h.v.strong, h.d.strong⟩
theorem take_loadR {ops : Array Oper} {Q : Exit → Act → World → Prop} {md : Region.Mode} {S : World → Prop} {fuel : Nat} {listed : Array Bool} {a : Act} {w : World} {x : Operand} {oi : Oper} (i : Nat) (d : Nat) (R : Array Value) (hi : ops[i]? = some oi)
    (hs : Region.noSelect ops = true) (hf : Region.free md ops listed i = true) (hr : (Region.ready md ops listed).contains i = true)
    (hQ : ∀ c a w, Q (.panic c) (a.put oi.dst (.agg R)) w → Q (.panic c) a w) (hw : Region.wanted oi (yielded ops a.tmps) = true) (ho : oi.op = .load 28 x) (hx : a.eval x = .pointer (some ⟨d, 0, none⟩))
    (hl : ∀ w, S w → (loadVar 28 ⟨d, 0, none⟩).run Tryd.prog w = .ok (.agg R) w) (hS : S w)
    (h : wpAnyH Tryd.prog md ops Q S fuel (listed.setIfInBounds i true) (a.put oi.dst (.agg R)) w) : wpAnyH Tryd.prog md ops Q S (fuel + 1) listed a w :=
  wpAnyH_take hi hs hf hr hQ (.inl ⟨hw, fun w hw' => by
    unfold execOp
    simp only [ho, hx, Instr.loadAt, Instr.sureAddr, Sem.run_bind, Sem.run_pure, Result.andThen_ok, hl w hw']⟩) hS h
theorem pM_ok {xs : List Int} (h : isB xs) : MOk (pM xs) := by
  unfold pM
  split
  · exact (rM_ok (unfR_isB h)).1
  · exact zOk
theorem tells_same {fn : Nat} {args : Array Value} {w : World} {q : Prop} {bo : Bool} (h : Tells fn args w q) (hb : bo = true ↔ q) : Calls Tryd.prog fn args w fun e w' => e = .returned (.bool bo) ∧ Below w.heap.size w w' := by
  cases bo
  · exact h.no (fun hq => by cases hb.2 hq)
  · exact h.yes (hb.1 rfl)
set_option maxRecDepth 100000 in
set_option maxHeartbeats 8000000 in
theorem msgs_any (Z : Nat → Prop) (w : World) (m o : Md) (ve vv vd ve' vv' vd' vb : Value) (M : List Int) (hT : HasTab w) (hm : Ms Z w ve vv vd m) (hg : Big m) (ho : MOk m) (hm2 : Ms Z w ve' vv' vd' o) (hg2 : Big o) (ho2 : MOk o) (hZ : ∀ k, Z k → k < w.heap.size)
    (hmo : Bs Z w vb M) (hml : M.length ≤ 140737488355328) (hmb : isB M) :
    Calls Tryd.prog 3 #[.agg (mrow m ve vv vd), .agg (mrow o ve' vv' vd'), vb] w fun e w' => e = .returned (.bool true) ∧ Below w.heap.size w w' := by
  obtain ⟨pe, ce, rfl, -, -, -⟩ := hm.e
  obtain ⟨pv, cv, rfl, -, -, -⟩ := hm.v
  obtain ⟨pd, cd, rfl⟩ := hm.d.slice
  obtain ⟨pe', ce', rfl, -, -, -⟩ := hm2.e
  obtain ⟨pv', cv', rfl, -, -, -⟩ := hm2.v
  obtain ⟨pd', cd', rfl⟩ := hm2.d.slice
  obtain ⟨pm, cm, rfl⟩ := hmo.slice
  obtain ⟨R3, hR3⟩ : ∃ R3, R3 = mrow m (.slice pe m.es.length ce) (.slice pv m.vs.length cv) (.slice pd m.data.length cd) := ⟨_, rfl⟩
  obtain ⟨R4, hR4⟩ : ∃ R4, R4 = mrow o (.slice pe' o.es.length ce') (.slice pv' o.vs.length cv') (.slice pd' o.data.length cd') := ⟨_, rfl⟩
  rw [← hR3, ← hR4]
  obtain ⟨w1, hw1⟩ : ∃ w1, w1 = (w.alloc (.cells R3 28)).alloc (.cells R4 28) := ⟨_, rfl⟩
  have hb1 : Below w.heap.size w w1 := by rw [hw1]; exact ((Below.refl _ _).alloc (Nat.le_refl _) _).alloc (by simp) _
  obtain ⟨d, hd⟩ : ∃ d, d = w.heap.size := ⟨_, rfl⟩
  have HX1 : Bx d R3 28 w1 := by
    rw [hd, hw1]
    exact Bx.below (row_alloc w _ 28) ((Below.refl _ _).alloc (Nat.le_refl _) _)
  have HY1 : Bx (d + 1) R4 28 w1 := by
    rw [hd, hw1]
    have := row_alloc (w.alloc (.cells R3 28)) R4 28
    rw [show (w.alloc (.cells R3 28)).heap.size = w.heap.size + 1 by simp] at this
    exact this
  have HR3s : Hid (R3.size = 15) := by show _ = _; rw [hR3]; rfl
  have HR4s : Hid (R4.size = 15) := by show _ = _; rw [hR4]; rfl
  have HR3 := Hid.mkW hR3
  have HR4 := Hid.mkW hR4
  have HM := Hid.mkW hm
  have HM2 := Hid.mkW hm2
  have HT := Hid.mkW hT
  have HG := Hid.mkW hg
  have HG2 := Hid.mkW hg2
  have HO := Hid.mkW ho
  have HO2 := Hid.mkW ho2
  have HZ := Hid.mkW hZ
  have HMO := Hid.mkW hmo
  have HMB := Hid.mkW hmb
  have HB1 := Hid.mkW hb1
  have hkn := known_any w1 (hT.below hb1)
  clear hm hm2 hT hg hg2 ho ho2 hZ hb1 hmo hmb hR3 hR4
  go_enter Tryd.func3, Tryd.ntmps3
  go_upto_region 1 with fail
  rw [← hw1, ← hd]
  clear hw1 hd
  go_upto_region 3 with (go_at_call 8; refine hkn.mono ?_; rintro e w2 ⟨rfl, hb2⟩)
  have HX2 := HX1.below hb2
  have HY2 := HY1.below hb2
  have HB2 := Hid.mkW (HB1.out.trans (hb2.mono HB1.out.size))
  have hfew := few_any Z w2 m _ _ _ (HM.out.below HB2.out) HG.out
  have hfew2 : ∀ W, Below w.heap.size w W → Calls Tryd.prog 9 #[.agg R4] W fun e w' => e = .returned (.bool (fewM o)) ∧ Below W.heap.size W w' := fun W hW => by
    rw [HR4.out]
    exact few_any Z W o _ _ _ (HM2.out.below hW) HG2.out
  rw [← HR3.out] at hfew
  clear hkn hb2 HX1 HY1
  by_cases hf : fewM m = false
  · rw [hf] at hfew
    go_wp2_with (first | (refine wpList_load_row rfl 28 _ rfl d rfl 28 _ (0, 0) _ HX2 Tryd.underlying28 rfl (by rw [HR3s.out]; kernel_rfl) ?_) | (go_at_call 9; refine hfew.mono ?_; rintro e w3 ⟨rfl, hb3⟩))
    go_ret
    exact ⟨rfl, HB2.out.trans (hb3.mono HB2.out.size)⟩
  have hf' : fewM m = true := by simpa using hf
  rw [hf'] at hfew
  have HS : Hid (Small m) := few_small hf'
  clear hf hf'
  have hload4 : ∀ w3, Below w2.heap.size w2 w3 → Bx (d + 1) R4 28 w3 := fun w3 h => HY2.below h
  by_cases hf : fewM o = false
  · rw [hf] at hfew2
    go_wp2_with (first | (refine wpList_load_rowG (by kernel_rfl) 28 _ rfl d rfl 28 _ (0, 0) _ HX2 Tryd.underlying28 rfl (by rw [HR3s.out]; kernel_rfl) ?_) | (refine wpList_load_rowG (by kernel_rfl) 28 _ rfl (d + 1) rfl 28 _ (0, 0) _ (hload4 _ hb3) Tryd.underlying28 rfl (by rw [HR4s.out]; kernel_rfl) ?_) | (go_at_call 9; first | ((with_reducible refine hfew.mono ?_); rintro e w3 ⟨rfl, hb3⟩) | (refine (hfew2 _ (HB2.out.trans (hb3.mono HB2.out.size))).mono ?_; rintro e w4 ⟨rfl, hb4⟩)))
    go_ret
    exact ⟨rfl, (HB2.out.trans (hb3.mono HB2.out.size)).trans (hb4.mono (Nat.le_trans HB2.out.size hb3.size))⟩
  have hf' : fewM o = true := by simpa using hf
  rw [hf'] at hfew2
  have HS2 : Hid (Small o) := few_small hf'
  clear hf hf'
  by_cases hM : 5000 < M.length
  · go_wp2_with (first | (refine wpList_load_rowG (by kernel_rfl) 28 _ rfl d rfl 28 _ (0, 0) _ HX2 Tryd.underlying28 rfl (by rw [HR3s.out]; kernel_rfl) ?_) | (refine wpList_load_rowG (by kernel_rfl) 28 _ rfl (d + 1) rfl 28 _ (0, 0) _ (hload4 _ hb3) Tryd.underlying28 rfl (by rw [HR4s.out]; kernel_rfl) ?_) | (go_at_call 9; first | ((with_reducible refine hfew.mono ?_); rintro e w3 ⟨rfl, hb3⟩) | (refine (hfew2 _ (HB2.out.trans (hb3.mono HB2.out.size))).mono ?_; rintro e w4 ⟨rfl, hb4⟩)))
    go_ret
    exact ⟨rfl, (HB2.out.trans (hb3.mono HB2.out.size)).trans (hb4.mono (Nat.le_trans HB2.out.size hb3.size))⟩
  have hM' : decide (5000 < M.length) = false := by simpa using hM
  have hM1 : M.length ≤ 5000 := by omega
  go_upto_region 5 with (first | (refine wpList_load_rowG (by kernel_rfl) 28 _ rfl d rfl 28 _ (0, 0) _ HX2 Tryd.underlying28 rfl (by rw [HR3s.out]; kernel_rfl) ?_) | (refine wpList_load_rowG (by kernel_rfl) 28 _ rfl (d + 1) rfl 28 _ (0, 0) _ (hload4 _ hb3) Tryd.underlying28 rfl (by rw [HR4s.out]; kernel_rfl) ?_) | (go_at_call 9; first | ((with_reducible refine hfew.mono ?_); rintro e w3 ⟨rfl, hb3⟩) | (refine (hfew2 _ (HB2.out.trans (hb3.mono HB2.out.size))).mono ?_; rintro e w4 ⟨rfl, hb4⟩)))
  have HB4 := Hid.mkW ((HB2.out.trans (hb3.mono HB2.out.size)).trans (hb4.mono (Nat.le_trans HB2.out.size hb3.size)))
  have HX4 := (HX2.below hb3).below hb4
  have HY4 := (HY2.below hb3).below hb4
  clear hfew hfew2 hload4 hb3 hb4 HX2 HY2 HB2 hM hM'
  have he1 := encode_any Z w4 m _ _ _ (HT.out.below HB4.out) (HM.out.below HB4.out) HS.out HO.out (fun k hk => Nat.lt_of_lt_of_le (HZ.out k hk) HB4.out.size)
  rw [← HR3.out] at he1
  obtain ⟨q, hq⟩ : ∃ q, q = encE m := ⟨_, rfl⟩
  obtain ⟨xe, hxe⟩ : ∃ xe, xe = encR m := ⟨_, rfl⟩
  have HQ := Hid.mkW hq
  have HXE := Hid.mkW hxe
  rw [← hq, ← hxe] at he1
  clear hq hxe
  go_upto_region 6 with (first | (refine wpList_load_row rfl 28 _ rfl d rfl 28 _ (0, 0) _ HX4 Tryd.underlying28 rfl (by rw [HR3s.out]; kernel_rfl) ?_) | (go_at_call 10; refine he1.mono ?_; rintro e w5 ⟨v7, rfl, ho5, hb5⟩))
  obtain ⟨p7, c7, rfl⟩ := owns_formB0 ho5
  have HB5 := Hid.mkW (HB4.out.trans (hb5.mono HB4.out.size))
  have HX5 := HX4.below hb5
  have HY5 := HY4.below hb5
  have HO5 := Hid.mkW ho5
  have he2 := dEncode_any Z w5 m _ _ _ (HM.out.below HB5.out) HS.out HO.out (fun k hk => Nat.lt_of_lt_of_le (HZ.out k hk) HB5.out.size)
  rw [← HR3.out, ← HQ.out, ← HXE.out] at he2
  clear he1 ho5 hb5 HX4 HY4
  go_upto_region 7 with (first | (refine wpList_load_row rfl 28 _ rfl d rfl 28 _ (0, 0) _ HX5 Tryd.underlying28 rfl (by rw [HR3s.out]; kernel_rfl) ?_) | (go_at_call 11; refine he2.mono ?_; rintro e w6 ⟨v9, rfl, ho6, hb6⟩))
  obtain ⟨p9, c9, rfl⟩ := owns_formB0 ho6
  have HB6 := Hid.mkW (HB5.out.trans (hb6.mono HB5.out.size))
  have HX6 := HX5.below hb6
  have HY6 := HY5.below hb6
  have HS7 : Hid (Sees w6 (.slice p7 xe.length c7) xe) := (sees_own HO5.out).below hb6
  have HS9 : Hid (Sees w6 (.slice p9 xe.length c9) xe) := sees_own ho6
  clear he2 ho6 hb6 HX5 HY5 HO5
  obtain ⟨i0, hi, hz0, hz1, hz2⟩ := info_parts info5
  have hown : (w6.alloc (.cells #[] 5)).ownsRow w6.heap.size 5 1 (.slice (some ⟨w6.heap.size, 0, none⟩) 0 0) 0 [] := World.ownsRow_lit (size := 1) (e := 5) w6 #[] 0 (Nat.le_refl _) (by decide) rfl
  have hsA : Src Tryd.prog 1 26 (.slice pm M.length cm) M.length (u8s M) (w6.alloc (.cells #[] 5)) := Src_sees (((HMO.out.below HB6.out).below ((Below.refl _ w6).alloc (Nat.le_refl _) _)).s)
  have hpar : ∀ v9 w9, w9.ownsRow w6.heap.size 5 1 v9 (0 + M.length) ([] ++ u8s M) → Upd (w6.alloc (.cells #[] 5)) w9 (fun k => some k = (Value.slice (some ⟨w6.heap.size, 0, none⟩) 0 0).ownBlock) → Calls Tryd.prog 12 #[v9] w9 fun e w' => ∃ pe ce pv cv pd cd, e = .returned (.tuple #[.agg (mrow (pM M) (.slice pe (pM M).es.length ce) (.slice pv (pM M).vs.length cv) (.slice pd (pM M).data.length cd)), iv (pX M)]) ∧ Hid (Ms (fun k => w6.heap.size ≤ k) w' (.slice pe (pM M).es.length ce) (.slice pv (pM M).vs.length cv) (.slice pd (pM M).data.length cd) (pM M) ∧ Below w6.heap.size w6 w') := by
    intro v9 w9 r1 r2
    rw [Nat.zero_add, List.nil_append] at r1
    have hb9 : Below w6.heap.size w6 w9 := ((Below.refl _ _).alloc (Nat.le_refl _) _).trans (r2.below (by simp) (fun k hk e => by have e1 : some k = some w6.heap.size := e; cases e1; omega))
    refine (parse_any v9 M w9 (HT.out.below (HB6.out.trans (hb9.mono HB6.out.size))) HMB.out (by omega) (sees_own r1)).mono ?_
    rintro e w' ⟨pe, ce, pv, cv, pd, cd, rfl, h1, h2⟩
    exact ⟨pe, ce, pv, cv, pd, cd, rfl, h1.mono (fun k hk => Nat.le_trans hb9.size hk), hb9.trans (h2.mono hb9.size)⟩
  go_wp2_with (first | (at_builtin; refine wpList_app _ rfl (.tmp 45) (.tmp 46) 26 26 rfl w6.heap.size 5 i0 Tryd.underlying26 hi hz0 hz1 hz2 _ 0 [] rfl hown _ rfl _ _ hsA (by omega) (by simp) ?_; intro v9 w9 r1 r2 _ _; have hpc := hpar v9 w9 r1 r2; clear r1 r2))
  refine hpc.mono ?_
  rintro e w10 ⟨pe1, ce1, pv1, cv1, pd1, cd1, rfl, h10⟩
  obtain ⟨P, hP⟩ : ∃ P, P = pM M := ⟨_, rfl⟩
  obtain ⟨E, hE⟩ : ∃ E, E = pX M := ⟨_, rfl⟩
  obtain ⟨R1, hR1⟩ : ∃ R1, R1 = mrow P (.slice pe1 P.es.length ce1) (.slice pv1 P.vs.length cv1) (.slice pd1 P.data.length cd1) := ⟨_, rfl⟩
  rw [← hP] at h10 ⊢
  rw [← hE, ← hR1]
  have HPP := Hid.mkW hP
  have HEE := Hid.mkW hE
  have HRR := Hid.mkW hR1
  have H10 := Hid.mkW h10.out
  clear hpc hpar h10 hown hsA hP hE hR1 hi hz0 hz1 hz2
  have hr14 : (w10.alloc (.cells zrow 28)).heap[w10.heap.size]? = some (.cells zrow 28 (0, 0)) := row_alloc w10 zrow 28
  have hb11 : Below w10.heap.size w10 (w10.alloc (.cells zrow 28)) := (Below.refl _ _).alloc (Nat.le_refl _) _
  obtain ⟨HX11, u11⟩ := (show Bx w10.heap.size zrow 28 (w10.alloc (.cells zrow 28)) from hr14).fill (row' := R1)
  have HR1s : Hid (R1.size = 15) := by show _ = _; rw [HRR.out]; rfl
  have HR1a : R1.all (·.oneCell') = true := by rw [HRR.out]; kernel_rfl
  go_upto_region 8 with (refine wpList_store_row rfl 28 _ _ rfl w10.heap.size R1 rfl rfl 28 zrow hr14 (by rw [HR1s.out]; kernel_rfl) (by rw [HR1s.out]; rfl) HR1a ?_)
  obtain ⟨w11, hw11⟩ : ∃ w11, w11 = (w10.alloc (.cells zrow 28)).setRow w10.heap.size R1 := ⟨_, rfl⟩
  rw [← hw11] at HX11 u11
  have hw11' := hw11
  unfold zrow at hw11'
  rw [← hw11']
  obtain ⟨d14, hd14⟩ : ∃ d14, d14 = w10.heap.size := ⟨_, rfl⟩
  have HB11 : Hid (Below w10.heap.size w10 w11) := hb11.trans (u11.below hb11.size (fun k' hk e => by have e1 : k' = w10.heap.size := e; omega))
  rw [← hd14] at HX11 ⊢
  clear hw11 hw11' hr14 hb11 u11 hd14 HR1a
  have HBx : Hid (Below w6.heap.size w6 w11) := H10.out.2.trans (HB11.out.mono H10.out.2.size)
  have HM11 := Hid.mkW (H10.out.1.below HB11.out)
  have hp2 := dParse_any _ M w11 HMB.out (by omega) ((HMO.out.below (HB6.out.trans (HBx.out.mono HB6.out.size))).s)
  rw [← HPP.out, ← HEE.out] at hp2
  clear H10 HB11
  go_wp2_with (fail)
  refine hp2.mono ?_
  rintro e w12 ⟨pe2, ce2, pv2, cv2, pd2, cd2, rfl, h12, hb12⟩
  obtain ⟨R2, hR2⟩ : ∃ R2, R2 = mrow P (.slice pe2 P.es.length ce2) (.slice pv2 P.vs.length cv2) (.slice pd2 P.data.length cd2) := ⟨_, rfl⟩
  rw [← hR2]
  have HX12 := HX11.below hb12
  have HRQ := Hid.mkW hR2
  have HM12 := Hid.mkW (HM11.out.below hb12)
  have H12 := Hid.mkW h12
  have HB12 := Hid.mkW (HBx.out.trans (hb12.mono HBx.out.size))
  have hr16 : (w12.alloc (.cells zrow 28)).heap[w12.heap.size]? = some (.cells zrow 28 (0, 0)) := row_alloc w12 zrow 28
  have hb13 : Below w12.heap.size w12 (w12.alloc (.cells zrow 28)) := (Below.refl _ _).alloc (Nat.le_refl _) _
  obtain ⟨HX13, u13⟩ := (show Bx w12.heap.size zrow 28 (w12.alloc (.cells zrow 28)) from hr16).fill (row' := R2)
  have HR2s : Hid (R2.size = 15) := by show _ = _; rw [HRQ.out]; rfl
  have HR2a : R2.all (·.oneCell') = true := by rw [HRQ.out]; kernel_rfl
  clear hp2 hR2 hb12 h12 HX11 HM11
  go_upto_region 9 with (refine wpList_store_row rfl 28 _ _ rfl w12.heap.size R2 rfl rfl 28 zrow hr16 (by rw [HR2s.out]; kernel_rfl) (by rw [HR2s.out]; rfl) HR2a ?_)
  obtain ⟨w13, hw13⟩ : ∃ w13, w13 = (w12.alloc (.cells zrow 28)).setRow w12.heap.size R2 := ⟨_, rfl⟩
  rw [← hw13] at HX13 u13
  have hw13' := hw13
  unfold zrow at hw13'
  rw [← hw13']
  have hb13' : Below w12.heap.size w12 w13 := hb13.trans (u13.below hb13.size (fun k' hk e => by have e1 : k' = w12.heap.size := e; omega))
  have HX14 := HX12.below hb13'
  have HB613 : Hid (Below w6.heap.size w6 w13) := HB12.out.trans (hb13'.mono HB12.out.size)
  have HB13 : Hid (Below w.heap.size w w13) := HB6.out.trans (HB613.out.mono HB6.out.size)
  obtain ⟨d16, hd16⟩ : ∃ d16, d16 = w12.heap.size := ⟨_, rfl⟩
  rw [← hd16] at HX13 ⊢
  have HMp := Hid.mkW (HM12.out.below hb13')
  have HMq := Hid.mkW (H12.out.below hb13')
  have HX3' := HX6.below HB613.out
  have HY3' := HY6.below HB613.out
  clear hw13 hw13' hr16 hb13 u13 hd16 hb13' HX12 HX6 HY6 HR2a HM12 H12
  have hpo := pM_ok HMB.out
  rw [← HPP.out] at hpo
  have hpl := pM_len HMB.out
  rw [← HPP.out] at hpl
  obtain ⟨b0, hb0⟩ : ∃ b0 : Bool, (b0 = true ↔ m = o) := by
    by_cases h : m = o
    · exact ⟨true, ⟨fun _ => h, fun _ => rfl⟩⟩
    · exact ⟨false, ⟨(fun e => by cases e), fun e => absurd e h⟩⟩
  have hmW : ∀ W, Below w13.heap.size w13 W → Below w.heap.size w W := fun W hW => HB13.out.trans (hW.mono HB13.out.size)
  have HLm : Hid (m.es.length ≤ 1000000 ∧ m.vs.length ≤ 1000000) := by
    have h1 := HS.out.es
    have h2 := HS.out.vs
    exact ⟨by omega, by omega⟩
  have k14a : ∀ W, Below w13.heap.size w13 W → Calls Tryd.prog 14 #[.agg R1, .agg R2] W fun e w' => e = .returned (.bool true) ∧ Below w13.heap.size w13 w' := fun W hW => by
    have hc : Calls Tryd.prog 14 #[.agg R1, .agg R2] W fun e w' => e = .returned (.bool true) ∧ Below W.heap.size W w' := by
      rw [HRR.out, HRQ.out]
      exact (refSame_dec (HMp.out.below hW) (HMq.out.below hW) hpl.1 hpl.2 (fun x hx => (hpo.es x hx).d) (fun x hx => (hpo.es x hx).d) hpo.d hpo.d).yes rfl
    exact hc.mono fun e w' h' => ⟨h'.1, hW.trans (h'.2.mono hW.size)⟩
  have k15a : ∀ W, Below w13.heap.size w13 W → Calls Tryd.prog 15 #[.agg R3, .agg R4] W fun e w' => e = .returned (.bool b0) ∧ Below w13.heap.size w13 w' := fun W hW => by
    have hc : Calls Tryd.prog 15 #[.agg R3, .agg R4] W fun e w' => e = .returned (.bool b0) ∧ Below W.heap.size W w' := by
      rw [HR3.out, HR4.out]
      exact tells_same (netSame_dec (HM.out.below (hmW W hW)) (HM2.out.below (hmW W hW)) HLm.out.1 HLm.out.2 (fun x hx => (HO.out.es x hx).d) (fun x hx => (HO2.out.es x hx).d) HO.out.d HO2.out.d) hb0
    exact hc.mono fun e w' h' => ⟨h'.1, hW.trans (h'.2.mono hW.size)⟩
  have k14b : ∀ W, Below w13.heap.size w13 W → Calls Tryd.prog 14 #[.agg R3, .agg R4] W fun e w' => e = .returned (.bool b0) ∧ Below w13.heap.size w13 w' := fun W hW => by
    have hc : Calls Tryd.prog 14 #[.agg R3, .agg R4] W fun e w' => e = .returned (.bool b0) ∧ Below W.heap.size W w' := by
      rw [HR3.out, HR4.out]
      exact tells_same (refSame_dec (HM.out.below (hmW W hW)) (HM2.out.below (hmW W hW)) HLm.out.1 HLm.out.2 (fun x hx => (HO.out.es x hx).d) (fun x hx => (HO2.out.es x hx).d) HO.out.d HO2.out.d) hb0
    exact hc.mono fun e w' h' => ⟨h'.1, hW.trans (h'.2.mono hW.size)⟩
  have k15b : ∀ W, Below w13.heap.size w13 W → Calls Tryd.prog 15 #[.agg R3, .agg R3] W fun e w' => e = .returned (.bool true) ∧ Below w13.heap.size w13 w' := fun W hW => by
    have hc : Calls Tryd.prog 15 #[.agg R3, .agg R3] W fun e w' => e = .returned (.bool true) ∧ Below W.heap.size W w' := by
      rw [HR3.out]
      exact (netSame_dec (HM.out.below (hmW W hW)) (HM.out.below (hmW W hW)) HLm.out.1 HLm.out.2 (fun x hx => (HO.out.es x hx).d) (fun x hx => (HO.out.es x hx).d) HO.out.d HO.out.d).yes rfl
    exact hc.mono fun e w' h' => ⟨h'.1, hW.trans (h'.2.mono hW.size)⟩
  have L14 : ∀ W, Below w13.heap.size w13 W → (loadVar 28 ⟨d14, 0, none⟩).run Tryd.prog W = .ok (.agg R1) W := fun W hW => load_box (HX14.below hW) HR1s.out
  have L16 : ∀ W, Below w13.heap.size w13 W → (loadVar 28 ⟨d16, 0, none⟩).run Tryd.prog W = .ok (.agg R2) W := fun W hW => load_box (HX13.below hW) HR2s.out
  have L3 : ∀ W, Below w13.heap.size w13 W → (loadVar 28 ⟨d, 0, none⟩).run Tryd.prog W = .ok (.agg R3) W := fun W hW => load_box (HX3'.below hW) HR3s.out
  have L4 : ∀ W, Below w13.heap.size w13 W → (loadVar 28 ⟨d + 1, 0, none⟩).run Tryd.prog W = .ok (.agg R4) W := fun W hW => load_box (HY3'.below hW) HR4s.out
  have C7 : ∀ W, Below w13.heap.size w13 W → (convert 26 9 (.slice p7 xe.length c7)).run Tryd.prog W = .ok (.string (strOfNums xe)) W := fun W hW => conv_sees (HS7.out.below (HB613.out.trans (hW.mono HB613.out.size)))
  have C9 : ∀ W, Below w13.heap.size w13 W → (convert 26 9 (.slice p9 xe.length c9)).run Tryd.prog W = .ok (.string (strOfNums xe)) W := fun W hW => conv_sees (HS9.out.below (HB613.out.trans (hW.mono HB613.out.size)))
  have hqq : (q != q) = false := by simp
  have hEE : (E != E) = false := by simp
  have hss := bne_of (str_eq (xs := xe) (ys := xe) rfl)
  have hs1 := str_eq (xs := xe) (ys := xe) rfl
  have hbb : (b0 != b0) = false := by simp
  clear hb0 hpo hpl hmW
  go_cut [91] from 56 to 91 (fun s91 wc => s91 = .bool false ∧ Hid (Below w13.heap.size w13 wc))
  case first =>
    refine wp_region_held_drew (S := Below w13.heap.size w13) (by kernel_rfl) (Below.refl w13.heap.size w13).drew (fun hHeld => ?_)
    refine wpAnyH_take (i := 0) (oi := { dst := some 56, op := Op.move (Operand.tmp 7), type := 26, pos := "law.go:54", after := #[], guard := none }) (v := ?_) rfl (by kernel_rfl) (by kernel_rfl) (by kernel_rfl) (fun _ _ _ h => h) (Or.inl ⟨by kernel_rfl, ?_⟩) hHeld ?_
    rotate_left
    · intro w hSw; go_simp; try with_reducible rfl
    try simp only [Act.put, List.setIfInBounds_toArray, List.set_cons_zero, List.set_cons_succ]
    refine wpAnyH_take (i := 1) (oi := { dst := some 57, op := Op.convert 26 9 (Operand.tmp 56), type := 9, pos := "law.go:54", after := #[{ on := 0, ground := Ground.data }], guard := none }) (v := ?_) rfl (by kernel_rfl) (by kernel_rfl) (by kernel_rfl) (fun _ _ _ h => h) (Or.inl ⟨by kernel_rfl, ?_⟩) hHeld ?_
    rotate_left
    · intro w hSw; go_simp; try with_reducible rfl
    try simp only [Act.put, List.setIfInBounds_toArray, List.set_cons_zero, List.set_cons_succ]
    refine wpAnyH_take (i := 2) (oi := { dst := some 58, op := Op.move (Operand.tmp 9), type := 26, pos := "law.go:54", after := #[], guard := none }) (v := ?_) rfl (by kernel_rfl) (by kernel_rfl) (by kernel_rfl) (fun _ _ _ h => h) (Or.inl ⟨by kernel_rfl, ?_⟩) hHeld ?_
    rotate_left
    · intro w hSw; go_simp; try with_reducible rfl
    try simp only [Act.put, List.setIfInBounds_toArray, List.set_cons_zero, List.set_cons_succ]
    refine wpAnyH_take (i := 3) (oi := { dst := some 59, op := Op.convert 26 9 (Operand.tmp 58), type := 9, pos := "law.go:54", after := #[{ on := 2, ground := Ground.data }], guard := none }) (v := ?_) rfl (by kernel_rfl) (by kernel_rfl) (by kernel_rfl) (fun _ _ _ h => h) (Or.inl ⟨by kernel_rfl, ?_⟩) hHeld ?_
    rotate_left
    · intro w hSw; go_simp; try with_reducible rfl
    try simp only [Act.put, List.setIfInBounds_toArray, List.set_cons_zero, List.set_cons_succ]
    refine wpAnyH_take (i := 4) (oi := { dst := some 60, op := Op.binOp BinOp.neq 9 (Operand.tmp 57) (Operand.tmp 59) 9, type := 4, pos := "law.go:54", after := #[{ on := 1, ground := Ground.data }, { on := 3, ground := Ground.data }], guard := none }) (v := ?_) rfl (by kernel_rfl) (by kernel_rfl) (by kernel_rfl) (fun _ _ _ h => h) (Or.inl ⟨by kernel_rfl, ?_⟩) hHeld ?_
    rotate_left
    · intro w hSw; go_simp; try with_reducible rfl
    try simp only [Act.put, List.setIfInBounds_toArray, List.set_cons_zero, List.set_cons_succ]
    refine wpAnyH_take (i := 5) (oi := { dst := some 61, op := Op.move (Operand.tmp 60), type := 4, pos := "law.go:54", after := #[{ on := 4, ground := Ground.data }], guard := none }) (v := ?_) rfl (by kernel_rfl) (by kernel_rfl) (by kernel_rfl) (fun _ _ _ h => h) (Or.inl ⟨by kernel_rfl, ?_⟩) hHeld ?_
    rotate_left
    · intro w hSw; go_simp; try with_reducible rfl
    try simp only [Act.put, List.setIfInBounds_toArray, List.set_cons_zero, List.set_cons_succ]
    refine wpAnyH_take (i := 6) (oi := { dst := some 62, op := Op.move (Operand.tmp 8), type := 31, pos := "law.go:54", after := #[{ on := 5, ground := Ground.guard }], guard := some (5, false) }) (v := ?_) rfl (by kernel_rfl) (by kernel_rfl) (by kernel_rfl) (fun _ _ _ h => h) (Or.inl ⟨by kernel_rfl, ?_⟩) hHeld ?_
    rotate_left
    · intro w hSw; go_simp; try with_reducible rfl
    try simp only [Act.put, List.setIfInBounds_toArray, List.set_cons_zero, List.set_cons_succ]
    refine wpAnyH_take (i := 7) (oi := { dst := some 63, op := Op.move (Operand.tmp 10), type := 3, pos := "law.go:54", after := #[{ on := 5, ground := Ground.guard }], guard := some (5, false) }) (v := ?_) rfl (by kernel_rfl) (by kernel_rfl) (by kernel_rfl) (fun _ _ _ h => h) (Or.inl ⟨by kernel_rfl, ?_⟩) hHeld ?_
    rotate_left
    · intro w hSw; go_simp; try with_reducible rfl
    try simp only [Act.put, List.setIfInBounds_toArray, List.set_cons_zero, List.set_cons_succ]
    refine wpAnyH_take (i := 8) (oi := { dst := some 64, op := Op.binOp BinOp.neq 3 (Operand.tmp 62) (Operand.tmp 63) 3, type := 4, pos := "law.go:54", after := #[{ on := 6, ground := Ground.data }, { on := 7, ground := Ground.data }, { on := 5, ground := Ground.guard }], guard := some (5, false) }) (v := ?_) rfl (by kernel_rfl) (by kernel_rfl) (by kernel_rfl) (fun _ _ _ h => h) (Or.inl ⟨by kernel_rfl, ?_⟩) hHeld ?_
    rotate_left
    · intro w hSw; go_simp; try with_reducible rfl
    try simp only [Act.put, List.setIfInBounds_toArray, List.set_cons_zero, List.set_cons_succ]
    refine wpAnyH_take (i := 9) (oi := { dst := some 65, op := Op.pick (Operand.tmp 61) (Operand.const (Value.bool true)) (Operand.tmp 64), type := 4, pos := "law.go:54", after := #[{ on := 5, ground := Ground.data }, { on := 8, ground := Ground.data }], guard := none }) (v := ?_) rfl (by kernel_rfl) (by kernel_rfl) (by kernel_rfl) (fun _ _ _ h => h) (Or.inl ⟨by kernel_rfl, ?_⟩) hHeld ?_
    rotate_left
    · intro w hSw; go_simp; try with_reducible rfl
    try simp only [Act.put, List.setIfInBounds_toArray, List.set_cons_zero, List.set_cons_succ]
    refine wpAnyH_take (i := 10) (oi := { dst := some 66, op := Op.move (Operand.tmp 65), type := 4, pos := "law.go:54", after := #[{ on := 9, ground := Ground.data }, { on := 5, ground := Ground.chain }], guard := none }) (v := ?_) rfl (by kernel_rfl) (by kernel_rfl) (by kernel_rfl) (fun _ _ _ h => h) (Or.inl ⟨by kernel_rfl, ?_⟩) hHeld ?_
    rotate_left
    · intro w hSw; go_simp; try with_reducible rfl
    try simp only [Act.put, List.setIfInBounds_toArray, List.set_cons_zero, List.set_cons_succ]
    refine wpAnyH_take (i := 11) (oi := { dst := some 67, op := Op.move (Operand.tmp 12), type := 31, pos := "law.go:54", after := #[{ on := 10, ground := Ground.guard }], guard := some (10, false) }) (v := ?_) rfl (by kernel_rfl) (by kernel_rfl) (by kernel_rfl) (fun _ _ _ h => h) (Or.inl ⟨by kernel_rfl, ?_⟩) hHeld ?_
    rotate_left
    · intro w hSw; go_simp; try with_reducible rfl
    try simp only [Act.put, List.setIfInBounds_toArray, List.set_cons_zero, List.set_cons_succ]
    refine wpAnyH_take (i := 12) (oi := { dst := some 68, op := Op.move (Operand.tmp 14), type := 3, pos := "law.go:54", after := #[{ on := 10, ground := Ground.guard }], guard := some (10, false) }) (v := ?_) rfl (by kernel_rfl) (by kernel_rfl) (by kernel_rfl) (fun _ _ _ h => h) (Or.inl ⟨by kernel_rfl, ?_⟩) hHeld ?_
    rotate_left
    · intro w hSw; go_simp; try with_reducible rfl
    try simp only [Act.put, List.setIfInBounds_toArray, List.set_cons_zero, List.set_cons_succ]
    refine wpAnyH_take (i := 13) (oi := { dst := some 69, op := Op.binOp BinOp.neq 3 (Operand.tmp 67) (Operand.tmp 68) 3, type := 4, pos := "law.go:54", after := #[{ on := 11, ground := Ground.data }, { on := 12, ground := Ground.data }, { on := 10, ground := Ground.guard }], guard := some (10, false) }) (v := ?_) rfl (by kernel_rfl) (by kernel_rfl) (by kernel_rfl) (fun _ _ _ h => h) (Or.inl ⟨by kernel_rfl, ?_⟩) hHeld ?_
    rotate_left
    · intro w hSw; go_simp; try with_reducible rfl
    try simp only [Act.put, List.setIfInBounds_toArray, List.set_cons_zero, List.set_cons_succ]
    refine wpAnyH_take (i := 14) (oi := { dst := some 70, op := Op.pick (Operand.tmp 66) (Operand.const (Value.bool true)) (Operand.tmp 69), type := 4, pos := "law.go:54", after := #[{ on := 10, ground := Ground.data }, { on := 13, ground := Ground.data }], guard := none }) (v := ?_) rfl (by kernel_rfl) (by kernel_rfl) (by kernel_rfl) (fun _ _ _ h => h) (Or.inl ⟨by kernel_rfl, ?_⟩) hHeld ?_
    rotate_left
    · intro w hSw; go_simp; try with_reducible rfl
    try simp only [Act.put, List.setIfInBounds_toArray, List.set_cons_zero, List.set_cons_succ]
    refine wpAnyH_take (i := 15) (oi := { dst := some 71, op := Op.move (Operand.tmp 70), type := 4, pos := "law.go:54", after := #[{ on := 14, ground := Ground.data }, { on := 10, ground := Ground.chain }], guard := none }) (v := ?_) rfl (by kernel_rfl) (by kernel_rfl) (by kernel_rfl) (fun _ _ _ h => h) (Or.inl ⟨by kernel_rfl, ?_⟩) hHeld ?_
    rotate_left
    · intro w hSw; go_simp; try with_reducible rfl
    try simp only [Act.put, List.setIfInBounds_toArray, List.set_cons_zero, List.set_cons_succ]
    refine take_loadR (oi := { dst := some 72, op := Op.load 28 (Operand.tmp 11), type := 28, pos := "law.go:54", after := #[{ on := 15, ground := Ground.guard }], guard := some (15, false) }) (x := Operand.tmp 11) 16 d14 R1 rfl (by kernel_rfl) (by kernel_rfl) (by kernel_rfl) (fun _ _ _ h => h) (by kernel_rfl) rfl (by kernel_rfl) L14 hHeld ?_
    try simp only [Act.put, List.setIfInBounds_toArray, List.set_cons_zero, List.set_cons_succ]
    refine take_loadR (oi := { dst := some 73, op := Op.load 28 (Operand.tmp 13), type := 28, pos := "law.go:54", after := #[{ on := 15, ground := Ground.guard }], guard := some (15, false) }) (x := Operand.tmp 13) 17 d16 R2 rfl (by kernel_rfl) (by kernel_rfl) (by kernel_rfl) (fun _ _ _ h => h) (by kernel_rfl) rfl (by kernel_rfl) L16 hHeld ?_
    try simp only [Act.put, List.setIfInBounds_toArray, List.set_cons_zero, List.set_cons_succ]
    refine wpAnyH_ready (rs := [18]) (by kernel_rfl) (by simp) ?_
    refine AllReadyH.cons rfl (fun K hK => ?_) AllReadyH.nil
    · go_simp
      go_at_call 14
      (with_reducible refine (k14a _ hHeld).mono ?_)
      rintro e wE ⟨rfl, hE⟩
      go_simp
      refine hK.out _ _ hE (fun hHeld => ?_)
      clear hK K
      refine wpAnyH_take (i := 19) (oi := { dst := some 75, op := Op.unOp UnOp.not 4 (Operand.tmp 74), type := 4, pos := "law.go:54", after := #[{ on := 18, ground := Ground.data }, { on := 15, ground := Ground.guard }], guard := some (15, false) }) (v := ?_) rfl (by kernel_rfl) (by kernel_rfl) (by kernel_rfl) (fun _ _ _ h => h) (Or.inl ⟨by kernel_rfl, ?_⟩) hHeld ?_
      rotate_left
      · intro w hSw; go_simp; try with_reducible rfl
      try simp only [Act.put, List.setIfInBounds_toArray, List.set_cons_zero, List.set_cons_succ]
      refine wpAnyH_take (i := 20) (oi := { dst := some 76, op := Op.pick (Operand.tmp 71) (Operand.const (Value.bool true)) (Operand.tmp 75), type := 4, pos := "law.go:54", after := #[{ on := 15, ground := Ground.data }, { on := 19, ground := Ground.data }], guard := none }) (v := ?_) rfl (by kernel_rfl) (by kernel_rfl) (by kernel_rfl) (fun _ _ _ h => h) (Or.inl ⟨by kernel_rfl, ?_⟩) hHeld ?_
      rotate_left
      · intro w hSw; go_simp; try with_reducible rfl
      try simp only [Act.put, List.setIfInBounds_toArray, List.set_cons_zero, List.set_cons_succ]
      refine wpAnyH_take (i := 21) (oi := { dst := some 77, op := Op.move (Operand.tmp 76), type := 4, pos := "law.go:54", after := #[{ on := 20, ground := Ground.data }, { on := 18, ground := Ground.chain }], guard := none }) (v := ?_) rfl (by kernel_rfl) (by kernel_rfl) (by kernel_rfl) (fun _ _ _ h => h) (Or.inl ⟨by kernel_rfl, ?_⟩) hHeld ?_
      rotate_left
      · intro w hSw; go_simp; try with_reducible rfl
      try simp only [Act.put, List.setIfInBounds_toArray, List.set_cons_zero, List.set_cons_succ]
      refine take_loadR (oi := { dst := some 78, op := Op.load 28 (Operand.tmp 3), type := 28, pos := "law.go:54", after := #[{ on := 21, ground := Ground.guard }], guard := some (21, false) }) (x := Operand.tmp 3) 22 d R3 rfl (by kernel_rfl) (by kernel_rfl) (by kernel_rfl) (fun _ _ _ h => h) (by kernel_rfl) rfl (by kernel_rfl) L3 hHeld ?_
      try simp only [Act.put, List.setIfInBounds_toArray, List.set_cons_zero, List.set_cons_succ]
      refine take_loadR (oi := { dst := some 79, op := Op.load 28 (Operand.tmp 4), type := 28, pos := "law.go:54", after := #[{ on := 21, ground := Ground.guard }], guard := some (21, false) }) (x := Operand.tmp 4) 23 (d + 1) R4 rfl (by kernel_rfl) (by kernel_rfl) (by kernel_rfl) (fun _ _ _ h => h) (by kernel_rfl) rfl (by kernel_rfl) L4 hHeld ?_
      try simp only [Act.put, List.setIfInBounds_toArray, List.set_cons_zero, List.set_cons_succ]
      refine take_loadR (oi := { dst := some 81, op := Op.load 28 (Operand.tmp 3), type := 28, pos := "law.go:54", after := #[{ on := 21, ground := Ground.guard }], guard := some (21, false) }) (x := Operand.tmp 3) 25 d R3 rfl (by kernel_rfl) (by kernel_rfl) (by kernel_rfl) (fun _ _ _ h => h) (by kernel_rfl) rfl (by kernel_rfl) L3 hHeld ?_
      try simp only [Act.put, List.setIfInBounds_toArray, List.set_cons_zero, List.set_cons_succ]
      refine take_loadR (oi := { dst := some 82, op := Op.load 28 (Operand.tmp 4), type := 28, pos := "law.go:54", after := #[{ on := 21, ground := Ground.guard }], guard := some (21, false) }) (x := Operand.tmp 4) 26 (d + 1) R4 rfl (by kernel_rfl) (by kernel_rfl) (by kernel_rfl) (fun _ _ _ h => h) (by kernel_rfl) rfl (by kernel_rfl) L4 hHeld ?_
      try simp only [Act.put, List.setIfInBounds_toArray, List.set_cons_zero, List.set_cons_succ]
      refine wpAnyH_ready (rs := [24]) (by kernel_rfl) (by simp) ?_
      refine AllReadyH.cons rfl (fun K hK => ?_) AllReadyH.nil
      · go_simp
        go_at_call 15
        (with_reducible refine (k15a _ hHeld).mono ?_)
        rintro e wE ⟨rfl, hE⟩
        go_simp
        refine hK.out _ _ hE (fun hHeld => ?_)
        clear hK K
        refine wpAnyH_ready (rs := [27]) (by kernel_rfl) (by simp) ?_
        refine AllReadyH.cons rfl (fun K hK => ?_) AllReadyH.nil
        · go_simp
          go_at_call 14
          (with_reducible refine (k14b _ hHeld).mono ?_)
          rintro e wE ⟨rfl, hE⟩
          go_simp
          refine hK.out _ _ hE (fun hHeld => ?_)
          clear hK K
          refine wpAnyH_take (i := 28) (oi := { dst := some 84, op := Op.binOp BinOp.neq 4 (Operand.tmp 80) (Operand.tmp 83) 4, type := 4, pos := "law.go:54", after := #[{ on := 24, ground := Ground.data }, { on := 27, ground := Ground.data }, { on := 21, ground := Ground.guard }], guard := some (21, false) }) (v := ?_) rfl (by kernel_rfl) (by kernel_rfl) (by kernel_rfl) (fun _ _ _ h => h) (Or.inl ⟨by kernel_rfl, ?_⟩) hHeld ?_
          rotate_left
          · intro w hSw; go_simp; try with_reducible rfl
          try simp only [Act.put, List.setIfInBounds_toArray, List.set_cons_zero, List.set_cons_succ]
          refine wpAnyH_take (i := 29) (oi := { dst := some 85, op := Op.pick (Operand.tmp 77) (Operand.const (Value.bool true)) (Operand.tmp 84), type := 4, pos := "law.go:54", after := #[{ on := 21, ground := Ground.data }, { on := 28, ground := Ground.data }], guard := none }) (v := ?_) rfl (by kernel_rfl) (by kernel_rfl) (by kernel_rfl) (fun _ _ _ h => h) (Or.inl ⟨by kernel_rfl, ?_⟩) hHeld ?_
          rotate_left
          · intro w hSw; go_simp; try with_reducible rfl
          try simp only [Act.put, List.setIfInBounds_toArray, List.set_cons_zero, List.set_cons_succ]
          refine wpAnyH_take (i := 30) (oi := { dst := some 86, op := Op.move (Operand.tmp 85), type := 4, pos := "law.go:54", after := #[{ on := 29, ground := Ground.data }, { on := 27, ground := Ground.chain }], guard := none }) (v := ?_) rfl (by kernel_rfl) (by kernel_rfl) (by kernel_rfl) (fun _ _ _ h => h) (Or.inl ⟨by kernel_rfl, ?_⟩) hHeld ?_
          rotate_left
          · intro w hSw; go_simp; try with_reducible rfl
          try simp only [Act.put, List.setIfInBounds_toArray, List.set_cons_zero, List.set_cons_succ]
          refine take_loadR (oi := { dst := some 87, op := Op.load 28 (Operand.tmp 3), type := 28, pos := "law.go:54", after := #[{ on := 30, ground := Ground.guard }], guard := some (30, false) }) (x := Operand.tmp 3) 31 d R3 rfl (by kernel_rfl) (by kernel_rfl) (by kernel_rfl) (fun _ _ _ h => h) (by kernel_rfl) rfl (by kernel_rfl) L3 hHeld ?_
          try simp only [Act.put, List.setIfInBounds_toArray, List.set_cons_zero, List.set_cons_succ]
          refine take_loadR (oi := { dst := some 88, op := Op.load 28 (Operand.tmp 3), type := 28, pos := "law.go:54", after := #[{ on := 30, ground := Ground.guard }], guard := some (30, false) }) (x := Operand.tmp 3) 32 d R3 rfl (by kernel_rfl) (by kernel_rfl) (by kernel_rfl) (fun _ _ _ h => h) (by kernel_rfl) rfl (by kernel_rfl) L3 hHeld ?_
          try simp only [Act.put, List.setIfInBounds_toArray, List.set_cons_zero, List.set_cons_succ]
          refine wpAnyH_ready (rs := [33]) (by kernel_rfl) (by simp) ?_
          refine AllReadyH.cons rfl (fun K hK => ?_) AllReadyH.nil
          · go_simp
            go_at_call 15
            (with_reducible refine (k15b _ hHeld).mono ?_)
            rintro e wE ⟨rfl, hE⟩
            go_simp
            refine hK.out _ _ hE (fun hHeld => ?_)
            clear hK K
            refine wpAnyH_take (i := 34) (oi := { dst := some 90, op := Op.unOp UnOp.not 4 (Operand.tmp 89), type := 4, pos := "law.go:54", after := #[{ on := 33, ground := Ground.data }, { on := 30, ground := Ground.guard }], guard := some (30, false) }) (v := ?_) rfl (by kernel_rfl) (by kernel_rfl) (by kernel_rfl) (fun _ _ _ h => h) (Or.inl ⟨by kernel_rfl, ?_⟩) hHeld ?_
            rotate_left
            · intro w hSw; go_simp; try with_reducible rfl
            try simp only [Act.put, List.setIfInBounds_toArray, List.set_cons_zero, List.set_cons_succ]
            refine wpAnyH_take (i := 35) (oi := { dst := some 91, op := Op.pick (Operand.tmp 86) (Operand.const (Value.bool true)) (Operand.tmp 90), type := 4, pos := "law.go:54", after := #[{ on := 30, ground := Ground.data }, { on := 34, ground := Ground.data }], guard := none }) (v := ?_) rfl (by kernel_rfl) (by kernel_rfl) (by kernel_rfl) (fun _ _ _ h => h) (Or.inl ⟨by kernel_rfl, ?_⟩) hHeld ?_
            rotate_left
            · intro w hSw; go_simp; try with_reducible rfl
            try simp only [Act.put, List.setIfInBounds_toArray, List.set_cons_zero, List.set_cons_succ]
            refine wpAnyH_done (by kernel_rfl) ?_ _
            go_wp2_with fail
            go_meet
            exact ⟨rfl, hHeld⟩
  case rest =>
  obtain ⟨rfl, HC⟩ := hcut
  clear k14a k15a k14b k15b L14 L16 L3 L4 C7 C9 hqq hEE hss hs1 hbb
  have HBC := Hid.mkW (HB13.out.trans (HC.out.mono HB13.out.size))
  by_cases hq0 : q = 0
  case neg =>
    have n0 : (q == 0) = false := by simpa using hq0
    have HXQ := HX14.below HC.out
    have HMpX := Hid.mkW (HMp.out.below HC.out)
    clear hq0
    go_upto_region 15 with fail
    by_cases hE0 : E = 0
    case neg =>
      have n1 : (E == 0) = false := by simpa using hE0
      clear hE0
      go_wp2
      go_ret
      exact ⟨rfl, HBC.out⟩
    have hpb := pM_back HMB.out hM1 (by rw [← HEE.out]; exact hE0)
    rw [← HPP.out] at hpb
    obtain ⟨b1, b2, b3, b4⟩ := hpb
    have hen := encode_any (fun k => w6.heap.size ≤ k ∧ k < wc.heap.size) wc P _ _ _ (HT.out.below HBC.out) (HMpX.out).strong b3 b4 (fun k hk => hk.2)
    rw [b1, b2, ← HRR.out] at hen
    rw [hE0]
    clear b1 b2 b3 b4 hE0
    go_upto_region 17 with (first | (refine wpList_load_row rfl 28 _ rfl d14 rfl 28 _ (0, 0) _ HXQ Tryd.underlying28 rfl (by rw [HR1s.out]; kernel_rfl) ?_) | (go_at_call 10; refine hen.mono ?_; rintro e wF ⟨v17, rfl, hoF, hbF⟩))
    obtain ⟨p17, c17, rfl⟩ := owns_formB0 hoF
    have C17 := conv_sees (sees_own hoF)
    have HBF := Hid.mkW (HBC.out.trans (hbF.mono HBC.out.size))
    have Cb := conv_sees (HMO.out.below HBF.out).s
    have hsm := str_eq (xs := M) (ys := M) rfl
    clear hen hoF hbF HXQ
    go_wp2
    go_ret
    exact ⟨rfl, HBF.out⟩
  have HE0 : Hid (encE m = 0) := by show _ = _; rw [← HQ.out]; exact hq0
  have HXf : Hid (xe = frameB (msgB m)) := by show _ = _; rw [HXE.out]; unfold encR; rw [if_pos HE0.out]
  obtain ⟨hpx, hpm⟩ := pX_back HO.out HS.out HE0.out
  rw [← HXf.out] at hpx hpm
  have hxb : isB xe := by
    rw [HXf.out]
    exact frameB_isB (msgB_isB m HO.out) (by have := msg_pre m (HS.out.fit HE0.out); omega)
  have hxl : xe.length ≤ 100000 := by
    rw [HXf.out, frameB_len]
    have := msg_pre m (HS.out.fit HE0.out)
    omega
  have hp3 := parse_any _ xe wc (HT.out.below HBC.out) hxb hxl (HS7.out.below (HB613.out.trans (HC.out.mono HB613.out.size)))
  rw [hpx, hpm] at hp3
  rw [hq0]
  have HX3c := HX3'.below HC.out
  have HX14c := HX14.below HC.out
  have HMpc := Hid.mkW (HMp.out.below HC.out)
  clear hpx hpm hxb hq0 HX3' HX14
  go_wp2_with (fail)
  refine hp3.mono ?_
  rintro e w20 ⟨pe5, ce5, pv5, cv5, pd5, cd5, rfl, h20, hb20⟩
  obtain ⟨R5, hR5⟩ : ∃ R5, R5 = mrow m (.slice pe5 m.es.length ce5) (.slice pv5 m.vs.length cv5) (.slice pd5 m.data.length cd5) := ⟨_, rfl⟩
  rw [← hR5]
  have HR5 := Hid.mkW hR5
  have H20 := Hid.mkW h20
  have HX3d := HX3c.below hb20
  have HX14d := HX14c.below hb20
  have HMpd := Hid.mkW (HMpc.out.below hb20)
  have HB20 := Hid.mkW (HBC.out.trans (hb20.mono HBC.out.size))
  have hr21 : (w20.alloc (.cells zrow 28)).heap[w20.heap.size]? = some (.cells zrow 28 (0, 0)) := row_alloc w20 zrow 28
  have hb21 : Below w20.heap.size w20 (w20.alloc (.cells zrow 28)) := (Below.refl _ _).alloc (Nat.le_refl _) _
  obtain ⟨HX21, u21⟩ := (show Bx w20.heap.size zrow 28 (w20.alloc (.cells zrow 28)) from hr21).fill (row' := R5)
  have HR5s : Hid (R5.size = 15) := by show _ = _; rw [hR5]; rfl
  have HR5a : R5.all (·.oneCell') = true := by rw [hR5]; kernel_rfl
  clear hp3 h20 hb20 HX3c HX14c hR5
  go_upto_region 13 with (refine wpList_store_row rfl 28 _ _ rfl w20.heap.size R5 rfl rfl 28 zrow hr21 (by rw [HR5s.out]; kernel_rfl) (by rw [HR5s.out]; rfl) HR5a ?_)
  obtain ⟨w21, hw21⟩ : ∃ w21, w21 = (w20.alloc (.cells zrow 28)).setRow w20.heap.size R5 := ⟨_, rfl⟩
  rw [← hw21] at HX21 u21
  have hw21' := hw21
  unfold zrow at hw21'
  rw [← hw21']
  obtain ⟨d15, hd15⟩ : ∃ d15, d15 = w20.heap.size := ⟨_, rfl⟩
  have hb21' : Below w20.heap.size w20 w21 := hb21.trans (u21.below hb21.size (fun k' hk e => by have e1 : k' = w20.heap.size := e; omega))
  rw [← hd15] at HX21 ⊢
  have HX3e := HX3d.below hb21'
  have HX14e := HX14d.below hb21'
  have HMpe := Hid.mkW (HMpd.out.below hb21')
  have HB21 := Hid.mkW (HB20.out.trans (hb21'.mono HB20.out.size))
  have hsm2 := (netSame_dec (H20.out.below hb21') (HM.out.below HB21.out) HLm.out.1 HLm.out.2 (fun x hx => (HO.out.es x hx).d) (fun x hx => (HO.out.es x hx).d) HO.out.d HO.out.d).yes rfl
  rw [← HR5.out, ← HR3.out] at hsm2
  clear hw21 hw21' hr21 hb21 u21 hd15 hb21' HX3d HX14d HR5a
  go_upto_region 15 with (first
    | (refine wpList_load_rowG (by kernel_rfl) 28 _ rfl d15 rfl 28 _ (0, 0) _ HX21 Tryd.underlying28 rfl (by rw [HR5s.out]; kernel_rfl) ?_)
    | (refine wpList_load_rowG (by kernel_rfl) 28 _ rfl d rfl 28 _ (0, 0) _ HX3e Tryd.underlying28 rfl (by rw [HR3s.out]; kernel_rfl) ?_)
    | (go_at_call 15; refine hsm2.mono ?_; rintro e w22 ⟨rfl, hb22⟩))
  have HXQ := HX14e.below hb22
  have HMpX := Hid.mkW (HMpe.out.below hb22)
  have HB22 := Hid.mkW (HB21.out.trans (hb22.mono HB21.out.size))
  clear hsm2 hb22 HX14e HX3e HX21
  by_cases hE0 : E = 0
  case neg =>
    have n1 : (E == 0) = false := by simpa using hE0
    clear hE0
    go_wp2
    go_ret
    exact ⟨rfl, HB22.out⟩
  have hpb := pM_back HMB.out hM1 (by rw [← HEE.out]; exact hE0)
  rw [← HPP.out] at hpb
  obtain ⟨b1, b2, b3, b4⟩ := hpb
  have hen := encode_any (fun k => w6.heap.size ≤ k ∧ k < w22.heap.size) w22 P _ _ _ (HT.out.below HB22.out) (HMpX.out).strong b3 b4 (fun k hk => hk.2)
  rw [b1, b2, ← HRR.out] at hen
  rw [hE0]
  clear b1 b2 b3 b4 hE0
  go_upto_region 17 with (first | (refine wpList_load_row rfl 28 _ rfl d14 rfl 28 _ (0, 0) _ HXQ Tryd.underlying28 rfl (by rw [HR1s.out]; kernel_rfl) ?_) | (go_at_call 10; refine hen.mono ?_; rintro e wF ⟨v17, rfl, hoF, hbF⟩))
  obtain ⟨p17, c17, rfl⟩ := owns_formB0 hoF
  have C17 := conv_sees (sees_own hoF)
  have HBF := Hid.mkW (HB22.out.trans (hbF.mono HB22.out.size))
  have Cb := conv_sees (HMO.out.below HBF.out).s
  have hsm := str_eq (xs := M) (ys := M) rfl
  clear hen hoF hbF HXQ
  go_wp2
  go_ret
  exact ⟨rfl, HBF.out⟩
end Go.Proofs.YtamgoknoapcnjaaDoor
