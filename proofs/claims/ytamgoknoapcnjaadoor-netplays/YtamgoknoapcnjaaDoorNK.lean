/- Parse: the frame, and what lies in it. -/
import Derived.Test.YtamgoknoapcnjaaDoorNI
namespace Go.Proofs.YtamgoknoapcnjaaDoor
open Go Go.RowKit
/-- The error that Parse tells. -/
def pX (xs : List Int) : Int := if unfE xs ≠ 0 then unfE xs else if unfN xs < xs.length then 9 else rX (unfR xs)
def zMd : Md := ⟨0, 0, 0, 0, 0, 0, [], 0, 0, false, 0, 0, 0, [], []⟩
/-- The message that Parse tells. -/
def pM (xs : List Int) : Md := if pX xs = 0 then rM (unfR xs) else zMd
theorem zMs (Z : Nat → Prop) (w : World) : Ms Z w (.slice none 0 0) (.slice none 0 0) (.slice none 0 0) zMd := ⟨Es.nil _ _, Is.nil _ _, Bs.nil _ _⟩
theorem unfR_len (xs : List Int) : (unfR xs).length ≤ xs.length := by
  unfold unfR unfB
  split
  · simp; omega
  · simp
theorem unfR_isB {xs : List Int} (h : isB xs) : isB (unfR xs) := by
  unfold unfR unfB
  split
  · exact isB_part h _ _
  · intro x hx; simp at hx
set_option maxRecDepth 100000 in
set_option maxHeartbeats 4000000 in
theorem parse_any (v : Value) (xs : List Int) (w : World) (hT : HasTab w) (hb : isB xs) (hl : xs.length ≤ 100000) (hv : Sees w v xs) :
    Calls Tryd.prog 12 #[v] w fun e w' => ∃ pe ce pv cv pd cd, e = .returned (.tuple #[.agg (mrow (pM xs) (.slice pe (pM xs).es.length ce) (.slice pv (pM xs).vs.length cv) (.slice pd (pM xs).data.length cd)), iv (pX xs)]) ∧ Ms (fun k => w.heap.size ≤ k) w' (.slice pe (pM xs).es.length ce) (.slice pv (pM xs).vs.length cv) (.slice pd (pM xs).data.length cd) (pM xs) ∧ Below w.heap.size w w' := by
  obtain ⟨ao, cap, rfl, hcap, hlc⟩ := hv.form
  obtain ⟨w1, hw1⟩ : ∃ w1, w1 = w.alloc (.cells zrow 28) := ⟨_, rfl⟩
  have hb1 : Below w.heap.size w w1 := by rw [hw1]; exact (Below.refl _ _).alloc (Nat.le_refl _) _
  obtain ⟨d0, hd0⟩ : ∃ d0, d0 = w.heap.size := ⟨_, rfl⟩
  have HD1 : Bx d0 zrow 28 w1 := by rw [hd0, hw1]; exact row_alloc w _ 28
  have hs1 : d0 < w1.heap.size := HD1.lt
  have hun := unframe_any _ xs w1 (hT.below hb1) hb hl (hv.below hb1)
  have HB1 := Hid.mkW hb1
  have HZ0 : Hid (d0 = w.heap.size) := hd0
  have hlx : xs.length ≤ 100000 := hl
  have HB := Hid.mkW hb
  clear hv hT hb hl hb1
  unfold zrow at hw1
  go_enter Tryd.func12, Tryd.ntmps12
  go_upto_region 1 with fail
  rw [← hw1, ← hd0]
  clear hw1 hd0
  go_upto_region 2 with (go_at_call 34; refine hun.mono ?_; rintro e w2 ⟨vi, rfl, hvi, hb2⟩)
  have HD2 := HD1.below hb2
  have HB2 := Hid.mkW (HB1.out.trans (hb2.mono HB1.out.size))
  have HVI := Hid.mkW hvi
  have HS2 : d0 < w2.heap.size := HD2.lt
  clear HD1 hb2 hvi hun
  by_cases k1 : unfE xs ≠ 0
  · have HE : Hid (pX xs = unfE xs) := by show pX xs = _; unfold pX; rw [if_pos k1]
    have HN : Hid (unfE xs ≠ 0) := k1
    have k1' : (unfE xs == 0) = false := by simpa using k1
    clear k1
    go_wp2_with (refine wpList_store_row rfl 28 _ _ rfl d0 zrow rfl rfl 28 zrow HD2 (by kernel_rfl) rfl (by kernel_rfl) ?_)
    obtain ⟨HXF, uF⟩ := HD2.fill (row' := zrow)
    refine bodyPost_ret (results_ct rfl _ _ d0 28 zrow (0, 0) _ rfl HXF Tryd.underlying28 rfl (by kernel_rfl)) rfl ?_
    have hm : pM xs = zMd := by unfold pM; rw [if_neg (by rw [HE.out]; exact HN.out)]
    rw [hm, HE.out]
    exact ⟨none, 0, none, 0, none, 0, rfl, zMs _ _, HB2.out.trans (uF.below (by have := HB2.out.size; omega) (fun k hk e => by have e1 : k = d0 := e; have := HZ0.out; omega))⟩
  have k0 : unfE xs = 0 := by simpa using k1
  have HK0 := Hid.mkW k0
  rw [k0]
  by_cases k2 : unfN xs < xs.length
  · have HE : Hid (pX xs = 9) := by show pX xs = _; unfold pX; rw [if_neg k1, if_pos k2]
    clear k1 k0
    go_wp2_with (refine wpList_store_row rfl 28 _ _ rfl d0 zrow rfl rfl 28 zrow HD2 (by kernel_rfl) rfl (by kernel_rfl) ?_)
    obtain ⟨HXF, uF⟩ := HD2.fill (row' := zrow)
    refine bodyPost_ret (results_ct rfl _ _ d0 28 zrow (0, 0) _ rfl HXF Tryd.underlying28 rfl (by kernel_rfl)) rfl ?_
    have hm : pM xs = zMd := by unfold pM; rw [if_neg (by rw [HE.out]; decide)]
    rw [hm, HE.out]
    exact ⟨none, 0, none, 0, none, 0, rfl, zMs _ _, HB2.out.trans (uF.below (by have := HB2.out.size; omega) (fun k hk e => by have e1 : k = d0 := e; have := HZ0.out; omega))⟩
  have HE : Hid (pX xs = rX (unfR xs)) := by show pX xs = _; unfold pX; rw [if_neg k1, if_neg k2]
  have k2' : decide (unfN xs < xs.length) = false := by simpa using k2
  have hnew := rNew vi (unfR xs) w2 HVI.out (unfR_isB HB.out) (by have := unfR_len xs; omega)
  clear k1 k0
  go_upto_region 6 with fail
  go_wp2_with (fail)
  refine hnew.mono ?_
  rintro e w3 ⟨b, vr, rfl, hr3, hb3⟩
  have HD3 := HD2.below hb3
  have HB3 := Hid.mkW (HB2.out.trans (hb3.mono HB2.out.size))
  have hread := read_any (w0 := w3) (B := w2.heap.size) (xs := unfR xs) ⟨hr3, Upd.refl _ _⟩
  have hbw : w2.heap.size ≤ b := hr3.base
  have HS3 : Hid (w2.heap.size ≤ w3.heap.size) := hb3.size
  have HB23 := Hid.mkW hb3
  clear HD2 hnew hr3 hb3
  go_wp2_with (fail)
  refine hread.mono ?_
  rintro e w4 ⟨m, pe, ce, pv, cv, pd, cd, rfl, hm4, u4⟩
  have HM4 := Hid.mkW hm4
  have HD4 := HD3.upd u4 (by omega)
  have hb4 : Below w2.heap.size w3 w4 := u4.below HS3.out (fun k hk e => by have e1 : k = b := e; omega)
  have HB4 := Hid.mkW (HB2.out.trans ((HB23.out.trans (hb4.mono (Nat.le_refl _))).mono HB2.out.size))
  have HS4 : d0 < w4.heap.size := HD4.lt
  have hr4 : (w4.alloc (.cells zrow 28)).heap[w4.heap.size]? = some (.cells zrow 28 (0, 0)) := row_alloc w4 zrow 28
  have hb5 : Below w4.heap.size w4 (w4.alloc (.cells zrow 28)) := (Below.refl _ _).alloc (Nat.le_refl _) _
  obtain ⟨HX5, u5⟩ := (show Bx w4.heap.size zrow 28 (w4.alloc (.cells zrow 28)) from hr4).fill (row' := (mrow m (.slice pe m.es.length ce) (.slice pv m.vs.length cv) (.slice pd m.data.length cd)))
  have HD5 := (HD4.below hb5).upd u5 (fun e => by have e1 : d0 = w4.heap.size := e; omega)
  have HU5 : Hid (Below w4.heap.size w4 ((w4.alloc (.cells zrow 28)).setRow w4.heap.size (mrow m (.slice pe m.es.length ce) (.slice pv m.vs.length cv) (.slice pd m.data.length cd)))) := hb5.trans (u5.below hb5.size (fun k hk e => by have e1 : k = w4.heap.size := e; omega))
  clear hread HD3 HD4 hm4 u4 hb4 hb5 u5
  have HHX := Hid.mkW HX5
  have HHD := Hid.mkW HD5
  clear HX5 HD5
  go_upto_region 7 with (refine wpList_store_row rfl 28 _ _ rfl w4.heap.size (mrow m (.slice pe m.es.length ce) (.slice pv m.vs.length cv) (.slice pd m.data.length cd)) rfl rfl 28 zrow hr4 (by kernel_rfl) rfl (by kernel_rfl) ?_)
  obtain ⟨w5, hw5⟩ : ∃ w5, w5 = (w4.alloc (.cells zrow 28)).setRow w4.heap.size (mrow m (.slice pe m.es.length ce) (.slice pv m.vs.length cv) (.slice pd m.data.length cd)) := ⟨_, rfl⟩
  rw [← hw5] at HHX HHD HU5
  have hw5' := hw5
  unfold zrow at hw5'
  rw [← hw5']
  clear hw5 hw5' hr4
  by_cases k4 : rX (unfR xs) = 0
  · rw [k4]
    have HK4 := Hid.mkW k4
    clear k4
    go_wp2_with (first
      | (refine wpList_load_row rfl 28 _ rfl w4.heap.size rfl 28 _ (0, 0) _ HHX.out Tryd.underlying28 rfl (by kernel_rfl) ?_)
      | (refine wpList_store_row rfl 28 _ _ rfl d0 (mrow m (.slice pe m.es.length ce) (.slice pv m.vs.length cv) (.slice pd m.data.length cd)) rfl rfl 28 zrow HHD.out (by kernel_rfl) rfl (by kernel_rfl) ?_))
    obtain ⟨HXF, uF⟩ := HHD.out.fill (row' := (mrow m (.slice pe m.es.length ce) (.slice pv m.vs.length cv) (.slice pd m.data.length cd)))
    refine bodyPost_ret (results_ct rfl _ _ d0 28 (mrow m (.slice pe m.es.length ce) (.slice pv m.vs.length cv) (.slice pd m.data.length cd)) (0, 0) _ rfl HXF Tryd.underlying28 rfl (by kernel_rfl)) rfl ?_
    obtain ⟨hme, hms⟩ := HM4.out HK4.out
    have hm : pM xs = m := by unfold pM; rw [if_pos (by rw [HE.out]; exact HK4.out), hme]
    rw [hm, HE.out, HK4.out]
    refine ⟨pe, ce, pv, cv, pd, cd, rfl, ((hms.below HU5.out).upd uF (fun k hk _ e => ?_)).mono (fun k hk => ?_), ((HB4.out.trans (HU5.out.mono HB4.out.size))).trans (uF.below (Nat.le_trans HB4.out.size HU5.out.size) (fun k hk e => by have e1 : k = d0 := e; have := HZ0.out; omega))⟩
    · have e1 : k = d0 := e
      have := HS3.out
      omega
    · have := HB3.out.size
      omega
  · have HK4 := Hid.mkW k4
    have k4' : (rX (unfR xs) == 0) = false := by simpa using k4
    clear k4
    go_wp2_with (refine wpList_store_row rfl 28 _ _ rfl d0 zrow rfl rfl 28 zrow HHD.out (by kernel_rfl) rfl (by kernel_rfl) ?_)
    obtain ⟨HXF, uF⟩ := HHD.out.fill (row' := zrow)
    refine bodyPost_ret (results_ct rfl _ _ d0 28 zrow (0, 0) _ rfl HXF Tryd.underlying28 rfl (by kernel_rfl)) rfl ?_
    have hm : pM xs = zMd := by unfold pM; rw [if_neg (by rw [HE.out]; exact HK4.out)]
    rw [hm, HE.out]
    exact ⟨none, 0, none, 0, none, 0, rfl, zMs _ _, ((HB4.out.trans (HU5.out.mono HB4.out.size))).trans (uF.below (Nat.le_trans HB4.out.size HU5.out.size) (fun k hk e => by have e1 : k = d0 := e; have := HZ0.out; omega))⟩
end Go.Proofs.YtamgoknoapcnjaaDoor
