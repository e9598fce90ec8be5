/- What the law asks of a message; its example. -/
import Derived.Test.YtamgoknoapcnjaaDoorNJ
import Derived.Test.YtamgoknoapcnjaaDoorNK
import Derived.Test.YtamgoknoapcnjaaDoorNM
namespace Go.Proofs.YtamgoknoapcnjaaDoor
open Go Go.RowKit
/-- Whether a message is not too much. -/
def fewM (m : Md) : Bool := decide (m.es.length ≤ 300 ∧ m.data.length + entsN (m.es.take 300) ≤ 20000 ∧ m.vs.length ≤ 300)
theorem few_small {m : Md} (h : fewM m = true) : Small m := by
  have h1 := of_decide_eq_true h
  rw [List.take_of_length_le h1.1] at h1
  exact ⟨h1.1, h1.2.2, by omega⟩
/-- Lengths as they come in. -/
structure Big (m : Md) : Prop where
  es : m.es.length ≤ 140737488355328
  vs : m.vs.length ≤ 140737488355328
  d : m.data.length ≤ 140737488355328
  ed : ∀ e ∈ m.es, e.d.length ≤ 140737488355328
theorem entsN_big (l : List Ent) (j : Nat) (h : ∀ e ∈ l, e.d.length ≤ 140737488355328) : entsN (l.take j) ≤ j * 140737488355328 := by
  induction l generalizing j with
  | nil => simp [entsN]
  | cons a l ih =>
    cases j with
    | zero => simp [entsN]
    | succ j =>
      have h1 := ih j (fun e he => h e (List.mem_cons_of_mem _ he))
      have h2 := h a (List.mem_cons_self ..)
      simp only [entsN, List.take_succ_cons, List.map_cons, List.sum_cons] at h1 ⊢
      rw [Nat.succ_mul]
      omega
set_option maxRecDepth 100000 in
set_option maxHeartbeats 1000000 in
theorem few_any (Z : Nat → Prop) (w : World) (m : Md) (ve vv vd : Value) (hm : Ms Z w ve vv vd m) (hg : Big m) :
    Calls Tryd.prog 9 #[.agg (mrow m ve vv vd)] w fun e w' => e = .returned (.bool (fewM m)) ∧ Below w.heap.size w w' := by
  have HMS := Hid.mkW hm
  obtain ⟨pe, ce, rfl, -, -, -⟩ := hm.e
  obtain ⟨pv, cv, rfl, -, -, -⟩ := hm.v
  obtain ⟨pd, cd, rfl⟩ := hm.d.slice
  obtain ⟨w1, hw1⟩ : ∃ w1, w1 = w.alloc (.cells (mrow m (.slice pe m.es.length ce) (.slice pv m.vs.length cv) (.slice pd m.data.length cd)) 28) := ⟨_, rfl⟩
  have hb1 : Below w.heap.size w w1 := by rw [hw1]; exact (Below.refl _ _).alloc (Nat.le_refl _) _
  obtain ⟨d, hd⟩ : ∃ d, d = w.heap.size := ⟨_, rfl⟩
  have HX1 : Bx d (mrow m (.slice pe m.es.length ce) (.slice pv m.vs.length cv) (.slice pd m.data.length cd)) 28 w1 := by rw [hd, hw1]; exact row_alloc w _ 28
  obtain ⟨-, -, -, -, -, -, c6, -, -, -, -, -, -, c13, c14⟩ := msg_cells d m (.slice pe m.es.length ce) (.slice pv m.vs.length cv) (.slice pd m.data.length cd)
  have HG := Hid.mkW hg
  have h1 := hg.es
  have h2 := hg.vs
  have h3 := hg.d
  have H0 : Hid (Below w.heap.size w w1 ∧ Bx d (mrow m (.slice pe m.es.length ce) (.slice pv m.vs.length cv) (.slice pd m.data.length cd)) 28 w1) := ⟨hb1, HX1⟩
  clear hm hg
  go_enter Tryd.func9, Tryd.ntmps9
  go_upto_region 1 with fail
  rw [← hw1, ← hd]
  clear hw1 hd hb1
  go_wp2
  go_loopg [3, 4] (301) (fun kx s3 s4 wq => ∃ j : Nat, s4 = .int .i64 j ∧ kx + j = 301 ∧ j ≤ 300 ∧ j ≤ m.es.length ∧ s3 = .int .i64 ((m.data.length + entsN (m.es.take j) : Nat) : Int) ∧ Hid (Below w.heap.size w wq ∧ Bx d (mrow m (.slice pe m.es.length ce) (.slice pv m.vs.length cv) (.slice pd m.data.length cd)) 28 wq))
  case atStart => exact ⟨0, rfl, rfl, by omega, Nat.zero_le _, by simp [entsN], H0⟩
  case round =>
    obtain ⟨j, rfl, hk, hj, hjl, rfl, HW⟩ := hrel
    clear H0 HX1
    have HX := HW.out.2
    obtain ⟨q, hq⟩ : ∃ q : Int, q = ((m.data.length + entsN (m.es.take j) : Nat) : Int) := ⟨_, rfl⟩
    have hq0 : 0 ≤ q := by omega
    have hq1 : q ≤ 50000000000000000 := by
      have := entsN_big m.es j HG.out.ed
      have : j * 140737488355328 ≤ 300 * 140737488355328 := Nat.mul_le_mul_right _ hj
      omega
    rw [← hq]
    have HQ := Hid.mkW hq
    have HJ := Hid.mkW (And.intro h1 (And.intro h2 h3))
    have HJ3 : Hid (j ≤ 300) := hj
    clear hq h1 h2 h3
    by_cases hlt : j < m.es.length
    · by_cases h300 : j < 300
      · obtain ⟨g, o, p1, c1, x, rfl, hx, hz, hgl, q0, q1, q2, q3, hdd⟩ := ent_cells HMS.out.e HW.out.1 hlt
        have hxl : (x.d.length : Int) ≤ 140737488355328 := by have := HG.out.ed x (List.mem_of_getElem? hx); omega
        have HXX := Hid.mkW hx
        clear hdd hz hgl hx
        go_wp2
        go_roundg (300 - j)
        case measure => omega
        case rel =>
          refine ⟨j + 1, by congr 1, by omega, by omega, by omega, ?_, HW.out⟩
          rw [entsN_succ _ _ _ HXX.out]
          have := HQ.out
          congr 1
          omega
      · have h300' : decide (j < 300) = false := by simpa using h300
        obtain rfl : j = 300 := by omega
        have HR : Hid (fewM m = false) := by
          show fewM m = false
          exact decide_eq_false (fun h => by omega)
        have k1' : decide (m.es.length ≤ 300) = false := decide_eq_false (by omega)
        go_wp2
        go_ret
        exact ⟨ret_bool HR.out.symm, HW.out.1⟩
    · obtain rfl : j = m.es.length := by omega
      have hlt' : decide (m.es.length < m.es.length) = false := by simp
      have HQL : Hid (q = ((m.data.length + entsN m.es : Nat) : Int)) := by
        have := HQ.out
        rw [List.take_length] at this
        exact this
      have HT : m.es.take 300 = m.es := List.take_of_length_le hj
      have HR0 : Hid (fewM m = decide (m.es.length ≤ 300 ∧ m.data.length + entsN m.es ≤ 20000 ∧ m.vs.length ≤ 300)) := by
        show fewM m = _
        unfold fewM
        rw [HT]
      clear HT HQ
      by_cases k2 : q ≤ 20000
      · by_cases k3 : m.vs.length ≤ 300
        · have HR : Hid (fewM m = true) := by
            show fewM m = true
            rw [HR0.out]
            have := HQL.out
            exact decide_eq_true ⟨by omega, by omega, k3⟩
          have HK := Hid.mkW k3
          go_wp2
          go_ret
          exact ⟨ret_bool (by rw [HR.out]; have := HK.out; simp; omega), HW.out.1⟩
        · have k3' : decide (m.vs.length ≤ 300) = false := by simpa using k3
          have HR : Hid (fewM m = false) := by
            show fewM m = false
            rw [HR0.out]
            exact decide_eq_false (fun h => k3 h.2.2)
          have HK := Hid.mkW k3
          clear k3
          go_wp2
          go_ret
          exact ⟨ret_bool (by rw [HR.out]; have := HK.out; simp; omega), HW.out.1⟩
      · have k2' : decide (q ≤ 20000) = false := by simpa using k2
        have HR : Hid (fewM m = false) := by
          show fewM m = false
          rw [HR0.out]
          have := HQL.out
          exact decide_eq_false (fun h => by omega)
        clear k2
        go_wp2
        go_ret
        exact ⟨ret_bool HR.out.symm, HW.out.1⟩
/-- The example's message. -/
def kMd : Md := ⟨1, 0, 3, 9, 0, 0, [], 0, 0, false, 0, 0, 0, [], []⟩
theorem kOk : MOk kMd := ⟨by intro x hx; simp [kMd] at hx; unfold isI; omega, by intro e he; simp [kMd] at he, by intro x hx; simp [kMd] at hx, by intro x hx; simp [kMd] at hx⟩
theorem zOk : MOk zMd := ⟨by intro x hx; simp [zMd] at hx; unfold isI; omega, by intro e he; simp [zMd] at he, by intro x hx; simp [zMd] at hx, by intro x hx; simp [zMd] at hx⟩
theorem kSmall : Small kMd := ⟨by decide, by decide, by decide⟩
theorem zSmall : Small zMd := ⟨by decide, by decide, by decide⟩
theorem kFit : Fit kMd := ⟨by decide, by decide, by decide⟩
theorem pX_back {m : Md} (ho : MOk m) (hs : Small m) (he : encE m = 0) : pX (frameB (msgB m)) = 0 ∧ pM (frameB (msgB m)) = m := by
  have hf := hs.fit he
  have hl := msg_pre m hf
  have hb := read_back m ho hf he
  have e := unfE_frame (msgB m) [] (by omega)
  have r := unfR_frame (msgB m) [] (by omega)
  have n := unfN_frame (msgB m) [] (by omega)
  rw [List.append_nil] at e r n
  have h0 : pX (frameB (msgB m)) = 0 := by
    unfold pX
    rw [if_neg (by rw [e]; simp), if_neg (by rw [n, frameB_len]; omega), r]
    exact hb.1
  exact ⟨h0, by unfold pM; rw [if_pos h0, r]; exact hb.2⟩
theorem zMs' (Z : Nat → Prop) (w : World) (m : Md) (h1 : m.es = []) (h2 : m.vs = []) (h3 : m.data = []) : Ms Z w (.slice none 0 0) (.slice none 0 0) (.slice none 0 0) m := ⟨by rw [h1]; exact Es.nil _ _, by rw [h2]; exact Is.nil _ _, by rw [h3]; exact Bs.nil _ _⟩
set_option maxRecDepth 100000 in
set_option maxHeartbeats 4000000 in
theorem known_any (w : World) (hT : HasTab w) : Calls Tryd.prog 8 #[] w fun e w' => e = .returned (.bool true) ∧ Below w.heap.size w w' := by
  have hz := encode_any (fun _ => False) w zMd _ _ _ hT (zMs _ _) zSmall zOk (fun k hk => hk.elim)
  have hze : encE zMd = 3 := by decide
  rw [hze] at hz
  have HT := Hid.mkW hT
  simp only [mrow, zMd] at hz
  clear hze hT
  go_enter Tryd.func8, Tryd.ntmps8
  go_upto_region 2 with (go_at_call 10; refine hz.mono ?_; rintro e w1 ⟨v1, rfl, ho1, hb1⟩)
  have HB1 := Hid.mkW hb1
  have hk := encode_any (fun _ => False) w1 kMd _ _ _ (HT.out.below hb1) (zMs' _ _ _ rfl rfl rfl) kSmall kOk (fun k hk => hk.elim)
  have hke : encE kMd = 0 := by decide
  rw [hke] at hk
  have HR : Hid (encR kMd = frameB (msgB kMd)) := by show _ = _; unfold encR; rw [if_pos hke]
  simp only [mrow] at hk
  obtain ⟨xs, hxs⟩ : ∃ xs, xs = encR kMd := ⟨_, rfl⟩
  rw [← hxs] at hk HR
  have HXS := Hid.mkW hxs
  simp only [kMd] at hk
  clear hz ho1 hb1 hke hxs
  go_upto_region 3 with (go_at_call 10; refine hk.mono ?_; rintro e w2 ⟨v2, rfl, ho2, hb2⟩)
  have HB2 := Hid.mkW (HB1.out.trans (hb2.mono HB1.out.size))
  have hsee := sees_own ho2
  have hml := msg_pre kMd kFit
  have hpx := pX_back kOk kSmall (by decide : encE kMd = 0)
  have hpp := parse_any v2 xs w2 (HT.out.below HB2.out) (by rw [HR.out]; exact frameB_isB (msgB_isB kMd kOk) (by omega)) (by rw [HR.out, frameB_len]; omega) hsee
  rw [← HR.out] at hpx
  rw [hpx.1, hpx.2] at hpp
  simp only [mrow, kMd] at hpp
  clear hpx hk ho2 hb2 hml hsee
  go_upto_region 4 with (go_at_call 12; refine hpp.mono ?_; rintro e w3 ⟨pe, ce, pv, cv, pd, cd, rfl, hm3, hb3⟩)
  have HB3 := Hid.mkW (HB2.out.trans (hb3.mono HB2.out.size))
  clear hm3 hb3 hpp
  go_wp2
  go_ret
  exact ⟨rfl, HB3.out.trans (((Below.refl _ _).alloc (Nat.le_refl _) _).mono HB3.out.size)⟩
end Go.Proofs.YtamgoknoapcnjaaDoor
