/- Encode: what is refused, and the bytes. -/
import Derived.Test.YtamgoknoapcnjaaDoorND
namespace Go.Proofs.YtamgoknoapcnjaaDoor
open Go Go.RowKit
/-- Why a message has no bytes (too long aside: it is small here). -/
def encE (m : Md) : Int := if isK m.kind = false then 3 else if 255 < m.es.length ∨ 255 < m.vs.length then 4 else if m.es.any noB = true then 3 else 0
/-- A message that is not too much, though it may have too many entries. -/
structure Small (m : Md) : Prop where
  es : m.es.length ≤ 300
  vs : m.vs.length ≤ 300
  sum : entsN m.es + m.data.length ≤ 20000
theorem Small.fit {m : Md} (h : Small m) (he : encE m = 0) : Fit m := by
  have h1 : ¬ (255 < m.es.length ∨ 255 < m.vs.length) := fun h => by
    unfold encE at he
    rw [if_pos h] at he
    split at he <;> simp at he
  exact ⟨by omega, by omega, by have := h.sum; omega⟩
set_option maxRecDepth 100000 in
theorem refuse_any (Z : Nat → Prop) (w : World) (m : Md) (ve vv vd : Value) (hm : Ms Z w ve vv vd m) (hs : Small m) :
    Calls Tryd.prog 23 #[.agg (mrow m ve vv vd)] w fun e w' => e = .returned (iv (encE m)) ∧ Below w.heap.size w w' := by
  have HMS := Hid.mkW hm
  obtain ⟨pe, ce, rfl, hce1, hce2, hes⟩ := hm.e
  obtain ⟨pv, cv, rfl, hcv1, hcv2, hvs⟩ := hm.v
  obtain ⟨w1, hw1⟩ : ∃ w1, w1 = w.alloc (.cells (mrow m (.slice pe m.es.length ce) (.slice pv m.vs.length cv) vd) 28) := ⟨_, rfl⟩
  have hb1 : Below w.heap.size w w1 := by rw [hw1]; exact (Below.refl _ _).alloc (Nat.le_refl _) _
  obtain ⟨d, hd⟩ : ∃ d, d = w.heap.size := ⟨_, rfl⟩
  have HX1 : Bx d (mrow m (.slice pe m.es.length ce) (.slice pv m.vs.length cv) vd) 28 w1 := by rw [hd, hw1]; exact row_alloc w _ 28
  have HQ := Hid.mkW HX1
  obtain ⟨c0, c1, c2, c3, c4, c5, c6, c7, c8, c9, c10, c11, c12, c13, c14⟩ := msg_cells d m (.slice pe m.es.length ce) (.slice pv m.vs.length cv) vd
  have h1 := hs.es
  have h2 := hs.vs
  have HS := Hid.mkW hs
  have HB1 := Hid.mkW hb1
  clear hes hvs hm hs hce1 hce2 hcv1 hcv2
  have hk := isKind_any m.kind
  by_cases k1 : isK m.kind = false
  · have HR : Hid (encE m = 3) := by show _ = _; unfold encE; rw [if_pos k1]
    rw [k1] at hk
    go_enter Tryd.func23, Tryd.ntmps23
    go_upto_region 1 with fail
    rw [← hw1, ← hd]
    clear hw1 hd hb1
    go_wp2_with (go_at_call 51; refine (hk _).mono ?_; rintro e w2 ⟨rfl, hw2⟩; obtain rfl := hw2.symm)
    go_ret
    exact ⟨ret_int HR.out.symm, HB1.out⟩
  have k1' : isK m.kind = true := by simpa using k1
  rw [k1'] at hk
  by_cases k2 : 255 < m.es.length ∨ 255 < m.vs.length
  · have HR : Hid (encE m = 4) := by show _ = _; unfold encE; rw [if_neg k1, if_pos k2]
    by_cases k3 : 255 < m.es.length
    · clear k2 k1 k1'
      go_enter Tryd.func23, Tryd.ntmps23
      go_upto_region 1 with fail
      rw [← hw1, ← hd]
      clear hw1 hd hb1
      go_wp2_with (go_at_call 51; refine (hk _).mono ?_; rintro e w2 ⟨rfl, hw2⟩; obtain rfl := hw2.symm)
      go_ret
      exact ⟨ret_int HR.out.symm, HB1.out⟩
    · have k4 : 255 < m.vs.length := k2.resolve_left k3
      have k3' : decide (255 < m.es.length) = false := by simpa using k3
      clear k2 k1 k1'
      go_enter Tryd.func23, Tryd.ntmps23
      go_upto_region 1 with fail
      rw [← hw1, ← hd]
      clear hw1 hd hb1
      go_wp2_with (go_at_call 51; refine (hk _).mono ?_; rintro e w2 ⟨rfl, hw2⟩; obtain rfl := hw2.symm)
      go_ret
      exact ⟨ret_int HR.out.symm, HB1.out⟩
  have k3 : ¬ 255 < m.es.length := fun h => k2 (.inl h)
  have k4 : ¬ 255 < m.vs.length := fun h => k2 (.inr h)
  have k3' : decide (255 < m.es.length) = false := by simpa using k3
  have k4' : decide (255 < m.vs.length) = false := by simpa using k4
  have hcon := contains_any Z w1 pe ce m.es (HMS.out.e.below hb1) (by omega)
  by_cases k5 : m.es.any noB = true
  · have HR : Hid (encE m = 3) := by show _ = _; unfold encE; rw [if_neg k1, if_neg k2, if_pos k5]
    rw [k5] at hcon
    clear k5 k2 k1 k1'
    go_enter Tryd.func23, Tryd.ntmps23
    go_upto_region 1 with fail
    rw [← hw1, ← hd]
    clear hw1 hd hb1
    go_wp2_with (first | (go_at_call 51; refine (hk _).mono ?_; rintro e w2 ⟨rfl, hw2⟩; obtain rfl := hw2.symm) | (go_at_call 52; refine hcon.mono ?_; rintro e w2 ⟨rfl, hw2⟩))
    go_ret
    exact ⟨ret_int HR.out.symm, HB1.out.trans (hw2.mono HB1.out.size)⟩
  · have HR : Hid (encE m = 0) := by show _ = _; unfold encE; rw [if_neg k1, if_neg k2, if_neg k5]
    have k5' : m.es.any noB = false := by simpa using k5
    rw [k5'] at hcon
    have hfit := HS.out.fit HR.out
    have hsz : ∀ W, Below w.heap.size w W → Calls Tryd.prog 54 #[.agg (mrow m (.slice pe m.es.length ce) (.slice pv m.vs.length cv) vd)] W fun e w' => e = .returned (iv ((msgB m).length : Nat)) ∧ Below W.heap.size W w' :=
      fun W hW => sizeOf_any Z W m _ _ _ (HMS.out.below hW) hfit
    unfold mrow at hsz
    have hml : ((msgB m).length : Int) ≤ 40000 := by have := msg_pre m hfit; omega
    have hml0 : 0 ≤ ((msgB m).length : Int) := by omega
    obtain ⟨L, hL⟩ : ∃ L : Int, L = ((msgB m).length : Int) := ⟨_, rfl⟩
    rw [← hL] at hsz hml hml0
    clear hL k5 k5' k2 k1 k1'
    go_enter Tryd.func23, Tryd.ntmps23
    go_upto_region 1 with fail
    rw [← hw1, ← hd]
    clear hw1 hd hb1
    go_upto_region 7 with (first | (go_at_call 51; refine (hk _).mono ?_; rintro e w2 ⟨rfl, hw2⟩; obtain rfl := hw2.symm) | (go_at_call 52; refine hcon.mono ?_; rintro e w2 ⟨rfl, hw2⟩))
    have HX2 := HX1.below hw2
    have HB2 := Hid.mkW (HB1.out.trans (hw2.mono HB1.out.size))
    go_wp2_with (go_at_call 54; refine (hsz _ (HB2.out)).mono ?_; rintro e w3 ⟨rfl, hw3⟩)
    go_ret
    exact ⟨ret_int HR.out.symm, HB2.out.trans (hw3.mono HB2.out.size)⟩
/-- What Encode tells. -/
def encR (m : Md) : List Int := if encE m = 0 then frameB (msgB m) else []
theorem msgB_isB (m : Md) (ho : MOk m) : isB (msgB m) := by
  have h8 : ∀ n, isB (b8 n) := fun n x hx => be_isB _ (u64_bd n).1 (u64_bd n).2 x (List.mem_of_mem_drop hx)
  have h1 : ∀ n, isB (b1 n) := fun n x hx => be_isB _ (u64_bd n).1 (u64_bd n).2 x (List.mem_of_mem_drop hx)
  have ht : ∀ d, isB d → isB (btx d) := fun d hd x hx => by
    rcases List.mem_append.1 hx with hx | hx
    · exact be_isB _ (u64_bd _).1 (u64_bd _).2 x (List.mem_of_mem_drop hx)
    · exact hd x hx
  have hi : ∀ l, isB (intsB l) := fun l x hx => by
    obtain ⟨n, _, hn⟩ := List.mem_flatMap.1 hx
    exact h8 n x hn
  have he : isB (entsB m.es) := fun x hx => by
    obtain ⟨e, hel, hn⟩ := List.mem_flatMap.1 hx
    have hd := (ho.es e hel).d
    simp only [entB, List.mem_append] at hn
    rcases hn with hn | hn | hn | hn
    · exact h8 _ x hn
    · exact h8 _ x hn
    · exact h1 _ x hn
    · exact ht _ hd x (List.mem_append.2 hn)
  intro x hx
  simp only [msgB, List.mem_append] at hx
  rcases hx with hx | hx | hx | hx | hx | hx | hx | hx | hx | hx
  · exact h1 _ x hx
  · exact hi _ x hx
  · exact h1 _ x hx
  · exact he x hx
  · exact hi _ x hx
  · exact h1 _ x hx
  · exact hi _ x hx
  · exact h1 _ x hx
  · exact hi _ x hx
  · exact ht _ ho.d x (List.mem_append.2 hx)
set_option maxRecDepth 100000 in
theorem encode_any (Z : Nat → Prop) (w : World) (m : Md) (ve vv vd : Value) (hT : HasTab w) (hm : Ms Z w ve vv vd m) (hs : Small m) (ho : MOk m) (hZ : ∀ k, Z k → k < w.heap.size) :
    Calls Tryd.prog 10 #[.agg (mrow m ve vv vd)] w fun e w' => ∃ v', e = .returned (.tuple #[v', iv (encE m)]) ∧ w'.ownsRow w.heap.size 5 1 v' (encR m).length (u8s (encR m)) ∧ Below w.heap.size w w' := by
  obtain ⟨w1, hw1⟩ : ∃ w1, w1 = w.alloc (.cells (mrow m ve vv vd) 28) := ⟨_, rfl⟩
  have hb1 : Below w.heap.size w w1 := by rw [hw1]; exact (Below.refl _ _).alloc (Nat.le_refl _) _
  obtain ⟨d, hd⟩ : ∃ d, d = w.heap.size := ⟨_, rfl⟩
  have HX1 : Bx d (mrow m ve vv vd) 28 w1 := by rw [hd, hw1]; exact row_alloc w _ 28
  obtain ⟨c0, c1, c2, c3, c4, c5, c6, c7, c8, c9, c10, c11, c12, c13, c14⟩ := msg_cells d m ve vv vd
  have HB1 := Hid.mkW hb1
  have href := refuse_any Z w1 m ve vv vd (hm.below hb1) hs
  unfold mrow at href
  have HM := Hid.mkW hm
  have HT := Hid.mkW hT
  have HZ := Hid.mkW hZ
  by_cases he : encE m = 0
  · have HR : Hid (encR m = frameB (msgB m)) := by show _ = _; unfold encR; rw [if_pos he]
    rw [he] at href ⊢
    have hfit := hs.fit he
    have HF := Hid.mkW hfit
    have HO := Hid.mkW ho
    have HD : Hid (d = w.heap.size) := hd
    clear hm hT hZ hb1 he ho hfit
    go_enter Tryd.func10, Tryd.ntmps10
    go_upto_region 1 with fail
    rw [← hw1, ← hd]
    clear hw1 hd
    go_upto_region 5 with (first | (go_at_call 23; refine href.mono ?_; rintro e w2 ⟨rfl, hw2⟩; have HX2 := HX1.below hw2; have HB2 := Hid.mkW (HB1.out.trans (hw2.mono HB1.out.size)); clear hw2) | (go_at_call 24; refine (wNew _).mono ?_; rintro e w3 ⟨rfl, hw3⟩))
    rw [← hw3]
    have hb3 : Below w2.heap.size w2 w3 := by rw [hw3]; exact (Below.refl _ _).alloc (Nat.le_refl _) _
    have HX3 := HX2.below hb3
    have HW3 : Hid (Wr w2.heap.size w3 w2.heap.size (.slice none 0 0) []) := by
      show Wr w2.heap.size w3 w2.heap.size (.slice none 0 0) []
      have hr : w3.heap[w2.heap.size]? = some (.cells #[.slice none 0 0] 99 (0, 0)) := by rw [hw3]; exact row_alloc w2 _ 99
      exact ⟨cell_of_row _ _ _ _ _ _ hr, frozen_of_row _ _ _ _ _ hr, World.ownsRow_nil _ _ _ _, by simp [Value.ownBlock], Nat.le_refl _⟩
    have HB3 := Hid.mkW (HB2.out.trans (hb3.mono HB2.out.size))
    have hwr := write_any w2.heap.size w2.heap.size (.slice none 0 0) w3 m ve vv vd Z HW3.out hb3.size (HM.out.below HB3.out) HF.out HO.out (fun k hk => ⟨Nat.lt_of_lt_of_le (HZ.out k hk) HB3.out.size, by have := HZ.out k hk; have := HB2.out.size; omega, by simp [Value.ownBlock]⟩)
    unfold mrow at hwr
    have HB23 := Hid.mkW hb3
    have hml := msg_pre m HF.out
    clear hw3 hb3 HX2
    go_upto_region 6 with (go_at_call 25; refine hwr.mono ?_; rintro e w4 ⟨rfl, hp4⟩; have HP4 := Hid.mkW hp4; clear hp4)
    have hwd : ∃ v4, Wr w2.heap.size w4 w2.heap.size v4 (msgB m) := by
      obtain ⟨v4, h1, _⟩ := HP4.out
      exact ⟨v4, h1⟩
    obtain ⟨v4, hw4⟩ := hwd
    have hb4 : Below w2.heap.size w2 w4 := HB23.out.trans ((HP4.out.upd).below HB23.out.size (fun k hk e => by
      rcases e with e | e
      · omega
      · simp [Value.ownBlock] at e))
    have HB4 := Hid.mkW (HB2.out.trans (hb4.mono HB2.out.size))
    have hdone := wDone w2.heap.size w2.heap.size v4 (msgB m) w4 hw4 (by omega)
    clear hw4 hb4
    go_wp2_with (first | (go_at_call 27; refine hdone.mono ?_; rintro e w5 ⟨v5, rfl, ho5, hb5⟩; have HO5 := Hid.mkW ho5; have HB5 := Hid.mkW (HB4.out.trans (hb5.mono HB4.out.size)); clear ho5 hb5) | (go_at_call 26; refine (frame_any v5 (msgB m) w5 (HT.out.below HB5.out) (msgB_isB m HO.out) (by omega) (sees_own HO5.out)).mono ?_; rintro e w6 ⟨v6, rfl, ho6, hb6⟩))
    go_ret2
    refine ⟨v6, rfl, ?_, HB5.out.trans (hb6.mono HB5.out.size)⟩
    rw [HR.out]
    exact ho6.mono HB5.out.size
  · have HR : Hid (encR m = []) := by show _ = _; unfold encR; rw [if_neg he]
    obtain ⟨q, hq⟩ : ∃ q, q = encE m := ⟨_, rfl⟩
    rw [← hq] at href he ⊢
    have hqn : (q == 0) = false := by simpa using he
    clear hm hT hZ hb1 hq ho
    go_enter Tryd.func10, Tryd.ntmps10
    go_upto_region 1 with fail
    rw [← hw1, ← hd]
    clear hw1 hd
    go_wp2_with (go_at_call 23; refine href.mono ?_; rintro e w2 ⟨rfl, hw2⟩)
    go_ret2
    refine ⟨_, rfl, ?_, HB1.out.trans (hw2.mono HB1.out.size)⟩
    rw [HR.out]
    exact World.ownsRow_nil _ _ _ _
end Go.Proofs.YtamgoknoapcnjaaDoor
