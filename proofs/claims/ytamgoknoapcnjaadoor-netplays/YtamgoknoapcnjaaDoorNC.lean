/- A message is written. -/
import Derived.Test.YtamgoknoapcnjaaDoorNB
namespace Go.Proofs.YtamgoknoapcnjaaDoor
open Go Go.RowKit
theorem asByte_any (o : Bool) (w : World) : Calls Tryd.prog 58 #[.bool o] w fun e w' => e = .returned (iv (flagI o)) ∧ w' = w := by
  cases o <;> (go_enter Tryd.func58, Tryd.ntmps58; go_wp2; go_ret; exact ⟨rfl, rfl⟩)
theorem msg_pre (m : Md) (hf : Fit m) : (msgB m).length ≤ 40000 := by
  have h1 := msgB_len m
  have h2 := hf.es
  have h3 := hf.vs
  have h4 := hf.sum
  omega
theorem msg_cells (d : Nat) (m : Md) (ve vv vd : Value) : (∀ W, Bx d (mrow m ve vv vd) 28 W → W.cell? ⟨d, 0, none⟩ = some (iv m.kind)) ∧ (∀ W, Bx d (mrow m ve vv vd) 28 W → W.cell? ⟨d, 1, none⟩ = some (iv m.src)) ∧ (∀ W, Bx d (mrow m ve vv vd) 28 W → W.cell? ⟨d, 2, none⟩ = some (iv m.dst)) ∧ (∀ W, Bx d (mrow m ve vv vd) 28 W → W.cell? ⟨d, 3, none⟩ = some (iv m.term)) ∧ (∀ W, Bx d (mrow m ve vv vd) 28 W → W.cell? ⟨d, 4, none⟩ = some (iv m.index)) ∧ (∀ W, Bx d (mrow m ve vv vd) 28 W → W.cell? ⟨d, 5, none⟩ = some (iv m.lt)) ∧ (∀ W, Bx d (mrow m ve vv vd) 28 W → W.cell? ⟨d, 6, none⟩ = some (ve)) ∧ (∀ W, Bx d (mrow m ve vv vd) 28 W → W.cell? ⟨d, 7, none⟩ = some (iv m.commit)) ∧ (∀ W, Bx d (mrow m ve vv vd) 28 W → W.cell? ⟨d, 8, none⟩ = some (iv m.seq)) ∧ (∀ W, Bx d (mrow m ve vv vd) 28 W → W.cell? ⟨d, 9, none⟩ = some (.bool m.ok)) ∧ (∀ W, Bx d (mrow m ve vv vd) 28 W → W.cell? ⟨d, 10, none⟩ = some (iv m.mat)) ∧ (∀ W, Bx d (mrow m ve vv vd) 28 W → W.cell? ⟨d, 11, none⟩ = some (iv m.mi)) ∧ (∀ W, Bx d (mrow m ve vv vd) 28 W → W.cell? ⟨d, 12, none⟩ = some (iv m.mt)) ∧ (∀ W, Bx d (mrow m ve vv vd) 28 W → W.cell? ⟨d, 13, none⟩ = some (vv)) ∧ (∀ W, Bx d (mrow m ve vv vd) 28 W → W.cell? ⟨d, 14, none⟩ = some (vd)) :=
  ⟨fun _ h => h.cell 0, fun _ h => h.cell 1, fun _ h => h.cell 2, fun _ h => h.cell 3, fun _ h => h.cell 4, fun _ h => h.cell 5, fun _ h => h.cell 6, fun _ h => h.cell 7, fun _ h => h.cell 8, fun _ h => h.cell 9, fun _ h => h.cell 10, fun _ h => h.cell 11, fun _ h => h.cell 12, fun _ h => h.cell 13, fun _ h => h.cell 14⟩
/-- What is written ahead of the entries. -/
def preB (m : Md) : List Int := b1 m.kind ++ (intsB [m.src, m.dst, m.term, m.index, m.lt] ++ b1 (m.es.length : Nat))
theorem preB_len (m : Md) : (preB m).length = 42 := by simp [preB, intsB_len, be]
set_option maxRecDepth 100000 in
set_option maxHeartbeats 4000000 in
theorem write_any (B b : Nat) (v : Value) (w : World) (m : Md) (ve vv vd : Value) (Z : Nat → Prop) (hw : Wr B w b v []) (hB : B ≤ w.heap.size) (hm : Ms Z w ve vv vd m) (hf : Fit m) (ho : MOk m)
    (hZ : ∀ k, Z k → k < w.heap.size ∧ k ≠ b ∧ some k ≠ v.ownBlock) :
    Calls Tryd.prog 25 #[ptr b, .agg (mrow m ve vv vd)] w fun e w' => e = .returned (.tuple #[]) ∧ WrPost B w w' b v (msgB m) := by
  obtain ⟨pe, ce, rfl, hce1, hce2, hes⟩ := hm.e
  obtain ⟨pv, cv, rfl, hcv1, hcv2, hvs⟩ := hm.v
  obtain ⟨pd, cd, rfl⟩ := hm.d.slice
  obtain ⟨d, hd⟩ : ∃ d, d = w.heap.size := ⟨_, rfl⟩
  have hbl := hw.lt
  have HP0 : Hid (WrPost B w (w.alloc (.cells (mrow m (.slice pe m.es.length ce) (.slice pv m.vs.length cv) (.slice pd m.data.length cd)) 28)) b v []) := (WrPost.refl hw).below ((Below.refl _ _).alloc (Nat.le_refl _) _)
  have HX0 : Bx d (mrow m (.slice pe m.es.length ce) (.slice pv m.vs.length cv) (.slice pd m.data.length cd)) 28 (w.alloc (.cells (mrow m (.slice pe m.es.length ce) (.slice pv m.vs.length cv) (.slice pd m.data.length cd)) 28)) := by rw [hd]; exact row_alloc w _ 28
  have hdb : d ≠ b := by omega
  obtain ⟨c0, c1, c2, c3, c4, c5, c6, c7, c8, c9, c10, c11, c12, c13, c14⟩ := msg_cells d m (.slice pe m.es.length ce) (.slice pv m.vs.length cv) (.slice pd m.data.length cd)
  have HM := Hid.mkW hm
  have HZ := Hid.mkW hZ
  have HO := Hid.mkW ho
  have HF := Hid.mkW hf
  have HE := Hid.mkW hes
  have hnl : m.es.length ≤ 9223372036854775807 := by have := hf.es; omega
  have hvl : m.vs.length ≤ 9223372036854775807 := by have := hf.vs; omega
  clear hes hvs hm hZ ho hf hw
  go_enter Tryd.func25, Tryd.ntmps25
  go_upto_region 1 with (fail)
  rw [← hd]
  obtain ⟨w0, hw0⟩ : ∃ w0, w0 = w.alloc (.cells (mrow m (.slice pe m.es.length ce) (.slice pv m.vs.length cv) (.slice pd m.data.length cd)) 28) := ⟨_, rfl⟩
  rw [← hw0] at HP0 HX0 ⊢
  clear hw0
  have HD := Hid.mkW hd
  clear hd hce1 hce2 hcv1 hcv2 hbl
  go_upto_region 2 with (go_at_call 55; refine (xU8 HP0.out hB (by simp) _).mono ?_; rintro e w1 ⟨rfl, hp1, hk1⟩; have HP1 := Hid.mkW hp1; have HX1 := hk1 _ _ _ (by decide) hdb HX0; clear hp1 hk1 HX0)
  have k1 := xLit HP1.out hB [m.src, m.dst, m.term, m.index, m.lt] (by simp) (by simp [be])
  simp only [List.map, List.length] at k1
  go_upto_region 3 with (go_at_call 56; refine (k1).mono ?_; rintro e w2 ⟨rfl, hp2, hk2⟩; have HP2 := Hid.mkW hp2; have HX2 := hk2 _ _ _ (by decide) hdb HX1; clear hp2 hk2 HX1)
  clear k1
  go_upto_region 4 with (go_at_call 55; refine (xU8 HP2.out hB (by simp [intsB_len, be]) _).mono ?_; rintro e w3 ⟨rfl, hp3, hk3⟩; have HP3 := Hid.mkW hp3; have HX3 := hk3 _ _ _ (by decide) hdb HX2; clear hp3 hk3 HX2)
  have H0 : Hid (WrPost B w w3 b v (preB m ++ entsB (m.es.take 0)) ∧ Bx d (mrow m (.slice pe m.es.length ce) (.slice pv m.vs.length cv) (.slice pd m.data.length cd)) 28 w3) := by
    show _ ∧ _
    refine ⟨?_, HX3⟩
    have := HP3.out
    simpa [preB, entsB, List.append_assoc] using this
  go_wp2
  clear HX3 HP0 HP1 HP2 HP3
  go_loopg [5, 31] (m.es.length + 1) (fun kx _s5 s31 wq => ∃ j : Nat, s31 = .int .i64 j ∧ kx + j = m.es.length + 1 ∧ j ≤ m.es.length ∧ Hid (WrPost B w wq b v (preB m ++ entsB (m.es.take j)) ∧ Bx d (mrow m (.slice pe m.es.length ce) (.slice pv m.vs.length cv) (.slice pd m.data.length cd)) 28 wq))
  case atStart => exact ⟨0, rfl, rfl, Nat.zero_le _, H0⟩
  case round =>
    obtain ⟨j, rfl, hk, hj, HW⟩ := hrel
    clear H0
    have HLE : Hid ((preB m ++ entsB (m.es.take j)).length ≤ 40000) := by
      show _ ≤ _
      have h1 := entsB_len (m.es.take j)
      have h2 := entsN_take m.es j
      have h3 := HF.out.es
      have h4 := HF.out.sum
      have h5 := List.length_take_le j m.es
      have h6 : (m.es.take j).length ≤ m.es.length := by simp; omega
      rw [List.length_append, preB_len]
      omega
    by_cases hlt : j < m.es.length
    · obtain ⟨x, hx⟩ : ∃ x, m.es[j]? = some x := ⟨_, List.getElem?_eq_getElem hlt⟩
      obtain ⟨g, o, rfl, hz, hE⟩ := HE.out j x hx
      have hgl := World.block_lt_of_cell? _ _ hE.c0
      have hgn : ¬ (g = b ∨ some g = v.ownBlock) := fun e => by
        have := HZ.out g hz
        rcases e with e | e
        · exact this.2.1 e
        · exact this.2.2 e
      obtain ⟨q0, q1, q2, dv, q3, hdv⟩ := hE
      replace q0 := (HW.out.1.upd.cell (p := ⟨g, o + j * 4, none⟩) hgl hgn).trans q0
      replace q1 := (HW.out.1.upd.cell (p := ⟨g, o + j * 4 + 1, none⟩) hgl hgn).trans q1
      replace q2 := (HW.out.1.upd.cell (p := ⟨g, o + j * 4 + 2, none⟩) hgl hgn).trans q2
      replace q3 := (HW.out.1.upd.cell (p := ⟨g, o + j * 4 + 3, none⟩) hgl hgn).trans q3
      obtain ⟨pe1, ce1, rfl⟩ := hdv.slice
      have hxd : x.d.length ≤ 30000 := by have := entsN_mem hx; have := HF.out.sum; omega
      have hxo := HO.out.es x (List.mem_of_getElem? hx)
      have HXO := Hid.mkW hxo
      have HDV := Hid.mkW hdv
      have HXX := Hid.mkW hx
      clear hxo hdv hx hz hgl hgn
      go_upto_region 7 with fail
      obtain ⟨w4, hw4⟩ : ∃ w4, w4 = wr.alloc (.cells #[iv x.i, iv x.t, iv x.k, .slice pe1 x.d.length ce1] 58) := ⟨_, rfl⟩
      have hb4 : Below wr.heap.size wr w4 := by rw [hw4]; exact (Below.refl _ _).alloc (Nat.le_refl _) _
      obtain ⟨d4, hd4⟩ : ∃ d4, d4 = wr.heap.size := ⟨_, rfl⟩
      have HE4 : Bx d4 #[iv x.i, iv x.t, iv x.k, .slice pe1 x.d.length ce1] 58 w4 := by rw [hw4, hd4]; exact row_alloc wr _ 58
      rw [← hw4, ← hd4]
      have hd4b : d4 ≠ b := by
        obtain ⟨v', h1, h2, h3⟩ := HW.out.1
        have := h1.lt
        omega
      have HP4 := Hid.mkW (HW.out.1.below hb4)
      have HX4 := HW.out.2.below hb4
      have HG4 := HE4
      have e0 := fun W (h : Bx d4 #[iv x.i, iv x.t, iv x.k, .slice pe1 x.d.length ce1] 58 W) => (h.cell 0 : _ = some (iv x.i))
      have e1 := fun W (h : Bx d4 #[iv x.i, iv x.t, iv x.k, .slice pe1 x.d.length ce1] 58 W) => (h.cell 1 : _ = some (iv x.t))
      have e2 := fun W (h : Bx d4 #[iv x.i, iv x.t, iv x.k, .slice pe1 x.d.length ce1] 58 W) => (h.cell 2 : _ = some (iv x.k))
      have e3 := fun W (h : Bx d4 #[iv x.i, iv x.t, iv x.k, .slice pe1 x.d.length ce1] 58 W) => (h.cell 3 : _ = some (Value.slice pe1 x.d.length ce1))
      clear HE4 hw4 hd4 q0 q1 q2 q3 c0 c1 c2 c3 c4 c5 c6 c7 c8 c9 c10 c11 c12 c13 c14
      have HB4 := Hid.mkW hb4
      clear hb4
      have k4 := xLit HP4.out hB [x.i, x.t] (by simp) (by have := HLE.out; omega)
      simp only [List.map, List.length] at k4
      go_upto_region 8 with (go_at_call 56; refine (k4).mono ?_; rintro e w5 ⟨rfl, hp5, hk5⟩; have HP5 := Hid.mkW hp5; have HX5 := hk5 _ _ _ (by decide) hdb HX4; have HG5 := hk5 _ _ _ (by decide) hd4b HG4; clear hp5 hk5 HX4 HG4)
      go_upto_region 9 with (go_at_call 55; refine (xU8 HP5.out hB (by have := HLE.out; simp only [List.length_append, intsB_len, List.length_cons, List.length_nil] at *; omega) _).mono ?_; rintro e w6 ⟨rfl, hp6, hk6⟩; have HP6 := Hid.mkW hp6; have HX6 := hk6 _ _ _ (by decide) hdb HX5; have HG6 := hk6 _ _ _ (by decide) hd4b HG5; clear hp6 hk6 HX5 HG5)
      have hcv : (convert 26 9 (Value.slice pe1 x.d.length ce1)).run Tryd.prog w6 = .ok (.string (strOfNums x.d)) w6 := by
        refine conv_sees ((HDV.out.upd HP6.out.upd (fun k hk _ e => ?_)).s)
        have := HZ.out k hk
        rcases e with e | e
        · exact this.2.1 e
        · exact this.2.2 e
      go_upto_region 10 with (go_at_call 57; refine (xText HP6.out hB (by have := HLE.out; simp only [List.length_append, intsB_len, b1_len, List.length_cons, List.length_nil] at *; omega) HXO.out.d hxd).mono ?_; rintro e w7 ⟨rfl, hp7, hk7⟩; have HP7 := Hid.mkW hp7; have HX7 := hk7 _ _ _ (by decide) hdb HX6; have HG7 := hk7 _ _ _ (by decide) hd4b HG6; clear hp7 hk7 HX6 HG6)
      go_wp2
      go_roundg (m.es.length - j)
      case measure => omega
      case rel =>
        refine ⟨j + 1, by congr 1, by omega, by omega, ?_, HX7⟩
        have := HP7.out
        rw [List.take_succ_eq_append_getElem hlt, entsB_snoc]
        have ex : m.es[j] = x := by
          have hx := HXX.out
          rw [List.getElem?_eq_getElem hlt] at hx
          exact Option.some.inj hx
        rw [ex]
        simpa [entB, intsB, List.append_assoc] using this
    · obtain rfl : j = m.es.length := by omega
      have HP10 := Hid.mkW HW.out.1
      have HX10 := HW.out.2
      obtain ⟨w10, hw10⟩ : ∃ w10, w10 = wr := ⟨_, rfl⟩
      subst hw10
      rw [List.take_length] at HP10 HLE
      clear HW hlt
      go_upto_region 11 with fail
      have HVL : Hid (m.vs.length ≤ 255) := HF.out.vs
      have k10 := xLit HP10.out hB [m.commit, m.seq] (by simp) (by have := HLE.out; have := HVL.out; simp only [List.length_append] at *; omega)
      simp only [List.map, List.length] at k10
      go_upto_region 12 with (go_at_call 56; refine (k10).mono ?_; rintro e w11 ⟨rfl, hp11, hk11⟩; have HP11 := Hid.mkW hp11; have HX11 := hk11 _ _ _ (by decide) hdb HX10; clear hp11 hk11 HX10)
      go_upto_region 13 with (first | (go_at_call 58; refine (asByte_any _ _).mono ?_; rintro e w12 ⟨rfl, hq12⟩; obtain rfl := hq12.symm) | (go_at_call 55; refine (xU8 HP11.out hB (by have := HLE.out; have := HVL.out; simp only [List.length_append, intsB_len, List.length_cons, List.length_nil] at *; omega) _).mono ?_; rintro e w12 ⟨rfl, hp12, hk12⟩; have HP12 := Hid.mkW hp12; have HX12 := hk12 _ _ _ (by decide) hdb HX11; clear hp12 hk12 HX11))
      have k12 := xLit HP12.out hB [m.mat, m.mi, m.mt] (by simp) (by have := HLE.out; have := HVL.out; simp only [List.length_append, intsB_len, b1_len, List.length_cons, List.length_nil] at *; omega)
      simp only [List.map, List.length] at k12
      go_upto_region 14 with (go_at_call 56; refine (k12).mono ?_; rintro e w13 ⟨rfl, hp13, hk13⟩; have HP13 := Hid.mkW hp13; have HX13 := hk13 _ _ _ (by decide) hdb HX12; clear hp13 hk13 HX12)
      go_upto_region 15 with (go_at_call 55; refine (xU8 HP13.out hB (by have := HLE.out; have := HVL.out; simp only [List.length_append, intsB_len, b1_len, List.length_cons, List.length_nil] at *; omega) _).mono ?_; rintro e w14 ⟨rfl, hp14, hk14⟩; have HP14 := Hid.mkW hp14; have HX14 := hk14 _ _ _ (by decide) hdb HX13; clear hp14 hk14 HX13)
      have k14 := xArg HP14.out hB (by have := HLE.out; have := HVL.out; simp only [List.length_append, intsB_len, b1_len, List.length_cons, List.length_nil] at *; omega) HM.out.v HZ.out
      go_upto_region 16 with (go_at_call 56; refine (k14).mono ?_; rintro e w15 ⟨rfl, hp15, hk15⟩; have HP15 := Hid.mkW hp15; have HX15 := hk15 _ _ _ (by decide) hdb HX14; clear hp15 hk15 HX14)
      have hcv : (convert 26 9 (Value.slice pd m.data.length cd)).run Tryd.prog w15 = .ok (.string (strOfNums m.data)) w15 := by
        refine conv_sees ((HM.out.d.upd HP15.out.upd (fun k hk _ e => ?_)).s)
        have := HZ.out k hk
        rcases e with e | e
        · exact this.2.1 e
        · exact this.2.2 e
      go_wp2_with (go_at_call 57; refine (xText HP15.out hB (by have := HLE.out; have := HVL.out; simp only [List.length_append, intsB_len, b1_len, List.length_cons, List.length_nil] at *; omega) HO.out.d (by have := HF.out.sum; omega)).mono ?_; rintro e w16 ⟨rfl, hp16, hk16⟩; have HP16 := Hid.mkW hp16; have HX16 := hk16 _ _ _ (by decide) hdb HX15; clear hp16 hk16 HX15)
      go_end0
      refine ⟨rfl, ?_⟩
      have := HP16.out
      simpa [msgB, preB, List.append_assoc] using this
end Go.Proofs.YtamgoknoapcnjaaDoor
