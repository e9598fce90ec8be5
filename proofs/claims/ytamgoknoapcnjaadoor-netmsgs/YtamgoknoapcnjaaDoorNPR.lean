/- The document's Parse. -/
import Derived.Test.YtamgoknoapcnjaaDoorNPZ
import Derived.Deep.LoopGhost
import Derived.Deep.CutRange
namespace Go.Proofs.YtamgoknoapcnjaaDoor
open Go Go.RowKit
set_option maxRecDepth 100000 in
set_option maxHeartbeats 8000000 in
theorem dParse_any (v : Value) (xs : List Int) (w : World) (hb : isB xs) (hl : xs.length ≤ 100000) (hv : Sees w v xs) :
    Calls Tryd.prog 13 #[v] w fun e w' => ∃ pe ce pv cv pd cd, e = .returned (.tuple #[.agg (mrow (pM xs) (.slice pe (pM xs).es.length ce) (.slice pv (pM xs).vs.length cv) (.slice pd (pM xs).data.length cd)), iv (pX xs)]) ∧ Ms (fun k => w.heap.size ≤ k) w' (.slice pe (pM xs).es.length ce) (.slice pv (pM xs).vs.length cv) (.slice pd (pM xs).data.length cd) (pM xs) ∧ Below w.heap.size w w' := by
  obtain ⟨ao, cap, rfl, hcap, hlc⟩ := hv.form
  obtain ⟨w1, hw1⟩ : ∃ w1, w1 = w.alloc (.cells zrow 28) := ⟨_, rfl⟩
  have hb1 : Below w.heap.size w w1 := by rw [hw1]; exact (Below.refl _ _).alloc (Nat.le_refl _) _
  obtain ⟨d0, hd0⟩ : ∃ d0, d0 = w.heap.size := ⟨_, rfl⟩
  have HD1 : Bx d0 zrow 28 w1 := by rw [hd0, hw1]; exact row_alloc w _ 28
  have hs1 : d0 < w1.heap.size := HD1.lt
  have hun := fUnframe _ xs w1 hb hl (hv.below hb1)
  have HB1 := Hid.mkW hb1
  have HZ0 : Hid (d0 = w.heap.size) := hd0
  have hlx : xs.length ≤ 100000 := hl
  have HB := Hid.mkW hb
  clear hv hb hl hb1
  unfold zrow at hw1
  go_enter Tryd.func13, Tryd.ntmps13
  go_upto_region 1 with fail
  rw [← hw1, ← hd0]
  clear hw1 hd0
  go_upto_region 2 with (go_at_call 37; refine hun.mono ?_; rintro e w2 ⟨vi, rfl, hvi, hb2⟩)
  have HD2 := HD1.below hb2
  have HB2 := Hid.mkW (HB1.out.trans (hb2.mono HB1.out.size))
  have HVI := Hid.mkW hvi
  have HS2 : d0 < w2.heap.size := HD2.lt
  clear HD1 hb2 hvi hun
  by_cases k1 : unfE xs ≠ 0
  · have HE : Hid (pX xs = unfE xs) := by show pX xs = _; unfold pX; rw [if_pos k1]
    have HN : Hid (unfE xs ≠ 0) := k1
    have k1' : (unfE xs == 0) = false := by simpa using k1
    have k1n : (unfE xs != 0) = true := by simpa using k1
    clear k1
    go_wp2_with (refine wpList_store_row rfl 28 _ _ rfl d0 zrow rfl rfl 28 zrow HD2 (by kernel_rfl) rfl (by kernel_rfl) ?_)
    obtain ⟨HXF, uF⟩ := HD2.fill (row' := zrow)
    refine bodyPost_ret (results_ct rfl _ _ d0 28 zrow (0, 0) _ rfl HXF Tryd.underlying28 rfl (by kernel_rfl)) rfl ?_
    have hm : pM xs = zMd := by unfold pM; rw [if_neg (by rw [HE.out]; exact HN.out)]
    rw [hm, HE.out]
    exact ⟨none, 0, none, 0, none, 0, rfl, zMs _ _, HB2.out.trans (uF.below (by have := HB2.out.size; omega) (fun k hk e => by have e1 : k = d0 := e; have := HZ0.out; omega))⟩
  have k0 : unfE xs = 0 := by simpa using k1
  rw [k0]
  by_cases k2 : unfN xs < xs.length
  · have HE : Hid (pX xs = 9) := by show pX xs = _; unfold pX; rw [if_neg k1, if_pos k2]
    clear k1 k0
    go_wp2_with (refine wpList_store_row rfl 28 _ _ rfl d0 zrow rfl rfl 28 zrow HD2 (by kernel_rfl) rfl (by kernel_rfl) ?_)
    obtain ⟨HXF, uF⟩ := HD2.fill (row' := zrow)
    refine bodyPost_ret (results_ct rfl _ _ d0 28 zrow (0, 0) _ rfl HXF Tryd.underlying28 rfl (by kernel_rfl)) rfl ?_
    have hm : pM xs = zMd := by unfold pM; rw [if_neg (by rw [HE.out]; decide)]
    rw [hm, HE.out]
    exact ⟨none, 0, none, 0, none, 0, rfl, zMs _ _, HB2.out.trans (uF.below (by have := HB2.out.size; omega) (fun k hk e => by have e1 : k = d0 := e; have := HZ0.out; omega))⟩
  have HE : Hid (pX xs = rX (unfR xs)) := by show pX xs = _; unfold pX; rw [if_neg k1, if_neg k2]
  have HPM : Hid (pM xs = if rX (unfR xs) = 0 then rM (unfR xs) else zMd) := by show pM xs = _; unfold pM; rw [HE.out]
  have k2' : decide (unfN xs < xs.length) = false := by simpa using k2
  have hyb := unfR_isB HB.out
  have hyl : (unfR xs).length ≤ 100000 := by have := unfR_len xs; omega
  clear k1 k0
  obtain ⟨ys, hys⟩ : ∃ ys, ys = unfR xs := ⟨_, rfl⟩
  rw [← hys] at HVI HE HPM hyb hyl
  have HYB := Hid.mkW hyb
  obtain ⟨pi, ci, rfl, hci1, hci2⟩ := HVI.out.form
  clear hys hyb
  go_upto_region 7 with fail
  obtain ⟨b, hbb⟩ : ∃ b, b = w2.heap.size := ⟨_, rfl⟩
  obtain ⟨w3, hw3⟩ : ∃ w3, w3 = w2.alloc (.cells #[(.slice pi ys.length ci), iv 0, .bool false] 78) := ⟨_, rfl⟩
  have hb3 : Below w2.heap.size w2 w3 := by rw [hw3]; exact (Below.refl _ _).alloc (Nat.le_refl _) _
  have HR3 : Bx b #[(.slice pi ys.length ci), iv 0, .bool false] 78 w3 := by rw [hbb, hw3]; exact row_alloc w2 _ 78
  rw [← hw3, ← hbb]
  have HD3 := HD2.below hb3
  have hnb : ∀ k, (Value.slice pi ys.length ci).ownBlock = some k → 0 < ys.length → k < w2.heap.size ∧ k ≠ d0 := by
    intro k hk h0
    rcases HVI.out with ⟨rfl, _⟩ | ⟨g, off, cp, hpe, h1, h2, h3, hc⟩
    · simp at h0
    · cases hpe
      obtain rfl : g = k := by simpa [Value.ownBlock] using hk
      have hg := hc 0 h0
      refine ⟨World.block_lt_of_cell? _ _ hg, fun e => ?_⟩
      subst e
      exact zrow_noB _ _ ((HD2.cell (off + 0)).symm.trans hg)
  have HRF : Hid (Rf w3 b (.slice pi ys.length ci) ys 0 0) := by
    refine ⟨HR3.cell 0, HR3.cell 1, HR3.cell 2, HR3.free 1, HR3.free 2, HVI.out.below hb3, fun k hk h0 => ?_, .inl rfl, Nat.zero_le _, by omega, HYB.out⟩
    have := hnb k hk h0
    omega
  have HNB := Hid.mkW hnb
  have HS3 : Hid (w3.heap.size = w2.heap.size + 1) := by show _ = _; rw [hw3]; simp
  have HBE : Hid (b = w2.heap.size) := hbb
  have hbd0 : b ≠ d0 := by omega
  have HB3 := Hid.mkW (HB2.out.trans (hb3.mono HB2.out.size))
  clear hw3 hbb hb3 hnb HR3 HD2 HB2
  have k3 := fU8 b (.slice pi ys.length ci) ys 0 0 w3 HRF.out
  obtain ⟨x0, hx0⟩ : ∃ x0, x0 = (rU ys (0, 0)).1 := ⟨_, rfl⟩
  rw [show wrap64 (rd (takeB ys 0 0 1)) = x0 from hx0.symm] at k3
  have HX0 := Hid.mkW hx0
  clear hx0
  go_upto_region 8 with (go_at_call 38; refine k3.mono ?_; rintro e w4 ⟨rfl, hp4⟩; have HP4 := Hid.mkW hp4; clear hp4)
  obtain ⟨d, hd⟩ : ∃ d, d = w4.heap.size := ⟨_, rfl⟩
  obtain ⟨w5, hw5⟩ : ∃ w5, w5 = w4.alloc (.cells #[iv x0, iv 0, iv 0, iv 0, iv 0, iv 0, .slice none 0 0, iv 0, iv 0, .bool false, iv 0, iv 0, iv 0, .slice none 0 0, .slice none 0 0] 28) := ⟨_, rfl⟩
  have hb5 : Below w4.heap.size w4 w5 := by rw [hw5]; exact (Below.refl _ _).alloc (Nat.le_refl _) _
  have HX5 : Bx d #[iv x0, iv 0, iv 0, iv 0, iv 0, iv 0, .slice none 0 0, iv 0, iv 0, .bool false, iv 0, iv 0, iv 0, .slice none 0 0, .slice none 0 0] 28 w5 := by rw [hd, hw5]; exact row_alloc w4 _ 28
  obtain ⟨base, hbase⟩ : ∃ base, base = w5.heap.size := ⟨_, rfl⟩
  have HP : Hid (Pe w w5 d0 b d base (.slice pi ys.length ci) ys #[iv x0, iv 0, iv 0, iv 0, iv 0, iv 0, .slice none 0 0, iv 0, iv 0, .bool false, iv 0, iv 0, iv 0, .slice none 0 0, .slice none 0 0] (sA0 ys) (.slice none 0 0) (.slice none 0 0) (.slice none 0 0) zMd) := by
    have h4 := HP4.out.2.size
    have h5 := HX5.lt
    have h3 := HS3.out
    have h2 := HBE.out
    have h0 := HZ0.out
    have hB3 := HB3.out.size
    exact ⟨HP4.out.1.upd (Upd.ofBelow (S := fun _ => False) hb5) (fun h => h) (fun _ _ _ h => h), HX5, (HD3.upd HP4.out.2 (fun e => hbd0 e.symm)).below hb5,
      (HB3.out.trans (HP4.out.2.below hB3 (fun k hk e => by have e1 : k = b := e; omega))).trans (hb5.mono (by omega)), zMs _ _, by omega, by omega, by omega, by omega, by omega, by omega, by omega, by omega, by omega, by omega,
      fun k hk h0 => ⟨by have := (HNB.out k hk h0).1; omega, by have := (HNB.out k hk h0).1; omega, (HNB.out k hk h0).2⟩⟩
  rw [← hw5, ← hd]
  clear hw5 hd hbase hb5 HX5 HP4 HRF HNB HS3 HBE HB3 HD3 k3
  obtain ⟨q, hq⟩ : ∃ q : Bool, q = ((sA0 ys).2 == 0 && !isK x0) := ⟨_, rfl⟩
  have HQ := Hid.mkW hq
  have r2 : w5.cell? ⟨b, 2, none⟩ = some (.bool (!((sA0 ys).2 == 0))) := HP.out.r.c2
  go_cut [48] from 34 to 48 (fun s48 wc => s48 = .bool q ∧ wc = w5)
  case first =>
    have e0 : w5.cell? ⟨d, 0, none⟩ = some (iv x0) := HP.out.x.cell 0
    by_cases hs : (sA0 ys).2 = 0
    · have hsd : ((sA0 ys).2 == 0) = true := by simp [hs]
      rw [hsd] at r2 hq
      by_cases n1 : x0 < 1
      · have hik : isK x0 = false := by unfold isK; simp; omega
        rw [hik] at hq
        simp at hq
        subst hq
        clear hs
        go_wp2
        go_meet
        exact ⟨rfl, rfl⟩
      · have n1' : decide (x0 < 1) = false := by simpa using n1
        by_cases n2 : 5 < x0
        · have hik : isK x0 = false := by unfold isK; simp; omega
          rw [hik] at hq
          simp at hq
          subst hq
          clear hs
          go_wp2
          go_meet
          exact ⟨rfl, rfl⟩
        · have n2' : decide (5 < x0) = false := by simpa using n2
          have hik : isK x0 = true := by unfold isK; simp; omega
          rw [hik] at hq
          simp at hq
          subst hq
          clear hs
          go_wp2
          go_meet
          exact ⟨rfl, rfl⟩
    · have hsd : ((sA0 ys).2 == 0) = false := by simpa using hs
      rw [hsd] at r2 hq
      simp at hq
      subst hq
      go_wp2
      go_meet
      exact ⟨rfl, rfl⟩
  case rest =>
  obtain ⟨rfl, hwc⟩ := hcut
  obtain rfl := hwc.symm
  clear hq r2
  cases q with
  | true =>
    have HRX : Hid (rX ys = 3) := by
      have h1 := HQ.out
      simp at h1
      show rX ys = 3
      unfold rX
      rw [if_pos (by rw [← HX0.out]; simpa using h1)]
    have hz5 := HP.out.z
    go_wp2_with (refine wpList_store_row rfl 28 _ _ rfl d0 zrow rfl rfl 28 zrow hz5 (by kernel_rfl) rfl (by kernel_rfl) ?_)
    obtain ⟨HXF, uF⟩ := hz5.fill (row' := zrow)
    refine bodyPost_ret (results_ct rfl _ _ d0 28 zrow (0, 0) _ rfl HXF Tryd.underlying28 rfl (by kernel_rfl)) rfl ?_
    rw [HPM.out, HE.out, if_neg (by rw [HRX.out]; decide), HRX.out]
    exact ⟨none, 0, none, 0, none, 0, rfl, zMs _ _, HP.out.u.trans (uF.below HP.out.u.size (fun k hk e => by have e1 : k = d0 := e; have := HZ0.out; omega))⟩
  | false =>
    have HRX : Hid (¬ ((sA0 ys).2 = 0 ∧ isK (rU ys (0, 0)).1 = false)) := by
      intro h
      have h1 := HQ.out
      rw [h.1, HX0.out, h.2] at h1
      simp at h1
    obtain ⟨x1, hx1⟩ : ∃ x1, x1 = (rI ys (sA0 ys)).1 := ⟨_, rfl⟩
    have HX1 := Hid.mkW hx1
    clear hx1
    obtain ⟨x2, hx2⟩ : ∃ x2, x2 = (rI ys (sA1 ys)).1 := ⟨_, rfl⟩
    have HX2 := Hid.mkW hx2
    clear hx2
    obtain ⟨x3, hx3⟩ : ∃ x3, x3 = (rI ys (sA2 ys)).1 := ⟨_, rfl⟩
    have HX3 := Hid.mkW hx3
    clear hx3
    obtain ⟨x4, hx4⟩ : ∃ x4, x4 = (rI ys (sA3 ys)).1 := ⟨_, rfl⟩
    have HX4 := Hid.mkW hx4
    clear hx4
    obtain ⟨x5, hx5⟩ : ∃ x5, x5 = (rI ys (sA4 ys)).1 := ⟨_, rfl⟩
    have HX5 := Hid.mkW hx5
    clear hx5
    obtain ⟨x7, hx7⟩ : ∃ x7, x7 = (rI ys (sA6 ys)).1 := ⟨_, rfl⟩
    have HX7 := Hid.mkW hx7
    clear hx7
    obtain ⟨x8, hx8⟩ : ∃ x8, x8 = (rI ys (sA7 ys)).1 := ⟨_, rfl⟩
    have HX8 := Hid.mkW hx8
    clear hx8
    obtain ⟨x9, hx9⟩ : ∃ x9, x9 = (rU ys (sA8 ys)).1 := ⟨_, rfl⟩
    have HX9 := Hid.mkW hx9
    clear hx9
    obtain ⟨x10, hx10⟩ : ∃ x10, x10 = (rI ys (sA9 ys)).1 := ⟨_, rfl⟩
    have HX10 := Hid.mkW hx10
    clear hx10
    obtain ⟨x11, hx11⟩ : ∃ x11, x11 = (rI ys (sA10 ys)).1 := ⟨_, rfl⟩
    have HX11 := Hid.mkW hx11
    clear hx11
    obtain ⟨x12, hx12⟩ : ∃ x12, x12 = (rI ys (sA11 ys)).1 := ⟨_, rfl⟩
    have HX12 := Hid.mkW hx12
    clear hx12
    have kk := Pe.int HP (s' := sA1 ys) rfl HX1.out
    go_upto_region 11 with (go_at_call 39; refine kk.mono ?_; rintro e w6 ⟨rfl, hp⟩; have HPA := Hid.mkW hp.out.1; have cc := HPA.out.x.cell 1; have ff := HPA.out.x.free 1; clear hp)
    have HPB := Hid.mkW (HPA.out.set 1 (iv x1) (row' := #[iv x0, iv x1, iv 0, iv 0, iv 0, iv 0, .slice none 0 0, iv 0, iv 0, .bool false, iv 0, iv 0, iv 0, .slice none 0 0, .slice none 0 0]) rfl)
    obtain ⟨w7, hw⟩ : ∃ w7, w7 = w6.setCell ⟨d, 1, none⟩ (iv x1) := ⟨_, rfl⟩
    rw [← hw] at HPB ⊢
    clear hw cc ff HPA HP kk
    have HP := HPB
    clear HPB
    have kk := Pe.int HP (s' := sA2 ys) rfl HX2.out
    go_upto_region 12 with (go_at_call 39; refine kk.mono ?_; rintro e w8 ⟨rfl, hp⟩; have HPA := Hid.mkW hp.out.1; have cc := HPA.out.x.cell 2; have ff := HPA.out.x.free 2; clear hp)
    have HPB := Hid.mkW (HPA.out.set 2 (iv x2) (row' := #[iv x0, iv x1, iv x2, iv 0, iv 0, iv 0, .slice none 0 0, iv 0, iv 0, .bool false, iv 0, iv 0, iv 0, .slice none 0 0, .slice none 0 0]) rfl)
    obtain ⟨w9, hw⟩ : ∃ w9, w9 = w8.setCell ⟨d, 2, none⟩ (iv x2) := ⟨_, rfl⟩
    rw [← hw] at HPB ⊢
    clear hw cc ff HPA HP kk
    have HP := HPB
    clear HPB
    have kk := Pe.int HP (s' := sA3 ys) rfl HX3.out
    go_upto_region 13 with (go_at_call 39; refine kk.mono ?_; rintro e w10 ⟨rfl, hp⟩; have HPA := Hid.mkW hp.out.1; have cc := HPA.out.x.cell 3; have ff := HPA.out.x.free 3; clear hp)
    have HPB := Hid.mkW (HPA.out.set 3 (iv x3) (row' := #[iv x0, iv x1, iv x2, iv x3, iv 0, iv 0, .slice none 0 0, iv 0, iv 0, .bool false, iv 0, iv 0, iv 0, .slice none 0 0, .slice none 0 0]) rfl)
    obtain ⟨w11, hw⟩ : ∃ w11, w11 = w10.setCell ⟨d, 3, none⟩ (iv x3) := ⟨_, rfl⟩
    rw [← hw] at HPB ⊢
    clear hw cc ff HPA HP kk
    have HP := HPB
    clear HPB
    have kk := Pe.int HP (s' := sA4 ys) rfl HX4.out
    go_upto_region 14 with (go_at_call 39; refine kk.mono ?_; rintro e w12 ⟨rfl, hp⟩; have HPA := Hid.mkW hp.out.1; have cc := HPA.out.x.cell 4; have ff := HPA.out.x.free 4; clear hp)
    have HPB := Hid.mkW (HPA.out.set 4 (iv x4) (row' := #[iv x0, iv x1, iv x2, iv x3, iv x4, iv 0, .slice none 0 0, iv 0, iv 0, .bool false, iv 0, iv 0, iv 0, .slice none 0 0, .slice none 0 0]) rfl)
    obtain ⟨w13, hw⟩ : ∃ w13, w13 = w12.setCell ⟨d, 4, none⟩ (iv x4) := ⟨_, rfl⟩
    rw [← hw] at HPB ⊢
    clear hw cc ff HPA HP kk
    have HP := HPB
    clear HPB
    have kk := Pe.int HP (s' := sA5 ys) rfl HX5.out
    go_upto_region 15 with (go_at_call 39; refine kk.mono ?_; rintro e w14 ⟨rfl, hp⟩; have HPA := Hid.mkW hp.out.1; have cc := HPA.out.x.cell 5; have ff := HPA.out.x.free 5; clear hp)
    have HPB := Hid.mkW (HPA.out.set 5 (iv x5) (row' := #[iv x0, iv x1, iv x2, iv x3, iv x4, iv x5, .slice none 0 0, iv 0, iv 0, .bool false, iv 0, iv 0, iv 0, .slice none 0 0, .slice none 0 0]) rfl)
    obtain ⟨w15, hw⟩ : ∃ w15, w15 = w14.setCell ⟨d, 5, none⟩ (iv x5) := ⟨_, rfl⟩
    rw [← hw] at HPB ⊢
    clear hw cc ff HPA HP kk
    have HP := HPB
    clear HPB
    have hn := rU_bd HYB.out (sA5 ys)
    obtain ⟨n, hnn⟩ : ∃ n : Nat, (n : Int) = (rU ys (sA5 ys)).1 := ⟨(rU ys (sA5 ys)).1.toNat, by omega⟩
    have hn255 : n ≤ 255 := by omega
    have HL : Hid (rList (rE ys) ys (sA5 ys) = rMany (rE ys) n (rU ys (sA5 ys)).2) := by show _ = _; unfold rList; rw [← hnn]; rfl
    have kk := Pe.u8 HP (s' := (rU ys (sA5 ys)).2) rfl hnn
    clear hn hnn
    go_upto_region 16 with (go_at_call 38; refine kk.mono ?_; rintro e w16 ⟨rfl, hp⟩; have HPA := Hid.mkW hp.out.1; clear hp)
    clear kk HP
    have HP := HPA
    clear HPA
    obtain ⟨i0, hi, hz0, hz1, hz2⟩ := info_parts infoE
    obtain ⟨sB, hsB⟩ : ∃ sB, sB = (rU ys (sA5 ys)).2 := ⟨_, rfl⟩
    rw [← hsB] at HL HP
    clear hsB
    have H0 : Hid (Pe w w16 d0 b d base (.slice pi ys.length ci) ys #[iv x0, iv x1, iv x2, iv x3, iv x4, iv x5, .slice none ([] : List Ent).length 0, iv 0, iv 0, .bool false, iv 0, iv 0, iv 0, .slice none 0 0, .slice none 0 0] sB (.slice none 0 0) (.slice none 0 0) (.slice none 0 0) zMd ∧ EsO base w16 (.slice none ([] : List Ent).length 0) ([] : List Ent) [] ∧ rMany (rE ys) n sB = ([] ++ (rMany (rE ys) n sB).1, (rMany (rE ys) n sB).2) ∧ ([] : List Ent).length + n ≤ 255) :=
      ⟨HP.out, EsO.nil _ _, rfl, by simpa using hn255⟩
    clear HP
    go_wp2
    go_loopg [10, 11] (n + 1) (fun kx s10 _s11 wq => ∃ (k j : Nat) (L : List Ent) (s : St) (ds : List Value) (p : Option Addr) (c : Nat), s10 = .int .i64 j ∧ kx = k + 1 ∧ j + k = n ∧ Hid (Pe w wq d0 b d base (.slice pi ys.length ci) ys #[iv x0, iv x1, iv x2, iv x3, iv x4, iv x5, .slice p L.length c, iv 0, iv 0, .bool false, iv 0, iv 0, iv 0, .slice none 0 0, .slice none 0 0] s (.slice none 0 0) (.slice none 0 0) (.slice none 0 0) zMd ∧ EsO base wq (.slice p L.length c) L ds ∧ rMany (rE ys) n sB = (L ++ (rMany (rE ys) k s).1, (rMany (rE ys) k s).2) ∧ L.length + k ≤ 255))
    case atStart => exact ⟨n, 0, [], _, [], none, 0, rfl, rfl, by omega, H0⟩
    case round =>
      obtain ⟨k, j, L, s, ds, p, c, rfl, hk, hjk, HW⟩ := hrel
      clear H0
      have r2 : wr.cell? ⟨b, 2, none⟩ = some (.bool (!(s.2 == 0))) := HW.out.1.r.c2
      obtain ⟨q, hq⟩ : ∃ q : Bool, q = (decide (j < n) && (s.2 == 0)) := ⟨_, rfl⟩
      have HQ := Hid.mkW hq
      go_upto_region 17 with fail
      go_cut [76] from 67 to 76 (fun s76 wc => s76 = .bool q ∧ wc = wr)
      case first =>
        by_cases hjn : j < n
        · by_cases hs : s.2 = 0
          · have hsd : (s.2 == 0) = true := by simp [hs]
            rw [hsd] at r2 hq
            simp [hjn] at hq
            subst hq
            clear hs
            go_wp2
            go_meet
            exact ⟨rfl, rfl⟩
          · have hsd : (s.2 == 0) = false := by simpa using hs
            rw [hsd] at r2 hq
            simp at hq
            subst hq
            clear hs
            go_wp2
            go_meet
            exact ⟨rfl, rfl⟩
        · simp [hjn] at hq
          subst hq
          go_wp2
          go_meet
          exact ⟨rfl, rfl⟩
      case rest =>
      obtain ⟨rfl, hwc⟩ := hcut
      obtain rfl := hwc.symm
      clear hq r2
      cases q with
      | true =>
        have hjn : j < n := by
          have h1 := HQ.out
          simp at h1
          exact h1.1
        have hs : s.2 = 0 := by
          have h1 := HQ.out
          simp at h1
          exact h1.2
        obtain ⟨k, rfl⟩ : ∃ k', k = k' + 1 := ⟨k - 1, by omega⟩
        have hLl : L.length ≤ 255 := by have := HW.out.2.2.2; omega
        have HSS := Hid.mkW hs
        clear hs
        obtain ⟨xi, hxi⟩ : ∃ x, x = (rI ys s).1 := ⟨_, rfl⟩
        obtain ⟨s1, hs1⟩ : ∃ x, x = (rI ys s).2 := ⟨_, rfl⟩
        obtain ⟨xt, hxt⟩ : ∃ x, x = (rI ys s1).1 := ⟨_, rfl⟩
        obtain ⟨s2, hs2⟩ : ∃ x, x = (rI ys s1).2 := ⟨_, rfl⟩
        obtain ⟨xk, hxk⟩ : ∃ x, x = (rU ys s2).1 := ⟨_, rfl⟩
        obtain ⟨s3, hs3⟩ : ∃ x, x = (rU ys s2).2 := ⟨_, rfl⟩
        obtain ⟨xd, hxd⟩ : ∃ x, x = (rT ys s3).1 := ⟨_, rfl⟩
        obtain ⟨s4, hs4⟩ : ∃ x, x = (rT ys s3).2 := ⟨_, rfl⟩
        have HRE : Hid (rE ys s = (⟨xi, xt, xk, xd⟩, s4)) := by
          show _ = _
          rw [hs4, hxd, hs3, hxk, hs2, hxt, hs1, hxi]
          rfl
        have EXI := Hid.mkW hxi
        have EXT := Hid.mkW hxt
        have EXK := Hid.mkW hxk
        have EXD := Hid.mkW hxd
        have E1 := Hid.mkW hs1
        have E2 := Hid.mkW hs2
        have E3 := Hid.mkW hs3
        have E4 := Hid.mkW hs4
        clear hxi hxt hxk hxd hs1 hs2 hs3 hs4
        have HPw := Hid.mkW HW.out.1
        have k1 := Pe.int HPw E1.out EXI.out
        go_wp2_with (fail)
        refine k1.mono ?_
        rintro e w17 ⟨rfl, hp1⟩
        have HP1 := Hid.mkW hp1.out.1
        have k2 := Pe.int HP1 E2.out EXT.out
        have HU1 := Hid.mkW hp1.out.2
        clear k1 hp1
        go_wp2_with (fail)
        refine k2.mono ?_
        rintro e w18 ⟨rfl, hp2⟩
        have HP2 := Hid.mkW hp2.out.1
        have k3 := Pe.u8 HP2 E3.out EXK.out
        have HU2 := Hid.mkW (HU1.out.trans hp2.out.2 (fun _ _ h => h))
        clear k2 hp2 HP1 HU1
        go_wp2_with (fail)
        refine k3.mono ?_
        rintro e w19 ⟨rfl, hp3⟩
        have HP3 := Hid.mkW hp3.out.1
        have HU3 := Hid.mkW (HU2.out.trans hp3.out.2 (fun _ _ h => h))
        clear k3 hp3 HP2 HU2
        go_upto_region 20 with fail
        obtain ⟨g, hg⟩ : ∃ g, g = w19.heap.size := ⟨_, rfl⟩
        obtain ⟨w20, hw⟩ : ∃ w20, w20 = w19.alloc (.cells #[iv xi, iv xt, iv xk, .slice none 0 0] 58) := ⟨_, rfl⟩
        have hb4 : Below w19.heap.size w19 w20 := by rw [hw]; exact (Below.refl _ _).alloc (Nat.le_refl _) _
        have HG4 : Bx g #[iv xi, iv xt, iv xk, .slice none 0 0] 58 w20 := by rw [hw, hg]; exact row_alloc w19 _ 58
        rw [← hw, ← hg]
        have HP4 := Hid.mkW (HP3.out.below hb4)
        have HU4 := Hid.mkW (HU3.out.trans (Upd.ofBelow (S := fun k => k = b) hb4) (fun _ _ h => h))
        have HGr : Hid (wr.heap.size ≤ g) := by show _ ≤ _; have := HU3.out.size; omega
        have HGb : Hid (base ≤ g) := by show _ ≤ _; have := HW.out.1.sz; have := HGr.out; omega
        clear hw hg hb4 HP3 HU3
        have k4 := Pe.text HP4 E4.out EXD.out
        go_wp2_with (fail)
        refine k4.mono ?_
        rintro e w21 ⟨rfl, hp, c5, w22, hcv, hbs⟩
        have hbg : g ≠ b := by have := HGb.out; have := HP4.out.lb; omega
        have HG5 := (HG4.upd hp.out.2 hbg).below hbs.out.2
        have HP5 := Hid.mkW (hp.out.1.below hbs.out.2)
        have HU5 := Hid.mkW ((HU4.out.trans hp.out.2 (fun _ _ h => h)).trans (Upd.ofBelow (S := fun k => k = b) hbs.out.2) (fun _ _ h => h))
        have HBS := Hid.mkW (hbs.out.1.mono (Z' := fun k => wr.heap.size ≤ k ∧ k ≠ g) (fun k hk => by
          have h1 := (HU4.out.trans hp.out.2 (fun _ _ h => h)).size
          have h2 : g < w21.heap.size := (HG4.upd hp.out.2 hbg).lt
          exact ⟨Nat.le_trans h1 hk, by omega⟩))
        obtain ⟨p3, hp3⟩ : ∃ p3, p3 = (some ⟨w21.heap.size, 0, none⟩ : Option Addr) := ⟨_, rfl⟩
        rw [← hp3] at hcv HBS
        have cc := HG5.cell 3
        have ff := HG5.free 3
        clear hp hbs hp3 k4 HP4 HU4 HG4
        go_upto_region 21 with fail
        have us : Upd w22 (w22.setCell ⟨g, 3, none⟩ (.slice p3 xd.length c5)) (fun k => k = g) := (Upd.refl w22 (fun k => k = g)).setCell (p := ⟨g, 3, none⟩) (.inr rfl) _
        have HG6 := HG5.set 3 (.slice p3 xd.length c5) (row' := #[iv xi, iv xt, iv xk, .slice p3 xd.length c5]) rfl
        have HP6 := Hid.mkW (HP5.out.upd us (fun k e => by have e1 : k = g := e; have := HGb.out; omega) (zMs _ _))
        have HU6 := Hid.mkW (HU5.out.trans us (fun j hj e => by have e1 : j = g := e; have := HGr.out; omega))
        have HBS6 := Hid.mkW ((HBS.out.upd us (fun k hk _ e => hk.2 e)).mono (Z' := fun k => wr.heap.size ≤ k) (fun k hk => hk.1))
        obtain ⟨w23, hw⟩ : ∃ w23, w23 = w22.setCell ⟨g, 3, none⟩ (.slice p3 xd.length c5) := ⟨_, rfl⟩
        rw [← hw] at HG6 HP6 HU6 HBS6 ⊢
        clear hw us cc ff HG5 HP5 HU5 HBS hcv
        have g0 : w23.cell? ⟨g, 0, none⟩ = some (iv xi) := HG6.cell 0
        have g1 : w23.cell? ⟨g, 1, none⟩ = some (iv xt) := HG6.cell 1
        have g2 : w23.cell? ⟨g, 2, none⟩ = some (iv xk) := HG6.cell 2
        have g3 : w23.cell? ⟨g, 3, none⟩ = some (Value.slice p3 xd.length c5) := HG6.cell 3
        have d6 := HP6.out.x.cell 6
        have HOWN : Hid ((w23.alloc (.cells #[iv xi, iv xt, iv xk, .slice p3 xd.length c5] 58)).ownsRow base 58 4 (.slice p L.length c) L.length (ecells L ds) ∧ base ≤ (w23.alloc (.cells #[iv xi, iv xt, iv xk, .slice p3 xd.length c5] 58)).heap.size) := by
          have hb3 : Below w23.heap.size w23 (w23.alloc (.cells #[iv xi, iv xt, iv xk, .slice p3 xd.length c5] 58)) := (Below.refl _ _).alloc (Nat.le_refl _) _
          have hlb := HP6.out.lb
          exact ⟨((HW.out.2.1.upd HU6.out (fun k hk _ e => by omega)).upd (Upd.ofBelow (S := fun _ => False) hb3) (fun _ _ _ h => h)).own, Nat.le_trans HP6.out.sz hb3.size⟩
        have HPUSH : Hid (∀ v9 w9, w9.ownsRow base 58 4 v9 (L.length + 1) (ecells L ds ++ [iv xi, iv xt, iv xk, .slice p3 xd.length c5]) → Upd (w23.alloc (.cells #[iv xi, iv xt, iv xk, .slice p3 xd.length c5] 58)) w9 (fun k => some k = (Value.slice p L.length c).ownBlock) →
            (v9.ownBlock = (Value.slice p L.length c).ownBlock ∨ v9.ownBlock = some (w23.alloc (.cells #[iv xi, iv xt, iv xk, .slice p3 xd.length c5] 58)).heap.size) →
            w9.cell? ⟨d, 6, none⟩ = some (Value.slice p L.length c) ∧ w9.frozen? ⟨d, 6, none⟩ = false ∧ Hid (Pe w (w9.setCell ⟨d, 6, none⟩ v9) d0 b d base (.slice pi ys.length ci) ys #[iv x0, iv x1, iv x2, iv x3, iv x4, iv x5, v9, iv 0, iv 0, .bool false, iv 0, iv 0, iv 0, .slice none 0 0, .slice none 0 0] s4 (.slice none 0 0) (.slice none 0 0) (.slice none 0 0) zMd ∧ EsO base (w9.setCell ⟨d, 6, none⟩ v9) v9 (L ++ [⟨xi, xt, xk, xd⟩]) (ds ++ [.slice p3 xd.length c5]))) := by
          intro v9 w9 q1 q2 q3
          have hb3 : Below w23.heap.size w23 (w23.alloc (.cells #[iv xi, iv xt, iv xk, .slice p3 xd.length c5] 58)) := (Below.refl _ _).alloc (Nat.le_refl _) _
          have hlt := HOWN.out.1.lt
          have p9 := (HP6.out.below hb3).upd q2 (fun k e => (hlt k e.symm).1) (zMs _ _)
          have us : Upd w9 (w9.setCell ⟨d, 6, none⟩ v9) (fun k => k = d) := (Upd.refl w9 (fun k => k = d)).setCell (p := ⟨d, 6, none⟩) (.inr rfl) _
          have hld := HP6.out.ld
          refine ⟨p9.x.cell 6, p9.x.free 6, p9.set 6 v9 rfl, ?_⟩
          exact (HW.out.2.1.push HP6.out.lb HU6.out HW.out.1.sz HBS6.out _ q1 q2 q3).upd us (fun k hk _ e => by have e1 : k = d := e; omega)
        clear HG6 HBS6 HU6 HP6 HGr HGb
        go_wp2_with (at_builtin; refine wpList_appS _ rfl (.tmp 91) (.tmp 93) 22 22 rfl base 58 i0 _ 4 Tryd.underlying22 hi hz0 hz1 rfl (by rw [hz2]; decide) _ L.length (ecells L ds) rfl HOWN.out.1 _ rfl 1 _ (src_ent w23 ⟨xi, xt, xk, xd⟩ p3 _ c5) (by omega) HOWN.out.2 ?_; intro v9 w9 q1 q2 q3 _q4; obtain ⟨z0, z1, HN⟩ := HPUSH.out v9 w9 q1 q2 q3; obtain ⟨np, nc, hnv⟩ := owns_formB0 q1; subst hnv; clear q1 q2 q3 _q4)
        go_roundg (k + 1)
        case measure => omega
        case rel =>
          obtain ⟨n1, n2⟩ := HN.out
          refine ⟨k, j + 1, L ++ [⟨xi, xt, xk, xd⟩], s4, _, np, nc, by congr 1, rfl, by omega, by simpa using n1, by simpa using n2, ?_, by have := HW.out.2.2.2; simp; omega⟩
          rw [HW.out.2.2.1]
          simp only [rMany, if_pos HSS.out, HRE.out, List.append_assoc, List.singleton_append]
      | false =>
        have HPQ := Hid.mkW HW.out.1
        have HEQ := Hid.mkW HW.out.2.1
        have HSP : Hid (rList (rE ys) ys (sA5 ys) = (L, s)) := by
          show _ = _
          have h1 := HQ.out
          rw [HL.out, HW.out.2.2.1]
          by_cases hk0 : k = 0
          · subst hk0
            simp [rMany]
          · have hjn : j < n := by omega
            have hs : s.2 ≠ 0 := by
              intro e
              simp [hjn, e] at h1
            rw [rMany_cut _ hs]
            simp
        have HLL : Hid (L = (rList (rE ys) ys (sA5 ys)).1) := by show _ = _; rw [HSP.out]
        have HLS : Hid (s = sA6 ys) := by show _ = (rList (rE ys) ys (sA5 ys)).2; rw [HSP.out]
        have HP0 := HPQ.out.lists (m' := { zMd with es := L }) ⟨HEQ.out.es, Is.nil _ _, Bs.nil _ _⟩
        rw [HLS.out] at HP0
        have HP := Hid.mkW HP0
        clear HP0 HPQ HEQ HW HQ HLS HSP HL
        have kk := Pe.int HP (s' := sA7 ys) rfl HX7.out
        go_upto_region 23 with (go_at_call 39; refine kk.mono ?_; rintro e w16 ⟨rfl, hp⟩; have HPA := Hid.mkW hp.out.1; have cc := HPA.out.x.cell 7; have ff := HPA.out.x.free 7; clear hp)
        have HPB := Hid.mkW (HPA.out.set 7 (iv x7) (row' := #[iv x0, iv x1, iv x2, iv x3, iv x4, iv x5, .slice p L.length c, iv x7, iv 0, .bool false, iv 0, iv 0, iv 0, .slice none 0 0, .slice none 0 0]) rfl)
        obtain ⟨w17, hw⟩ : ∃ w17, w17 = w16.setCell ⟨d, 7, none⟩ (iv x7) := ⟨_, rfl⟩
        rw [← hw] at HPB ⊢
        clear hw cc ff HPA HP kk
        have HP := HPB
        clear HPB
        have kk := Pe.int HP (s' := sA8 ys) rfl HX8.out
        go_upto_region 24 with (go_at_call 39; refine kk.mono ?_; rintro e w18 ⟨rfl, hp⟩; have HPA := Hid.mkW hp.out.1; have cc := HPA.out.x.cell 8; have ff := HPA.out.x.free 8; clear hp)
        have HPB := Hid.mkW (HPA.out.set 8 (iv x8) (row' := #[iv x0, iv x1, iv x2, iv x3, iv x4, iv x5, .slice p L.length c, iv x7, iv x8, .bool false, iv 0, iv 0, iv 0, .slice none 0 0, .slice none 0 0]) rfl)
        obtain ⟨w19, hw⟩ : ∃ w19, w19 = w18.setCell ⟨d, 8, none⟩ (iv x8) := ⟨_, rfl⟩
        rw [← hw] at HPB ⊢
        clear hw cc ff HPA HP kk
        have HP := HPB
        clear HPB
        have kk := Pe.u8 HP (s' := sA9 ys) rfl HX9.out
        go_upto_region 25 with (go_at_call 38; refine kk.mono ?_; rintro e w30 ⟨rfl, hp⟩; have HPA := Hid.mkW hp.out.1; clear hp)
        clear kk HP
        have HP := HPA
        clear HPA
        have r2 : w30.cell? ⟨b, 2, none⟩ = some (.bool (!((sA9 ys).2 == 0))) := HP.out.r.c2
        obtain ⟨q, hq⟩ : ∃ q : Bool, q = decide (1 < x9) := ⟨_, rfl⟩
        have HQ := Hid.mkW hq
        go_cut [112] from 104 to 112 (fun s112 wc => s112 = .bool q ∧ wc = w30)
        case first =>
          by_cases hs : (sA9 ys).2 = 0
          · have hsd : ((sA9 ys).2 == 0) = true := by simp [hs]
            rw [hsd] at r2
            by_cases n1 : 1 < x9
            · simp [n1] at hq
              subst hq
              clear hs
              go_wp2
              go_meet
              exact ⟨rfl, rfl⟩
            · simp [n1] at hq
              subst hq
              clear hs
              go_wp2
              go_meet
              exact ⟨rfl, rfl⟩
          · have hsd : ((sA9 ys).2 == 0) = false := by simpa using hs
            have hx9 : x9 = 0 := by rw [HX9.out]; exact rU_err hs
            rw [hsd] at r2
            simp [hx9] at hq
            subst hq
            clear hs hx9
            go_wp2
            go_meet
            exact ⟨rfl, rfl⟩
        case rest =>
        obtain ⟨rfl, hwc⟩ := hcut
        obtain rfl := hwc.symm
        clear hq r2
        cases q with
        | true =>
          have HRN := HRX
          have HRX : Hid (rX ys = 11) := by
            have h1 := HQ.out
            show rX ys = 11
            unfold rX
            rw [if_neg HRN.out, if_pos (by have : rOk ys = x9 := HX9.out.symm; rw [this]; simpa using h1.symm)]
          have hz5 := HP.out.z
          go_wp2_with (refine wpList_store_row rfl 28 _ _ rfl d0 zrow rfl rfl 28 zrow hz5 (by kernel_rfl) rfl (by kernel_rfl) ?_)
          obtain ⟨HXF, uF⟩ := hz5.fill (row' := zrow)
          refine bodyPost_ret (results_ct rfl _ _ d0 28 zrow (0, 0) _ rfl HXF Tryd.underlying28 rfl (by kernel_rfl)) rfl ?_
          rw [HPM.out, HE.out, if_neg (by rw [HRX.out]; decide), HRX.out]
          exact ⟨none, 0, none, 0, none, 0, rfl, zMs _ _, HP.out.u.trans (uF.below HP.out.u.size (fun k hk e => by have e1 : k = d0 := e; have := HZ0.out; omega))⟩
        | false =>
          have HNO : Hid (¬ 1 < rOk ys) := by
            have h1 := HQ.out
            show ¬ _
            have : rOk ys = x9 := HX9.out.symm
            rw [this]
            simpa using h1.symm
          have cc := HP.out.x.cell 9
          have ff := HP.out.x.free 9
          go_upto_region 28 with fail
          have HPB := Hid.mkW (HP.out.set 9 (.bool (x9 == 1)) (row' := #[iv x0, iv x1, iv x2, iv x3, iv x4, iv x5, .slice p L.length c, iv x7, iv x8, .bool (x9 == 1), iv 0, iv 0, iv 0, .slice none 0 0, .slice none 0 0]) rfl)
          obtain ⟨w31, hw⟩ : ∃ w31, w31 = w30.setCell ⟨d, 9, none⟩ (.bool (x9 == 1)) := ⟨_, rfl⟩
          rw [← hw] at HPB ⊢
          clear hw cc ff HP HQ
          have HP := HPB
          clear HPB
          have kk := Pe.int HP (s' := sA10 ys) rfl HX10.out
          go_upto_region 29 with (go_at_call 39; refine kk.mono ?_; rintro e w40 ⟨rfl, hp⟩; have HPA := Hid.mkW hp.out.1; have cc := HPA.out.x.cell 10; have ff := HPA.out.x.free 10; clear hp)
          have HPB := Hid.mkW (HPA.out.set 10 (iv x10) (row' := #[iv x0, iv x1, iv x2, iv x3, iv x4, iv x5, .slice p L.length c, iv x7, iv x8, .bool (x9 == 1), iv x10, iv 0, iv 0, .slice none 0 0, .slice none 0 0]) rfl)
          obtain ⟨w41, hw⟩ : ∃ w41, w41 = w40.setCell ⟨d, 10, none⟩ (iv x10) := ⟨_, rfl⟩
          rw [← hw] at HPB ⊢
          clear hw cc ff HPA HP kk
          have HP := HPB
          clear HPB
          obtain ⟨lv, hlv⟩ : ∃ lv, lv = (rList (rI ys) ys (sA12 ys)).1 := ⟨_, rfl⟩
          have HLV := Hid.mkW hlv
          have kk := Pe.meta HP (s' := sA13 ys) HX11.out HX12.out hlv rfl
          clear hlv
          go_wp2_with (fail)
          refine kk.mono ?_
          rintro e w50 ⟨pv, cv, rfl, hp⟩
          have HPA := Hid.mkW hp.out.1
          have HIV := Hid.mkW hp.out.2
          have c1 := HPA.out.x.cell 11
          have c2 := HPA.out.x.cell 12
          have c3 := HPA.out.x.cell 13
          have f1 := HPA.out.x.free 11
          have f2 := HPA.out.x.free 12
          have f3 := HPA.out.x.free 13
          clear hp
          go_upto_region 30 with fail
          have HPB0 := HPA.out.lists (m' := { zMd with es := L, vs := lv }) ⟨HPA.out.m.e, HIV.out, Bs.nil _ _⟩
          have HPB := Hid.mkW (((HPB0.set 11 (iv x11) (row' := #[iv x0, iv x1, iv x2, iv x3, iv x4, iv x5, .slice p L.length c, iv x7, iv x8, .bool (x9 == 1), iv x10, iv x11, iv 0, .slice none 0 0, .slice none 0 0]) rfl).set 12 (iv x12) (row' := #[iv x0, iv x1, iv x2, iv x3, iv x4, iv x5, .slice p L.length c, iv x7, iv x8, .bool (x9 == 1), iv x10, iv x11, iv x12, .slice none 0 0, .slice none 0 0]) rfl).set 13 (.slice pv lv.length cv) (row' := #[iv x0, iv x1, iv x2, iv x3, iv x4, iv x5, .slice p L.length c, iv x7, iv x8, .bool (x9 == 1), iv x10, iv x11, iv x12, .slice pv lv.length cv, .slice none 0 0]) rfl)
          obtain ⟨w51, hw⟩ : ∃ w51, w51 = ((w50.setCell ⟨d, 11, none⟩ (iv x11)).setCell ⟨d, 12, none⟩ (iv x12)).setCell ⟨d, 13, none⟩ (.slice pv lv.length cv) := ⟨_, rfl⟩
          rw [← hw] at HPB ⊢
          clear hw c1 c2 c3 f1 f2 f3 HPA HPB0 HP kk HIV
          have HP := HPB
          clear HPB
          obtain ⟨dd, hdd⟩ : ∃ dd, dd = (rT ys (sA13 ys)).1 := ⟨_, rfl⟩
          have HDD := Hid.mkW hdd
          have kk := Pe.text HP (s' := sA14 ys) rfl hdd
          clear hdd
          go_wp2_with (fail)
          refine kk.mono ?_
          rintro e w52 ⟨rfl, hp, c14, w53, hcv, hbs⟩
          have hP3 := hp.out.1.below hbs.out.2
          have HPA := Hid.mkW (hP3.lists (vd' := .slice (some ⟨w52.heap.size, 0, none⟩) dd.length c14) (m' := { zMd with es := L, vs := lv, data := dd }) ⟨hP3.m.e, hP3.m.v, hbs.out.1.mono (fun k hk => Nat.le_trans hp.out.1.sz hk)⟩)
          have cc := HPA.out.x.cell 14
          have ff := HPA.out.x.free 14
          clear hp hbs hP3
          obtain ⟨pd, hpd⟩ : ∃ pd, pd = (some ⟨w52.heap.size, 0, none⟩ : Option Addr) := ⟨_, rfl⟩
          rw [← hpd] at hcv HPA
          clear hpd
          go_upto_region 31 with fail
          have HPB := Hid.mkW (HPA.out.set 14 (.slice pd dd.length c14) (row' := #[iv x0, iv x1, iv x2, iv x3, iv x4, iv x5, .slice p L.length c, iv x7, iv x8, .bool (x9 == 1), iv x10, iv x11, iv x12, .slice pv lv.length cv, .slice pd dd.length c14]) rfl)
          obtain ⟨w54, hw⟩ : ∃ w54, w54 = w53.setCell ⟨d, 14, none⟩ (.slice pd dd.length c14) := ⟨_, rfl⟩
          rw [← hw] at HPB ⊢
          clear hw cc ff HPA HP kk hcv
          have HP := HPB
          clear HPB
          have r1 : w54.cell? ⟨b, 1, none⟩ = some (iv ((sA14 ys).1 : Nat)) := HP.out.r.c1
          have r2 : w54.cell? ⟨b, 2, none⟩ = some (.bool (!((sA14 ys).2 == 0))) := HP.out.r.c2
          have hz5 := HP.out.z
          by_cases hs : (sA14 ys).2 = 0
          · have hsd : ((sA14 ys).2 == 0) = true := by simp [hs]
            rw [hsd] at r2
            by_cases hle : (sA14 ys).1 < ys.length
            · have HRN := HRX
              have HRX : Hid (rX ys = 9) := by
                show rX ys = 9
                unfold rX
                rw [if_neg HRN.out, if_neg (by have := HNO.out; omega), if_neg (by simp [hs]), if_pos hle]
              clear hs
              go_wp2_with (refine wpList_store_row rfl 28 _ _ rfl d0 zrow rfl rfl 28 zrow hz5 (by kernel_rfl) rfl (by kernel_rfl) ?_)
              obtain ⟨HXF, uF⟩ := hz5.fill (row' := zrow)
              refine bodyPost_ret (results_ct rfl _ _ d0 28 zrow (0, 0) _ rfl HXF Tryd.underlying28 rfl (by kernel_rfl)) rfl ?_
              rw [HPM.out, HE.out, if_neg (by rw [HRX.out]; decide), HRX.out]
              exact ⟨none, 0, none, 0, none, 0, rfl, zMs _ _, HP.out.u.trans (uF.below HP.out.u.size (fun k hk e => by have e1 : k = d0 := e; have := HZ0.out; omega))⟩
            · have HRN := HRX
              have HRX : Hid (rX ys = 0) := by
                show rX ys = 0
                unfold rX
                rw [if_neg HRN.out, if_neg (by have := HNO.out; omega), if_neg (by simp [hs]), if_neg hle]
              have hle' : decide ((sA14 ys).1 < ys.length) = false := by simpa using hle
              have hx5 := HP.out.x
              clear hs
              have hm : rM ys = ⟨x0, x1, x2, x3, x4, x5, L, x7, x8, x9 == 1, x10, x11, x12, lv, dd⟩ := by
                rw [HX0.out, HX1.out, HX2.out, HX3.out, HX4.out, HX5.out, HLL.out, HX7.out, HX8.out, HX9.out, HX10.out, HX11.out, HX12.out, HLV.out, HDD.out]
                rfl
              have HMM := Hid.mkW hm
              clear hm
              go_wp2_with (first
                | (refine wpList_load_row rfl 28 _ rfl d rfl 28 _ (0, 0) _ hx5 Tryd.underlying28 rfl (by kernel_rfl) ?_)
                | (refine wpList_store_row rfl 28 _ _ rfl d0 #[iv x0, iv x1, iv x2, iv x3, iv x4, iv x5, .slice p L.length c, iv x7, iv x8, .bool (x9 == 1), iv x10, iv x11, iv x12, .slice pv lv.length cv, .slice pd dd.length c14] rfl rfl 28 zrow hz5 (by kernel_rfl) rfl (by kernel_rfl) ?_))
              obtain ⟨HXF, uF⟩ := hz5.fill (row' := #[iv x0, iv x1, iv x2, iv x3, iv x4, iv x5, .slice p L.length c, iv x7, iv x8, .bool (x9 == 1), iv x10, iv x11, iv x12, .slice pv lv.length cv, .slice pd dd.length c14])
              refine bodyPost_ret (results_ct rfl _ _ d0 28 #[iv x0, iv x1, iv x2, iv x3, iv x4, iv x5, .slice p L.length c, iv x7, iv x8, .bool (x9 == 1), iv x10, iv x11, iv x12, .slice pv lv.length cv, .slice pd dd.length c14] (0, 0) _ rfl HXF Tryd.underlying28 rfl (by kernel_rfl)) rfl ?_
              rw [HPM.out, HE.out, HRX.out, if_pos rfl, HMM.out]
              have hms := (HP.out.m.upd uF (fun k hk _ e => by have e1 : k = d0 := e; have := HP.out.lz; omega)).mono (Z' := fun k => w.heap.size ≤ k) (fun k hk => by have := HP.out.hb; have := HP.out.lb; omega)
              exact ⟨p, c, pv, cv, pd, c14, rfl, ⟨hms.e, hms.v, hms.d⟩, HP.out.u.trans (uF.below HP.out.u.size (fun k hk e => by have e1 : k = d0 := e; have := HZ0.out; omega))⟩
          · have hsd : ((sA14 ys).2 == 0) = false := by simpa using hs
            rw [hsd] at r2
            have h8 : (sA14 ys).2 = 8 := HP.out.r.er.resolve_left hs
            have HRN := HRX
            have HRX : Hid (rX ys = 8) := by
              show rX ys = 8
              unfold rX
              rw [if_neg HRN.out, if_neg (by have := HNO.out; omega), if_pos hs, h8]
            clear hs h8
            go_wp2_with (refine wpList_store_row rfl 28 _ _ rfl d0 zrow rfl rfl 28 zrow hz5 (by kernel_rfl) rfl (by kernel_rfl) ?_)
            obtain ⟨HXF, uF⟩ := hz5.fill (row' := zrow)
            refine bodyPost_ret (results_ct rfl _ _ d0 28 zrow (0, 0) _ rfl HXF Tryd.underlying28 rfl (by kernel_rfl)) rfl ?_
            rw [HPM.out, HE.out, if_neg (by rw [HRX.out]; decide), HRX.out]
            exact ⟨none, 0, none, 0, none, 0, rfl, zMs _ _, HP.out.u.trans (uF.below HP.out.u.size (fun k hk e => by have e1 : k = d0 := e; have := HZ0.out; omega))⟩
end Go.Proofs.YtamgoknoapcnjaaDoor
