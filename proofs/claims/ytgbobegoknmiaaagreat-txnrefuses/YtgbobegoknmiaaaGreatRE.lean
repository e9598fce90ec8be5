/- TxnRefuses, a value that is too long. -/
import Derived.Test.YtgbobegoknmiaaaGreatRD
import Derived.Deep.RegionLaw
namespace Go.Proofs.YtgbobegoknmiaaaGreat
open Go Go.RowKit

set_option maxRecDepth 100000 in
set_option maxHeartbeats 2000000 in
theorem refuses_4 (x : Int) (w : World) (hk : withinF x 12 = 4) : Calls Tryz.prog 7 #[.int .i64 x] w fun e w' => e = .returned (.bool true) ∧ Below w.heap.size w w' := by
  have hkn := known_any w
  obtain ⟨t9, hti, hz0, hz1, hz2⟩ := info_parts infoOp
  go_enter Tryz.func7, Tryz.ntmps7
  go_upto_region 3 with (go_at_call 9; refine hkn.mono ?_; rintro e w1 ⟨rfl, hb1⟩)
  have hnew := new_q9 w w1 hb1
  clear hb1 hkn
  go_upto_region 6 with (go_at_call 10; refine hnew.mono ?_; rintro e w2 ⟨s, g, rfl, HQ⟩)
  obtain ⟨lo, hlo⟩ : ∃ lo, lo = w2.heap.size := ⟨_, rfl⟩
  rw [← hlo]
  obtain ⟨w4, hw4⟩ : ∃ w4, w4 = ((w2.alloc (.cells #[.int .i64 0, .string ⟨#[97]⟩, .string ⟨#[]⟩, .string ⟨#[120]⟩, .int .i64 0, .int .i64 0] 57)).alloc (.cells #[.int .i64 0, .string ⟨#[97]⟩, .string ⟨#[]⟩, .string ⟨#[120]⟩, .int .i64 0, .int .i64 0] 57)).alloc (.cells #[.slice none 0 0, .slice (some ⟨lo + 1, 0, none⟩) 1 1, .slice none 0 0] 36) := ⟨_, rfl⟩
  rw [← hw4]
  obtain ⟨tb, htb⟩ : ∃ tb, tb = lo + 1 + 1 := ⟨_, rfl⟩
  rw [← htb]
  have hRF := rf_new HQ.out.1 w4 lo tb hlo htb hw4
  have HRF := Hid.mk'' hRF
  have hwi := within_any x 12 w4 (by decide) (by decide)
  rw [hk] at hwi
  obtain ⟨⟨o0, o1, o2, o3, o4, o5⟩, -⟩ := box6 hRF.ob
  have c0 : w4.cell? ⟨tb, 0, none⟩ = some (.slice none 0 0) := cell_of_row _ _ _ _ _ _ hRF.tx
  have c1 : w4.cell? ⟨tb, 1, none⟩ = some (.slice (some ⟨lo + 1, 0, none⟩) 1 1) := cell_of_row _ _ _ _ _ _ hRF.tx
  have c2 : w4.cell? ⟨tb, 2, none⟩ = some (.slice none 0 0) := cell_of_row _ _ _ _ _ _ hRF.tx
  have f0 := frozen_of_row w4 tb 0 _ _ hRF.tx
  have f2 := frozen_of_row w4 tb 2 _ _ hRF.tx
  have hlt : tb < w4.heap.size := by have := hRF.sz; omega
  have hlw : lo ≤ w4.heap.size := by have := hRF.sz; omega
  clear hnew HQ hw4 hlo htb hRF hk
  go_upto_region 21 with (go_at_call 21; refine hwi.mono ?_; rintro e w5 ⟨rfl, hw5⟩; obtain rfl := hw5.symm)
  clear hwi
  obtain ⟨R, hmk, hcv⟩ := make_zb 4097 (by decide)
  have hmk4 : (Instr.makeSlice 66 (.int .i64 4097) (.int .i64 4097)).run Tryz.prog w4.drew = .ok (.slice (some ⟨w4.heap.size, 0, none⟩) 4097 4097) (w4.drew.alloc (.cells R 5)) := hmk w4.drew
  have hcv4 : (convert 66 9 (.slice (some ⟨w4.heap.size, 0, none⟩) 4097 4097)).run Tryz.prog (w4.drew.alloc (.cells R 5)) = .ok (.string (zb 4097)) (w4.drew.alloc (.cells R 5)) := hcv _ _ (row_alloc w4.drew _ _)
  have hcv5 : (convert 66 9 (.slice (some ⟨w4.heap.size, 0, none⟩) 4097 4097)).run Tryz.prog (w4.alloc (.cells R 5)).drew = .ok (.string (zb 4097)) (w4.alloc (.cells R 5)).drew := hcv _ _ (row_alloc w4 _ _)
  have hzz := zb_size 4097
  generalize hZB : zb 4097 = ZB at hcv4 hcv5 hzz
  have HZB := Hid.mk'' hZB
  clear hZB hmk hcv
  have HMK : Hid (∀ W, Below w4.heap.size w4 W → W.ownsRow lo 57 6 (.slice (some ⟨lo + 1, 0, none⟩) 1 1) 1 (opsC [kOp]) ∧ lo ≤ W.heap.size ∧ W.heap[tb]? = some (.cells #[.slice none 0 0, .slice (some ⟨lo + 1, 0, none⟩) 1 1, .slice none 0 0] 36 (0, 0)) ∧ tb < W.heap.size) := fun W hb => ⟨⟨rfl, .inr ⟨lo + 1, 1, #[.int .i64 0, .string ⟨#[97]⟩, .string ⟨#[]⟩, .string ⟨#[120]⟩, .int .i64 0, .int .i64 0], rfl, by omega, (hb.block (lo + 1) (by have := HRF.out.sz; omega)).trans HRF.out.rw_, Nat.le_refl _, by decide, rfl, rfl⟩⟩, Nat.le_trans hlw hb.size, (hb.block tb hlt).trans HRF.out.tx, Nat.lt_of_lt_of_le hlt hb.size⟩
  have HSR : Hid (∀ W, W.heap[w4.heap.size + 1]? = some (.cells #[.int .i64 0, .string ⟨#[98]⟩, .string ⟨#[]⟩, .string ZB, .int .i64 0, .int .i64 0] 57 (0, 0)) → Src Tryz.prog 6 34 (.slice (some ⟨w4.heap.size + 1, 0, none⟩) 1 1) 1 (opsC [(⟨0, ⟨#[98]⟩, ⟨#[]⟩, ZB, 0, 0⟩ : Opd)]) W) := fun W hr => Src.ofSlice _ Tryz.underlying34 ⟨w4.heap.size + 1, 0, none⟩ 1 1 _ rfl (fun j u hj => by
    rw [Addr.add_lit, Nat.zero_add, cell_of_row _ _ _ _ _ _ hr]; simpa [opsC, opC] using hj) (fun u hu => by simp [opsC, opC] at hu; rcases hu with rfl | rfl | rfl | rfl | rfl | rfl <;> rfl)
  have HNE : Hid (¬ some tb = (Value.slice (some ⟨lo + 1, 0, none⟩) 1 1).ownBlock) := fun e => by
    have e' : some tb = some (lo + 1) := e
    injection e' with e'
    have := HRF.out.tb
    omega
  have HAP : Hid (∀ (V w6 : World) (v' : Value), Below w4.heap.size w4 V → w6.ownsRow lo 57 6 v' (1 + 1) (opsC [kOp] ++ opsC [(⟨0, ⟨#[98]⟩, ⟨#[]⟩, ZB, 0, 0⟩ : Opd)]) → Upd V w6 (fun k => some k = (Value.slice (some ⟨lo + 1, 0, none⟩) 1 1).ownBlock) → (v'.ownBlock = (Value.slice (some ⟨lo + 1, 0, none⟩) 1 1).ownBlock ∨ v'.ownBlock = some V.heap.size) → w6.cell? ⟨tb, 1, none⟩ = some (.slice (some ⟨lo + 1, 0, none⟩) 1 1) ∧ w6.frozen? ⟨tb, 1, none⟩ = false ∧ ∃ np nc, v' = .slice np 2 nc ∧ Hid (TBx (w6.setCell ⟨tb, 1, none⟩ (.slice np 2 nc)) s g lo w6.heap.size tb (.slice none 0 0) (.slice np 2 nc) (.slice none 0 0) ⟨[], [kOp, (⟨0, ⟨#[98]⟩, ⟨#[]⟩, ZB, 0, 0⟩ : Opd)], []⟩ ∧ Q9 w (w6.setCell ⟨tb, 1, none⟩ (.slice np 2 nc)) s 0 noS g)) := fun V w6 v' hb q1 q2 q3 => by
    obtain ⟨m1, m2, m3, m4⟩ := HMK.out V hb
    have q6 := (q2.block tb m4 HNE.out).trans m3
    obtain ⟨np, nc, rfl⟩ := owns_formB0 q1
    exact ⟨cell_of_row _ _ _ _ _ _ q6, frozen_of_row w6 tb 1 _ _ q6, np, nc, rfl, rf_app HRF.out (⟨0, ⟨#[98]⟩, ⟨#[]⟩, ZB, 0, 0⟩ : Opd) hb q1 q2 q3 ⟨(by decide : (⟨#[98]⟩ : ByteArray).size ≤ 100000), (by decide : (⟨#[]⟩ : ByteArray).size ≤ 100000), by show ZB.size ≤ _; omega⟩⟩
  have HROW : Hid (((w4.alloc (.cells R 5)).alloc (.cells #[.int .i64 0, .string ⟨#[98]⟩, .string ⟨#[]⟩, .string ZB, .int .i64 0, .int .i64 0] 57)).heap[w4.heap.size + 1]? = some (.cells #[.int .i64 0, .string ⟨#[98]⟩, .string ⟨#[]⟩, .string ZB, .int .i64 0, .int .i64 0] 57 (0, 0))) := by
    have := row_alloc (w4.alloc (.cells R 5)) #[.int .i64 0, .string ⟨#[98]⟩, .string ⟨#[]⟩, .string ZB, .int .i64 0, .int .i64 0] 57
    rw [show (w4.alloc (.cells R 5)).heap.size = w4.heap.size + 1 by simp] at this
    exact this
  have k1 : w4.drew.cell? ⟨tb, 1, none⟩ = some (.slice (some ⟨lo + 1, 0, none⟩) 1 1) := c1
  go_region_law (refine step_appS _ rfl _ _ 34 34 rfl lo 57 t9 _ 6 Tryz.underlying34 hti hz0 hz1 rfl (by rw [hz2]; decide) (.slice (some ⟨lo + 1, 0, none⟩) 1 1) 1 (opsC [kOp]) (by simp [Act.eval]) (HMK.out _ (by first | exact ((Below.refl _ _).drew.alloc (Nat.le_refl _) _).alloc (by simp) _ | exact (((Below.refl _ _).alloc (Nat.le_refl _) _).alloc (by simp) _).drew | exact (((Below.refl _ _).alloc (Nat.le_refl _) _).drew).alloc (by simp) _)).1 (.slice (some ⟨w4.heap.size + 1, 0, none⟩) 1 1) (by simp [Act.eval]) 1 (opsC [(⟨0, ⟨#[98]⟩, ⟨#[]⟩, ZB, 0, 0⟩ : Opd)]) (HSR.out _ HROW.out) (by omega) (HMK.out _ (by first | exact ((Below.refl _ _).drew.alloc (Nat.le_refl _) _).alloc (by simp) _ | exact (((Below.refl _ _).alloc (Nat.le_refl _) _).alloc (by simp) _).drew | exact (((Below.refl _ _).alloc (Nat.le_refl _) _).drew).alloc (by simp) _)).2.1 ?_; intro v' w6 q1 q2 q3 q4; obtain ⟨d0, d1, np, nc, rfl, hX⟩ := HAP.out _ _ _ (by first | exact ((Below.refl _ _).drew.alloc (Nat.le_refl _) _).alloc (by simp) _ | exact (((Below.refl _ _).alloc (Nat.le_refl _) _).alloc (by simp) _).drew | exact (((Below.refl _ _).alloc (Nat.le_refl _) _).drew).alloc (by simp) _) q1 q2 q3; clear q1 q2 q3 q4)
  all_goals
    go_upto_region 41 with fail
    obtain ⟨w7, hw7⟩ : ∃ w7, w7 = w6.setCell ⟨tb, 1, none⟩ (.slice np 2 nc) := ⟨_, rfl⟩
    rw [← hw7]
    obtain ⟨hT, hQ7⟩ := hX.out
    rw [← hw7] at hT hQ7
    clear hw7 hX d0 d1 o0 o1 o2 o3 o4 o5 c0 c1 c2 f0 f2 hlt hlw hcv4 hcv5 hmk4 k1
    obtain ⟨hL, hLq, hb8⟩ := ls_new hQ7
    have hdo := (hQ7.below hb8).refused hL hLq _ (hT.below hb8) 5 (by decide) (by rw [← HZB.out]; exact tx_of_check e4 (by decide)) (by simp) (by simp) (by simp) (by decide)
    obtain ⟨y0, y1, y2⟩ := (hT.below hb8).cells
    clear hL hLq hb8 hT hQ7
    go_upto_region 42 with (go_at_call 16; with_reducible refine hdo.mono ?_; rintro e w9 ⟨rfl, g2, HG⟩)
    have hrev : Calls Tryz.prog 20 #[ptr s] w9 fun e w' => e = .returned (.int .i64 0) ∧ w' = w9 := HG.out.rev
    go_wp2_with (go_at_call 20; refine hrev.mono ?_; rintro e w10 ⟨rfl, hw10⟩; obtain rfl := hw10.symm)
    go_ret
    exact ⟨rfl, HG.out.bel⟩
/-- TxnRefuses' walk. -/
theorem refuses_walk (x : Int) (w : World) (_h : -9223372036854775808 ≤ x ∧ x ≤ 9223372036854775807) : Calls Tryz.prog 7 #[.int .i64 x] w fun e w' => e = .returned (.bool true) ∧ Below w.heap.size w w' := by
  have hb := withinF_bd x 12 (by decide)
  obtain ⟨k, hk⟩ : ∃ k, k = withinF x 12 := ⟨_, rfl⟩
  rw [← hk] at hb
  have : k = 0 ∨ k = 1 ∨ k = 2 ∨ k = 3 ∨ k = 4 ∨ k = 5 ∨ k = 6 ∨ k = 7 ∨ k = 8 ∨ k = 9 ∨ k = 10 ∨ k = 11 := by omega
  rcases this with h | h | h | h | h | h | h | h | h | h | h | h
  · exact refuses_0 x w (hk.symm.trans h)
  · exact refuses_1 x w (hk.symm.trans h)
  · exact refuses_2 x w (hk.symm.trans h)
  · exact refuses_3 x w (hk.symm.trans h)
  · exact refuses_4 x w (hk.symm.trans h)
  · exact refuses_5 x w (hk.symm.trans h)
  · exact refuses_6 x w (hk.symm.trans h)
  · exact refuses_7 x w (hk.symm.trans h)
  · exact refuses_8 x w (hk.symm.trans h)
  · exact refuses_9 x w (hk.symm.trans h)
  · exact refuses_10 x w (hk.symm.trans h)
  · exact refuses_11 x w (hk.symm.trans h)
end Go.Proofs.YtgbobegoknmiaaaGreat
