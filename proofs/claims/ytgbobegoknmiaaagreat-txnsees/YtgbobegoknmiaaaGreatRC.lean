/- TxnRefuses, kind by kind. -/
import Derived.Test.YtgbobegoknmiaaaGreatRB
namespace Go.Proofs.YtgbobegoknmiaaaGreat
open Go Go.RowKit

theorem infoOp : (Tryz.prog.info? 57).map (fun i => (i.zero, i.size, i.bytes)) = some (some (.agg #[.int .i64 0, .string ⟨#[]⟩, .string ⟨#[]⟩, .string ⟨#[]⟩, .int .i64 0, .int .i64 0]), 6, 72) := by kernel_rfl
set_option maxRecDepth 100000 in
set_option maxHeartbeats 2000000 in
theorem refuses_0 (x : Int) (w : World) (hk : withinF x 12 = 0) : Calls Tryz.prog 7 #[.int .i64 x] w fun e w' => e = .returned (.bool true) ∧ Below w.heap.size w w' := by
  have hkn := known_any w
  obtain ⟨t9, hti, hz0, hz1, hz2⟩ := info_parts infoOp
  go_enter Tryz.func7, Tryz.ntmps7
  go_upto_region 3 with (go_at_call 9; refine hkn.mono ?_; rintro e w1 ⟨rfl, hb1⟩)
  have hnew := new_q9 w w1 hb1
  clear hb1 hkn
  go_upto_region 6 with (go_at_call 10; refine hnew.mono ?_; rintro e w2 ⟨s, g, rfl, HQ⟩)
  obtain ⟨lo, hlo⟩ : ∃ lo, lo = w2.heap.size := ⟨_, rfl⟩
  rw [← hlo]
  obtain ⟨w4, hw4⟩ : ∃ w4, w4 = ((w2.alloc (.cells #[.int .i64 0, .string ⟨#[97]⟩, .string ⟨#[]⟩, .string ⟨#[120]⟩, .int .i64 0, .int .i64 0] 57)).alloc (.cells #[.int .i64 0, .string ⟨#[97]⟩, .string ⟨#[]⟩, .string ⟨#[120]⟩, .int .i64 0, .int .i64 0] 57)).alloc (.cells #[.slice none 0 0, .slice (some ⟨lo + 1, 0, none⟩) 1 1, .slice none 0 0] 36) := ⟨_, rfl⟩
  rw [← hw4]
  obtain ⟨tb, htb⟩ : ∃ tb, tb = lo + 1 + 1 := ⟨_, rfl⟩
  rw [← htb]
  have hRF := rf_new HQ.out.1 w4 lo tb hlo htb hw4
  have HRF := Hid.mk'' hRF
  have hwi := within_any x 12 w4 (by decide) (by decide)
  rw [hk] at hwi
  obtain ⟨⟨o0, o1, o2, o3, o4, o5⟩, -⟩ := box6 hRF.ob
  have c0 : w4.cell? ⟨tb, 0, none⟩ = some (.slice none 0 0) := cell_of_row _ _ _ _ _ _ hRF.tx
  have c1 : w4.cell? ⟨tb, 1, none⟩ = some (.slice (some ⟨lo + 1, 0, none⟩) 1 1) := cell_of_row _ _ _ _ _ _ hRF.tx
  have c2 : w4.cell? ⟨tb, 2, none⟩ = some (.slice none 0 0) := cell_of_row _ _ _ _ _ _ hRF.tx
  have f0 := frozen_of_row w4 tb 0 _ _ hRF.tx
  have f2 := frozen_of_row w4 tb 2 _ _ hRF.tx
  have hlt : tb < w4.heap.size := by have := hRF.sz; omega
  have hlw : lo ≤ w4.heap.size := by have := hRF.sz; omega
  clear hnew HQ hw4 hlo htb hRF hk
  go_upto_region 9 with (go_at_call 21; refine hwi.mono ?_; rintro e w5 ⟨rfl, hw5⟩; obtain rfl := hw5.symm)
  clear hwi
  have hba : Below w4.heap.size w4 (w4.alloc (.cells #[.int .i64 0, .string ⟨#[97]⟩, .string ⟨#[]⟩, .string ⟨#[120]⟩, .int .i64 0, .int .i64 0] 57)) := (Below.refl _ w4).alloc (Nat.le_refl _) _
  have hsrc : Src Tryz.prog 6 34 (.slice (some ⟨w4.heap.size, 0, none⟩) 1 1) 1 (opsC [kOp]) (w4.alloc (.cells #[.int .i64 0, .string ⟨#[97]⟩, .string ⟨#[]⟩, .string ⟨#[120]⟩, .int .i64 0, .int .i64 0] 57)) := Src.ofSlice _ Tryz.underlying34 ⟨w4.heap.size, 0, none⟩ 1 1 _ rfl (fun j u hj => by
    rw [Addr.add_lit, Nat.zero_add, cell_of_row _ _ _ _ _ _ (row_alloc w4 _ 57)]; simpa [opsC, opC, kOp] using hj) (fun u hu => by simp [opsC, opC, kOp] at hu; rcases hu with rfl | rfl | rfl | rfl | rfl | rfl <;> rfl)
  have hown : (w4.alloc (.cells #[.int .i64 0, .string ⟨#[97]⟩, .string ⟨#[]⟩, .string ⟨#[120]⟩, .int .i64 0, .int .i64 0] 57)).ownsRow lo 57 6 (.slice (some ⟨lo + 1, 0, none⟩) 1 1) 1 (opsC [kOp]) := ⟨rfl, .inr ⟨lo + 1, 1, #[.int .i64 0, .string ⟨#[97]⟩, .string ⟨#[]⟩, .string ⟨#[120]⟩, .int .i64 0, .int .i64 0], rfl, by omega, (hba.block (lo + 1) (by have := HRF.out.sz; omega)).trans HRF.out.rw_, Nat.le_refl _, by decide, rfl, rfl⟩⟩
  have HBA := Hid.mk'' hba
  have HSZ := Hid.mk'' HRF.out.sz
  have HTB := Hid.mk'' HRF.out.tb
  have hlw2 : lo ≤ (w4.alloc (.cells #[.int .i64 0, .string ⟨#[97]⟩, .string ⟨#[]⟩, .string ⟨#[120]⟩, .int .i64 0, .int .i64 0] 57)).heap.size := by simp; omega
  have HBX : Hid ((w4.alloc (.cells #[.int .i64 0, .string ⟨#[97]⟩, .string ⟨#[]⟩, .string ⟨#[120]⟩, .int .i64 0, .int .i64 0] 57)).heap[tb]? = some (.cells #[.slice none 0 0, .slice (some ⟨lo + 1, 0, none⟩) 1 1, .slice none 0 0] 36 (0, 0)) ∧ tb < (w4.alloc (.cells #[.int .i64 0, .string ⟨#[97]⟩, .string ⟨#[]⟩, .string ⟨#[120]⟩, .int .i64 0, .int .i64 0] 57)).heap.size) := ⟨(hba.block tb hlt).trans HRF.out.tx, Nat.lt_of_lt_of_le hlt hba.size⟩
  have HNE : Hid (¬ some tb = (Value.slice (some ⟨lo + 1, 0, none⟩) 1 1).ownBlock) := fun e => by
    have e' : some tb = some (lo + 1) := e
    injection e' with e'
    have := HRF.out.tb
    omega
  clear hba
  go_upto_region 41 with (at_builtin; refine wpList_appS _ rfl (.tmp 22) (.tmp 24) 34 34 rfl lo 57 t9 _ 6 Tryz.underlying34 hti hz0 hz1 rfl (by rw [hz2]; decide) _ 1 (opsC [kOp]) rfl hown _ rfl 1 (opsC [kOp]) hsrc (by omega) hlw2 ?_; intro v' w6 q1 q2 q3 q4; clear q4; obtain ⟨np, nc, hnv⟩ := owns_formB0 q1; subst hnv; have q6 := (q2.block tb HBX.out.2 HNE.out).trans HBX.out.1; have k1 : w6.cell? ⟨tb, 1, none⟩ = some (.slice (some ⟨lo + 1, 0, none⟩) 1 1) := cell_of_row _ _ _ _ _ _ q6; have g1 := frozen_of_row w6 tb 1 _ _ q6; have HQ1 := Hid.mk'' q1; have HQ2 := Hid.mk'' q2; have HQ3 := Hid.mk'' q3; clear q1 q2 q3 q6)
  obtain ⟨w7, hw7⟩ : ∃ w7, w7 = w6.setCell ⟨tb, 1, none⟩ (.slice np (1 + 1) nc) := ⟨_, rfl⟩
  rw [← hw7]
  obtain ⟨hT, hQ7⟩ := rf_app HRF.out (kOp) HBA.out HQ1.out HQ2.out (HQ3.out.imp id id) ⟨by decide, by decide, by decide⟩
  rw [← show w7 = w6.setCell ⟨tb, 1, none⟩ (.slice np 2 nc) from hw7] at hT hQ7
  clear hw7 hsrc hown hlw2 HBX HBA HSZ HTB HQ1 HQ2 HQ3 k1 g1 o0 o1 o2 o3 o4 o5 c0 c1 c2 f0 f2 hlt hlw
  obtain ⟨hL, hLq, hb8⟩ := ls_new hQ7
  have hdo := (hQ7.below hb8).refused hL hLq _ (hT.below hb8) 18 (by decide) (tx_of_check e0 (by decide)) (by simp) (by simp) (by simp) (by decide)
  obtain ⟨y0, y1, y2⟩ := (hT.below hb8).cells
  clear hL hLq hb8 hT hQ7
  go_upto_region 42 with (go_at_call 16; with_reducible refine hdo.mono ?_; rintro e w9 ⟨rfl, g2, HG⟩)
  have hrev : Calls Tryz.prog 20 #[ptr s] w9 fun e w' => e = .returned (.int .i64 0) ∧ w' = w9 := HG.out.rev
  go_wp2_with (go_at_call 20; refine hrev.mono ?_; rintro e w10 ⟨rfl, hw10⟩; obtain rfl := hw10.symm)
  go_ret
  exact ⟨rfl, HG.out.bel⟩
set_option maxRecDepth 100000 in
set_option maxHeartbeats 2000000 in
theorem refuses_1 (x : Int) (w : World) (hk : withinF x 12 = 1) : Calls Tryz.prog 7 #[.int .i64 x] w fun e w' => e = .returned (.bool true) ∧ Below w.heap.size w w' := by
  have hkn := known_any w
  obtain ⟨t9, hti, hz0, hz1, hz2⟩ := info_parts infoOp
  go_enter Tryz.func7, Tryz.ntmps7
  go_upto_region 3 with (go_at_call 9; refine hkn.mono ?_; rintro e w1 ⟨rfl, hb1⟩)
  have hnew := new_q9 w w1 hb1
  clear hb1 hkn
  go_upto_region 6 with (go_at_call 10; refine hnew.mono ?_; rintro e w2 ⟨s, g, rfl, HQ⟩)
  obtain ⟨lo, hlo⟩ : ∃ lo, lo = w2.heap.size := ⟨_, rfl⟩
  rw [← hlo]
  obtain ⟨w4, hw4⟩ : ∃ w4, w4 = ((w2.alloc (.cells #[.int .i64 0, .string ⟨#[97]⟩, .string ⟨#[]⟩, .string ⟨#[120]⟩, .int .i64 0, .int .i64 0] 57)).alloc (.cells #[.int .i64 0, .string ⟨#[97]⟩, .string ⟨#[]⟩, .string ⟨#[120]⟩, .int .i64 0, .int .i64 0] 57)).alloc (.cells #[.slice none 0 0, .slice (some ⟨lo + 1, 0, none⟩) 1 1, .slice none 0 0] 36) := ⟨_, rfl⟩
  rw [← hw4]
  obtain ⟨tb, htb⟩ : ∃ tb, tb = lo + 1 + 1 := ⟨_, rfl⟩
  rw [← htb]
  have hRF := rf_new HQ.out.1 w4 lo tb hlo htb hw4
  have HRF := Hid.mk'' hRF
  have hwi := within_any x 12 w4 (by decide) (by decide)
  rw [hk] at hwi
  obtain ⟨⟨o0, o1, o2, o3, o4, o5⟩, -⟩ := box6 hRF.ob
  have c0 : w4.cell? ⟨tb, 0, none⟩ = some (.slice none 0 0) := cell_of_row _ _ _ _ _ _ hRF.tx
  have c1 : w4.cell? ⟨tb, 1, none⟩ = some (.slice (some ⟨lo + 1, 0, none⟩) 1 1) := cell_of_row _ _ _ _ _ _ hRF.tx
  have c2 : w4.cell? ⟨tb, 2, none⟩ = some (.slice none 0 0) := cell_of_row _ _ _ _ _ _ hRF.tx
  have f0 := frozen_of_row w4 tb 0 _ _ hRF.tx
  have f2 := frozen_of_row w4 tb 2 _ _ hRF.tx
  have hlt : tb < w4.heap.size := by have := hRF.sz; omega
  have hlw : lo ≤ w4.heap.size := by have := hRF.sz; omega
  clear hnew HQ hw4 hlo htb hRF hk
  go_upto_region 12 with (go_at_call 21; refine hwi.mono ?_; rintro e w5 ⟨rfl, hw5⟩; obtain rfl := hw5.symm)
  clear hwi
  have hba : Below w4.heap.size w4 (w4.alloc (.cells #[.int .i64 1, .string ⟨#[97]⟩, .string ⟨#[]⟩, .string ⟨#[]⟩, .int .i64 0, .int .i64 0] 57)) := (Below.refl _ w4).alloc (Nat.le_refl _) _
  have hsrc : Src Tryz.prog 6 34 (.slice (some ⟨w4.heap.size, 0, none⟩) 1 1) 1 (opsC [(⟨1, ⟨#[97]⟩, ⟨#[]⟩, ⟨#[]⟩, 0, 0⟩ : Opd)]) (w4.alloc (.cells #[.int .i64 1, .string ⟨#[97]⟩, .string ⟨#[]⟩, .string ⟨#[]⟩, .int .i64 0, .int .i64 0] 57)) := Src.ofSlice _ Tryz.underlying34 ⟨w4.heap.size, 0, none⟩ 1 1 _ rfl (fun j u hj => by
    rw [Addr.add_lit, Nat.zero_add, cell_of_row _ _ _ _ _ _ (row_alloc w4 _ 57)]; simpa [opsC, opC] using hj) (fun u hu => by simp [opsC, opC] at hu; rcases hu with rfl | rfl | rfl | rfl | rfl | rfl <;> rfl)
  have hown : (w4.alloc (.cells #[.int .i64 1, .string ⟨#[97]⟩, .string ⟨#[]⟩, .string ⟨#[]⟩, .int .i64 0, .int .i64 0] 57)).ownsRow lo 57 6 (.slice (some ⟨lo + 1, 0, none⟩) 1 1) 1 (opsC [kOp]) := ⟨rfl, .inr ⟨lo + 1, 1, #[.int .i64 0, .string ⟨#[97]⟩, .string ⟨#[]⟩, .string ⟨#[120]⟩, .int .i64 0, .int .i64 0], rfl, by omega, (hba.block (lo + 1) (by have := HRF.out.sz; omega)).trans HRF.out.rw_, Nat.le_refl _, by decide, rfl, rfl⟩⟩
  have HBA := Hid.mk'' hba
  have HSZ := Hid.mk'' HRF.out.sz
  have HTB := Hid.mk'' HRF.out.tb
  have hlw2 : lo ≤ (w4.alloc (.cells #[.int .i64 1, .string ⟨#[97]⟩, .string ⟨#[]⟩, .string ⟨#[]⟩, .int .i64 0, .int .i64 0] 57)).heap.size := by simp; omega
  have HBX : Hid ((w4.alloc (.cells #[.int .i64 1, .string ⟨#[97]⟩, .string ⟨#[]⟩, .string ⟨#[]⟩, .int .i64 0, .int .i64 0] 57)).heap[tb]? = some (.cells #[.slice none 0 0, .slice (some ⟨lo + 1, 0, none⟩) 1 1, .slice none 0 0] 36 (0, 0)) ∧ tb < (w4.alloc (.cells #[.int .i64 1, .string ⟨#[97]⟩, .string ⟨#[]⟩, .string ⟨#[]⟩, .int .i64 0, .int .i64 0] 57)).heap.size) := ⟨(hba.block tb hlt).trans HRF.out.tx, Nat.lt_of_lt_of_le hlt hba.size⟩
  have HNE : Hid (¬ some tb = (Value.slice (some ⟨lo + 1, 0, none⟩) 1 1).ownBlock) := fun e => by
    have e' : some tb = some (lo + 1) := e
    injection e' with e'
    have := HRF.out.tb
    omega
  clear hba
  go_upto_region 41 with (at_builtin; refine wpList_appS _ rfl (.tmp 30) (.tmp 32) 34 34 rfl lo 57 t9 _ 6 Tryz.underlying34 hti hz0 hz1 rfl (by rw [hz2]; decide) _ 1 (opsC [kOp]) rfl hown _ rfl 1 (opsC [(⟨1, ⟨#[97]⟩, ⟨#[]⟩, ⟨#[]⟩, 0, 0⟩ : Opd)]) hsrc (by omega) hlw2 ?_; intro v' w6 q1 q2 q3 q4; clear q4; obtain ⟨np, nc, hnv⟩ := owns_formB0 q1; subst hnv; have q6 := (q2.block tb HBX.out.2 HNE.out).trans HBX.out.1; have k1 : w6.cell? ⟨tb, 1, none⟩ = some (.slice (some ⟨lo + 1, 0, none⟩) 1 1) := cell_of_row _ _ _ _ _ _ q6; have g1 := frozen_of_row w6 tb 1 _ _ q6; have HQ1 := Hid.mk'' q1; have HQ2 := Hid.mk'' q2; have HQ3 := Hid.mk'' q3; clear q1 q2 q3 q6)
  obtain ⟨w7, hw7⟩ : ∃ w7, w7 = w6.setCell ⟨tb, 1, none⟩ (.slice np (1 + 1) nc) := ⟨_, rfl⟩
  rw [← hw7]
  obtain ⟨hT, hQ7⟩ := rf_app HRF.out ((⟨1, ⟨#[97]⟩, ⟨#[]⟩, ⟨#[]⟩, 0, 0⟩ : Opd)) HBA.out HQ1.out HQ2.out (HQ3.out.imp id id) ⟨by decide, by decide, by decide⟩
  rw [← show w7 = w6.setCell ⟨tb, 1, none⟩ (.slice np 2 nc) from hw7] at hT hQ7
  clear hw7 hsrc hown hlw2 HBX HBA HSZ HTB HQ1 HQ2 HQ3 k1 g1 o0 o1 o2 o3 o4 o5 c0 c1 c2 f0 f2 hlt hlw
  obtain ⟨hL, hLq, hb8⟩ := ls_new hQ7
  have hdo := (hQ7.below hb8).refused hL hLq _ (hT.below hb8) 18 (by decide) (tx_of_check e1 (by decide)) (by simp) (by simp) (by simp) (by decide)
  obtain ⟨y0, y1, y2⟩ := (hT.below hb8).cells
  clear hL hLq hb8 hT hQ7
  go_upto_region 42 with (go_at_call 16; with_reducible refine hdo.mono ?_; rintro e w9 ⟨rfl, g2, HG⟩)
  have hrev : Calls Tryz.prog 20 #[ptr s] w9 fun e w' => e = .returned (.int .i64 0) ∧ w' = w9 := HG.out.rev
  go_wp2_with (go_at_call 20; refine hrev.mono ?_; rintro e w10 ⟨rfl, hw10⟩; obtain rfl := hw10.symm)
  go_ret
  exact ⟨rfl, HG.out.bel⟩
set_option maxRecDepth 100000 in
set_option maxHeartbeats 2000000 in
theorem refuses_2 (x : Int) (w : World) (hk : withinF x 12 = 2) : Calls Tryz.prog 7 #[.int .i64 x] w fun e w' => e = .returned (.bool true) ∧ Below w.heap.size w w' := by
  have hkn := known_any w
  obtain ⟨t9, hti, hz0, hz1, hz2⟩ := info_parts infoOp
  go_enter Tryz.func7, Tryz.ntmps7
  go_upto_region 3 with (go_at_call 9; refine hkn.mono ?_; rintro e w1 ⟨rfl, hb1⟩)
  have hnew := new_q9 w w1 hb1
  clear hb1 hkn
  go_upto_region 6 with (go_at_call 10; refine hnew.mono ?_; rintro e w2 ⟨s, g, rfl, HQ⟩)
  obtain ⟨lo, hlo⟩ : ∃ lo, lo = w2.heap.size := ⟨_, rfl⟩
  rw [← hlo]
  obtain ⟨w4, hw4⟩ : ∃ w4, w4 = ((w2.alloc (.cells #[.int .i64 0, .string ⟨#[97]⟩, .string ⟨#[]⟩, .string ⟨#[120]⟩, .int .i64 0, .int .i64 0] 57)).alloc (.cells #[.int .i64 0, .string ⟨#[97]⟩, .string ⟨#[]⟩, .string ⟨#[120]⟩, .int .i64 0, .int .i64 0] 57)).alloc (.cells #[.slice none 0 0, .slice (some ⟨lo + 1, 0, none⟩) 1 1, .slice none 0 0] 36) := ⟨_, rfl⟩
  rw [← hw4]
  obtain ⟨tb, htb⟩ : ∃ tb, tb = lo + 1 + 1 := ⟨_, rfl⟩
  rw [← htb]
  have hRF := rf_new HQ.out.1 w4 lo tb hlo htb hw4
  have HRF := Hid.mk'' hRF
  have hwi := within_any x 12 w4 (by decide) (by decide)
  rw [hk] at hwi
  obtain ⟨⟨o0, o1, o2, o3, o4, o5⟩, -⟩ := box6 hRF.ob
  have c0 : w4.cell? ⟨tb, 0, none⟩ = some (.slice none 0 0) := cell_of_row _ _ _ _ _ _ hRF.tx
  have c1 : w4.cell? ⟨tb, 1, none⟩ = some (.slice (some ⟨lo + 1, 0, none⟩) 1 1) := cell_of_row _ _ _ _ _ _ hRF.tx
  have c2 : w4.cell? ⟨tb, 2, none⟩ = some (.slice none 0 0) := cell_of_row _ _ _ _ _ _ hRF.tx
  have f0 := frozen_of_row w4 tb 0 _ _ hRF.tx
  have f2 := frozen_of_row w4 tb 2 _ _ hRF.tx
  have hlt : tb < w4.heap.size := by have := hRF.sz; omega
  have hlw : lo ≤ w4.heap.size := by have := hRF.sz; omega
  clear hnew HQ hw4 hlo htb hRF hk
  go_upto_region 15 with (go_at_call 21; refine hwi.mono ?_; rintro e w5 ⟨rfl, hw5⟩; obtain rfl := hw5.symm)
  clear hwi
  have hba : Below w4.heap.size w4 (w4.alloc (.cells #[.int .i64 1, .string ⟨#[90]⟩, .string ⟨#[98]⟩, .string ⟨#[]⟩, .int .i64 0, .int .i64 0] 57)) := (Below.refl _ w4).alloc (Nat.le_refl _) _
  have hsrc : Src Tryz.prog 6 34 (.slice (some ⟨w4.heap.size, 0, none⟩) 1 1) 1 (opsC [(⟨1, ⟨#[90]⟩, ⟨#[98]⟩, ⟨#[]⟩, 0, 0⟩ : Opd)]) (w4.alloc (.cells #[.int .i64 1, .string ⟨#[90]⟩, .string ⟨#[98]⟩, .string ⟨#[]⟩, .int .i64 0, .int .i64 0] 57)) := Src.ofSlice _ Tryz.underlying34 ⟨w4.heap.size, 0, none⟩ 1 1 _ rfl (fun j u hj => by
    rw [Addr.add_lit, Nat.zero_add, cell_of_row _ _ _ _ _ _ (row_alloc w4 _ 57)]; simpa [opsC, opC] using hj) (fun u hu => by simp [opsC, opC] at hu; rcases hu with rfl | rfl | rfl | rfl | rfl | rfl <;> rfl)
  have hown : (w4.alloc (.cells #[.int .i64 1, .string ⟨#[90]⟩, .string ⟨#[98]⟩, .string ⟨#[]⟩, .int .i64 0, .int .i64 0] 57)).ownsRow lo 57 6 (.slice (some ⟨lo + 1, 0, none⟩) 1 1) 1 (opsC [kOp]) := ⟨rfl, .inr ⟨lo + 1, 1, #[.int .i64 0, .string ⟨#[97]⟩, .string ⟨#[]⟩, .string ⟨#[120]⟩, .int .i64 0, .int .i64 0], rfl, by omega, (hba.block (lo + 1) (by have := HRF.out.sz; omega)).trans HRF.out.rw_, Nat.le_refl _, by decide, rfl, rfl⟩⟩
  have HBA := Hid.mk'' hba
  have HSZ := Hid.mk'' HRF.out.sz
  have HTB := Hid.mk'' HRF.out.tb
  have hlw2 : lo ≤ (w4.alloc (.cells #[.int .i64 1, .string ⟨#[90]⟩, .string ⟨#[98]⟩, .string ⟨#[]⟩, .int .i64 0, .int .i64 0] 57)).heap.size := by simp; omega
  have HBX : Hid ((w4.alloc (.cells #[.int .i64 1, .string ⟨#[90]⟩, .string ⟨#[98]⟩, .string ⟨#[]⟩, .int .i64 0, .int .i64 0] 57)).heap[tb]? = some (.cells #[.slice none 0 0, .slice (some ⟨lo + 1, 0, none⟩) 1 1, .slice none 0 0] 36 (0, 0)) ∧ tb < (w4.alloc (.cells #[.int .i64 1, .string ⟨#[90]⟩, .string ⟨#[98]⟩, .string ⟨#[]⟩, .int .i64 0, .int .i64 0] 57)).heap.size) := ⟨(hba.block tb hlt).trans HRF.out.tx, Nat.lt_of_lt_of_le hlt hba.size⟩
  have HNE : Hid (¬ some tb = (Value.slice (some ⟨lo + 1, 0, none⟩) 1 1).ownBlock) := fun e => by
    have e' : some tb = some (lo + 1) := e
    injection e' with e'
    have := HRF.out.tb
    omega
  clear hba
  go_upto_region 41 with (at_builtin; refine wpList_appS _ rfl (.tmp 38) (.tmp 40) 34 34 rfl lo 57 t9 _ 6 Tryz.underlying34 hti hz0 hz1 rfl (by rw [hz2]; decide) _ 1 (opsC [kOp]) rfl hown _ rfl 1 (opsC [(⟨1, ⟨#[90]⟩, ⟨#[98]⟩, ⟨#[]⟩, 0, 0⟩ : Opd)]) hsrc (by omega) hlw2 ?_; intro v' w6 q1 q2 q3 q4; clear q4; obtain ⟨np, nc, hnv⟩ := owns_formB0 q1; subst hnv; have q6 := (q2.block tb HBX.out.2 HNE.out).trans HBX.out.1; have k1 : w6.cell? ⟨tb, 1, none⟩ = some (.slice (some ⟨lo + 1, 0, none⟩) 1 1) := cell_of_row _ _ _ _ _ _ q6; have g1 := frozen_of_row w6 tb 1 _ _ q6; have HQ1 := Hid.mk'' q1; have HQ2 := Hid.mk'' q2; have HQ3 := Hid.mk'' q3; clear q1 q2 q3 q6)
  obtain ⟨w7, hw7⟩ : ∃ w7, w7 = w6.setCell ⟨tb, 1, none⟩ (.slice np (1 + 1) nc) := ⟨_, rfl⟩
  rw [← hw7]
  obtain ⟨hT, hQ7⟩ := rf_app HRF.out ((⟨1, ⟨#[90]⟩, ⟨#[98]⟩, ⟨#[]⟩, 0, 0⟩ : Opd)) HBA.out HQ1.out HQ2.out (HQ3.out.imp id id) ⟨by decide, by decide, by decide⟩
  rw [← show w7 = w6.setCell ⟨tb, 1, none⟩ (.slice np 2 nc) from hw7] at hT hQ7
  clear hw7 hsrc hown hlw2 HBX HBA HSZ HTB HQ1 HQ2 HQ3 k1 g1 o0 o1 o2 o3 o4 o5 c0 c1 c2 f0 f2 hlt hlw
  obtain ⟨hL, hLq, hb8⟩ := ls_new hQ7
  have hdo := (hQ7.below hb8).refused hL hLq _ (hT.below hb8) 18 (by decide) (tx_of_check e2 (by decide)) (by simp) (by simp) (by simp) (by decide)
  obtain ⟨y0, y1, y2⟩ := (hT.below hb8).cells
  clear hL hLq hb8 hT hQ7
  go_upto_region 42 with (go_at_call 16; with_reducible refine hdo.mono ?_; rintro e w9 ⟨rfl, g2, HG⟩)
  have hrev : Calls Tryz.prog 20 #[ptr s] w9 fun e w' => e = .returned (.int .i64 0) ∧ w' = w9 := HG.out.rev
  go_wp2_with (go_at_call 20; refine hrev.mono ?_; rintro e w10 ⟨rfl, hw10⟩; obtain rfl := hw10.symm)
  go_ret
  exact ⟨rfl, HG.out.bel⟩
set_option maxRecDepth 100000 in
set_option maxHeartbeats 2000000 in
theorem refuses_3 (x : Int) (w : World) (hk : withinF x 12 = 3) : Calls Tryz.prog 7 #[.int .i64 x] w fun e w' => e = .returned (.bool true) ∧ Below w.heap.size w w' := by
  have hkn := known_any w
  obtain ⟨t9, hti, hz0, hz1, hz2⟩ := info_parts infoOp
  go_enter Tryz.func7, Tryz.ntmps7
  go_upto_region 3 with (go_at_call 9; refine hkn.mono ?_; rintro e w1 ⟨rfl, hb1⟩)
  have hnew := new_q9 w w1 hb1
  clear hb1 hkn
  go_upto_region 6 with (go_at_call 10; refine hnew.mono ?_; rintro e w2 ⟨s, g, rfl, HQ⟩)
  obtain ⟨lo, hlo⟩ : ∃ lo, lo = w2.heap.size := ⟨_, rfl⟩
  rw [← hlo]
  obtain ⟨w4, hw4⟩ : ∃ w4, w4 = ((w2.alloc (.cells #[.int .i64 0, .string ⟨#[97]⟩, .string ⟨#[]⟩, .string ⟨#[120]⟩, .int .i64 0, .int .i64 0] 57)).alloc (.cells #[.int .i64 0, .string ⟨#[97]⟩, .string ⟨#[]⟩, .string ⟨#[120]⟩, .int .i64 0, .int .i64 0] 57)).alloc (.cells #[.slice none 0 0, .slice (some ⟨lo + 1, 0, none⟩) 1 1, .slice none 0 0] 36) := ⟨_, rfl⟩
  rw [← hw4]
  obtain ⟨tb, htb⟩ : ∃ tb, tb = lo + 1 + 1 := ⟨_, rfl⟩
  rw [← htb]
  have hRF := rf_new HQ.out.1 w4 lo tb hlo htb hw4
  have HRF := Hid.mk'' hRF
  have hwi := within_any x 12 w4 (by decide) (by decide)
  rw [hk] at hwi
  obtain ⟨⟨o0, o1, o2, o3, o4, o5⟩, -⟩ := box6 hRF.ob
  have c0 : w4.cell? ⟨tb, 0, none⟩ = some (.slice none 0 0) := cell_of_row _ _ _ _ _ _ hRF.tx
  have c1 : w4.cell? ⟨tb, 1, none⟩ = some (.slice (some ⟨lo + 1, 0, none⟩) 1 1) := cell_of_row _ _ _ _ _ _ hRF.tx
  have c2 : w4.cell? ⟨tb, 2, none⟩ = some (.slice none 0 0) := cell_of_row _ _ _ _ _ _ hRF.tx
  have f0 := frozen_of_row w4 tb 0 _ _ hRF.tx
  have f2 := frozen_of_row w4 tb 2 _ _ hRF.tx
  have hlt : tb < w4.heap.size := by have := hRF.sz; omega
  have hlw : lo ≤ w4.heap.size := by have := hRF.sz; omega
  clear hnew HQ hw4 hlo htb hRF hk
  go_upto_region 18 with (go_at_call 21; refine hwi.mono ?_; rintro e w5 ⟨rfl, hw5⟩; obtain rfl := hw5.symm)
  clear hwi
  have hba : Below w4.heap.size w4 (w4.alloc (.cells #[.int .i64 0, .string ⟨#[98]⟩, .string ⟨#[]⟩, .string ⟨#[]⟩, .int .i64 9, .int .i64 0] 57)) := (Below.refl _ w4).alloc (Nat.le_refl _) _
  have hsrc : Src Tryz.prog 6 34 (.slice (some ⟨w4.heap.size, 0, none⟩) 1 1) 1 (opsC [(⟨0, ⟨#[98]⟩, ⟨#[]⟩, ⟨#[]⟩, 9, 0⟩ : Opd)]) (w4.alloc (.cells #[.int .i64 0, .string ⟨#[98]⟩, .string ⟨#[]⟩, .string ⟨#[]⟩, .int .i64 9, .int .i64 0] 57)) := Src.ofSlice _ Tryz.underlying34 ⟨w4.heap.size, 0, none⟩ 1 1 _ rfl (fun j u hj => by
    rw [Addr.add_lit, Nat.zero_add, cell_of_row _ _ _ _ _ _ (row_alloc w4 _ 57)]; simpa [opsC, opC] using hj) (fun u hu => by simp [opsC, opC] at hu; rcases hu with rfl | rfl | rfl | rfl | rfl | rfl <;> rfl)
  have hown : (w4.alloc (.cells #[.int .i64 0, .string ⟨#[98]⟩, .string ⟨#[]⟩, .string ⟨#[]⟩, .int .i64 9, .int .i64 0] 57)).ownsRow lo 57 6 (.slice (some ⟨lo + 1, 0, none⟩) 1 1) 1 (opsC [kOp]) := ⟨rfl, .inr ⟨lo + 1, 1, #[.int .i64 0, .string ⟨#[97]⟩, .string ⟨#[]⟩, .string ⟨#[120]⟩, .int .i64 0, .int .i64 0], rfl, by omega, (hba.block (lo + 1) (by have := HRF.out.sz; omega)).trans HRF.out.rw_, Nat.le_refl _, by decide, rfl, rfl⟩⟩
  have HBA := Hid.mk'' hba
  have HSZ := Hid.mk'' HRF.out.sz
  have HTB := Hid.mk'' HRF.out.tb
  have hlw2 : lo ≤ (w4.alloc (.cells #[.int .i64 0, .string ⟨#[98]⟩, .string ⟨#[]⟩, .string ⟨#[]⟩, .int .i64 9, .int .i64 0] 57)).heap.size := by simp; omega
  have HBX : Hid ((w4.alloc (.cells #[.int .i64 0, .string ⟨#[98]⟩, .string ⟨#[]⟩, .string ⟨#[]⟩, .int .i64 9, .int .i64 0] 57)).heap[tb]? = some (.cells #[.slice none 0 0, .slice (some ⟨lo + 1, 0, none⟩) 1 1, .slice none 0 0] 36 (0, 0)) ∧ tb < (w4.alloc (.cells #[.int .i64 0, .string ⟨#[98]⟩, .string ⟨#[]⟩, .string ⟨#[]⟩, .int .i64 9, .int .i64 0] 57)).heap.size) := ⟨(hba.block tb hlt).trans HRF.out.tx, Nat.lt_of_lt_of_le hlt hba.size⟩
  have HNE : Hid (¬ some tb = (Value.slice (some ⟨lo + 1, 0, none⟩) 1 1).ownBlock) := fun e => by
    have e' : some tb = some (lo + 1) := e
    injection e' with e'
    have := HRF.out.tb
    omega
  clear hba
  go_upto_region 41 with (at_builtin; refine wpList_appS _ rfl (.tmp 46) (.tmp 48) 34 34 rfl lo 57 t9 _ 6 Tryz.underlying34 hti hz0 hz1 rfl (by rw [hz2]; decide) _ 1 (opsC [kOp]) rfl hown _ rfl 1 (opsC [(⟨0, ⟨#[98]⟩, ⟨#[]⟩, ⟨#[]⟩, 9, 0⟩ : Opd)]) hsrc (by omega) hlw2 ?_; intro v' w6 q1 q2 q3 q4; clear q4; obtain ⟨np, nc, hnv⟩ := owns_formB0 q1; subst hnv; have q6 := (q2.block tb HBX.out.2 HNE.out).trans HBX.out.1; have k1 : w6.cell? ⟨tb, 1, none⟩ = some (.slice (some ⟨lo + 1, 0, none⟩) 1 1) := cell_of_row _ _ _ _ _ _ q6; have g1 := frozen_of_row w6 tb 1 _ _ q6; have HQ1 := Hid.mk'' q1; have HQ2 := Hid.mk'' q2; have HQ3 := Hid.mk'' q3; clear q1 q2 q3 q6)
  obtain ⟨w7, hw7⟩ : ∃ w7, w7 = w6.setCell ⟨tb, 1, none⟩ (.slice np (1 + 1) nc) := ⟨_, rfl⟩
  rw [← hw7]
  obtain ⟨hT, hQ7⟩ := rf_app HRF.out ((⟨0, ⟨#[98]⟩, ⟨#[]⟩, ⟨#[]⟩, 9, 0⟩ : Opd)) HBA.out HQ1.out HQ2.out (HQ3.out.imp id id) ⟨by decide, by decide, by decide⟩
  rw [← show w7 = w6.setCell ⟨tb, 1, none⟩ (.slice np 2 nc) from hw7] at hT hQ7
  clear hw7 hsrc hown hlw2 HBX HBA HSZ HTB HQ1 HQ2 HQ3 k1 g1 o0 o1 o2 o3 o4 o5 c0 c1 c2 f0 f2 hlt hlw
  obtain ⟨hL, hLq, hb8⟩ := ls_new hQ7
  have hdo := (hQ7.below hb8).refused hL hLq _ (hT.below hb8) 19 (by decide) (e3) (by simp) (by simp) (by simp) (by decide)
  obtain ⟨y0, y1, y2⟩ := (hT.below hb8).cells
  clear hL hLq hb8 hT hQ7
  go_upto_region 42 with (go_at_call 16; with_reducible refine hdo.mono ?_; rintro e w9 ⟨rfl, g2, HG⟩)
  have hrev : Calls Tryz.prog 20 #[ptr s] w9 fun e w' => e = .returned (.int .i64 0) ∧ w' = w9 := HG.out.rev
  go_wp2_with (go_at_call 20; refine hrev.mono ?_; rintro e w10 ⟨rfl, hw10⟩; obtain rfl := hw10.symm)
  go_ret
  exact ⟨rfl, HG.out.bel⟩
set_option maxRecDepth 100000 in
set_option maxHeartbeats 2000000 in
theorem refuses_5 (x : Int) (w : World) (hk : withinF x 12 = 5) : Calls Tryz.prog 7 #[.int .i64 x] w fun e w' => e = .returned (.bool true) ∧ Below w.heap.size w w' := by
  have hkn := known_any w
  obtain ⟨t9, hti, hz0, hz1, hz2⟩ := info_parts infoOp
  go_enter Tryz.func7, Tryz.ntmps7
  go_upto_region 3 with (go_at_call 9; refine hkn.mono ?_; rintro e w1 ⟨rfl, hb1⟩)
  have hnew := new_q9 w w1 hb1
  clear hb1 hkn
  go_upto_region 6 with (go_at_call 10; refine hnew.mono ?_; rintro e w2 ⟨s, g, rfl, HQ⟩)
  obtain ⟨lo, hlo⟩ : ∃ lo, lo = w2.heap.size := ⟨_, rfl⟩
  rw [← hlo]
  obtain ⟨w4, hw4⟩ : ∃ w4, w4 = ((w2.alloc (.cells #[.int .i64 0, .string ⟨#[97]⟩, .string ⟨#[]⟩, .string ⟨#[120]⟩, .int .i64 0, .int .i64 0] 57)).alloc (.cells #[.int .i64 0, .string ⟨#[97]⟩, .string ⟨#[]⟩, .string ⟨#[120]⟩, .int .i64 0, .int .i64 0] 57)).alloc (.cells #[.slice none 0 0, .slice (some ⟨lo + 1, 0, none⟩) 1 1, .slice none 0 0] 36) := ⟨_, rfl⟩
  rw [← hw4]
  obtain ⟨tb, htb⟩ : ∃ tb, tb = lo + 1 + 1 := ⟨_, rfl⟩
  rw [← htb]
  have hRF := rf_new HQ.out.1 w4 lo tb hlo htb hw4
  have HRF := Hid.mk'' hRF
  have hwi := within_any x 12 w4 (by decide) (by decide)
  rw [hk] at hwi
  obtain ⟨⟨o0, o1, o2, o3, o4, o5⟩, -⟩ := box6 hRF.ob
  have c0 : w4.cell? ⟨tb, 0, none⟩ = some (.slice none 0 0) := cell_of_row _ _ _ _ _ _ hRF.tx
  have c1 : w4.cell? ⟨tb, 1, none⟩ = some (.slice (some ⟨lo + 1, 0, none⟩) 1 1) := cell_of_row _ _ _ _ _ _ hRF.tx
  have c2 : w4.cell? ⟨tb, 2, none⟩ = some (.slice none 0 0) := cell_of_row _ _ _ _ _ _ hRF.tx
  have f0 := frozen_of_row w4 tb 0 _ _ hRF.tx
  have f2 := frozen_of_row w4 tb 2 _ _ hRF.tx
  have hlt : tb < w4.heap.size := by have := hRF.sz; omega
  have hlw : lo ≤ w4.heap.size := by have := hRF.sz; omega
  clear hnew HQ hw4 hlo htb hRF hk
  go_upto_region 24 with (go_at_call 21; refine hwi.mono ?_; rintro e w5 ⟨rfl, hw5⟩; obtain rfl := hw5.symm)
  clear hwi
  have hba : Below w4.heap.size w4 (w4.alloc (.cells #[.int .i64 0, .string ⟨#[]⟩, .string ⟨#[]⟩, .string ⟨#[]⟩, .int .i64 0, .int .i64 0] 57)) := (Below.refl _ w4).alloc (Nat.le_refl _) _
  have hsrc : Src Tryz.prog 6 34 (.slice (some ⟨w4.heap.size, 0, none⟩) 1 1) 1 (opsC [(⟨0, ⟨#[]⟩, ⟨#[]⟩, ⟨#[]⟩, 0, 0⟩ : Opd)]) (w4.alloc (.cells #[.int .i64 0, .string ⟨#[]⟩, .string ⟨#[]⟩, .string ⟨#[]⟩, .int .i64 0, .int .i64 0] 57)) := Src.ofSlice _ Tryz.underlying34 ⟨w4.heap.size, 0, none⟩ 1 1 _ rfl (fun j u hj => by
    rw [Addr.add_lit, Nat.zero_add, cell_of_row _ _ _ _ _ _ (row_alloc w4 _ 57)]; simpa [opsC, opC] using hj) (fun u hu => by simp [opsC, opC] at hu; rcases hu with rfl | rfl | rfl | rfl | rfl | rfl <;> rfl)
  have hown : (w4.alloc (.cells #[.int .i64 0, .string ⟨#[]⟩, .string ⟨#[]⟩, .string ⟨#[]⟩, .int .i64 0, .int .i64 0] 57)).ownsRow lo 57 6 (.slice (some ⟨lo + 1, 0, none⟩) 1 1) 1 (opsC [kOp]) := ⟨rfl, .inr ⟨lo + 1, 1, #[.int .i64 0, .string ⟨#[97]⟩, .string ⟨#[]⟩, .string ⟨#[120]⟩, .int .i64 0, .int .i64 0], rfl, by omega, (hba.block (lo + 1) (by have := HRF.out.sz; omega)).trans HRF.out.rw_, Nat.le_refl _, by decide, rfl, rfl⟩⟩
  have HBA := Hid.mk'' hba
  have HSZ := Hid.mk'' HRF.out.sz
  have HTB := Hid.mk'' HRF.out.tb
  have hlw2 : lo ≤ (w4.alloc (.cells #[.int .i64 0, .string ⟨#[]⟩, .string ⟨#[]⟩, .string ⟨#[]⟩, .int .i64 0, .int .i64 0] 57)).heap.size := by simp; omega
  have HBX : Hid ((w4.alloc (.cells #[.int .i64 0, .string ⟨#[]⟩, .string ⟨#[]⟩, .string ⟨#[]⟩, .int .i64 0, .int .i64 0] 57)).heap[tb]? = some (.cells #[.slice none 0 0, .slice (some ⟨lo + 1, 0, none⟩) 1 1, .slice none 0 0] 36 (0, 0)) ∧ tb < (w4.alloc (.cells #[.int .i64 0, .string ⟨#[]⟩, .string ⟨#[]⟩, .string ⟨#[]⟩, .int .i64 0, .int .i64 0] 57)).heap.size) := ⟨(hba.block tb hlt).trans HRF.out.tx, Nat.lt_of_lt_of_le hlt hba.size⟩
  have HNE : Hid (¬ some tb = (Value.slice (some ⟨lo + 1, 0, none⟩) 1 1).ownBlock) := fun e => by
    have e' : some tb = some (lo + 1) := e
    injection e' with e'
    have := HRF.out.tb
    omega
  clear hba
  go_upto_region 41 with (at_builtin; refine wpList_appS _ rfl (.tmp 64) (.tmp 66) 34 34 rfl lo 57 t9 _ 6 Tryz.underlying34 hti hz0 hz1 rfl (by rw [hz2]; decide) _ 1 (opsC [kOp]) rfl hown _ rfl 1 (opsC [(⟨0, ⟨#[]⟩, ⟨#[]⟩, ⟨#[]⟩, 0, 0⟩ : Opd)]) hsrc (by omega) hlw2 ?_; intro v' w6 q1 q2 q3 q4; clear q4; obtain ⟨np, nc, hnv⟩ := owns_formB0 q1; subst hnv; have q6 := (q2.block tb HBX.out.2 HNE.out).trans HBX.out.1; have k1 : w6.cell? ⟨tb, 1, none⟩ = some (.slice (some ⟨lo + 1, 0, none⟩) 1 1) := cell_of_row _ _ _ _ _ _ q6; have g1 := frozen_of_row w6 tb 1 _ _ q6; have HQ1 := Hid.mk'' q1; have HQ2 := Hid.mk'' q2; have HQ3 := Hid.mk'' q3; clear q1 q2 q3 q6)
  obtain ⟨w7, hw7⟩ : ∃ w7, w7 = w6.setCell ⟨tb, 1, none⟩ (.slice np (1 + 1) nc) := ⟨_, rfl⟩
  rw [← hw7]
  obtain ⟨hT, hQ7⟩ := rf_app HRF.out ((⟨0, ⟨#[]⟩, ⟨#[]⟩, ⟨#[]⟩, 0, 0⟩ : Opd)) HBA.out HQ1.out HQ2.out (HQ3.out.imp id id) ⟨by decide, by decide, by decide⟩
  rw [← show w7 = w6.setCell ⟨tb, 1, none⟩ (.slice np 2 nc) from hw7] at hT hQ7
  clear hw7 hsrc hown hlw2 HBX HBA HSZ HTB HQ1 HQ2 HQ3 k1 g1 o0 o1 o2 o3 o4 o5 c0 c1 c2 f0 f2 hlt hlw
  obtain ⟨hL, hLq, hb8⟩ := ls_new hQ7
  have hdo := (hQ7.below hb8).refused hL hLq _ (hT.below hb8) 1 (by decide) (tx_of_check e5 (by decide)) (by simp) (by simp) (by simp) (by decide)
  obtain ⟨y0, y1, y2⟩ := (hT.below hb8).cells
  clear hL hLq hb8 hT hQ7
  go_upto_region 42 with (go_at_call 16; with_reducible refine hdo.mono ?_; rintro e w9 ⟨rfl, g2, HG⟩)
  have hrev : Calls Tryz.prog 20 #[ptr s] w9 fun e w' => e = .returned (.int .i64 0) ∧ w' = w9 := HG.out.rev
  go_wp2_with (go_at_call 20; refine hrev.mono ?_; rintro e w10 ⟨rfl, hw10⟩; obtain rfl := hw10.symm)
  go_ret
  exact ⟨rfl, HG.out.bel⟩
set_option maxRecDepth 100000 in
set_option maxHeartbeats 2000000 in
theorem refuses_6 (x : Int) (w : World) (hk : withinF x 12 = 6) : Calls Tryz.prog 7 #[.int .i64 x] w fun e w' => e = .returned (.bool true) ∧ Below w.heap.size w w' := by
  have hkn := known_any w
  obtain ⟨t9, hti, hz0, hz1, hz2⟩ := info_parts infoOp
  go_enter Tryz.func7, Tryz.ntmps7
  go_upto_region 3 with (go_at_call 9; refine hkn.mono ?_; rintro e w1 ⟨rfl, hb1⟩)
  have hnew := new_q9 w w1 hb1
  clear hb1 hkn
  go_upto_region 6 with (go_at_call 10; refine hnew.mono ?_; rintro e w2 ⟨s, g, rfl, HQ⟩)
  obtain ⟨lo, hlo⟩ : ∃ lo, lo = w2.heap.size := ⟨_, rfl⟩
  rw [← hlo]
  obtain ⟨w4, hw4⟩ : ∃ w4, w4 = ((w2.alloc (.cells #[.int .i64 0, .string ⟨#[97]⟩, .string ⟨#[]⟩, .string ⟨#[120]⟩, .int .i64 0, .int .i64 0] 57)).alloc (.cells #[.int .i64 0, .string ⟨#[97]⟩, .string ⟨#[]⟩, .string ⟨#[120]⟩, .int .i64 0, .int .i64 0] 57)).alloc (.cells #[.slice none 0 0, .slice (some ⟨lo + 1, 0, none⟩) 1 1, .slice none 0 0] 36) := ⟨_, rfl⟩
  rw [← hw4]
  obtain ⟨tb, htb⟩ : ∃ tb, tb = lo + 1 + 1 := ⟨_, rfl⟩
  rw [← htb]
  have hRF := rf_new HQ.out.1 w4 lo tb hlo htb hw4
  have HRF := Hid.mk'' hRF
  have hwi := within_any x 12 w4 (by decide) (by decide)
  rw [hk] at hwi
  obtain ⟨⟨o0, o1, o2, o3, o4, o5⟩, -⟩ := box6 hRF.ob
  have c0 : w4.cell? ⟨tb, 0, none⟩ = some (.slice none 0 0) := cell_of_row _ _ _ _ _ _ hRF.tx
  have c1 : w4.cell? ⟨tb, 1, none⟩ = some (.slice (some ⟨lo + 1, 0, none⟩) 1 1) := cell_of_row _ _ _ _ _ _ hRF.tx
  have c2 : w4.cell? ⟨tb, 2, none⟩ = some (.slice none 0 0) := cell_of_row _ _ _ _ _ _ hRF.tx
  have f0 := frozen_of_row w4 tb 0 _ _ hRF.tx
  have f2 := frozen_of_row w4 tb 2 _ _ hRF.tx
  have hlt : tb < w4.heap.size := by have := hRF.sz; omega
  have hlw : lo ≤ w4.heap.size := by have := hRF.sz; omega
  clear hnew HQ hw4 hlo htb hRF hk
  go_upto_region 26 with (go_at_call 21; refine hwi.mono ?_; rintro e w5 ⟨rfl, hw5⟩; obtain rfl := hw5.symm)
  clear hwi
  have hba : Below w4.heap.size w4 (w4.alloc (.cells #[.int .i64 3, .string ⟨#[98]⟩, .string ⟨#[]⟩, .string ⟨#[]⟩, .int .i64 0, .int .i64 0] 57)) := (Below.refl _ w4).alloc (Nat.le_refl _) _
  have hsrc : Src Tryz.prog 6 34 (.slice (some ⟨w4.heap.size, 0, none⟩) 1 1) 1 (opsC [(⟨3, ⟨#[98]⟩, ⟨#[]⟩, ⟨#[]⟩, 0, 0⟩ : Opd)]) (w4.alloc (.cells #[.int .i64 3, .string ⟨#[98]⟩, .string ⟨#[]⟩, .string ⟨#[]⟩, .int .i64 0, .int .i64 0] 57)) := Src.ofSlice _ Tryz.underlying34 ⟨w4.heap.size, 0, none⟩ 1 1 _ rfl (fun j u hj => by
    rw [Addr.add_lit, Nat.zero_add, cell_of_row _ _ _ _ _ _ (row_alloc w4 _ 57)]; simpa [opsC, opC] using hj) (fun u hu => by simp [opsC, opC] at hu; rcases hu with rfl | rfl | rfl | rfl | rfl | rfl <;> rfl)
  have hown : (w4.alloc (.cells #[.int .i64 3, .string ⟨#[98]⟩, .string ⟨#[]⟩, .string ⟨#[]⟩, .int .i64 0, .int .i64 0] 57)).ownsRow lo 57 6 (.slice (some ⟨lo + 1, 0, none⟩) 1 1) 1 (opsC [kOp]) := ⟨rfl, .inr ⟨lo + 1, 1, #[.int .i64 0, .string ⟨#[97]⟩, .string ⟨#[]⟩, .string ⟨#[120]⟩, .int .i64 0, .int .i64 0], rfl, by omega, (hba.block (lo + 1) (by have := HRF.out.sz; omega)).trans HRF.out.rw_, Nat.le_refl _, by decide, rfl, rfl⟩⟩
  have HBA := Hid.mk'' hba
  have HSZ := Hid.mk'' HRF.out.sz
  have HTB := Hid.mk'' HRF.out.tb
  have hlw2 : lo ≤ (w4.alloc (.cells #[.int .i64 3, .string ⟨#[98]⟩, .string ⟨#[]⟩, .string ⟨#[]⟩, .int .i64 0, .int .i64 0] 57)).heap.size := by simp; omega
  have HBX : Hid ((w4.alloc (.cells #[.int .i64 3, .string ⟨#[98]⟩, .string ⟨#[]⟩, .string ⟨#[]⟩, .int .i64 0, .int .i64 0] 57)).heap[tb]? = some (.cells #[.slice none 0 0, .slice (some ⟨lo + 1, 0, none⟩) 1 1, .slice none 0 0] 36 (0, 0)) ∧ tb < (w4.alloc (.cells #[.int .i64 3, .string ⟨#[98]⟩, .string ⟨#[]⟩, .string ⟨#[]⟩, .int .i64 0, .int .i64 0] 57)).heap.size) := ⟨(hba.block tb hlt).trans HRF.out.tx, Nat.lt_of_lt_of_le hlt hba.size⟩
  have HNE : Hid (¬ some tb = (Value.slice (some ⟨lo + 1, 0, none⟩) 1 1).ownBlock) := fun e => by
    have e' : some tb = some (lo + 1) := e
    injection e' with e'
    have := HRF.out.tb
    omega
  clear hba
  go_upto_region 41 with (at_builtin; refine wpList_appS _ rfl (.tmp 72) (.tmp 74) 34 34 rfl lo 57 t9 _ 6 Tryz.underlying34 hti hz0 hz1 rfl (by rw [hz2]; decide) _ 1 (opsC [kOp]) rfl hown _ rfl 1 (opsC [(⟨3, ⟨#[98]⟩, ⟨#[]⟩, ⟨#[]⟩, 0, 0⟩ : Opd)]) hsrc (by omega) hlw2 ?_; intro v' w6 q1 q2 q3 q4; clear q4; obtain ⟨np, nc, hnv⟩ := owns_formB0 q1; subst hnv; have q6 := (q2.block tb HBX.out.2 HNE.out).trans HBX.out.1; have k1 : w6.cell? ⟨tb, 1, none⟩ = some (.slice (some ⟨lo + 1, 0, none⟩) 1 1) := cell_of_row _ _ _ _ _ _ q6; have g1 := frozen_of_row w6 tb 1 _ _ q6; have HQ1 := Hid.mk'' q1; have HQ2 := Hid.mk'' q2; have HQ3 := Hid.mk'' q3; clear q1 q2 q3 q6)
  obtain ⟨w7, hw7⟩ : ∃ w7, w7 = w6.setCell ⟨tb, 1, none⟩ (.slice np (1 + 1) nc) := ⟨_, rfl⟩
  rw [← hw7]
  obtain ⟨hT, hQ7⟩ := rf_app HRF.out ((⟨3, ⟨#[98]⟩, ⟨#[]⟩, ⟨#[]⟩, 0, 0⟩ : Opd)) HBA.out HQ1.out HQ2.out (HQ3.out.imp id id) ⟨by decide, by decide, by decide⟩
  rw [← show w7 = w6.setCell ⟨tb, 1, none⟩ (.slice np 2 nc) from hw7] at hT hQ7
  clear hw7 hsrc hown hlw2 HBX HBA HSZ HTB HQ1 HQ2 HQ3 k1 g1 o0 o1 o2 o3 o4 o5 c0 c1 c2 f0 f2 hlt hlw
  obtain ⟨hL, hLq, hb8⟩ := ls_new hQ7
  have hdo := (hQ7.below hb8).refused hL hLq _ (hT.below hb8) 3 (by decide) (tx_of_check e6 (by decide)) (by simp) (by simp) (by simp) (by decide)
  obtain ⟨y0, y1, y2⟩ := (hT.below hb8).cells
  clear hL hLq hb8 hT hQ7
  go_upto_region 42 with (go_at_call 16; with_reducible refine hdo.mono ?_; rintro e w9 ⟨rfl, g2, HG⟩)
  have hrev : Calls Tryz.prog 20 #[ptr s] w9 fun e w' => e = .returned (.int .i64 0) ∧ w' = w9 := HG.out.rev
  go_wp2_with (go_at_call 20; refine hrev.mono ?_; rintro e w10 ⟨rfl, hw10⟩; obtain rfl := hw10.symm)
  go_ret
  exact ⟨rfl, HG.out.bel⟩
end Go.Proofs.YtgbobegoknmiaaaGreat
