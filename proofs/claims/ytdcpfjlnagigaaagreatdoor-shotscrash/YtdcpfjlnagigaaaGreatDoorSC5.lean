/- ShotsCrash, walked. -/
import Derived.Test.YtdcpfjlnagigaaaGreatDoorSC4
namespace Go.Proofs.YtdcpfjlnagigaaaGreatDoor
open Go Go.RowKit
set_option maxRecDepth 100000 in
set_option maxHeartbeats 4000000 in
theorem crash_tt (hPY : ParseYes) (ao bo po : Option Addr) (na ca nb cb np cp : Nat) (x4 : Int) (za zb zp : List Int) (w : World) (hT : HasTab w) (h2 : Two za zb) (ha : Sees w (.slice ao na ca) za) (hb : Sees w (.slice bo nb cb) zb) (hp : SeesI w (.slice po np cp) zp) (hs : na + nb ≤ 2000) (hnp : np ≤ 50) :
    Calls Tryz.prog 4 #[.slice ao na ca, .slice bo nb cb, .bool true, .bool true, .int .i64 x4, .slice po np cp] w fun e w' => e = .returned (.bool true) ∧ Below w.heap.size w w' := by
  have hkn := known_any hPY w hT
  have hg1 : decide ((2000 : Int) < na + nb) = false := by simp; omega
  have hg2 : decide ((50 : Int) < np) = false := by simp; omega
  have HT := Hid.mk' hT
  have HA := Hid.mk' ha
  have HB := Hid.mk' hb
  have HP := Hid.mk' hp
  have H2 := Hid.mk' h2
  clear hT ha hb hp h2
  go_enter Tryz.func4, Tryz.ntmps4
  go_wp2_with (go_at_call 6; refine hkn.mono ?_; rintro e w1 ⟨rfl, hb1⟩)
  have hnew := new_dk w.heap.size 65536 w1 (by decide) hb1.size
  refine hnew.mono ?_
  rintro e w2 ⟨d, hde, rfl, hd2, hb2⟩
  have hbb2 : Below w.heap.size w w2 := hb1.trans (hb2.mono hb1.size)
  have hs3 := save3_step d _ _ (.slice ao na ca) w w2 za zb H2.out (cc0 za zb) hd2 hbb2 HT.out play0 HA.out
  clear hde hd2 hb1 hb2 hkn hnew hbb2
  go_wp2_with fail
  refine hs3.mono ?_
  rintro e w3 ⟨rfl, g3, p3, hd3, hb3, hc3, hp3⟩
  have HD := Hid.mk' hd3
  have HBE := Hid.mk' hb3
  have HC := Hid.mk' hc3
  have HPL := Hid.mk' hp3
  clear hs3 hd3 hb3 hc3 hp3
  have hs9 := save9_step d g3 p3 (.slice bo nb cb) w w3 za zb H2.out (by decide) (by decide) HC.out HD.out HBE.out HT.out HPL.out HB.out
  clear HD HBE HC HPL
  go_wp2_with fail
  refine hs9.mono ?_
  rintro e w4 ⟨rfl, g4, p4, hd4, hb4, hc4, hp4⟩
  have HD := Hid.mk' hd4
  have HBE := Hid.mk' hb4
  have HC := Hid.mk' hc4
  have HPL := Hid.mk' hp4
  clear hs9 hd4 hb4 hc4 hp4
  have hwi := fun W => within_any x4 6 W (by decide) (by decide)
  have hwb := withinF_bd x4 6 (by decide)
  obtain ⟨n, hn⟩ : ∃ n : Int, n = 1 + withinF x4 ((6 : Nat) : Int) := ⟨_, rfl⟩
  have hn1 : 1 ≤ n ∧ n ≤ 6 := by omega
  have hst := stop_step d g4 p4 n w w4 hn1 HD.out HBE.out HPL.out
  generalize withinF x4 ((6 : Nat) : Int) = y at *
  have hwr : 1 + y = n := hn.symm
  clear HD HBE HPL hn
  go_wp2_with (first | (go_at_call 7; refine (hwi _).mono ?_; rintro e w' ⟨rfl, rfl⟩))
  refine hst.mono ?_
  rintro e w5 ⟨rfl, hd5, hb5, hp5⟩
  have hnx := trim_step hPY d g4 p4 n w w5 za zb H2.out (by decide) HC.out hd5 hb5 HT.out hp5
  clear hst hd5 hb5 hp5 HC hwi hwb hwr hn1
  go_wp2_with fail
  refine hnx.mono ?_
  rintro e w6 ⟨x, g6, p6, rfl, hd6, hb6, haf, hp6⟩
  have hcr := crashed_step d g6 p6 (.slice po np cp) zp w w6 (by decide) hd6 hb6 hp6 HP.out
  obtain ⟨hCr, hk9, hk3⟩ := haf.crash zp
  have hxe := haf.err
  have HCr := Hid.mk' hCr
  have HK9 := Hid.mk' hk9
  have HK3 := Hid.mk' hk3
  clear hnx hd6 hb6 haf hp6 hCr hk9 hk3
  go_wp2_with fail
  refine hcr.mono ?_
  rintro e w7 ⟨y7, g7, rfl, hd7, hb7, hp7⟩
  have hlo := load_step hPY d g7 w w7 H2.out HCr.out (by decide) hd7 hb7 hp7 HT.out
  clear hcr hd7 hb7 hp7 HCr
  go_wp2_with fail
  refine hlo.mono ?_
  rintro e w8 ⟨hres, hb8⟩
  clear hlo
  have HB8 : Hid (Sees w8 (.slice bo nb cb) zb) := HB.out.upd (Upd.ofBelow hb8 : Upd w w8 (fun _ => False)) (fun _ _ _ => id)
  have HA8 : Hid (Sees w8 (.slice ao na ca) za) := HA.out.upd (Upd.ofBelow hb8 : Upd w w8 (fun _ => False)) (fun _ _ _ => id)
  have HBE := Hid.mk' hb8
  clear hb8 HA HB HP HT H2
  rcases hres with ⟨rfl, hno9, hno3⟩ | ⟨vv, dv, rfl, hvv, hdv⟩ | ⟨hf, hno9, vv, dv, rfl, hvv, hdv⟩
  · exact absurd (HK9.out (by simp)) hno9
  · rcases hxe with rfl | rfl
    · obtain ⟨vo, vc, rfl⟩ := hvv.form
      obtain ⟨do_, dc, rfl⟩ := hdv.form
      have hx : ∀ o, Below w8.heap.size w8 (w8.alloc o) := fun o => (Below.refl _ _).alloc (Nat.le_refl _) _
      have hcx : ∀ o, (convert 35 9 (.slice do_ zb.length dc)).run Tryz.prog (w8.alloc o) = .ok (.string (strOfNums zb)) (w8.alloc o) := fun o => conv_sees (hdv.upd (Upd.ofBelow (hx o) : Upd w8 (w8.alloc o) (fun _ => False)) (fun _ _ _ => id))
      have hcb : ∀ o, (convert 35 9 (.slice bo nb cb)).run Tryz.prog (w8.alloc o) = .ok (.string (strOfNums zb)) (w8.alloc o) := fun o => conv_sees (HB8.out.upd (Upd.ofBelow (hx o) : Upd w8 (w8.alloc o) (fun _ => False)) (fun _ _ _ => id))
      rw [show ([] : List Int).length = 0 from rfl]
      generalize zb.length = zl at *
      clear hvv hdv HK9 HK3 HA8 HB8 hx
      go_wp2
      go_ret
      exact ⟨rfl, HBE.out.alloc HBE.out.size _⟩
    · obtain ⟨vo, vc, rfl⟩ := hvv.form
      obtain ⟨do_, dc, rfl⟩ := hdv.form
      have hx : ∀ o, Below w8.heap.size w8 (w8.alloc o) := fun o => (Below.refl _ _).alloc (Nat.le_refl _) _
      have hcx : ∀ o, (convert 35 9 (.slice do_ zb.length dc)).run Tryz.prog (w8.alloc o) = .ok (.string (strOfNums zb)) (w8.alloc o) := fun o => conv_sees (hdv.upd (Upd.ofBelow (hx o) : Upd w8 (w8.alloc o) (fun _ => False)) (fun _ _ _ => id))
      have hcb : ∀ o, (convert 35 9 (.slice bo nb cb)).run Tryz.prog (w8.alloc o) = .ok (.string (strOfNums zb)) (w8.alloc o) := fun o => conv_sees (HB8.out.upd (Upd.ofBelow (hx o) : Upd w8 (w8.alloc o) (fun _ => False)) (fun _ _ _ => id))
      rw [show ([] : List Int).length = 0 from rfl]
      generalize zb.length = zl at *
      clear hvv hdv HK9 HK3 HA8 HB8 hx
      go_wp2
      go_ret
      exact ⟨rfl, HBE.out.alloc HBE.out.size _⟩
  · exact absurd (HK9.out (by simp)) hno9
set_option maxRecDepth 100000 in
set_option maxHeartbeats 4000000 in
theorem crash_tf (hPY : ParseYes) (ao bo po : Option Addr) (na ca nb cb np cp : Nat) (x4 : Int) (za zb zp : List Int) (w : World) (hT : HasTab w) (h2 : Two za zb) (ha : Sees w (.slice ao na ca) za) (hb : Sees w (.slice bo nb cb) zb) (hp : SeesI w (.slice po np cp) zp) (hs : na + nb ≤ 2000) (hnp : np ≤ 50) :
    Calls Tryz.prog 4 #[.slice ao na ca, .slice bo nb cb, .bool true, .bool false, .int .i64 x4, .slice po np cp] w fun e w' => e = .returned (.bool true) ∧ Below w.heap.size w w' := by
  have hkn := known_any hPY w hT
  have hg1 : decide ((2000 : Int) < na + nb) = false := by simp; omega
  have hg2 : decide ((50 : Int) < np) = false := by simp; omega
  have HT := Hid.mk' hT
  have HA := Hid.mk' ha
  have HB := Hid.mk' hb
  have HP := Hid.mk' hp
  have H2 := Hid.mk' h2
  clear hT ha hb hp h2
  go_enter Tryz.func4, Tryz.ntmps4
  go_wp2_with (go_at_call 6; refine hkn.mono ?_; rintro e w1 ⟨rfl, hb1⟩)
  have hnew := new_dk w.heap.size 65536 w1 (by decide) hb1.size
  refine hnew.mono ?_
  rintro e w2 ⟨d, hde, rfl, hd2, hb2⟩
  have hbb2 : Below w.heap.size w w2 := hb1.trans (hb2.mono hb1.size)
  have hs3 := save3_step d _ _ (.slice ao na ca) w w2 za zb H2.out (cc0 za zb) hd2 hbb2 HT.out play0 HA.out
  clear hde hd2 hb1 hb2 hkn hnew hbb2
  go_wp2_with fail
  refine hs3.mono ?_
  rintro e w3 ⟨rfl, g3, p3, hd3, hb3, hc3, hp3⟩
  have HD := Hid.mk' hd3
  have HBE := Hid.mk' hb3
  have HC := Hid.mk' hc3
  have HPL := Hid.mk' hp3
  clear hs3 hd3 hb3 hc3 hp3
  have hwi := fun W => within_any x4 6 W (by decide) (by decide)
  have hwb := withinF_bd x4 6 (by decide)
  obtain ⟨n, hn⟩ : ∃ n : Int, n = 1 + withinF x4 ((6 : Nat) : Int) := ⟨_, rfl⟩
  have hn1 : 1 ≤ n ∧ n ≤ 6 := by omega
  have hst := stop_step d g3 p3 n w w3 hn1 HD.out HBE.out HPL.out
  generalize withinF x4 ((6 : Nat) : Int) = y at *
  have hwr : 1 + y = n := hn.symm
  clear HD HBE HPL hn
  go_wp2_with (first | (go_at_call 7; refine (hwi _).mono ?_; rintro e w' ⟨rfl, rfl⟩))
  refine hst.mono ?_
  rintro e w5 ⟨rfl, hd5, hb5, hp5⟩
  have hnx := stop9_step d g3 p3 (.slice bo nb cb) n w w5 za zb H2.out hn1.1 (by decide) (by decide) HC.out hd5 hb5 HT.out hp5 HB.out
  clear hst hd5 hb5 hp5 HC hwi hwb hwr hn1
  go_wp2_with fail
  refine hnx.mono ?_
  rintro e w6 ⟨x, g6, p6, rfl, hd6, hb6, haf, hp6⟩
  have hcr := crashed_step d g6 p6 (.slice po np cp) zp w w6 (by decide) hd6 hb6 hp6 HP.out
  obtain ⟨hCr, hk9, hk3⟩ := haf.crash zp
  have hxe := haf.err
  have HCr := Hid.mk' hCr
  have HK9 := Hid.mk' hk9
  have HK3 := Hid.mk' hk3
  clear hnx hd6 hb6 haf hp6 hCr hk9 hk3
  go_wp2_with fail
  refine hcr.mono ?_
  rintro e w7 ⟨y7, g7, rfl, hd7, hb7, hp7⟩
  have hlo := load_step hPY d g7 w w7 H2.out HCr.out (by decide) hd7 hb7 hp7 HT.out
  clear hcr hd7 hb7 hp7 HCr
  go_wp2_with fail
  refine hlo.mono ?_
  rintro e w8 ⟨hres, hb8⟩
  clear hlo
  have HB8 : Hid (Sees w8 (.slice bo nb cb) zb) := HB.out.upd (Upd.ofBelow hb8 : Upd w w8 (fun _ => False)) (fun _ _ _ => id)
  have HA8 : Hid (Sees w8 (.slice ao na ca) za) := HA.out.upd (Upd.ofBelow hb8 : Upd w w8 (fun _ => False)) (fun _ _ _ => id)
  have HBE := Hid.mk' hb8
  clear hb8 HA HB HP HT H2
  rcases hres with ⟨rfl, hno9, hno3⟩ | ⟨vv, dv, rfl, hvv, hdv⟩ | ⟨hf, hno9, vv, dv, rfl, hvv, hdv⟩
  · rcases hxe with rfl | rfl
    · exact absurd (HK9.out (by simp)) hno9
    · exact absurd (HK3.out (by simp) (by simp) (by simp)) hno3
  · rcases hxe with rfl | rfl
    · obtain ⟨vo, vc, rfl⟩ := hvv.form
      obtain ⟨do_, dc, rfl⟩ := hdv.form
      have hx : ∀ o, Below w8.heap.size w8 (w8.alloc o) := fun o => (Below.refl _ _).alloc (Nat.le_refl _) _
      have hcx : ∀ o, (convert 35 9 (.slice do_ zb.length dc)).run Tryz.prog (w8.alloc o) = .ok (.string (strOfNums zb)) (w8.alloc o) := fun o => conv_sees (hdv.upd (Upd.ofBelow (hx o) : Upd w8 (w8.alloc o) (fun _ => False)) (fun _ _ _ => id))
      have hcb : ∀ o, (convert 35 9 (.slice bo nb cb)).run Tryz.prog (w8.alloc o) = .ok (.string (strOfNums zb)) (w8.alloc o) := fun o => conv_sees (HB8.out.upd (Upd.ofBelow (hx o) : Upd w8 (w8.alloc o) (fun _ => False)) (fun _ _ _ => id))
      rw [show ([] : List Int).length = 0 from rfl]
      generalize zb.length = zl at *
      clear hvv hdv HK9 HK3 HA8 HB8 hx
      go_wp2
      go_ret
      exact ⟨rfl, HBE.out.alloc HBE.out.size _⟩
    · obtain ⟨vo, vc, rfl⟩ := hvv.form
      obtain ⟨do_, dc, rfl⟩ := hdv.form
      have hx : ∀ o, Below w8.heap.size w8 (w8.alloc o) := fun o => (Below.refl _ _).alloc (Nat.le_refl _) _
      have hcx : ∀ o, (convert 35 9 (.slice do_ zb.length dc)).run Tryz.prog (w8.alloc o) = .ok (.string (strOfNums zb)) (w8.alloc o) := fun o => conv_sees (hdv.upd (Upd.ofBelow (hx o) : Upd w8 (w8.alloc o) (fun _ => False)) (fun _ _ _ => id))
      have hcb : ∀ o, (convert 35 9 (.slice bo nb cb)).run Tryz.prog (w8.alloc o) = .ok (.string (strOfNums zb)) (w8.alloc o) := fun o => conv_sees (HB8.out.upd (Upd.ofBelow (hx o) : Upd w8 (w8.alloc o) (fun _ => False)) (fun _ _ _ => id))
      rw [show ([] : List Int).length = 0 from rfl]
      generalize zb.length = zl at *
      clear hvv hdv HK9 HK3 HA8 HB8 hx
      go_wp2
      go_ret
      exact ⟨rfl, HBE.out.alloc HBE.out.size _⟩
  · rcases hxe with rfl | rfl
    · exact absurd (HK9.out (by simp)) hno9
    · clear hno9 hf
      obtain ⟨vo, vc, rfl⟩ := hvv.form
      obtain ⟨do_, dc, rfl⟩ := hdv.form
      have hx : ∀ o, Below w8.heap.size w8 (w8.alloc o) := fun o => (Below.refl _ _).alloc (Nat.le_refl _) _
      have hcx : ∀ o, (convert 35 9 (.slice do_ za.length dc)).run Tryz.prog (w8.alloc o) = .ok (.string (strOfNums za)) (w8.alloc o) := fun o => conv_sees (hdv.upd (Upd.ofBelow (hx o) : Upd w8 (w8.alloc o) (fun _ => False)) (fun _ _ _ => id))
      have hcb : ∀ o, (convert 35 9 (.slice ao na ca)).run Tryz.prog (w8.alloc o) = .ok (.string (strOfNums za)) (w8.alloc o) := fun o => conv_sees (HA8.out.upd (Upd.ofBelow (hx o) : Upd w8 (w8.alloc o) (fun _ => False)) (fun _ _ _ => id))
      rw [show ([] : List Int).length = 0 from rfl]
      generalize za.length = zl at *
      clear hvv hdv HK9 HK3 HA8 HB8 hx
      go_wp2
      go_ret
      exact ⟨rfl, HBE.out.alloc HBE.out.size _⟩
set_option maxRecDepth 100000 in
set_option maxHeartbeats 4000000 in
theorem crash_ft (hPY : ParseYes) (ao bo po : Option Addr) (na ca nb cb np cp : Nat) (x4 : Int) (za zb zp : List Int) (w : World) (hT : HasTab w) (h2 : Two za zb) (ha : Sees w (.slice ao na ca) za) (hb : Sees w (.slice bo nb cb) zb) (hp : SeesI w (.slice po np cp) zp) (hs : na + nb ≤ 2000) (hnp : np ≤ 50) :
    Calls Tryz.prog 4 #[.slice ao na ca, .slice bo nb cb, .bool false, .bool true, .int .i64 x4, .slice po np cp] w fun e w' => e = .returned (.bool true) ∧ Below w.heap.size w w' := by
  have hkn := known_any hPY w hT
  have hg1 : decide ((2000 : Int) < na + nb) = false := by simp; omega
  have hg2 : decide ((50 : Int) < np) = false := by simp; omega
  have HT := Hid.mk' hT
  have HA := Hid.mk' ha
  have HB := Hid.mk' hb
  have HP := Hid.mk' hp
  have H2 := Hid.mk' h2
  clear hT ha hb hp h2
  go_enter Tryz.func4, Tryz.ntmps4
  go_wp2_with (go_at_call 6; refine hkn.mono ?_; rintro e w1 ⟨rfl, hb1⟩)
  have hnew := new_dk w.heap.size 65536 w1 (by decide) hb1.size
  refine hnew.mono ?_
  rintro e w2 ⟨d, hde, rfl, hd2, hb2⟩
  have hbb2 : Below w.heap.size w w2 := hb1.trans (hb2.mono hb1.size)
  have HD := Hid.mk' hd2
  have HBE := Hid.mk' hbb2
  have HC := Hid.mk' (cc0 za zb)
  have HPL := Hid.mk' play0
  clear hde hd2 hb1 hb2 hkn hnew hbb2
  obtain ⟨g3, hg3⟩ : ∃ g3, g3 = (⟨none, []⟩ : Gu) := ⟨_, rfl⟩
  obtain ⟨p3, hp3⟩ : ∃ p3, p3 = q0 65536 := ⟨_, rfl⟩
  rw [← hg3, ← hp3] at HD
  rw [← hp3] at HC HPL
  clear hg3 hp3
  have hs9 := save9_step d g3 p3 (.slice bo nb cb) w w2 za zb H2.out (by decide) (by decide) HC.out HD.out HBE.out HT.out HPL.out HB.out
  clear HD HBE HC HPL
  go_wp2_with fail
  refine hs9.mono ?_
  rintro e w4 ⟨rfl, g4, p4, hd4, hb4, hc4, hp4⟩
  have HD := Hid.mk' hd4
  have HBE := Hid.mk' hb4
  have HC := Hid.mk' hc4
  have HPL := Hid.mk' hp4
  clear hs9 hd4 hb4 hc4 hp4
  have hwi := fun W => within_any x4 6 W (by decide) (by decide)
  have hwb := withinF_bd x4 6 (by decide)
  obtain ⟨n, hn⟩ : ∃ n : Int, n = 1 + withinF x4 ((6 : Nat) : Int) := ⟨_, rfl⟩
  have hn1 : 1 ≤ n ∧ n ≤ 6 := by omega
  have hst := stop_step d g4 p4 n w w4 hn1 HD.out HBE.out HPL.out
  generalize withinF x4 ((6 : Nat) : Int) = y at *
  have hwr : 1 + y = n := hn.symm
  clear HD HBE HPL hn
  go_wp2_with (first | (go_at_call 7; refine (hwi _).mono ?_; rintro e w' ⟨rfl, rfl⟩))
  refine hst.mono ?_
  rintro e w5 ⟨rfl, hd5, hb5, hp5⟩
  have hnx := trim_step hPY d g4 p4 n w w5 za zb H2.out (by decide) HC.out hd5 hb5 HT.out hp5
  clear hst hd5 hb5 hp5 HC hwi hwb hwr hn1
  go_wp2_with fail
  refine hnx.mono ?_
  rintro e w6 ⟨x, g6, p6, rfl, hd6, hb6, haf, hp6⟩
  have hcr := crashed_step d g6 p6 (.slice po np cp) zp w w6 (by decide) hd6 hb6 hp6 HP.out
  obtain ⟨hCr, hk9, hk3⟩ := haf.crash zp
  have hxe := haf.err
  have HCr := Hid.mk' hCr
  have HK9 := Hid.mk' hk9
  have HK3 := Hid.mk' hk3
  clear hnx hd6 hb6 haf hp6 hCr hk9 hk3
  go_wp2_with fail
  refine hcr.mono ?_
  rintro e w7 ⟨y7, g7, rfl, hd7, hb7, hp7⟩
  have hlo := load_step hPY d g7 w w7 H2.out HCr.out (by decide) hd7 hb7 hp7 HT.out
  clear hcr hd7 hb7 hp7 HCr
  go_wp2_with fail
  refine hlo.mono ?_
  rintro e w8 ⟨hres, hb8⟩
  clear hlo
  have HB8 : Hid (Sees w8 (.slice bo nb cb) zb) := HB.out.upd (Upd.ofBelow hb8 : Upd w w8 (fun _ => False)) (fun _ _ _ => id)
  have HA8 : Hid (Sees w8 (.slice ao na ca) za) := HA.out.upd (Upd.ofBelow hb8 : Upd w w8 (fun _ => False)) (fun _ _ _ => id)
  have HBE := Hid.mk' hb8
  clear hb8 HA HB HP HT H2
  rcases hres with ⟨rfl, hno9, hno3⟩ | ⟨vv, dv, rfl, hvv, hdv⟩ | ⟨hf, hno9, vv, dv, rfl, hvv, hdv⟩
  · exact absurd (HK9.out (by simp)) hno9
  · rcases hxe with rfl | rfl
    · obtain ⟨vo, vc, rfl⟩ := hvv.form
      obtain ⟨do_, dc, rfl⟩ := hdv.form
      have hx : ∀ o, Below w8.heap.size w8 (w8.alloc o) := fun o => (Below.refl _ _).alloc (Nat.le_refl _) _
      have hcx : ∀ o, (convert 35 9 (.slice do_ zb.length dc)).run Tryz.prog (w8.alloc o) = .ok (.string (strOfNums zb)) (w8.alloc o) := fun o => conv_sees (hdv.upd (Upd.ofBelow (hx o) : Upd w8 (w8.alloc o) (fun _ => False)) (fun _ _ _ => id))
      have hcb : ∀ o, (convert 35 9 (.slice bo nb cb)).run Tryz.prog (w8.alloc o) = .ok (.string (strOfNums zb)) (w8.alloc o) := fun o => conv_sees (HB8.out.upd (Upd.ofBelow (hx o) : Upd w8 (w8.alloc o) (fun _ => False)) (fun _ _ _ => id))
      rw [show ([] : List Int).length = 0 from rfl]
      generalize zb.length = zl at *
      clear hvv hdv HK9 HK3 HA8 HB8 hx
      go_wp2
      go_ret
      exact ⟨rfl, HBE.out.alloc HBE.out.size _⟩
    · obtain ⟨vo, vc, rfl⟩ := hvv.form
      obtain ⟨do_, dc, rfl⟩ := hdv.form
      have hx : ∀ o, Below w8.heap.size w8 (w8.alloc o) := fun o => (Below.refl _ _).alloc (Nat.le_refl _) _
      have hcx : ∀ o, (convert 35 9 (.slice do_ zb.length dc)).run Tryz.prog (w8.alloc o) = .ok (.string (strOfNums zb)) (w8.alloc o) := fun o => conv_sees (hdv.upd (Upd.ofBelow (hx o) : Upd w8 (w8.alloc o) (fun _ => False)) (fun _ _ _ => id))
      have hcb : ∀ o, (convert 35 9 (.slice bo nb cb)).run Tryz.prog (w8.alloc o) = .ok (.string (strOfNums zb)) (w8.alloc o) := fun o => conv_sees (HB8.out.upd (Upd.ofBelow (hx o) : Upd w8 (w8.alloc o) (fun _ => False)) (fun _ _ _ => id))
      rw [show ([] : List Int).length = 0 from rfl]
      generalize zb.length = zl at *
      clear hvv hdv HK9 HK3 HA8 HB8 hx
      go_wp2
      go_ret
      exact ⟨rfl, HBE.out.alloc HBE.out.size _⟩
  · exact absurd (HK9.out (by simp)) hno9
set_option maxRecDepth 100000 in
set_option maxHeartbeats 4000000 in
theorem crash_ff (hPY : ParseYes) (ao bo po : Option Addr) (na ca nb cb np cp : Nat) (x4 : Int) (za zb zp : List Int) (w : World) (hT : HasTab w) (h2 : Two za zb) (ha : Sees w (.slice ao na ca) za) (hb : Sees w (.slice bo nb cb) zb) (hp : SeesI w (.slice po np cp) zp) (hs : na + nb ≤ 2000) (hnp : np ≤ 50) :
    Calls Tryz.prog 4 #[.slice ao na ca, .slice bo nb cb, .bool false, .bool false, .int .i64 x4, .slice po np cp] w fun e w' => e = .returned (.bool true) ∧ Below w.heap.size w w' := by
  have hkn := known_any hPY w hT
  have hg1 : decide ((2000 : Int) < na + nb) = false := by simp; omega
  have hg2 : decide ((50 : Int) < np) = false := by simp; omega
  have HT := Hid.mk' hT
  have HA := Hid.mk' ha
  have HB := Hid.mk' hb
  have HP := Hid.mk' hp
  have H2 := Hid.mk' h2
  clear hT ha hb hp h2
  go_enter Tryz.func4, Tryz.ntmps4
  go_wp2_with (go_at_call 6; refine hkn.mono ?_; rintro e w1 ⟨rfl, hb1⟩)
  have hnew := new_dk w.heap.size 65536 w1 (by decide) hb1.size
  refine hnew.mono ?_
  rintro e w2 ⟨d, hde, rfl, hd2, hb2⟩
  have hbb2 : Below w.heap.size w w2 := hb1.trans (hb2.mono hb1.size)
  have HD := Hid.mk' hd2
  have HBE := Hid.mk' hbb2
  have HC := Hid.mk' (cc0 za zb)
  have HPL := Hid.mk' play0
  clear hde hd2 hb1 hb2 hkn hnew hbb2
  obtain ⟨g3, hg3⟩ : ∃ g3, g3 = (⟨none, []⟩ : Gu) := ⟨_, rfl⟩
  obtain ⟨p3, hp3⟩ : ∃ p3, p3 = q0 65536 := ⟨_, rfl⟩
  rw [← hg3, ← hp3] at HD
  rw [← hp3] at HC HPL
  clear hg3 hp3
  have hwi := fun W => within_any x4 6 W (by decide) (by decide)
  have hwb := withinF_bd x4 6 (by decide)
  obtain ⟨n, hn⟩ : ∃ n : Int, n = 1 + withinF x4 ((6 : Nat) : Int) := ⟨_, rfl⟩
  have hn1 : 1 ≤ n ∧ n ≤ 6 := by omega
  have hst := stop_step d g3 p3 n w w2 hn1 HD.out HBE.out HPL.out
  generalize withinF x4 ((6 : Nat) : Int) = y at *
  have hwr : 1 + y = n := hn.symm
  clear HD HBE HPL hn
  go_wp2_with (first | (go_at_call 7; refine (hwi _).mono ?_; rintro e w' ⟨rfl, rfl⟩))
  refine hst.mono ?_
  rintro e w5 ⟨rfl, hd5, hb5, hp5⟩
  have hnx := stop9_step d g3 p3 (.slice bo nb cb) n w w5 za zb H2.out hn1.1 (by decide) (by decide) HC.out hd5 hb5 HT.out hp5 HB.out
  clear hst hd5 hb5 hp5 HC hwi hwb hwr hn1
  go_wp2_with fail
  refine hnx.mono ?_
  rintro e w6 ⟨x, g6, p6, rfl, hd6, hb6, haf, hp6⟩
  have hcr := crashed_step d g6 p6 (.slice po np cp) zp w w6 (by decide) hd6 hb6 hp6 HP.out
  obtain ⟨hCr, hk9, hk3⟩ := haf.crash zp
  have hxe := haf.err
  have HCr := Hid.mk' hCr
  have HK9 := Hid.mk' hk9
  have HK3 := Hid.mk' hk3
  clear hnx hd6 hb6 haf hp6 hCr hk9 hk3
  go_wp2_with fail
  refine hcr.mono ?_
  rintro e w7 ⟨y7, g7, rfl, hd7, hb7, hp7⟩
  have hlo := load_step hPY d g7 w w7 H2.out HCr.out (by decide) hd7 hb7 hp7 HT.out
  clear hcr hd7 hb7 hp7 HCr
  go_wp2_with fail
  refine hlo.mono ?_
  rintro e w8 ⟨hres, hb8⟩
  clear hlo
  have HB8 : Hid (Sees w8 (.slice bo nb cb) zb) := HB.out.upd (Upd.ofBelow hb8 : Upd w w8 (fun _ => False)) (fun _ _ _ => id)
  have HA8 : Hid (Sees w8 (.slice ao na ca) za) := HA.out.upd (Upd.ofBelow hb8 : Upd w w8 (fun _ => False)) (fun _ _ _ => id)
  have HBE := Hid.mk' hb8
  clear hb8 HA HB HP HT H2
  rcases hres with ⟨rfl, hno9, hno3⟩ | ⟨vv, dv, rfl, hvv, hdv⟩ | ⟨hf, hno9, vv, dv, rfl, hvv, hdv⟩
  · rcases hxe with rfl | rfl
    · exact absurd (HK9.out (by simp)) hno9
    · clear HK9 HK3 hno9 hno3
      go_wp2
      go_ret
      exact ⟨rfl, HBE.out.alloc HBE.out.size _⟩
  · rcases hxe with rfl | rfl
    · obtain ⟨vo, vc, rfl⟩ := hvv.form
      obtain ⟨do_, dc, rfl⟩ := hdv.form
      have hx : ∀ o, Below w8.heap.size w8 (w8.alloc o) := fun o => (Below.refl _ _).alloc (Nat.le_refl _) _
      have hcx : ∀ o, (convert 35 9 (.slice do_ zb.length dc)).run Tryz.prog (w8.alloc o) = .ok (.string (strOfNums zb)) (w8.alloc o) := fun o => conv_sees (hdv.upd (Upd.ofBelow (hx o) : Upd w8 (w8.alloc o) (fun _ => False)) (fun _ _ _ => id))
      have hcb : ∀ o, (convert 35 9 (.slice bo nb cb)).run Tryz.prog (w8.alloc o) = .ok (.string (strOfNums zb)) (w8.alloc o) := fun o => conv_sees (HB8.out.upd (Upd.ofBelow (hx o) : Upd w8 (w8.alloc o) (fun _ => False)) (fun _ _ _ => id))
      rw [show ([] : List Int).length = 0 from rfl]
      generalize zb.length = zl at *
      clear hvv hdv HK9 HK3 HA8 HB8 hx
      go_wp2
      go_ret
      exact ⟨rfl, HBE.out.alloc HBE.out.size _⟩
    · obtain ⟨vo, vc, rfl⟩ := hvv.form
      obtain ⟨do_, dc, rfl⟩ := hdv.form
      have hx : ∀ o, Below w8.heap.size w8 (w8.alloc o) := fun o => (Below.refl _ _).alloc (Nat.le_refl _) _
      have hcx : ∀ o, (convert 35 9 (.slice do_ zb.length dc)).run Tryz.prog (w8.alloc o) = .ok (.string (strOfNums zb)) (w8.alloc o) := fun o => conv_sees (hdv.upd (Upd.ofBelow (hx o) : Upd w8 (w8.alloc o) (fun _ => False)) (fun _ _ _ => id))
      have hcb : ∀ o, (convert 35 9 (.slice bo nb cb)).run Tryz.prog (w8.alloc o) = .ok (.string (strOfNums zb)) (w8.alloc o) := fun o => conv_sees (HB8.out.upd (Upd.ofBelow (hx o) : Upd w8 (w8.alloc o) (fun _ => False)) (fun _ _ _ => id))
      rw [show ([] : List Int).length = 0 from rfl]
      generalize zb.length = zl at *
      clear hvv hdv HK9 HK3 HA8 HB8 hx
      go_wp2
      go_ret
      exact ⟨rfl, HBE.out.alloc HBE.out.size _⟩
  · cases hf
end Go.Proofs.YtdcpfjlnagigaaaGreatDoor
