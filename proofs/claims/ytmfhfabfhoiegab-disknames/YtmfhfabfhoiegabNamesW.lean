/- DiskNames, walked: names come and go at once. -/
import Derived.Test.YtmfhfabfhoiegabNamesM
import Derived.Deep.RegionWith
import Derived.Deep.CutRange
import Derived.Deep.LoopGhost
import Derived.Deep.CutBlock
import Derived.Deep.RegionHeldLaw
import Derived.BigQuiet
namespace Go.Proofs.Ytmfhfabfhoiegab
open Go Go.RowKit
set_option maxRecDepth 100000 in
set_option maxHeartbeats 4000000 in
theorem names_walk (vn vp : Value) (ns ps : List Int) (w : World) (hvn : SeesI w vn ns) (_hln : ns.length ≤ 140737488355328) (hvp : SeesI w vp ps) (_hlp : ps.length ≤ 140737488355328) :
    Calls Try.prog 3 #[vn, vp] w fun e w' => e = .returned (.bool true) ∧ Below w.heap.size w w' := by
  obtain ⟨vo, vc, hvv⟩ := hvn.form
  subst hvv
  obtain ⟨po, pc, hpp⟩ := hvp.form
  subst hpp
  have HV := Hid.mk' hvn
  have HP := Hid.mk' hvp
  have hbn := neqB
  clear hvn hvp
  by_cases hp50 : 50 < ps.length
  · go_enter Try.func3, Try.ntmps3
    go_wp2_with (go_at_call 4; refine (known_any _).mono ?_; rintro e w0 ⟨rfl, hb0⟩)
    go_ret
    exact ⟨rfl, hb0⟩
  · go_enter Try.func3, Try.ntmps3
    go_wp2_with (go_at_call 4; refine (known_any _).mono ?_; rintro e w0 ⟨rfl, hb0⟩)
    have hs0 := hb0.size
    refine (new_dk w.heap.size 65536 w0 (by decide) hs0).mono ?_
    rintro e w1 ⟨d, hdd, rfl, hd1, hb1⟩
    replace hb1 := hb0.trans (hb1.mono hs0)
    have hs1 := hb1.size
    clear hdd hb0 hs0
    go_wp2_with fail
    have HI : Hid (namesRel w.heap.size w (w1.alloc (.cells #[.bool false, .bool false, .bool false, .bool false, .bool false, .bool false] 28)) d w1.heap.size (fun _ => false) 0) := by
      have hal : Below w1.heap.size w1 (w1.alloc (.cells #[.bool false, .bool false, .bool false, .bool false, .bool false, .bool false] 28)) := (Below.refl _ _).alloc (Nat.le_refl _) _
      refine ⟨_, _, hd1.below hal, ⟨rfl, rfl, rfl, by simp [q0], by simp [q0], by simp [q0, total], by simp [q0], fun nm => ?_⟩, HasB.new w1, fun hf => ?_, hs1, hb1.trans (hal.mono hs1)⟩
      · constructor
        · rintro ⟨f, hf, _⟩; cases hf
        · rintro ⟨j, _, h2, _⟩; cases h2
      · have := hd1.lt hf; omega
    clear hd1 hb1
    generalize w1.heap.size = hb at *
    go_loopg [8] 40 (fun g0 i wx => ∃ (k : Nat) (h : Nat → Bool), k ≤ 40 ∧ g0 = 40 - k ∧ i = .int .i64 k ∧ namesRel w.heap.size w wx d hb h k)
    case atStart => exact ⟨0, _, by omega, rfl, rfl, HI.out⟩
    case round =>
      obtain ⟨k, h, hk, hg0, rfl, hrel⟩ := hrel
      have HR := Hid.mk' hrel
      clear hrel HI
      by_cases hlt : k < ns.length ∧ k < 40
      · obtain ⟨h1, h2⟩ := hlt
        have hB0 : Below w.heap.size w wr := by obtain ⟨_, _, _, _, _, _, _, hb6⟩ := HR.out; exact hb6
        obtain ⟨vb, off, vc', hve, hcell⟩ := HV.out.at (Upd.ofBelow hB0 (S := fun _ => False)) (fun _ _ _ h => h) k h1
        have hve := Value.slice.inj hve
        obtain ⟨rfl, _, rfl⟩ := hve
        have hvl : vb < wr.heap.size := World.block_lt_of_cell? _ _ hcell
        generalize ns.getD k 0 = z at *
        obtain ⟨a, ha6, ha⟩ := withinF_nat z 6 (by decide)
        have hwa : ∀ w', Calls Try.prog 6 #[.int .i64 z, .int .i64 6] w' fun e w'' => e = .returned (.int .i64 (a : Int)) ∧ w'' = w' := fun w' => by
          have := within_any z 6 w' (by decide) (by decide)
          rw [ha] at this
          exact this
        obtain ⟨b, hb6, hb'⟩ := withinF_nat (IntKind.i64.wrap (z.tdiv 6)) 6 (by decide)
        have hwb : ∀ w', Calls Try.prog 6 #[.int .i64 (IntKind.i64.wrap (z.tdiv 6)), .int .i64 6] w' fun e w'' => e = .returned (.int .i64 (b : Int)) ∧ w'' = w' := fun w' => by
          have := within_any (IntKind.i64.wrap (z.tdiv 6)) 6 w' (by decide) (by decide)
          rw [hb'] at this
          exact this
        obtain ⟨m, hm3, hm⟩ := withinF_nat (wrap64 (z.tdiv 36)) 3 (by decide)
        have hwm : ∀ w', Calls Try.prog 6 #[.int .i64 (wrap64 (z.tdiv 36)), .int .i64 3] w' fun e w'' => e = .returned (.int .i64 (m : Int)) ∧ w'' = w' := fun w' => by
          have := within_any (wrap64 (z.tdiv 36)) 3 w' (by decide) (by decide)
          rw [hm] at this
          exact this
        clear ha hb' hm
        have HWM := Hid.mk' hwm
        clear hwm
        go_wp2_with fail
        go_cut [9, 10] from 36 to 46 (fun s9 s10 wx => s9 = .int .i64 (a : Int) ∧ s10 = .int .i64 (b : Int) ∧ Below wr.heap.size wr wx)
        case first =>
          go_quiet (first | (go_at_call 6; with_reducible exact Calls.quiet_of_same (hwa _)) | (go_at_call 6; with_reducible exact Calls.quiet_of_same (hwb _)))
          go_wp2_with fail
          go_meet
          exact ⟨rfl, rfl, (Upd.drewN _ _ (fun _ => False)).below (Nat.le_refl _) (fun _ _ h => h)⟩
        case rest =>
        obtain ⟨rfl, rfl, hW⟩ := hcut
        have HR1 := Hid.mk' (HR.out.below hW (Nat.le_refl _))
        have hcell1 := (hW.cell (p := ⟨vb, off + k, none⟩) hvl).trans hcell
        have hvl1 := World.block_lt_of_cell? _ _ hcell1
        clear hwa hwb hcell HR hW hvl hB0
        have hua := u8_small a (by omega)
        have hub := u8_small b (by omega)
        have hwa64 : IntKind.i64.wrap (97 + (a : Int)) = 97 + a := by rw [IntKind.wrap_i64]; omega
        have hwb64 : IntKind.i64.wrap (97 + (b : Int)) = 97 + b := by rw [IntKind.wrap_i64]; omega
        have G1 : ∀ c : Nat, Sees (wc.alloc (.cells #[.int .u8 (97 + (c : Int))] 5)).drew (.slice (some ⟨wc.heap.size, 0, none⟩) 1 1) [97 + (c : Int)] := fun c => (sees_new wc.drew [97 + (c : Int)] (0, 0) (by simp) (by simp [maxLen]))
        have G2 : ∀ c e : Nat, Sees ((wc.alloc (.cells #[.int .u8 (97 + (c : Int))] 5)).alloc (.cells #[.int .u8 (97 + (e : Int))] 5)).drew (.slice (some ⟨wc.heap.size, 0, none⟩) 1 1) [97 + (c : Int)] := fun c e => (sees_new wc.drew [97 + (c : Int)] (0, 0) (by simp) (by simp [maxLen])).below ((Below.refl _ _).alloc (Nat.le_refl _) _)
        have G3 : ∀ c e : Nat, Sees ((wc.alloc (.cells #[.int .u8 (97 + (c : Int))] 5)).alloc (.cells #[.int .u8 (97 + (e : Int))] 5)).drew (.slice (some ⟨wc.heap.size + 1, 0, none⟩) 1 1) [97 + (e : Int)] := fun c e => by
          have := sees_new (wc.drew.alloc (.cells #[.int .u8 (97 + (c : Int))] 5)) [97 + (e : Int)] (0, 0) (by simp) (by simp [maxLen])
          rw [show (wc.drew.alloc (.cells #[.int .u8 (97 + (c : Int))] 5)).heap.size = wc.heap.size + 1 from by simp] at this
          exact this
        have E1 : (convert 30 9 (.slice (some ⟨wc.heap.size, 0, none⟩) 1 1)).run Try.prog (wc.alloc (.cells #[.int .u8 (97 + (a : Int))] 5)).drew = .ok (.string (strOfNums [97 + (a : Int)])) (wc.alloc (.cells #[.int .u8 (97 + (a : Int))] 5)).drew := conv_sees (G1 a)
        have E2 : (convert 30 9 (.slice (some ⟨wc.heap.size, 0, none⟩) 1 1)).run Try.prog ((wc.alloc (.cells #[.int .u8 (97 + (a : Int))] 5)).alloc (.cells #[.int .u8 (97 + (b : Int))] 5)).drew = .ok (.string (strOfNums [97 + (a : Int)])) ((wc.alloc (.cells #[.int .u8 (97 + (a : Int))] 5)).alloc (.cells #[.int .u8 (97 + (b : Int))] 5)).drew := conv_sees (G2 a b)
        have E3 : (convert 30 9 (.slice (some ⟨wc.heap.size + 1, 0, none⟩) 1 1)).run Try.prog ((wc.alloc (.cells #[.int .u8 (97 + (a : Int))] 5)).alloc (.cells #[.int .u8 (97 + (b : Int))] 5)).drew = .ok (.string (strOfNums [97 + (b : Int)])) ((wc.alloc (.cells #[.int .u8 (97 + (a : Int))] 5)).alloc (.cells #[.int .u8 (97 + (b : Int))] 5)).drew := conv_sees (G3 a b)
        have E1' : (convert 30 9 (.slice (some ⟨wc.heap.size, 0, none⟩) 1 1)).run Try.prog (wc.alloc (.cells #[.int .u8 (97 + (b : Int))] 5)).drew = .ok (.string (strOfNums [97 + (b : Int)])) (wc.alloc (.cells #[.int .u8 (97 + (b : Int))] 5)).drew := conv_sees (G1 b)
        have E2' : (convert 30 9 (.slice (some ⟨wc.heap.size, 0, none⟩) 1 1)).run Try.prog ((wc.alloc (.cells #[.int .u8 (97 + (b : Int))] 5)).alloc (.cells #[.int .u8 (97 + (a : Int))] 5)).drew = .ok (.string (strOfNums [97 + (b : Int)])) ((wc.alloc (.cells #[.int .u8 (97 + (b : Int))] 5)).alloc (.cells #[.int .u8 (97 + (a : Int))] 5)).drew := conv_sees (G2 b a)
        have E3' : (convert 30 9 (.slice (some ⟨wc.heap.size + 1, 0, none⟩) 1 1)).run Try.prog ((wc.alloc (.cells #[.int .u8 (97 + (b : Int))] 5)).alloc (.cells #[.int .u8 (97 + (a : Int))] 5)).drew = .ok (.string (strOfNums [97 + (a : Int)])) ((wc.alloc (.cells #[.int .u8 (97 + (b : Int))] 5)).alloc (.cells #[.int .u8 (97 + (a : Int))] 5)).drew := conv_sees (G3 b a)
        clear G1 G2 G3
        go_wp2_with fail
        go_cut [11, 12] from 47 to 56 (fun s11 s12 wx => s11 = .string (strOfNums [97 + (a : Int)]) ∧ s12 = .string (strOfNums [97 + (b : Int)]) ∧ Below wc.heap.size wc wx)
        case first =>
          clear HR1 hcell1 HWM HV HP hbn
          go_region
          all_goals
            go_wp2_with fail
            go_meet
            exact ⟨rfl, rfl, (((Below.refl _ _).alloc (Nat.le_refl _) _).alloc (by simp) _).drew⟩
        case rest =>
        obtain ⟨rfl, rfl, hW2⟩ := hcut
        have HR2 := Hid.mk' (HR1.out.below hW2 (Nat.le_refl _))
        have hcell2 := (hW2.cell (p := ⟨vb, off + k, none⟩) hvl1).trans hcell1
        clear HR1 hcell1 hW2 hvl1 E1 E2 E3 E1' E2' E3' hua hub hwa64 hwb64
        generalize wc = W at HR2 hcell2 ⊢
        have hwm := HWM.out
        go_upto_block 2 with (go_at_call 6; with_reducible refine (hwm _).mono ?_; rintro e W ⟨rfl, rfl⟩)
        go_cut [] from 57 to 102 (fun wx => ∃ h', namesRel w.heap.size w wx d hb h' (k + 1))
        case first =>
          have hk8 : IntKind.u8.wrap (k : Int) = k := by rw [IntKind.wrap_u8]; omega
          rcases (by omega : m = 0 ∨ m = 1 ∨ m = 2) with rfl | rfl | rfl
          · have HA := Hid.mk' (names_app HR2.out (by omega) (Nat.le_refl _) ha6 k (by omega))
            clear HR2 HV HP HWM
            go_wp2_with (first | (go_at_call 6; with_reducible refine (hwm _).mono ?_; rintro e _ ⟨rfl, rfl⟩) | (go_at_call 7; with_reducible refine HA.out.mono ?_; rintro e w5 ⟨E, rfl, hmid⟩; have hc5 := (hmid.cell ha6).1; have hf5 := (hmid.cell ha6).2; have HMID := Hid.mk' (hmid.set (Nat.le_refl _) ha6 true); clear hmid))
            go_meet
            exact ⟨_, HMID.out⟩
          · cases hha : h a
            · have hcW : W.cell? ⟨hb, a, none⟩ = some (.bool false) := by have := (namesMid.cell (h' := h) HR2.out ha6).1; rw [hha] at this; exact this
              have HC := Hid.mk' (names_rem (HR2.out.below ((Below.refl _ _).drew : Below W.heap.size W W.drew) (Nat.le_refl _)) (by omega) (Nat.le_refl _) ha6)
              clear HR2 HV HP HWM hwm hk8
              go_wp2_with fail
              go_region_with (go_at_call 8; with_reducible refine HC.out.mono ?_; rintro e w5 ⟨E, rfl, hE1, hE2, hmid⟩; obtain rfl := hE2 hha; have hc5 : w5.cell? ⟨hb, a, none⟩ = some (.bool false) := (hmid.cell ha6).1.trans (by rw [hha]); have hf5 := (hmid.cell ha6).2; have HMID := Hid.mk' (hmid.set (Nat.le_refl _) ha6 false); clear hmid hE1 hE2)
              all_goals
                go_wp2_with fail
                go_meet
                exact ⟨_, HMID.out⟩
            · have hcW : W.cell? ⟨hb, a, none⟩ = some (.bool true) := by have := (namesMid.cell (h' := h) HR2.out ha6).1; rw [hha] at this; exact this
              have HC := Hid.mk' (names_rem (HR2.out.below ((Below.refl _ _).drew : Below W.heap.size W W.drew) (Nat.le_refl _)) (by omega) (Nat.le_refl _) ha6)
              clear HR2 HV HP HWM hwm hk8
              go_wp2_with fail
              go_region_with (go_at_call 8; with_reducible refine HC.out.mono ?_; rintro e w5 ⟨E, rfl, hE1, hE2, hmid⟩; obtain rfl := hE1 hha; have hc5 : w5.cell? ⟨hb, a, none⟩ = some (.bool true) := (hmid.cell ha6).1.trans (by rw [hha]); have hf5 := (hmid.cell ha6).2; have HMID := Hid.mk' (hmid.set (Nat.le_refl _) ha6 false); clear hmid hE1 hE2)
              all_goals
                go_wp2_with fail
                go_meet
                exact ⟨_, HMID.out⟩
          · cases hha : h a
            · have hcW : W.cell? ⟨hb, a, none⟩ = some (.bool false) := by have := (namesMid.cell (h' := h) HR2.out ha6).1; rw [hha] at this; exact this
              have HC := Hid.mk' (names_ren (HR2.out.below ((Below.refl _ _).drew : Below W.heap.size W W.drew) (Nat.le_refl _)) (by omega) (Nat.le_refl _) ha6 hb6)
              clear HR2 HV HP HWM hwm hk8
              go_wp2_with fail
              go_region_with (go_at_call 9; with_reducible refine HC.out.mono ?_; rintro e w5 ⟨E, rfl, hE1, hE2, _, hmid⟩; obtain rfl := hE2 hha; replace hmid := hmid hha; have hc5 : w5.cell? ⟨hb, a, none⟩ = some (.bool false) := (hmid.cell ha6).1.trans (by rw [hha]); have HMID := Hid.mk' hmid; clear hmid hE1 hE2)
              all_goals
                go_wp2_with fail
                go_meet
                exact ⟨_, HMID.out⟩
            · have hcW : W.cell? ⟨hb, a, none⟩ = some (.bool true) := by have := (namesMid.cell (h' := h) HR2.out ha6).1; rw [hha] at this; exact this
              have HC := Hid.mk' (names_ren (HR2.out.below ((Below.refl _ _).drew : Below W.heap.size W W.drew) (Nat.le_refl _)) (by omega) (Nat.le_refl _) ha6 hb6)
              clear HR2 HV HP HWM hwm hk8
              go_wp2_with fail
              go_region_with (go_at_call 9; with_reducible refine HC.out.mono ?_; rintro e w5 ⟨E, rfl, hE1, hE2, hmid, _⟩; obtain rfl := hE1 hha; replace hmid := hmid hha; have hc5 : w5.cell? ⟨hb, a, none⟩ = some (.bool true) := (hmid.cell ha6).1.trans (by rw [hha]); have hf5 := (hmid.cell ha6).2; have hm2 := hmid.set (Nat.le_refl _) ha6 false; have hc6 := (hm2.cell hb6).1; have hf6 := (hm2.cell hb6).2; have HMID := Hid.mk' (hm2.set (Nat.le_refl _) hb6 true); clear hmid hm2 hE1 hE2)
              all_goals
                go_wp2_with fail
                go_meet
                exact ⟨_, HMID.out⟩
        case rest =>
        obtain ⟨h', hrel3⟩ := hcut
        have HR3 := Hid.mk' hrel3
        clear hrel3 HR2 hcell2 hwm HWM
        generalize wc = W3 at HR3 ⊢
        have hmod : (k : Int).tmod 7 = ((k % 7 : Nat) : Int) := by rw [Int.tmod_eq_emod_of_nonneg (by omega)]; omega
        generalize k % 7 = r7 at hmod
        go_upto_if 105 with fail
        go_cut [] from 103 to 108 (fun wx => namesRel w.heap.size w wx d hb h' (k + 1))
        case first =>
          have HC := Hid.mk' (names_crash HR3.out (by omega) (Nat.le_refl _) _ _ HP.out (Nat.le_refl _))
          by_cases h76 : r7 = 6
          · have hb76 : ((r7 : Int) == 6) = true := by rw [beq_iff_eq]; omega
            clear HR3 HV HP
            go_wp2_with (go_at_call 10; with_reducible refine HC.out.mono ?_; rintro e w5 ⟨E, rfl, hq⟩; have HQ := Hid.mk' hq; clear hq)
            go_meet
            exact HQ.out
          · have hb76 : ((r7 : Int) == 6) = false := by rw [beq_eq_false_iff_ne]; omega
            clear HC HV HP
            go_wp2_with fail
            go_meet
            exact HR3.out
        case rest =>
        have HR4 := Hid.mk' hcut
        clear hcut HR3 hmod
        generalize wc = W4 at HR4 ⊢
        have HL := Hid.mk' (names_list HR4.out (by omega))
        clear HV HP
        go_wp2_with (go_at_call 11; with_reducible refine HL.out.mono ?_; rintro e w6 ⟨ao, lc, rfl, ho, hbw⟩; have HO := Hid.mk' ho; have HR6 := Hid.mk' (HR4.out.below hbw (Nat.le_refl _)); clear ho hbw HR4 HL)
        have hlen6 := nmsOf_len h' 6
        go_loopg [15, 16] 6 (fun g1 n j wx => ∃ j' : Nat, j' ≤ 6 ∧ g1 = 6 - j' ∧ j = .int .i64 j' ∧ n = .int .i64 ((nmsOf h' j').length : Nat) ∧ Below w6.heap.size w6 wx)
        case atStart => exact ⟨0, by omega, rfl, rfl, rfl, Below.refl _ _⟩
        case round =>
          obtain ⟨j, hj, hgj, rfl, rfl, hbx⟩ := hrel
          have hlj := nmsOf_len h' j
          have HRX := Hid.mk' (HR6.out.below hbx (Nat.le_refl _))
          by_cases hj6 : j < 6
          · have hcj := (namesMid.cell (h' := h') HRX.out hj6).1
            have HSU := Hid.mk' (nmsOf_succ h' j)
            cases hhj : h' j with
            | false =>
              rw [hhj] at hcj HSU
              have HLE : Hid ((nmsOf h' (j + 1)).length = (nmsOf h' j).length) := by show _ = _; rw [HSU.out]; simp
              have HBX := Hid.mk' hbx
              clear hbx HSU
              go_wp2_with fail
              go_roundg (6 - (j + 1))
              case measure => omega
              case rel => exact ⟨j + 1, by omega, rfl, by go_num, by rw [HLE.out], HBX.out⟩
            | true =>
              rw [hhj] at hcj HSU
              have HLE : Hid ((nmsOf h' (j + 1)).length = (nmsOf h' j).length + 1) := by show _ = _; rw [HSU.out]; simp
              obtain ⟨hat1, hat2⟩ := nmsOf_at hj6 hhj
              obtain ⟨gb, lc', hve, hgb, hgl⟩ := HO.out.form (by omega)
              cases hve
              have hlc := HO.out.cellAt (nmsOf h' j).length (by simp; omega)
              have hx : (nmsOf h' 6)[(nmsOf h' j).length]? = some (nmR j) := by
                rw [List.getD_eq_getElem?_getD, List.getElem?_eq_getElem hat1] at hat2
                rw [List.getElem?_eq_getElem hat1]
                exact congrArg some hat2
              simp only [strs, List.getElem?_map, hx, Option.map_some] at hlc
              have hlc := (hbx.cell (p := ⟨gb, (nmsOf h' j).length, none⟩) hgl).trans hlc
              have hgl2 : gb < wr.heap.size := Nat.lt_of_lt_of_le hgl hbx.size
              rw [show encStr (nmR j) = .string ⟨(nmR j).toArray⟩ from rfl] at hlc
              have hua := u8_small j (by omega)
              have hwa64 : IntKind.i64.wrap (97 + (j : Int)) = 97 + j := by rw [IntKind.wrap_i64]; omega
              have E1 : (convert 30 9 (.slice (some ⟨wr.heap.size, 0, none⟩) 1 1)).run Try.prog (wr.alloc (.cells #[.int .u8 (97 + (j : Int))] 5)).drew = .ok (.string (strOfNums [97 + (j : Int)])) (wr.alloc (.cells #[.int .u8 (97 + (j : Int))] 5)).drew := conv_sees (sees_new wr.drew [97 + (j : Int)] (0, 0) (by simp) (by simp [maxLen]))
              have hse : (⟨(nmR j).toArray⟩ : ByteArray) = strOfNums [97 + (j : Int)] := by
                have h1 := oneS_list j (by omega)
                have h2 : (strOfNums [97 + (j : Int)]).data.toList = nmR j := h1
                rw [← h2]
              rw [hse] at hlc
              have hseq : ((strOfNums [97 + (j : Int)]).toList == (strOfNums [97 + (j : Int)]).toList) = true := by simp
              have hsneq : ((strOfNums [97 + (j : Int)]).toList != (strOfNums [97 + (j : Int)]).toList) = false := by simp
              clear hse
              have HBX : Hid (Below w6.heap.size w6 (wr.alloc (.cells #[.int .u8 (97 + (j : Int))] 5)).drew) := (hbx.alloc hbx.size _).drew
              obtain ⟨N, hN⟩ : ∃ N : Nat, (nmsOf h' j).length = N := ⟨_, rfl⟩
              have hdg : decide (((nmsOf h' 6).length : Int) ≤ (N : Int)) = false := decide_eq_false (by omega)
              have hdg2 : decide ((nmsOf h' 6).length ≤ N) = false := decide_eq_false (by omega)
              have hNM : (N : Int) < ((nmsOf h' 6).length : Int) := by omega
              rw [hN] at hlc hlj HLE ⊢
              clear hbx HSU hat1 hat2 hx HR6 HRX
              go_wp2_with fail
              have hne := World.new_ne wr ⟨gb, N, none⟩ hlc
              have h0N : (0 : Int) ≤ (N : Int) := by omega
              go_region_held (fun w' => w'.cell? ⟨gb, N, none⟩ = some (.string (strOfNums [97 + (j : Int)]))) (go_keep) (fail)
              all_goals
                go_wp2_with fail
                go_roundg (6 - (j + 1))
                case measure => omega
                case rel => exact ⟨j + 1, by omega, rfl, by go_num, by rw [HLE.out]; go_num, HBX.out⟩
          · have HJ : Hid (j = 6) := by show _ = _; omega
            have hnn : (((nmsOf h' 6).length : Int) != (nmsOf h' 6).length) = false := by simp
            obtain rfl : j = 6 := by omega
            clear HJ hbx
            go_wp2_with fail
            go_roundg (40 - (k + 1))
            case measure => omega
            case rel => exact ⟨k + 1, h', by omega, rfl, by go_num, HRX.out⟩
      · have HB : Hid (Below w.heap.size w wr) := by obtain ⟨_, _, _, _, _, _, _, hb6⟩ := HR.out; exact hb6
        have hlt2 : ¬ ((k : Int) < ns.length ∧ (k : Int) < 40) := by omega
        clear HR
        go_wp2_with fail
        all_goals
          go_ret
          exact ⟨rfl, HB.out⟩
end Go.Proofs.Ytmfhfabfhoiegab
