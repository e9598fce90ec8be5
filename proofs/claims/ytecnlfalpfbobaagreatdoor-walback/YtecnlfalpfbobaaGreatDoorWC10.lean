/- What parse does with the bytes of a frame that is no base. -/
import Derived.Test.YtecnlfalpfbobaaGreatDoorWC9
import Derived.Laws.IdiomStrings
namespace Go.Proofs.YtecnlfalpfbobaaGreatDoor
open Go Go.RowKit
theorem conv_back {d : List Int} (hd : isB d) (hl : d.length ≤ 1000000) (w : World) : ∃ c W', (convert 9 58 (.string (strOfNums d))).run Tryz.prog w = .ok (.slice (some ⟨w.heap.size, 0, none⟩) d.length c) W' ∧ Sees W' (.slice (some ⟨w.heap.size, 0, none⟩) d.length c) d ∧ Below w.heap.size w W' := by
  have hz : (strOfNums d).size = d.length := strOfNums_size d
  have hr := run_bytes_of_string (P := Tryz.prog) w 9 58 5 (strOfNums d) Tryz.underlying9 Tryz.underlying58 Tryz.underlying5
  rw [hz] at hr
  have hcap := grownCap_ge w d.length 0 5
  have hcm := grownCap_le_maxLen w d.length 0 5 (by unfold maxLen; omega)
  refine ⟨_, _, hr, ?_, ?_⟩
  · by_cases h0 : d.length = 0
    · exact .inl ⟨List.eq_nil_of_length_eq_zero h0, _, _, congrArg (fun n => Value.slice _ n _) h0, (fun e => by cases e), hcm⟩
    · refine .inr ⟨w.heap.size, 0, _, rfl, by omega, hcap, hcm, fun i hi => ?_⟩
      rw [Nat.zero_add]
      refine (cell_of_row _ _ _ _ _ _ (heap_alloc_new w.drew _)).trans ?_
      have hdi := hd d[i] (List.getElem_mem hi)
      unfold bytesRow
      rw [Array.getElem?_append_left (by simp only [Array.size_map]; show i < (strOfNums d).size; omega), Array.getElem?_map]
      simp only [strOfNums, List.getElem?_toArray, List.getElem?_map, List.getElem?_eq_getElem hi, Option.map_some, List.getD_eq_getElem?_getD, Option.getD_some, UInt8.toNat_ofNat', Option.some.injEq, Value.int.injEq, true_and]
      omega
  · exact ((Below.refl _ w).drew).alloc (Nat.le_refl _) _
theorem rdU8 (B b : Nat) (v : Value) (zs : List Int) (r : Rs) (w : World) (h : Re B w b v zs r.a r.e) : Calls Tryz.prog 146 #[.pointer (some ⟨b, 0, none⟩)] w fun e w' => e = .returned (.int .i64 (r.num zs 1)) ∧ RePost B w w' b v zs (r.go zs 1).a (r.go zs 1).e := rU8 B b v zs r.a r.e w h
theorem rdInt (B b : Nat) (v : Value) (zs : List Int) (r : Rs) (w : World) (h : Re B w b v zs r.a r.e) : Calls Tryz.prog 147 #[.pointer (some ⟨b, 0, none⟩)] w fun e w' => e = .returned (.int .i64 (r.num zs 8)) ∧ RePost B w w' b v zs (r.go zs 8).a (r.go zs 8).e := rInt B b v zs r.a r.e w h
theorem rdText (B b : Nat) (v : Value) (zs : List Int) (r : Rs) (w : World) (h : Re B w b v zs r.a r.e) : Calls Tryz.prog 148 #[.pointer (some ⟨b, 0, none⟩)] w fun e w' => e = .returned (.string (strOfNums (r.text zs))) ∧ RePost B w w' b v zs (r.goT zs).a (r.goT zs).e := rText B b v zs r.a r.e w h
theorem num_i64 (zs : List Int) (r : Rs) (n : Nat) : i64 (r.num zs n) := by unfold Rs.num wrap64 i64; omega
theorem num1_bd {zs : List Int} (h : isB zs) (r : Rs) : 0 ≤ r.num zs 1 ∧ r.num zs 1 ≤ 255 := by
  unfold Rs.num
  have h1 := rd_bd _ _ rfl (takeB_isB h r.a r.e 1)
  have h2 := takeB_len zs r.a r.e 1
  have : (takeB zs r.a r.e 1).length = 0 ∨ (takeB zs r.a r.e 1).length = 1 := by omega
  rcases this with h3 | h3 <;> (rw [h3] at h1; simp only [Int.reducePow] at h1; unfold wrap64; omega)
theorem text_len (zs : List Int) (r : Rs) : (r.text zs).length ≤ zs.length := by
  unfold Rs.text textB takeB
  split
  · simp; omega
  · simp
theorem text_isB {zs : List Int} (h : isB zs) (r : Rs) : isB (r.text zs) := takeB_isB h _ _ _
theorem info117 : (Tryz.prog.info? 117).map (·.size) = some 3 := by kernel_rfl
theorem info3 : (Tryz.prog.info? 3).map (fun i => (i.zero, i.size, i.bytes)) = some (some (.int .i64 0), 1, 8) := by kernel_rfl
theorem Re.belowUpd {B : Nat} {w w' : World} {b : Nat} {v : Value} {xs : List Int} {a : Nat} {e : Int} (h : Re B w b v xs a e) (hb : Below w.heap.size w w') : Re B w' b v xs a e := h.upd (Upd.ofBelow hb : Upd w w' (fun _ => False)) id (fun _ _ => id)
theorem RePost.below {B : Nat} {w w' : World} {b : Nat} {v : Value} {zs : List Int} {a : Nat} {e : Int} (h : RePost B w w' b v zs a e) (hB : B ≤ w.heap.size) : Below B w w' :=
  h.2.below hB (fun k hk e => by have := h.1.base; omega)
theorem done_yes {zs : List Int} {r : Rs} (h1 : r.e = 0) (h2 : r.a = zs.length) : r.done zs = true := by simp [Rs.done, h1, h2]
theorem done_no1 {zs : List Int} {r : Rs} (h1 : r.e ≠ 0) : r.done zs = false := by simp [Rs.done, h1]
theorem done_no2 {zs : List Int} {r : Rs} (h2 : r.a ≠ zs.length) : r.done zs = false := by simp [Rs.done, h2]
/-- What parse answers. -/
def ParseOut (B : Nat) (w' : World) (rv : Value) (ok : Bool) : Option Rec → Prop
  | some r => ok = true ∧ ∃ rV : RecV, rv = recVal rV ∧ rV.map Ev.e Vv.vs = r ∧ RecOk w' rV ∧ RecAway (fun j => j < B) rV
  | none => ok = false ∧ rv = .nilIface
set_option maxRecDepth 100000 in
set_option maxHeartbeats 4000000 in
theorem parse_any (v : Value) (zs : List Int) (w : World) (hv : Sees w v zs) (hb : isB zs) (hl : zs.length ≤ 70000) (h3 : kindOf zs ≠ 3) :
    Calls Tryz.prog 119 #[v] w fun e w' => ∃ rv ok, e = .returned (.tuple #[rv, .bool ok]) ∧ ParseOut w.heap.size w' rv ok (parseP zs) ∧ Below w.heap.size w w' := by
  have hnew := rNew v zs w hv hb (by omega)
  obtain ⟨ao, cp, rfl⟩ := hv.form
  clear hv
  by_cases h1 : kindOf zs = 1
  · have HPP : Hid (parseP zs = parseHard zs) := by show _ = _; rw [parseP, if_pos h1]
    have hk1 : (kindOf zs == 1) = true := by rw [beq_iff_eq]; exact h1
    clear h1
    go_enter Tryz.func119, Tryz.ntmps119
    go_wp2_with (go_at_call 145; refine hnew.mono ?_; rintro e w1 ⟨b, v1, rfl, hre, hb1⟩)
    refine (rdU8 _ _ _ _ ⟨0, 0⟩ _ hre).mono ?_
    rintro e w2 ⟨rfl, hp2⟩
    change RePost _ _ _ _ _ _ (r1 zs).a (r1 zs).e at hp2
    rw [show (⟨0, 0⟩ : Rs).num zs 1 = kindOf zs from rfl]
    have HB2 : Hid (Below w.heap.size w w2) := hb1.trans (hp2.below hb1.size)
    go_wp2_with fail
    refine (rdInt _ _ _ _ (r1 zs) _ hp2.1).mono ?_
    rintro e w3 ⟨rfl, hp3⟩
    have HB3 : Hid (Below w.heap.size w w3) := HB2.out.trans (hp3.below HB2.out.size)
    go_wp2_with fail
    refine (rdInt _ _ _ _ ((r1 zs).go zs 8) _ hp3.1).mono ?_
    rintro e w4 ⟨rfl, hp4⟩
    have HB4 : Hid (Below w.heap.size w w4) := HB3.out.trans (hp4.below HB3.out.size)
    go_wp2_with fail
    refine (rdInt _ _ _ _ (((r1 zs).go zs 8).go zs 8) _ hp4.1).mono ?_
    rintro e wF ⟨rfl, hpF⟩
    have HBF : Hid (Below w.heap.size w wF) := HB4.out.trans (hpF.below HB4.out.size)
    have HD : Hid (parseP zs = if ((((r1 zs).go zs 8).go zs 8).go zs 8).done zs then some (.hard ((r1 zs).num zs 8) (((r1 zs).go zs 8).num zs 8) ((((r1 zs).go zs 8).go zs 8).num zs 8)) else none) := HPP.out
    generalize (((r1 zs).go zs 8).go zs 8).go zs 8 = Q at *
    generalize (r1 zs).num zs 8 = n1 at *
    generalize ((r1 zs).go zs 8).num zs 8 = n2 at *
    generalize (((r1 zs).go zs 8).go zs 8).num zs 8 = n3 at *
    clear hp2 hp3 hp4 hre hnew HPP
    have hle := hpF.1.le
    by_cases he : Q.e = 0
    · by_cases ha : Q.a = zs.length
      · have hg1 : (Q.e != 0) = false := by rw [bne_eq_false_iff_eq]; exact he
        have hg2 : decide (0 < (zs.length : Int) - Q.a) = false := by rw [decide_eq_false_iff_not]; omega
        have hg3 : decide (Q.a < zs.length) = false := by rw [decide_eq_false_iff_not]; omega
        have HDN := Hid.mk' (done_yes he ha)
        clear he ha
        go_wp2_with (first | (go_at_call 150; refine (rErr _ _ _ _ _ _ _ hpF.1).mono ?_; rintro e w8 ⟨rfl, rfl⟩) | (go_at_call 151; refine (left_any _ _ _ _ _ _ _ hpF.1).mono ?_; rintro e w9 ⟨rfl, q9, hq9⟩; have HB9 : Hid (Below wF.heap.size wF w9) := (by rw [hq9]; exact below_drewN (Below.refl _ _) _); clear hq9))
        go_ret2
        refine ⟨_, true, rfl, ?_, HBF.out.trans (HB9.out.mono HBF.out.size)⟩
        rw [HD.out, HDN.out]
        exact ⟨rfl, .hard n1 n2 n3, rfl, rfl, trivial, trivial⟩
      · have hg1 : (Q.e != 0) = false := by rw [bne_eq_false_iff_eq]; exact he
        have hg2 : decide (0 < (zs.length : Int) - Q.a) = true := by rw [decide_eq_true_eq]; omega
        have hg3 : decide (Q.a < zs.length) = true := by rw [decide_eq_true_eq]; omega
        have HDN := Hid.mk' (done_no2 ha)
        clear he ha
        go_wp2_with (first | (go_at_call 150; refine (rErr _ _ _ _ _ _ _ hpF.1).mono ?_; rintro e w8 ⟨rfl, rfl⟩) | (go_at_call 151; refine (left_any _ _ _ _ _ _ _ hpF.1).mono ?_; rintro e w9 ⟨rfl, q9, hq9⟩; have HB9 : Hid (Below wF.heap.size wF w9) := (by rw [hq9]; exact below_drewN (Below.refl _ _) _); clear hq9))
        go_ret2
        refine ⟨_, false, rfl, ?_, HBF.out.trans (HB9.out.mono HBF.out.size)⟩
        rw [HD.out, HDN.out]
        exact ⟨rfl, rfl⟩
    · have hg1 : (Q.e != 0) = true := by rw [bne_iff_ne]; exact he
      have HDN := Hid.mk' (done_no1 (zs := zs) he)
      clear he
      go_wp2_with (first | (go_at_call 150; refine (rErr _ _ _ _ _ _ _ hpF.1).mono ?_; rintro e w8 ⟨rfl, rfl⟩))
      go_ret2
      refine ⟨_, false, rfl, ?_, HBF.out⟩
      rw [HD.out, HDN.out]
      exact ⟨rfl, rfl⟩
  · by_cases h2 : kindOf zs = 2
    · have HPP : Hid (parseP zs = parseEntry zs) := by show _ = _; rw [parseP, if_neg h1, if_pos h2]
      have hk1 : (kindOf zs == 1) = false := by rw [beq_eq_false_iff_ne]; exact h1
      have hk2 : (kindOf zs == 2) = true := by rw [beq_iff_eq]; exact h2
      clear h1 h2 h3
      go_enter Tryz.func119, Tryz.ntmps119
      go_wp2_with (go_at_call 145; refine hnew.mono ?_; rintro e w1 ⟨b, v1, rfl, hre, hb1⟩)
      refine (rdU8 _ _ _ _ ⟨0, 0⟩ _ hre).mono ?_
      rintro e w2 ⟨rfl, hp2⟩
      change RePost _ _ _ _ _ _ (r1 zs).a (r1 zs).e at hp2
      rw [show (⟨0, 0⟩ : Rs).num zs 1 = kindOf zs from rfl]
      have HB2 : Hid (Below w.heap.size w w2) := hb1.trans (hp2.below hb1.size)
      go_wp2_with fail
      refine (rdInt _ _ _ _ (r1 zs) _ hp2.1).mono ?_
      rintro e w3 ⟨rfl, hp3⟩
      have HB3 : Hid (Below w.heap.size w w3) := HB2.out.trans (hp3.below HB2.out.size)
      go_wp2_with fail
      refine (rdInt _ _ _ _ ((r1 zs).go zs 8) _ hp3.1).mono ?_
      rintro e w4 ⟨rfl, hp4⟩
      have HB4 : Hid (Below w.heap.size w w4) := HB3.out.trans (hp4.below HB3.out.size)
      go_wp2_with fail
      refine (rdU8 _ _ _ _ (((r1 zs).go zs 8).go zs 8) _ hp4.1).mono ?_
      rintro e w5 ⟨rfl, hp5⟩
      have HB5 : Hid (Below w.heap.size w w5) := HB4.out.trans (hp5.below HB4.out.size)
      go_wp2_with fail
      refine (rdText _ _ _ _ ((((r1 zs).go zs 8).go zs 8).go zs 1) _ hp5.1).mono ?_
      rintro e w6 ⟨rfl, hp6⟩
      have HB6 : Hid (Below w.heap.size w w6) := HB5.out.trans (hp6.below HB5.out.size)
      have HIB := Hid.mk' (text_isB hb ((((r1 zs).go zs 8).go zs 8).go zs 1))
      have HTL : Hid ((((((r1 zs).go zs 8).go zs 8).go zs 1).text zs).length ≤ 70000) := Nat.le_trans (text_len _ _) hl
      have HN1 := Hid.mk' (num_i64 zs (r1 zs) 8)
      have HD0 : Hid (parseP zs = if decide ((((r1 zs).go zs 8).go zs 8).num zs 1 ≤ 2) && (((((r1 zs).go zs 8).go zs 8).go zs 1).goT zs).done zs then some (.entry ⟨(r1 zs).num zs 8, ((r1 zs).go zs 8).num zs 8, (((r1 zs).go zs 8).go zs 8).num zs 1, ((((r1 zs).go zs 8).go zs 8).go zs 1).text zs⟩) else none) := HPP.out
      generalize ((((r1 zs).go zs 8).go zs 8).go zs 1).goT zs = Q at *
      generalize ((((r1 zs).go zs 8).go zs 8).go zs 1).text zs = d at *
      generalize (r1 zs).num zs 8 = n1 at *
      generalize ((r1 zs).go zs 8).num zs 8 = n2 at *
      generalize (((r1 zs).go zs 8).go zs 8).num zs 1 = n3 at *
      obtain ⟨cc, w7, hconv, hs7, hb7⟩ := conv_back HIB.out (by have := HTL.out; omega) w6
      have HB7 : Hid (Below w.heap.size w w7) := HB6.out.trans (hb7.mono HB6.out.size)
      have hre7 := hp6.1.belowUpd hb7
      have HS7 := Hid.mk' hs7
      have HSZ6 := Hid.mk' HB6.out.size
      clear hp2 hp3 hp4 hp5 hp6 hre hnew HPP hs7 hb7
      by_cases hfit : n3 ≤ 2
      · have hgf : decide (n3 ≤ 2) = true := by rw [decide_eq_true_eq]; exact hfit
        have HD : Hid (parseP zs = if Q.done zs then some (.entry ⟨n1, n2, n3, d⟩) else none) := by show _ = _; rw [HD0.out, hgf, Bool.true_and]
        clear hfit HD0
        go_wp2_with fail
        have hreF := fun q => (hre7.belowUpd ((Below.refl _ w7).alloc (Nat.le_refl _) (.cells #[.int .i64 n1, .int .i64 n2, .int .i64 n3, .slice (some ⟨w6.heap.size, 0, none⟩) d.length cc] 152))).belowUpd (below_drewN (Below.refl _ _) q)
        have HBF : Hid (∀ q, Below w.heap.size w ((w7.alloc (.cells #[.int .i64 n1, .int .i64 n2, .int .i64 n3, .slice (some ⟨w6.heap.size, 0, none⟩) d.length cc] 152)).drewN q)) := fun q => below_drewN (HB7.out.alloc HB7.out.size _) q
        go_quiet (fail)
        have hle := hre7.le
        by_cases he : Q.e = 0
        · by_cases ha : Q.a = zs.length
          · have hg1 : (Q.e != 0) = false := by rw [bne_eq_false_iff_eq]; exact he
            have hg2 : decide (0 < (zs.length : Int) - Q.a) = false := by rw [decide_eq_false_iff_not]; omega
            have hg3 : decide (Q.a < zs.length) = false := by rw [decide_eq_false_iff_not]; omega
            have HDN := Hid.mk' (done_yes he ha)
            clear he ha
            go_wp2_with (first | (go_at_call 150; refine (rErr _ _ _ _ _ _ _ (hreF _)).mono ?_; rintro e w8 ⟨rfl, rfl⟩) | (go_at_call 151; refine (left_any _ _ _ _ _ _ _ (hreF _)).mono ?_; rintro e w9 ⟨rfl, q9, hq9⟩; have HB9 : Hid (Below w.heap.size w w9) := (by rw [hq9]; exact below_drewN (HBF.out _) _); have HB79 : Hid (Below w7.heap.size w7 w9) := (by rw [hq9]; exact below_drewN (below_drewN ((Below.refl _ _).alloc (Nat.le_refl _) _) _) _); clear hq9))
            go_ret2
            refine ⟨_, true, rfl, ?_, HB9.out⟩
            rw [HD.out, HDN.out]
            exact ⟨rfl, .entry ⟨⟨n1, n2, n3, d⟩, .slice (some ⟨w6.heap.size, 0, none⟩) d.length cc⟩, rfl, rfl, ⟨⟨HS7.out.below HB79.out, HIB.out, HTL.out⟩, HN1.out⟩, fun j hj _ e => by simp only [Value.ownBlock, Option.some.injEq] at hj; have h1 := HSZ6.out; have h2 : j < w.heap.size := e; omega⟩
          · have hg1 : (Q.e != 0) = false := by rw [bne_eq_false_iff_eq]; exact he
            have hg2 : decide (0 < (zs.length : Int) - Q.a) = true := by rw [decide_eq_true_eq]; omega
            have hg3 : decide (Q.a < zs.length) = true := by rw [decide_eq_true_eq]; omega
            have HDN := Hid.mk' (done_no2 ha)
            clear he ha
            go_wp2_with (first | (go_at_call 150; refine (rErr _ _ _ _ _ _ _ (hreF _)).mono ?_; rintro e w8 ⟨rfl, rfl⟩) | (go_at_call 151; refine (left_any _ _ _ _ _ _ _ (hreF _)).mono ?_; rintro e w9 ⟨rfl, q9, hq9⟩; have HB9 : Hid (Below w.heap.size w w9) := (by rw [hq9]; exact below_drewN (HBF.out _) _); have HB79 : Hid (Below w7.heap.size w7 w9) := (by rw [hq9]; exact below_drewN (below_drewN ((Below.refl _ _).alloc (Nat.le_refl _) _) _) _); clear hq9))
            go_ret2
            refine ⟨_, false, rfl, ?_, HB9.out⟩
            rw [HD.out, HDN.out]
            exact ⟨rfl, rfl⟩
        · have hg1 : (Q.e != 0) = true := by rw [bne_iff_ne]; exact he
          have HDN := Hid.mk' (done_no1 (zs := zs) he)
          clear he
          go_wp2_with (first | (go_at_call 150; refine (rErr _ _ _ _ _ _ _ (hreF _)).mono ?_; rintro e w8 ⟨rfl, rfl⟩))
          go_ret2
          refine ⟨_, false, rfl, ?_, HBF.out _⟩
          rw [HD.out, HDN.out]
          exact ⟨rfl, rfl⟩
      · have hgf : decide (n3 ≤ 2) = false := by rw [decide_eq_false_iff_not]; exact hfit
        have HD : Hid (parseP zs = none) := by show _ = _; rw [HD0.out, hgf, Bool.false_and]; rfl
        clear hfit HD0
        go_wp2_with fail
        have _hreF := fun q => (hre7.belowUpd ((Below.refl _ w7).alloc (Nat.le_refl _) (.cells #[.int .i64 n1, .int .i64 n2, .int .i64 n3, .slice (some ⟨w6.heap.size, 0, none⟩) d.length cc] 152))).belowUpd (below_drewN (Below.refl _ _) q)
        have HBF : Hid (∀ q, Below w.heap.size w ((w7.alloc (.cells #[.int .i64 n1, .int .i64 n2, .int .i64 n3, .slice (some ⟨w6.heap.size, 0, none⟩) d.length cc] 152)).drewN q)) := fun q => below_drewN (HB7.out.alloc HB7.out.size _) q
        go_quiet (fail)
        go_wp2
        go_ret2
        refine ⟨_, false, rfl, ?_, HBF.out _⟩
        rw [HD.out]
        exact ⟨rfl, rfl⟩
    · have HPP : Hid (parseP zs = none) := by show _ = _; rw [parseP, if_neg h1, if_neg h2, if_neg h3]
      have hk1 : (kindOf zs == 1) = false := by rw [beq_eq_false_iff_ne]; exact h1
      have hk2 : (kindOf zs == 2) = false := by rw [beq_eq_false_iff_ne]; exact h2
      have hk3 : (kindOf zs == 3) = false := by rw [beq_eq_false_iff_ne]; exact h3
      clear h1 h2 h3
      go_enter Tryz.func119, Tryz.ntmps119
      go_wp2_with (go_at_call 145; refine hnew.mono ?_; rintro e w1 ⟨b, v1, rfl, hre, hb1⟩)
      refine (rdU8 _ _ _ _ ⟨0, 0⟩ _ hre).mono ?_
      rintro e w2 ⟨rfl, hp2⟩
      have HB2 : Hid (Below w.heap.size w w2) := hb1.trans (hp2.below hb1.size)
      rw [show (⟨0, 0⟩ : Rs).num zs 1 = kindOf zs from rfl]
      clear hre hp2 hnew
      go_wp2
      go_ret2
      refine ⟨_, false, rfl, ?_, HB2.out⟩
      rw [HPP.out]
      exact ⟨rfl, rfl⟩
end Go.Proofs.YtecnlfalpfbobaaGreatDoor
