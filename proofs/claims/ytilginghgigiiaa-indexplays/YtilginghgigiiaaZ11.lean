/- IndexPlays. -/
import Derived.Test.YtilginghgigiiaaZ9
import Derived.BigQuiet
import Derived.Deep.CutBlock
namespace Go.Proofs.Ytilginghgigiiaa
open Go Go.RowKit
theorem bd_look {n : Nat} {D : Dat} (h : Bd n D) (key : ByteArray) : ((lookD D key).getD []).length ≤ n := by
  cases hl : lookD D key with
  | none => simp
  | some ms => exact (h.ms _ (lookD_mem hl)).1
theorem bd_keys {n : Nat} {D : Dat} (h : Bd n D) (lo hi : ByteArray) : (keysD lo hi D).length ≤ n := by
  refine Nat.le_trans (List.length_filter_le _ _) ?_
  rw [List.length_map]
  exact h.len
set_option maxRecDepth 100000 in
set_option maxHeartbeats 4000000 in
theorem indexPlays_walk (v0 : Value) (cs : List Cl) (w : World) (hC : SeesC w v0 cs) (_hcl : cs.length ≤ maxLen) :
    Calls Try.prog 3 #[v0] w fun e w' => e = .returned (.bool true) ∧ Below w.heap.size w w' := by
  obtain ⟨ka, kc, rfl⟩ := hC.form
  have HK := Hid.mk'' hC
  have hml : cs.length ≤ 9223372036854775807 := by unfold maxLen at _hcl; omega
  clear hC _hcl
  go_enter Try.func3, Try.ntmps3
  go_upto_region 3 with (go_at_call 8; refine (known_any w).mono ?_; rintro e w1 ⟨rfl, hb1⟩)
  go_upto_region 4 with (go_at_call 9; refine (new_xd w1).mono ?_; rintro e w2 ⟨rfl, hx2, hb2, hz2⟩)
  have HS0 : Hid (PP w (w2.alloc (.cells #[.slice none 0 0] 29)) w1.heap.size w2.heap.size 0 [] []) := PP.start hb1 hx2 hb2 rfl
  generalize hV : w2.alloc (.cells #[.slice none 0 0] 29) = V at *
  clear hx2 hb2
  rw [hz2] at HS0
  generalize hY : w1.heap.size + 1 = Y at *
  generalize hX : w1.heap.size = X at *
  clear hX hY hV hz2 hb1
  have hpY : Value.pointer (some ⟨Y, 0, none⟩) = ptr Y := rfl
  rw [hpY]
  clear hpY
  go_wp2
  go_loopg [5] 201 (fun kx s5 wr => ∃ (i : Nat) (D : Dat), s5 = .int .i64 i ∧ kx + i = 201 ∧ i ≤ 200 ∧ i ≤ cs.length ∧ Hid (PP w wr X Y (2 * i) D D))
  case atStart => exact ⟨0, [], rfl, rfl, by omega, by omega, HS0⟩
  case round =>
    clear HS0
    obtain ⟨i, D, rfl, hk, hi, hics, HM⟩ := hrel
    by_cases hlt : i < cs.length ∧ i < 200
    · obtain ⟨c1, c2⟩ := hlt
      obtain ⟨cb, co, rfl, hcl, hcc⟩ := HK.out.at c1
      have hc := hcc.below hcl HM.out.below
      obtain ⟨hc0, hc1, hc2, hc3, hc4, hrv, hkl, hhl⟩ := hc
      generalize cs.getD i noCl = c at *
      clear hcc
      obtain ⟨W0, hW0⟩ : ∃ W0, W0 = wr.alloc (.cells #[.int .i64 c.kind, .int .i64 c.rev, .string c.key, .string c.hi, .bool c.del] 31) := ⟨_, rfl⟩
      have HM0 : Hid (PB w W0 X Y wr.heap.size c (2 * i) D D) := by rw [hW0]; exact PB.start HM.out c
      go_upto_region 8 with (fail)
      rw [← hW0]
      clear hW0 hc0 hc1 hc2 hc3 hc4 HM
      generalize wr.heap.size = bx at *
      obtain ⟨d0, d1, d2, d3, d4⟩ := HM0.out.cells
      by_cases hbig : 500 < c.key.size + c.hi.size
      · go_wp2
        go_roundg (200 - i)
        case measure => omega
        case rel => exact ⟨i + 1, D, by congr 1, by omega, by omega, by omega, HM0.out.pp.mono (by omega)⟩
      · go_upto_block 2 with fail
        have h200 : decide ((i : Int) < 200) = true := decide_eq_true (by omega)
        simp only [h200]
        clear h200
        go_cut [7, 8] from 44 to 73 (fun s7 s8 wx => ∃ (a : Int) (D' : Dat), s7 = .int .i64 a ∧ s8 = .int .i64 a ∧ Hid (PB w wx X Y bx c (2 * i + 2) D' D'))
        case first =>
          by_cases hk0 : c.kind = 0
          · have hk0b : (c.kind == 0) = true := beq_iff_eq.2 hk0
            have hd1 : ∀ W, Hid (PB w W X Y bx c (2 * i) D D) → Calls Try.prog 10 #[ptr X, .string c.key, .agg #[.int .i64 c.rev, .bool c.del]] W fun e w' => e = .returned (.int .i64 (putE D c.key c.rev c.del)) ∧ Hid (PB w w' X Y bx c (2 * i + 1) (putD D c.key c.rev c.del) D) ∧ CB bx c w' := fun W q => q.out.putX (by omega) (by omega) hrv
            have hx1 : ∀ W, Hid (PB w W X Y bx c (2 * i + 1) (putD D c.key c.rev c.del) D) → Calls Try.prog 11 #[ptr Y, .string c.key, .agg #[.int .i64 c.rev, .bool c.del]] W fun e w' => e = .returned (.int .i64 (putE D c.key c.rev c.del)) ∧ Hid (PB w w' X Y bx c (2 * i + 1 + 1) (putD D c.key c.rev c.del) (putD D c.key c.rev c.del)) ∧ CB bx c w' := fun W q => q.out.putY (by omega) (by omega)
            have HM1 : Hid (PB w W0.drew X Y bx c (2 * i) D D) := HM0.out.later (Below.refl _ _).drew
            have hS0 : CB bx c W0.drew := HM1.out.cells
            generalize putD D c.key c.rev c.del = D' at *
            generalize putE D c.key c.rev c.del = E' at *
            clear HM0 hk0
            go_wp2_with fail
            go_region_held_law (CB bx c) (first | assumption | (show CB bx c _; assumption)) (first | (go_at_call 10; with_reducible refine (hd1 _ (by assumption)).mono ?_; rintro e w5 ⟨rfl, HM5, hS5⟩) | (go_at_call 11; with_reducible refine (hx1 _ (by assumption)).mono ?_; rintro e w6 ⟨rfl, HM6, hS6⟩))
            all_goals
              go_wp2_with fail
              go_meet
              exact ⟨_, D', rfl, rfl, HM6⟩
          · have hk0b : (c.kind == 0) = false := beq_eq_false_iff_ne.2 hk0
            by_cases hk1 : c.kind = 1
            · have hk1b : (c.kind == 1) = true := beq_iff_eq.2 hk1
              have htx := HM0.out.trimX (by omega)
              have HTY : Hid (∀ W, PB w W X Y bx c (2 * i) (trimD c.rev D) D → Calls Try.prog 13 #[ptr Y, .int .i64 c.rev] W fun e w' => e = .returned (.tuple #[]) ∧ Hid (PB w w' X Y bx c (2 * i) (trimD c.rev D) (trimD c.rev D)) ∧ CB bx c w') := fun W q => q.trimY (by omega)
              generalize trimD c.rev D = D' at *
              clear HM0 hk0 hk1
              go_wp2_with (first | (go_at_call 12; refine htx.mono ?_; rintro e w5 ⟨rfl, HM5, u0, u1, u2, u3, u4⟩; have hty := HTY.out _ HM5.out) | (go_at_call 13; refine hty.mono ?_; rintro e w6 ⟨rfl, HM6, v0, v1, v2, v3, v4⟩))
              go_meet
              exact ⟨_, D', rfl, rfl, HM6.out.keep (HM6.out.pp.mono (by omega)) (Keep.ofBelow (Below.refl _ _))⟩
            · have hk1b : (c.kind == 1) = false := beq_eq_false_iff_ne.2 hk1
              clear hk0 hk1
              go_wp2_with fail
              go_meet
              exact ⟨_, D, rfl, rfl, HM0.out.keep (HM0.out.pp.mono (by omega)) (Keep.ofBelow (Below.refl _ _))⟩
        case rest =>
          obtain ⟨a, D', rfl, rfl, HM1⟩ := hcut
          clear HM0 d0 d1 d2 d3 d4
          generalize wc = W1 at *
          clear wr
          have hbd := HM1.out.pp.bx
          have hl1 := bd_look hbd c.key
          have hl2 := bd_keys hbd c.key c.hi
          have hl3 := hbd.len
          clear hbd
          have hmx : ∀ W, Hid (PB w W X Y bx c (2 * i + 2) D' D') → Calls Try.prog 14 #[ptr X, .string c.key] W fun e w' => ∃ p q, e = .returned (.slice p ((lookD D' c.key).getD []).length q) ∧ Hid (PB w w' X Y bx c (2 * i + 2) D' D') ∧ Hid (MR w' (.slice p ((lookD D' c.key).getD []).length q) ((lookD D' c.key).getD [])) ∧ CB bx c w' := fun W q => q.out.marksX (by omega)
          have hmy : ∀ W va, Hid (PB w W X Y bx c (2 * i + 2) D' D') → Hid (MR W va ((lookD D' c.key).getD [])) → Calls Try.prog 15 #[ptr Y, .string c.key] W fun e w' => ∃ p q, e = .returned (.slice p ((lookD D' c.key).getD []).length q) ∧ Hid (PB w w' X Y bx c (2 * i + 2) D' D') ∧ Hid (MR w' va ((lookD D' c.key).getD [])) ∧ Hid (MR w' (.slice p ((lookD D' c.key).getD []).length q) ((lookD D' c.key).getD [])) ∧ CB bx c w' := fun W va q q1 => q.out.marksY (by omega) q1.out
          have hkx : ∀ W va vb, Hid (PB w W X Y bx c (2 * i + 2) D' D') → Hid (MR W va ((lookD D' c.key).getD [])) → Hid (MR W vb ((lookD D' c.key).getD [])) → Calls Try.prog 16 #[ptr X, .string c.key, .string c.hi] W fun e w' => ∃ p q, e = .returned (.slice p (keysD c.key c.hi D').length q) ∧ Hid (PB w w' X Y bx c (2 * i + 2) D' D') ∧ Hid (MR w' va ((lookD D' c.key).getD [])) ∧ Hid (MR w' vb ((lookD D' c.key).getD [])) ∧ Hid (Row w' (.slice p (keysD c.key c.hi D').length q) (keysD c.key c.hi D')) ∧ CB bx c w' := fun W va vb q q1 q2 => q.out.keysX (by omega) q1.out q2.out
          have hky : ∀ W va vb vp, Hid (PB w W X Y bx c (2 * i + 2) D' D') → Hid (MR W va ((lookD D' c.key).getD [])) → Hid (MR W vb ((lookD D' c.key).getD [])) → Hid (Row W vp (keysD c.key c.hi D')) → Calls Try.prog 17 #[ptr Y, .string c.key, .string c.hi] W fun e w' => ∃ p q, e = .returned (.slice p (keysD c.key c.hi D').length q) ∧ Hid (PB w w' X Y bx c (2 * i + 2) D' D') ∧ Hid (MR w' va ((lookD D' c.key).getD [])) ∧ Hid (MR w' vb ((lookD D' c.key).getD [])) ∧ Hid (Row w' vp (keysD c.key c.hi D')) ∧ Hid (Row w' (.slice p (keysD c.key c.hi D').length q) (keysD c.key c.hi D')) ∧ CB bx c w' := fun W va vb vp q q1 q2 q3 => q.out.keysY (by omega) q1.out q2.out q3.out
          have HLN : Hid (∀ W, PB w W X Y bx c (2 * i + 2) D' D' → Calls Try.prog 18 #[ptr X] W fun e w' => e = .returned (.int .i64 D'.length) ∧ w' = W) := fun W q => q.pp.len
          have HRY : Hid (∀ W, PB w W X Y bx c (2 * i + 2) D' D' → ∃ p q, W.cell? ⟨Y, 0, none⟩ = some (.slice p D'.length q)) := fun W q => q.pp.rowsY
          generalize (lookD D' c.key).getD [] = ms at *
          generalize keysD c.key c.hi D' = ks at *
          have HM2 : Hid (PB w W1.drew X Y bx c (2 * i + 2) D' D') := HM1.out.later (Below.refl _ _).drew
          have hS0 : CB bx c W1.drew := HM2.out.cells
          clear HM1
          go_wp2_with fail
          go_region_held_law (CB bx c) (first | assumption | (show CB bx c _; assumption)) (first | (go_at_call 14; with_reducible refine (hmx _ (by assumption)).mono ?_; rintro e w5 ⟨pa, ca, rfl, HM5, HA5, hS5⟩) | (go_at_call 15; with_reducible refine (hmy _ _ (by assumption) HA5).mono ?_; rintro e w6 ⟨pb, cb', rfl, HM6, HA6, HB6, hS6⟩))
          have HM7 : Hid (PB w w6.drew X Y bx c (2 * i + 2) D' D') := HM6.out.later (Below.refl _ _).drew
          have HA7 := Hid.mk'' (HA6.out.below (w' := w6.drew) (Below.refl _ _).drew)
          have HB7 := Hid.mk'' (HB6.out.below (w' := w6.drew) (Below.refl _ _).drew)
          have hS7 : CB bx c w6.drew := HM7.out.cells
          clear HM2 HM5 HA5 hS5 HM6 HA6 HB6 hS6 hS0 hmx hmy
          go_wp2_with fail
          go_region_held_law (CB bx c) (first | assumption | (show CB bx c _; assumption)) (first | (go_at_call 16; with_reducible refine (hkx _ _ _ (by assumption) HA7 HB7).mono ?_; rintro e w8 ⟨pp, cp, rfl, HM8, HA8, HB8, HP8, hS8⟩) | (go_at_call 17; with_reducible refine (hky _ _ _ _ (by assumption) HA8 HB8 HP8).mono ?_; rintro e w9 ⟨pq, cq, rfl, HM9, HA9, HB9, HP9, HQ9, hS9⟩))
          obtain ⟨yp, yc, hyc⟩ := HRY.out _ HM9.out
          have hln : ∀ q, Calls Try.prog 18 #[ptr X] (w9.drewN q) fun e w' => e = .returned (.int .i64 D'.length) ∧ w' = w9.drewN q := fun q => HLN.out _ (HM9.out.later (below_drewM (Below.refl _ _) q))
          have e1 : (a != a) = false := by simp
          have e2 : ((ms.length : Int) != (ms.length : Int)) = false := by simp
          have e3 : ((ks.length : Int) != (ks.length : Int)) = false := by simp
          have e4 : ((D'.length : Int) != (D'.length : Int)) = false := by simp
          clear HM7 HA7 HB7 hS7 HM8 HA8 HB8 HP8 hS8 HLN HRY hkx hky hS9
          have HB0 : Hid (Below w9.heap.size w9 w9) := Below.refl _ _
          have HBD0 : ∀ q, Hid (Below w9.heap.size w9 (w9.drewN q)) := fun q => below_drewM HB0.out q
          go_wp2_with fail
          go_quiet (first | (go_at_call 18; with_reducible exact Calls.quiet_of_same (hln _)))
          go_wp2_with fail
          clear hln hyc
          go_loopg [13] (ms.length + 1) (fun kx s13 wr => ∃ j : Nat, s13 = .int .i64 j ∧ kx + j = ms.length + 1 ∧ j ≤ ms.length ∧ Hid (Below w9.heap.size w9 wr))
          case atStart => exact ⟨0, rfl, rfl, Nat.zero_le _, HBD0 _⟩
          case round =>
            obtain ⟨j, rfl, hkj, hj, HB⟩ := hrel
            by_cases hlj : j < ms.length
            · obtain ⟨m, hm⟩ : ∃ m, ms[j]? = some m := ⟨_, List.getElem?_eq_getElem hlj⟩
              obtain ⟨ga, ca', hva, hga, a0, a1⟩ := (HA9.out.below HB.out) j m hm
              obtain ⟨gb, cb2, hvb, hgb, b0, b1⟩ := (HB9.out.below HB.out) j m hm
              have hpa : pa = some ⟨ga, 0, none⟩ := by cases hva; rfl
              have hpb : pb = some ⟨gb, 0, none⟩ := by cases hvb; rfl
              subst hpa hpb
              have e5 : (m.1 != m.1) = false := by simp
              have e6 : (m.2 != m.2) = false := by simp
              have HBD : ∀ q, Hid (Below w9.heap.size w9 (wr.drewN q)) := fun q => below_drewM HB.out q
              clear hva hvb hm HA9 HB9 HP9 HQ9 HBD0
              go_wp2
              go_quiet (fail)
              go_wp2
              go_roundg (ms.length - j)
              case measure => omega
              case rel => exact ⟨j + 1, by congr 1, by omega, by omega, HBD _⟩
            · clear HBD0 HA9 HB9
              have HBE := HB
              clear HB
              generalize wr = W2 at *
              go_wp2_with fail
              go_loopg [14] (ks.length + 1) (fun kx s14 wr => ∃ j : Nat, s14 = .int .i64 j ∧ kx + j = ks.length + 1 ∧ j ≤ ks.length ∧ Hid (Below w9.heap.size w9 wr))
              case atStart => exact ⟨0, rfl, rfl, Nat.zero_le _, HBE⟩
              case round =>
                obtain ⟨j2, rfl, hkj2, hj2, HB⟩ := hrel
                by_cases hlj2 : j2 < ks.length
                · obtain ⟨k, hkk⟩ : ∃ k, ks[j2]? = some k := ⟨_, List.getElem?_eq_getElem hlj2⟩
                  obtain ⟨ga, ca', hva, hga, a0⟩ := (HP9.out.below HB.out).at_ j2 k hkk
                  obtain ⟨gb, cb2, hvb, hgb, b0⟩ := (HQ9.out.below HB.out).at_ j2 k hkk
                  have hpa : pp = some ⟨ga, 0, none⟩ := by cases hva; rfl
                  have hpb : pq = some ⟨gb, 0, none⟩ := by cases hvb; rfl
                  subst hpa hpb
                  have HBD : ∀ q, Hid (Below w9.heap.size w9 (wr.drewN q)) := fun q => below_drewM HB.out q
                  clear hva hvb hkk HP9 HQ9 HBE
                  go_wp2
                  go_quiet (fail)
                  go_wp2
                  go_roundg (ks.length - j2)
                  case measure => omega
                  case rel => exact ⟨j2 + 1, by congr 1, by omega, by omega, HBD _⟩
                · have HE : Hid (PP w wr X Y (2 * (i + 1)) D' D') := (HM9.out.pp.later HB.out).mono (by omega)
                  go_wp2
                  go_roundg (200 - i)
                  case measure => omega
                  case rel => exact ⟨i + 1, D', by congr 1, by omega, by omega, by omega, HE⟩
    · obtain ⟨yp, yc, hyc⟩ := HM.out.rowsY
      have hky : Calls Try.prog 16 #[ptr X, .string ⟨#[]⟩, .string ⟨#[]⟩] wr.drew fun e w' => ∃ p q, e = .returned (.slice p D.length q) ∧ Hid (Below w.heap.size w w') ∧ w'.cell? ⟨Y, 0, none⟩ = some (.slice yp D.length yc) := by
        refine ((HM.out.later (Below.refl _ _).drew).keysX (by omega) ⟨#[]⟩ ⟨#[]⟩).mono ?_
        rintro e w' ⟨v, rfl, h2⟩
        rw [keysD_all] at h2
        obtain ⟨p, q, rfl⟩ := h2.row.form
        have hb := HM.out.below
        refine ⟨p, q, by rw [List.length_map], (hb.drew).trans (h2.2.mono hb.size), ?_⟩
        exact (h2.2.cell (p := ⟨Y, 0, none⟩) (World.block_lt_of_cell? _ _ hyc)).trans hyc
      have hS0 : wr.drew.cell? ⟨Y, 0, none⟩ = some (.slice yp D.length yc) := hyc
      have hDl := HM.out.bx.len
      clear HM
      by_cases h1 : i < cs.length
      · have h2 : ¬ i < 200 := fun h => hlt ⟨h1, h⟩
        clear hlt
        go_wp2
        go_region_held_law (fun W => W.cell? ⟨Y, 0, none⟩ = some (.slice yp D.length yc)) (first | assumption) (first | (go_at_call 16; refine hky.mono ?_; rintro e w5 ⟨p, q, rfl, HB5, hS5⟩))
        go_wp2
        go_ret
        exact ⟨rfl, HB5.out⟩
      · clear hlt
        go_wp2
        go_region_held_law (fun W => W.cell? ⟨Y, 0, none⟩ = some (.slice yp D.length yc)) (first | assumption) (first | (go_at_call 16; refine hky.mono ?_; rintro e w5 ⟨p, q, rfl, HB5, hS5⟩))
        go_wp2
        go_ret
        exact ⟨rfl, HB5.out⟩
end Go.Proofs.Ytilginghgigiiaa
