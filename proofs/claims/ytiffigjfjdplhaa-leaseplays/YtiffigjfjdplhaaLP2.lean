/- Calls that come in; LeasePlays. -/
import Derived.Test.YtiffigjfjdplhaaLP1
import Derived.Deep.RegionHeldLaw
import Derived.Deep.CutBlock
namespace Go.Proofs.Ytiffigjfjdplhaa
open Go Go.RowKit
structure HasC (w : World) (b o : Nat) (c : Cl) : Prop where
  c0 : w.cell? ⟨b, o, none⟩ = some (.int .i64 c.kind)
  c1 : w.cell? ⟨b, o + 1, none⟩ = some (.int .i64 c.id)
  c2 : w.cell? ⟨b, o + 2, none⟩ = some (.int .i64 c.ttl)
  c3 : w.cell? ⟨b, o + 3, none⟩ = some (.int .i64 c.now)
  rb : isI c.id
def SeesC (w : World) (v : Value) (cs : List Cl) : Prop :=
  (cs = [] ∧ ∃ ao cap, v = .slice ao 0 cap) ∨
  ∃ b off cap, v = .slice (some ⟨b, off, none⟩) cs.length cap ∧ 0 < cs.length ∧ b < w.heap.size ∧ ∀ i, i < cs.length → HasC w b (off + i * 4) (cs.getD i noCl)
theorem SeesC.form {w : World} {v : Value} {zs : List Cl} (h : SeesC w v zs) : ∃ ao cap, v = .slice ao zs.length cap := by
  rcases h with ⟨rfl, ao, cap, rfl⟩ | ⟨b, off, cap, rfl, _⟩ <;> exact ⟨_, _, rfl⟩
theorem HasC.below {w w' : World} {b o : Nat} {c : Cl} {B : Nat} (h : HasC w b o c) (hl : b < B) (hb : Below B w w') : HasC w' b o c :=
  ⟨(hb.cell (p := ⟨b, _, none⟩) hl).trans h.c0, (hb.cell (p := ⟨b, _, none⟩) hl).trans h.c1, (hb.cell (p := ⟨b, _, none⟩) hl).trans h.c2, (hb.cell (p := ⟨b, _, none⟩) hl).trans h.c3, h.rb⟩
theorem SeesC.at {w : World} {a : Option Addr} {cap : Nat} {cs : List Cl} (h : SeesC w (.slice a cs.length cap) cs) {j : Nat} (hj : j < cs.length) :
    ∃ b off, a = some ⟨b, off, none⟩ ∧ b < w.heap.size ∧ HasC w b (off + j * 4) (cs.getD j noCl) := by
  rcases h with ⟨h, _⟩ | ⟨b, off, c, he, _, hb, hc⟩
  · subst h; simp at hj
  · cases he; exact ⟨b, off, rfl, hb, hc j hj⟩
set_option maxRecDepth 100000 in
set_option maxHeartbeats 4000000 in
theorem leasePlays_walk (v0 : Value) (cs : List Cl) (w : World) (hC : SeesC w v0 cs) (_hcl : cs.length ≤ maxLen) :
    Calls Try.prog 3 #[v0] w fun e w' => e = .returned (.bool true) ∧ Below w.heap.size w w' := by
  obtain ⟨ka, kc, rfl⟩ := hC.form
  have HK := Hid.mk'' hC
  have hml : cs.length ≤ 9223372036854775807 := by unfold maxLen at _hcl; omega
  have hkn := known_any w
  clear hC _hcl
  go_enter Try.func3, Try.ntmps3
  go_upto_region 4 with (first
    | (go_at_call 7; refine hkn.mono ?_; rintro e w1 ⟨rfl, bel1⟩; have hn := new_ll w w1 bel1; clear hkn)
    | (go_at_call 8; refine hn.mono ?_; rintro e w2 ⟨d, b, rfl, h2⟩; have HS0 := Hid.mk'' (PP.start h2); clear hn bel1 h2))
  generalize hV : w2.alloc (.cells #[.slice none 0 0] 29) = V at *
  generalize hX : w2.heap.size = x at *
  have hpx : Value.pointer (some ⟨x, 0, none⟩) = ptr x := rfl
  rw [hpx]
  clear hpx hV hX w2
  go_wp2
  go_loopg [5] 101 (fun kx s5 wr => ∃ (i : Nat) (L : List Ls), s5 = .int .i64 i ∧ kx + i = 101 ∧ i ≤ 100 ∧ i ≤ cs.length ∧ Hid (PP w wr d b x L L))
  case atStart => exact ⟨0, [], rfl, rfl, by omega, by omega, HS0⟩
  case round =>
    clear HS0
    obtain ⟨i, L, rfl, hk, hi, hics, HM⟩ := hrel
    by_cases hlt : i < cs.length ∧ i < 100
    · obtain ⟨c1, c2⟩ := hlt
      obtain ⟨cb, co, rfl, hcl, hcc⟩ := HK.out.at c1
      obtain ⟨vM, hvM⟩ := HM.out
      have hc := hcc.below hcl hvM.bel
      have few := hvM.bk.few
      have HUP := Hid.mk'' hvM.bk.up
      have HOK := Hid.mk'' hvM.bk.ok
      clear hvM
      obtain ⟨hc0, hc1, hc2, hc3, hci⟩ := hc
      generalize cs.getD i noCl = c at *
      clear hcc
      obtain ⟨W0, hW0⟩ : ∃ W0, W0 = wr.alloc (.cells #[.int .i64 c.kind, .int .i64 c.id, .int .i64 c.ttl, .int .i64 c.now] 31) := ⟨_, rfl⟩
      have HM0 : Hid (PB w W0 d b x wr.heap.size c L L) := by rw [hW0]; exact PB.start HM.out c
      obtain ⟨n1, n2⟩ := withinF_bd c.now 1099511627777 (by omega)
      obtain ⟨now, hnow⟩ : ∃ u, u = withinF c.now 1099511627777 := ⟨_, rfl⟩
      rw [← hnow] at n1 n2
      have HNOW := Hid.mk'' hnow
      clear hnow
      go_upto_region 8 with (fail)
      rw [← hW0]
      clear hW0 hc0 hc1 hc2 hc3 HM
      generalize wr.heap.size = bx at *
      obtain ⟨d0, d1, d2, d3⟩ := HM0.out.cb
      go_upto_block 2 with (go_at_call 9; refine (within_any _ _ _ (by omega) (by omega)).mono ?_; rintro e w3 ⟨rfl, hw3⟩; obtain rfl := hw3.symm; rw [← HNOW.out])
      go_cut [8, 9] from 39 to 76 (fun s8 s9 wx => ∃ (a : Int) (L' : List Ls), s8 = .int .i64 a ∧ s9 = .int .i64 a ∧ Hid (PB w wx d b x bx c L' L'))
      case first =>
        by_cases hk0 : c.kind = 0
        · have hk0b : (c.kind == 0) = true := beq_iff_eq.2 hk0
          have hd1 : ∀ W, Hid (PB w W d b x bx c L L) → Calls Try.prog 10 #[ptr d, .int .i64 c.id, .int .i64 c.ttl, .int .i64 now] W fun e w' => e = .returned (.int .i64 (grantE L c.id c.ttl now)) ∧ Hid (PB w w' d b x bx c (grantL L c.id c.ttl now) L) ∧ CB bx c w' := fun W q => q.out.grantX now hci
          have hx1 : ∀ W, Hid (PB w W d b x bx c (grantL L c.id c.ttl now) L) → Calls Try.prog 11 #[ptr x, .int .i64 c.id, .int .i64 c.ttl, .int .i64 now] W fun e w' => e = .returned (.int .i64 (grantE L c.id c.ttl now)) ∧ Hid (PB w w' d b x bx c (grantL L c.id c.ttl now) (grantL L c.id c.ttl now)) ∧ CB bx c w' := fun W q => q.out.grantY now n1 (by omega) few HUP.out
          have HM1 : Hid (PB w W0.drew d b x bx c L L) := HM0.out.later (Below.refl _ _).drew
          have hS0 : CB bx c W0.drew := HM1.out.cb
          generalize grantL L c.id c.ttl now = L' at *
          generalize grantE L c.id c.ttl now = E' at *
          clear HM0 hk0 HUP HOK
          go_wp2_with fail
          go_region_held_law (CB bx c) (first | assumption | (show CB bx c _; assumption)) (first | (go_at_call 10; with_reducible refine (hd1 _ (by assumption)).mono ?_; rintro e w5 ⟨rfl, HM5, hS5⟩) | (go_at_call 11; with_reducible refine (hx1 _ (by assumption)).mono ?_; rintro e w6 ⟨rfl, HM6, hS6⟩))
          all_goals
            go_wp2_with fail
            go_meet
            exact ⟨_, L', rfl, rfl, HM6⟩
        · have hk0b : (c.kind == 0) = false := beq_eq_false_iff_ne.2 hk0
          by_cases hk1 : c.kind = 1
          · have hk1b : (c.kind == 1) = true := beq_iff_eq.2 hk1
            have hd1 : ∀ W, Hid (PB w W d b x bx c L L) → Calls Try.prog 12 #[ptr d, .int .i64 c.id, .int .i64 now] W fun e w' => e = .returned (.int .i64 (renewE L c.id now)) ∧ Hid (PB w w' d b x bx c (renewL L c.id now) L) ∧ CB bx c w' := fun W q => q.out.renewX now hci
            have hx1 : ∀ W, Hid (PB w W d b x bx c (renewL L c.id now) L) → Calls Try.prog 13 #[ptr x, .int .i64 c.id, .int .i64 now] W fun e w' => e = .returned (.int .i64 (renewE L c.id now)) ∧ Hid (PB w w' d b x bx c (renewL L c.id now) (renewL L c.id now)) ∧ CB bx c w' := fun W q => q.out.renewY now n1 (by omega) few HUP.out HOK.out
            have HM1 : Hid (PB w W0.drew d b x bx c L L) := HM0.out.later (Below.refl _ _).drew
            have hS0 : CB bx c W0.drew := HM1.out.cb
            generalize renewL L c.id now = L' at *
            generalize renewE L c.id now = E' at *
            clear HM0 hk0 hk1 HUP HOK
            go_wp2_with fail
            go_region_held_law (CB bx c) (first | assumption | (show CB bx c _; assumption)) (first | (go_at_call 12; with_reducible refine (hd1 _ (by assumption)).mono ?_; rintro e w5 ⟨rfl, HM5, hS5⟩) | (go_at_call 13; with_reducible refine (hx1 _ (by assumption)).mono ?_; rintro e w6 ⟨rfl, HM6, hS6⟩))
            all_goals
              go_wp2_with fail
              go_meet
              exact ⟨_, L', rfl, rfl, HM6⟩
          · have hk1b : (c.kind == 1) = false := beq_eq_false_iff_ne.2 hk1
            by_cases hk2 : c.kind = 2
            · have hk2b : (c.kind == 2) = true := beq_iff_eq.2 hk2
              have hd1 : ∀ W, Hid (PB w W d b x bx c L L) → Calls Try.prog 14 #[ptr d, .int .i64 c.id] W fun e w' => e = .returned (.int .i64 (revokeE L c.id)) ∧ Hid (PB w w' d b x bx c (revokeL L c.id) L) ∧ CB bx c w' := fun W q => q.out.revokeX hci
              have hx1 : ∀ W, Hid (PB w W d b x bx c (revokeL L c.id) L) → Calls Try.prog 15 #[ptr x, .int .i64 c.id] W fun e w' => e = .returned (.int .i64 (revokeE L c.id)) ∧ Hid (PB w w' d b x bx c (revokeL L c.id) (revokeL L c.id)) ∧ CB bx c w' := fun W q => q.out.revokeY few HUP.out
              have HM1 : Hid (PB w W0.drew d b x bx c L L) := HM0.out.later (Below.refl _ _).drew
              have hS0 : CB bx c W0.drew := HM1.out.cb
              generalize revokeL L c.id = L' at *
              generalize revokeE L c.id = E' at *
              clear HM0 hk0 hk1 hk2 HUP HOK
              go_wp2_with fail
              go_region_held_law (CB bx c) (first | assumption | (show CB bx c _; assumption)) (first | (go_at_call 14; with_reducible refine (hd1 _ (by assumption)).mono ?_; rintro e w5 ⟨rfl, HM5, hS5⟩) | (go_at_call 15; with_reducible refine (hx1 _ (by assumption)).mono ?_; rintro e w6 ⟨rfl, HM6, hS6⟩))
              all_goals
                go_wp2_with fail
                go_meet
                exact ⟨_, L', rfl, rfl, HM6⟩
            · have hk2b : (c.kind == 2) = false := beq_eq_false_iff_ne.2 hk2
              clear hk0 hk1 hk2
              go_wp2_with fail
              go_meet
              exact ⟨_, L, rfl, rfl, HM0⟩
      case rest =>
        obtain ⟨a, L', rfl, rfl, HM1⟩ := hcut
        clear HM0 d0 d1 d2 d3 HUP HOK few
        generalize wc = W1 at *
        clear wr
        obtain ⟨vM, hvM⟩ := HM1.out.pp
        have few := hvM.bk.few
        clear hvM
        have hpx := HM1.out.overX now
        have HPY : Hid (∀ W va, Hid (PB w W d b x bx c L' L') → Hid (IR W va (overL L' now)) → Calls Try.prog 17 #[ptr x, .int .i64 now] W fun e w' => ∃ p q, e = .returned (.slice p (overL L' now).length q) ∧ Hid (PB w w' d b x bx c L' L') ∧ Hid (IR w' va (overL L' now)) ∧ Hid (IR w' (.slice p (overL L' now).length q) (overL L' now))) := fun W va q q1 => q.out.overY now few q1.out
        have HAX : Hid (∀ W va vb, Hid (PB w W d b x bx c L' L') → Hid (IR W va (overL L' now)) → Hid (IR W vb (overL L' now)) → Calls Try.prog 18 #[ptr d] W fun e w' => ∃ p q, e = .returned (.slice p L'.length q) ∧ Hid (PB w w' d b x bx c L' L') ∧ Hid (IR w' va (overL L' now)) ∧ Hid (IR w' vb (overL L' now)) ∧ Hid (LsR w' (.slice p L'.length q) L')) := fun W va vb q q1 q2 => q.out.allX q1.out q2.out
        have hol : (overL L' now).length ≤ L'.length := by
          unfold overL
          rw [List.length_map]
          exact List.length_filter_le _ _
        generalize overL L' now = O at *
        clear HM1
        go_upto_region 18 with (first
          | (go_at_call 16; refine hpx.mono ?_; rintro e w5 ⟨pa, ca, rfl, HM5, HA5⟩; have hpy := HPY.out _ _ HM5 HA5; clear hpx HM5 HA5)
          | (go_at_call 17; refine hpy.mono ?_; rintro e w6 ⟨pb, cb', rfl, HM6, HA6, HB6⟩; have hax := HAX.out _ _ _ HM6 HA6 HB6; clear hpy HM6 HA6 HB6)
          | (go_at_call 18; refine hax.mono ?_; rintro e w7 ⟨pc, cc, rfl, HM7, HA7, HB7, HL7⟩; clear hax))
        obtain ⟨yp, yc, hyc, hyl⟩ := HM7.out.rowY
        have HQ : Hid (PQ w w7.drew d b x bx c L' O (.slice pa O.length ca) (.slice pb O.length cb') (.slice pc L'.length cc) (.slice yp L'.length yc)) := (PQ.mk HM7.out HA7.out HB7.out HL7.out hyc hyl).later (Below.refl _ _).drew
        have hS0 : CX bx c x (.slice yp L'.length yc) w7.drew := HQ.out.cx
        have hhx : ∀ W, Hid (PQ w W d b x bx c L' O (.slice pa O.length ca) (.slice pb O.length cb') (.slice pc L'.length cc) (.slice yp L'.length yc)) → Calls Try.prog 19 #[ptr d, .int .i64 c.id] W fun e w' => e = .returned (.bool (lookL c.id L').isSome) ∧ Hid (PQ w w' d b x bx c L' O (.slice pa O.length ca) (.slice pb O.length cb') (.slice pc L'.length cc) (.slice yp L'.length yc)) ∧ CX bx c x (.slice yp L'.length yc) w' := fun W q => q.out.hasX hci
        have hhy : ∀ W, Hid (PQ w W d b x bx c L' O (.slice pa O.length ca) (.slice pb O.length cb') (.slice pc L'.length cc) (.slice yp L'.length yc)) → Calls Try.prog 20 #[ptr x, .int .i64 c.id] W fun e w' => e = .returned (.bool (lookL c.id L').isSome) ∧ Hid (PQ w w' d b x bx c L' O (.slice pa O.length ca) (.slice pb O.length cb') (.slice pc L'.length cc) (.slice yp L'.length yc)) ∧ CX bx c x (.slice yp L'.length yc) w' := fun W q => q.out.hasY
        have e1 : (a != a) = false := by simp
        have e2 : ((O.length : Int) != (O.length : Int)) = false := by simp
        have e3 : ((L'.length : Int) != (L'.length : Int)) = false := by simp
        generalize (lookL c.id L').isSome = hb at *
        have e4 : (hb != hb) = false := by simp
        clear HM7 HA7 HB7 HL7 hyc hyl HPY HAX
        go_region_held_law (CX bx c x (.slice yp L'.length yc)) (first | with_reducible assumption | (show CX bx c x _ _; with_reducible assumption)) (first | (go_at_call 19; with_reducible refine (hhx _ (by assumption)).mono ?_; rintro e w8 ⟨rfl, HQ8, hS8⟩) | (go_at_call 20; with_reducible refine (hhy _ (by assumption)).mono ?_; rintro e w9 ⟨rfl, HQ9, hS9⟩))
        clear HQ hS0 hhx hhy hS9 HQ8 hS8 e4 e1
        have HB0 : Hid (Below w9.heap.size w9 w9) := Below.refl _ _
        go_wp2_with fail
        go_loopg [13] (O.length + 1) (fun kx s13 wr => ∃ j : Nat, s13 = .int .i64 j ∧ kx + j = O.length + 1 ∧ j ≤ O.length ∧ Hid (Below w9.heap.size w9 wr))
        case atStart => exact ⟨0, rfl, rfl, Nat.zero_le _, HB0⟩
        case round =>
          obtain ⟨j, rfl, hkj, hj, HB⟩ := hrel
          by_cases hlj : j < O.length
          · obtain ⟨m, hm⟩ : ∃ m, O[j]? = some m := ⟨_, List.getElem?_eq_getElem hlj⟩
            obtain ⟨ga, ca', hva, hac, hga, a0⟩ := (HQ9.out.ia.below HB.out) j m hm
            obtain ⟨gb, cb2, hvb, hbc, hgb, b0⟩ := (HQ9.out.ib.below HB.out) j m hm
            have hpa : pa = some ⟨ga, 0, none⟩ := by cases hva; rfl
            have hpb : pb = some ⟨gb, 0, none⟩ := by cases hvb; rfl
            subst hpa hpb
            have e5 : (m != m) = false := by simp
            have HBD : ∀ q, Hid (Below w9.heap.size w9 (wr.drewN q)) := fun q => below_drewN HB.out q
            clear hva hvb hm HQ9 HB0
            go_wp2
            go_quiet (fail)
            go_wp2
            go_roundg (O.length - j)
            case measure => omega
            case rel => exact ⟨j + 1, by congr 1, by omega, by omega, HBD _⟩
          · have HBE := HB
            clear HB HB0
            generalize wr = W2 at *
            go_wp2_with fail
            go_loopg [14] (L'.length + 1) (fun kx s14 wr => ∃ j : Nat, s14 = .int .i64 j ∧ kx + j = L'.length + 1 ∧ j ≤ L'.length ∧ Hid (Below w9.heap.size w9 wr))
            case atStart => exact ⟨0, rfl, rfl, Nat.zero_le _, HBE⟩
            case round =>
              obtain ⟨j2, rfl, hkj2, hj2, HB⟩ := hrel
              by_cases hlj2 : j2 < L'.length
              · obtain ⟨m, hm⟩ : ∃ m, L'[j2]? = some m := ⟨_, List.getElem?_eq_getElem hlj2⟩
                obtain ⟨ga, ca', hva, hac, hga, a0, a1, a2⟩ := (HQ9.out.lc.below HB.out) j2 m hm
                obtain ⟨gb, cb2, hvb, hbc, hgb, b0, b1, b2⟩ := (HQ9.out.ly.below HB.out) j2 m hm
                have hpa : pc = some ⟨ga, 0, none⟩ := by cases hva; rfl
                have hpb : yp = some ⟨gb, 0, none⟩ := by cases hvb; rfl
                subst hpa hpb
                have xc := (HQ9.out.later HB.out).xc
                have e5 : (m.id != m.id) = false := by simp
                have e6 : (m.ttl != m.ttl) = false := by simp
                have e7 : (m.til != m.til) = false := by simp
                have HBD : ∀ q, Hid (Below w9.heap.size w9 (wr.drewN q)) := fun q => below_drewN HB.out q
                clear hva hvb hm HQ9 HBE
                go_wp2
                go_quiet (fail)
                go_wp2
                go_roundg (L'.length - j2)
                case measure => omega
                case rel => exact ⟨j2 + 1, by congr 1, by omega, by omega, HBD _⟩
              · have HE : Hid (PP w wr d b x L' L') := (HQ9.out.later HB.out).pb.pp
                go_wp2
                go_roundg (100 - i)
                case measure => omega
                case rel => exact ⟨i + 1, L', by congr 1, by omega, by omega, by omega, HE⟩
    · have hor : (i < cs.length ∧ ¬ (i : Int) < 100) ∨ ¬ i < cs.length := by
        by_cases h1 : i < cs.length
        · exact .inl ⟨h1, by omega⟩
        · exact .inr h1
      obtain ⟨vM, hvM⟩ := HM.out
      have HB := Hid.mk'' hvM.bel
      clear hvM hlt
      rcases hor with ⟨h1, h2⟩ | h1
      all_goals
        go_wp2
        go_ret
        exact ⟨rfl, HB.out⟩
end Go.Proofs.Ytiffigjfjdplhaa
