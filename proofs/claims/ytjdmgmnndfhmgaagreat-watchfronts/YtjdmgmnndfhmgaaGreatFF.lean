/- WatchFronts' walk. -/
import Derived.Test.YtjdmgmnndfhmgaaGreatFX
namespace Go.Proofs.YtjdmgmnndfhmgaaGreat
open Go Go.RowKit
set_option maxRecDepth 100000 in
set_option maxHeartbeats 40000000 in
theorem fronts_walk (v0 : Value) (lo hi : ByteArray) (f0 : Int) (cs : List Cd) (w : World) (hC : SeesC w v0 cs) (hcl : cs.length ≤ maxLen) (hls : lo.size ≤ 140737488355328) (hhs : hi.size ≤ 140737488355328) :
    Calls Tryz.prog 4 #[v0, .string lo, .string hi, .int .i64 f0] w fun e w' => e = .returned (.bool true) ∧ Below w.heap.size w w' := by
  obtain ⟨ka, kc, rfl⟩ := hC.form
  have HK := Hid.mkW hC
  have hml : cs.length ≤ 9223372036854775807 := by unfold maxLen at hcl; omega
  have hkn := known_any w
  have HNEW : Hid (∀ w1, Below w.heap.size w w1 → Calls Tryz.prog 7 #[] w1 fun e w' => ∃ s, e = .returned (ptr s) ∧ Hid (S0 w w' s)) := fun w1 hb => s0_new w w1 hb
  obtain ⟨u, hu⟩ : ∃ u : Nat, (u : Int) = withinF f0 10 := ⟨(withinF f0 10).toNat, by have := within_bd f0 10 (by decide); omega⟩
  have hub : u < 10 := by have := within_bd f0 10 (by decide); omega
  have hw1 := fun W => within_any f0 10 W (by decide) (by decide)
  rw [← hu] at hw1
  clear hC hcl hu
  by_cases h300 : 300 < lo.size + hi.size
  · have hq : (300 : Int) < (lo.size : Int) + (hi.size : Int) := by omega
    go_enter Tryz.func4, Tryz.ntmps4
    go_wp2_with (first
      | (go_at_call 6; refine hkn.mono ?_; rintro e w1 ⟨rfl, hb1⟩))
    go_ret
    exact ⟨rfl, hb1⟩
  · have hq : ¬ (300 : Int) < (lo.size : Int) + (hi.size : Int) := by omega
    have hl3 : lo.size ≤ 300 ∧ hi.size ≤ 300 := by omega
    clear hls hhs h300
    go_enter Tryz.func4, Tryz.ntmps4
    go_upto_region 14 with (first
      | (go_at_call 6; refine hkn.mono ?_; rintro e w1 ⟨rfl, hb1⟩; have hnew := HNEW.out w1 hb1)
      | (go_at_call 7; refine hnew.mono ?_; rintro e w2 ⟨s, rfl, HS⟩; have hhub := HS.out.hub)
      | (go_at_call 8; refine hhub.mono ?_; rintro e w3 ⟨h, rfl, HH⟩; have hwat := HH.out.watch lo hi (1 + (u : Int)) (by omega) (by omega) (by omega))
      | (go_at_call 10; with_reducible refine (hw1 _).mono ?_; rintro e w' ⟨rfl, hw'⟩; obtain rfl := hw'.symm)
      | (go_at_call 21; refine hwat.mono ?_; rintro e w4 ⟨rfl, HX⟩))
    clear hkn HNEW hnew HS hhub HH hwat hw1 hb1
    go_loopg [11, 12, 14, 15, 16, 17, 18, 19, 20, 21, 22, 23, 24, 25] 81 (fun kx s11 s12 s14 s15 s16 s17 s18 s19 s20 s21 s22 s23 s24 s25 wr => ∃ (i : Nat) (pa : Option Addr) (ca : Nat) (pt : Option Addr) (ct : Nat) (al told : List Evd) (en lg : Bool) (S : Sto) (x : Wd), s11 = .slice pa al.length ca ∧ s12 = .slice pt told.length ct ∧ s14 = .bool en ∧ s15 = .bool lg ∧ s16 = .int .i64 i ∧ kx + i = 81 ∧ i ≤ 80 ∧ i ≤ cs.length ∧ al.length ≤ 30 * i ∧ told.length ≤ al.length ∧ Hid (FX w wr s h i S x (.slice pa al.length ca) al (.slice pt told.length ct) told none en lg lo hi (1 + (u : Int))))
    case atStart => exact ⟨0, none, 0, none, 0, [], [], false, false, noS, _, rfl, rfl, rfl, rfl, rfl, rfl, Nat.zero_le _, Nat.zero_le _, Nat.zero_le _, Nat.zero_le _, HX.out, FI.start (by omega), fun _ => Nat.zero_le _⟩
    case round =>
      obtain ⟨i, pa, ca, pt, ct, al, told, en, lg, S, x, rfl, rfl, rfl, rfl, rfl, hk, hi80, hil, hal, htl, HM⟩ := hrel
      clear HX
      by_cases hlt : i < cs.length ∧ i < 80
      · obtain ⟨c1, c2⟩ := hlt
        have c2' : (i : Int) < 80 := by omega
        obtain ⟨cb, co, rfl, hcl, hcc⟩ := HK.out.at c1
        generalize cs.getD i noCd = c at *
        have HCC := Hid.mkW hcc
        have hbl0 := HM.out.sx.bel
        obtain ⟨q0, q1, q2, q3, q4, ⟨v5, q5, qd⟩, z3, z4, z5⟩ := hcc.below hcl hbl0
        have HV5 : Hid (∀ W, Below w.heap.size w W → SeesK W v5 c.keys) := fun W hb => by
          obtain ⟨v, h1, h2⟩ := hcc.c5
          have e1 := (hbl0.cell (p := ⟨cb, co + i * 6 + 5, none⟩) hcl).trans h1
          rw [q5] at e1
          cases e1
          exact h2.below hb
        obtain ⟨p5, k5, hv5⟩ := qd.form
        subst hv5
        obtain ⟨W1, hW1⟩ : ∃ W1, W1 = wr.alloc (.cells #[.int .i64 c.kind, .int .i64 c.n, .int .i64 c.max, .string c.lo, .string c.hi, .slice p5 c.keys.length k5] 39) := ⟨_, rfl⟩
        have hbW : Below wr.heap.size wr W1 := by rw [hW1]; exact (Below.refl _ _).alloc (Nat.le_refl _) _
        have hrW : W1.heap[wr.heap.size]? = some (.cells #[.int .i64 c.kind, .int .i64 c.n, .int .i64 c.max, .string c.lo, .string c.hi, .slice p5 c.keys.length k5] 39 (0, 0)) := by rw [hW1]; exact row_alloc wr _ _
        have HSX := Hid.mkW (HM.out.sx.box hbW wr.heap.size _ (Nat.le_refl _) hrW)
        have HFJ := Hid.mkW HM.out.fj
        have HFEW := Hid.mkW HM.out.few
        have hfew := few_any c _ W1 (qd.below hbW) z5 z3 z4
        have x0 : W1.cell? ⟨wr.heap.size, 0, none⟩ = some (.int .i64 c.kind) := cell_of_row _ _ _ _ _ _ hrW
        have x1 : W1.cell? ⟨wr.heap.size, 1, none⟩ = some (.int .i64 c.n) := cell_of_row _ _ _ _ _ _ hrW
        have x2 : W1.cell? ⟨wr.heap.size, 2, none⟩ = some (.int .i64 c.max) := cell_of_row _ _ _ _ _ _ hrW
        have x3 : W1.cell? ⟨wr.heap.size, 3, none⟩ = some (.string c.lo) := cell_of_row _ _ _ _ _ _ hrW
        have x4 : W1.cell? ⟨wr.heap.size, 4, none⟩ = some (.string c.hi) := cell_of_row _ _ _ _ _ _ hrW
        have x5 : W1.cell? ⟨wr.heap.size, 5, none⟩ = some (.slice p5 c.keys.length k5) := cell_of_row _ _ _ _ _ _ hrW
        go_upto_region 17 with fail
        rw [← hW1]
        clear hcc qd HK HM hrW q0 q1 q2 q3 q4 q5 hbl0 hbW hW1
        generalize wr.heap.size = bx at *
        have hpx : Value.pointer (some ⟨bx, 0, none⟩) = ptr bx := rfl
        go_upto_region 18 with (go_at_call 9; refine hfew.mono ?_; rintro e w3 ⟨⟨bl, rfl, hbl⟩, bel3⟩; have HS3 := Hid.mkW (HSX.out.below bel3); clear hfew bel3)
        · go_roundg (80 - i)
          case measure => omega
          case rel => exact ⟨i + 1, pa, ca, pt, ct, al, told, en, lg, S, x, rfl, rfl, rfl, rfl, by congr 1, by omega, by omega, by omega, by omega, htl, HS3.out.drop.more, HFJ.out, HFEW.out⟩
        · have hd30 : c.keys.length ≤ 30 := hbl (by simpa using (show (!bl) = false by assumption))
          have hr3 := HS3.out.cbox
          have y0 : w3.cell? ⟨bx, 0, none⟩ = some (.int .i64 c.kind) := cell_of_row _ _ _ _ _ _ hr3
          have y1 : w3.cell? ⟨bx, 1, none⟩ = some (.int .i64 c.n) := cell_of_row _ _ _ _ _ _ hr3
          have y2 : w3.cell? ⟨bx, 2, none⟩ = some (.int .i64 c.max) := cell_of_row _ _ _ _ _ _ hr3
          clear hr3 x0 x1 x2 x3 x4 x5 hbl HSX
          obtain ⟨hpst, hrvi, -⟩ := HS3.out.past
          obtain ⟨kd, hkd⟩ : ∃ kd, kd = withinF c.kind 5 := ⟨_, rfl⟩
          have hkb : 0 ≤ kd ∧ kd < 5 := by rw [hkd]; exact within_bd _ 5 (by decide)
          have hw5 := within_any c.kind 5 w3 (by decide) (by decide)
          rw [← hkd] at hw5
          clear hkd
          go_upto_region 19 with (first
            | (go_at_call 10; with_reducible refine hw5.mono ?_; rintro e w' ⟨rfl, hw'⟩; obtain rfl := hw'.symm))
          clear hw5
          go_upto_if 68 with fail
          go_cut [68] from 70 to 70 (fun s68 wc => s68 = .bool (decide (kd < 2)) ∧ wc = w3)
          case first =>
            by_cases h0 : kd = 0
            · have h0' : (kd == 0) = true := by simp [h0]
              go_wp2_with fail
              go_meet
              exact ⟨by rw [h0', decide_eq_true (by omega : kd < 2)], rfl⟩
            · have h0' : (kd == 0) = false := by simp [h0]
              have h1' : (kd == 1) = decide (kd < 2) := by
                by_cases h1 : kd = 1
                · rw [decide_eq_true (by omega : kd < 2)]; simp [h1]
                · rw [decide_eq_false (by omega : ¬ kd < 2)]; simp [h1]
              go_wp2_with fail
              go_meet
              exact ⟨rfl, rfl⟩
          case rest =>
          obtain ⟨rfl, hwc⟩ := hcut
          obtain rfl := hwc.symm
          by_cases hk2 : kd < 2
          · have hkt : decide (kd < 2) = true := decide_eq_true hk2
            rw [hkt]
            have hwr := HS3.out.write
            go_upto_region 22 with (first
              | (go_at_call 11; refine hwr.mono ?_; rintro e w4 ⟨b, rfl, HW0⟩))
            clear hwr y0 y1 y2 hkb
            go_wp2
            go_loopg [19] (c.keys.length + 1) (fun kx s19 wq => ∃ (j : Nat), s19 = .int .i64 j ∧ kx + j = c.keys.length + 1 ∧ j ≤ c.keys.length ∧ Hid (So w w3 wq s h b i S (AE en) x (.slice pa al.length ca) al (.slice pt told.length ct) told (some (bx, #[.int .i64 c.kind, .int .i64 c.n, .int .i64 c.max, .string c.lo, .string c.hi, .slice p5 c.keys.length k5])) j))
            case atStart => exact ⟨0, rfl, rfl, Nat.zero_le _, HW0⟩
            case round =>
              clear HW0
              obtain ⟨j, rfl, hkj, hj, HJ⟩ := hrel
              obtain ⟨hbq, hcq⟩ := HJ.out.upd
              have hrq := hcq _ rfl
              have d0 : wr.cell? ⟨bx, 0, none⟩ = some (.int .i64 c.kind) := cell_of_row _ _ _ _ _ _ hrq
              have d5 : wr.cell? ⟨bx, 5, none⟩ = some (.slice p5 c.keys.length k5) := cell_of_row _ _ _ _ _ _ hrq
              by_cases hjl : j < c.keys.length
              · obtain ⟨b5, o5, rfl, hb5, g5, hsz⟩ := (HV5.out wr hbq).at hjl
                have hput := HJ.out.put (by omega) (by omega) _ hsz
                have hdel := HJ.out.del (by omega) (by omega) _ hsz
                generalize c.keys.getD j ByteArray.empty = key at *
                clear hcq hrq hbq HJ
                by_cases hd : c.kind.tmod 5 = 1
                · have hd' : (c.kind.tmod 5 == 1) = true := by simp [hd]
                  go_wp2_with (go_at_call 13; refine hdel.mono ?_; rintro e w6 ⟨r6, rfl, HJ6⟩; clear hdel)
                  go_roundg (c.keys.length - j)
                  case measure => omega
                  case rel => exact ⟨j + 1, by congr 1, by omega, by omega, HJ6⟩
                · have hd' : (c.kind.tmod 5 == 1) = false := by simp [hd]
                  go_wp2_with (go_at_call 15; refine hput.mono ?_; rintro e w6 ⟨r6, rfl, HJ6⟩; clear hput)
                  go_roundg (c.keys.length - j)
                  case measure => omega
                  case rel => exact ⟨j + 1, by congr 1, by omega, by omega, HJ6⟩
              · obtain rfl : j = c.keys.length := by omega
                have hrv := HJ.out.rev
                have hdone := HJ.out.done (by omega) hd30
                clear HJ hcq hrq hbq
                rcases hdone with hdn | ⟨S', Wr, g', D, hL, hp, hdn⟩
                · by_cases h16 : 16 < al.length - told.length
                  · have h16' : (16 : Int) < (al.length : Int) - (told.length : Int) := by omega
                    go_wp2_with (first
                      | (go_at_call 31; refine hrv.mono ?_; rintro e w6 ⟨rfl, hw6⟩; obtain rfl := hw6.symm)
                      | (go_at_call 17; refine hdn.mono ?_; rintro e w7 ⟨rfl, HD⟩; have hfd := HD.out.feed (by omega))
                      | (go_at_call 19; refine hfd.mono ?_; rintro e w8 ⟨rfl, HF⟩))
                    go_roundg (80 - i)
                    case measure => omega
                    case rel => exact ⟨i + 1, _, _, _, _, al, told, en, true, S, feedX S x, rfl, rfl, rfl, rfl, by congr 1, by omega, by omega, by omega, by omega, htl, FX.late HF.out (HFJ.out.same hpst) h16⟩
                  · have h16' : ¬ (16 : Int) < (al.length : Int) - (told.length : Int) := by omega
                    go_wp2_with (first
                      | (go_at_call 31; refine hrv.mono ?_; rintro e w6 ⟨rfl, hw6⟩; obtain rfl := hw6.symm)
                      | (go_at_call 17; refine hdn.mono ?_; rintro e w7 ⟨rfl, HD⟩; have hfd := HD.out.feed (by omega))
                      | (go_at_call 19; refine hfd.mono ?_; rintro e w8 ⟨rfl, HF⟩))
                    go_roundg (80 - i)
                    case measure => omega
                    case rel => exact ⟨i + 1, _, _, _, _, al, told, en, lg, S, feedX S x, rfl, rfl, rfl, rfl, by congr 1, by omega, by omega, by omega, by omega, htl, FX.soon HF.out (HFJ.out.same hpst) h16⟩
                · have hrS : (S'.rev : Int) = (S.rev : Int) + 1 := by rw [D.rev]; omega
                  obtain ⟨E, hE⟩ : ∃ E, E = evAt S' ((S.rev : Int) + 1) := ⟨_, rfl⟩
                  have HFD := Hid.mkW (HFJ.out.done D hL hp)
                  have HDP : Hid (S'.past = S.past) := D.past
                  rw [← hE] at HFD
                  have HER : Hid (∀ e ∈ E, e.1 = (S.rev : Int) + 1) := fun e he => by rw [hE] at he; exact evAt_rev he
                  have HSI : Hid (∀ W, Sx w W s h (i + 1) S' (AE en) x (.slice pa al.length ca) al (.slice pt told.length ct) told (some (bx, #[.int .i64 c.kind, .int .i64 c.n, .int .i64 c.max, .string c.lo, .string c.hi, .slice p5 c.keys.length k5])) → E.length ≤ 30 ∧ Calls Tryz.prog 32 #[ptr s, .int .i64 ((S.rev : Int) + 1)] W fun e w' => ∃ p q, e = .returned (.tuple #[.slice p E.length q, .int .i64 0]) ∧ Hid (EVs w' (.slice p E.length q) E ∧ (∀ k, (Value.slice p E.length q).ownBlock = some k → W.heap.size ≤ k ∧ k < w'.heap.size) ∧ Below W.heap.size W w')) := fun W hW => by
                    rw [hE]
                    exact ⟨hW.lg30 _, hW.since (by omega) _ (by have := HDP.out; omega) hrS.symm⟩
                  clear hE hrS D hL
                  go_upto_region 33 with (first
                    | (go_at_call 31; refine hrv.mono ?_; rintro e w6 ⟨rfl, hw6⟩; obtain rfl := hw6.symm)
                    | (go_at_call 17; refine hdn.mono ?_; rintro e w7 ⟨rfl, HD⟩; obtain ⟨hE30, hsi⟩ := HSI.out w7 HD.out)
                    | (go_at_call 32; refine hsi.mono ?_; rintro e w8 ⟨pl, cl, rfl, HE8⟩))
                  have HL0 : Hid (Sx w w8 s h (i + 1) S' (AE en) x (.slice pa al.length ca) al (.slice pt told.length ct) told (some (bx, #[.int .i64 c.kind, .int .i64 c.n, .int .i64 c.max, .string c.lo, .string c.hi, .slice p5 c.keys.length k5])) ∧ EVs w8 (.slice pl E.length cl) E ∧ ∀ k, (Value.slice pl E.length cl).ownBlock = some k → (Value.slice pa al.length ca).ownBlock ≠ some k ∧ k < w8.heap.size) := ⟨HD.out.below HE8.out.2.2, HE8.out.1, fun k hk => ⟨fun e => by have h1 := (HE8.out.2.1 k hk).1; have h2 := (HD.out.rows.1.lt k e).2; omega, (HE8.out.2.1 k hk).2⟩⟩
                  clear hrv hdn hsi HD HE8 HDP HSI
                  obtain ⟨t9, hti, hz0, hz1, hz2⟩ := info_parts info85
                  go_wp2
                  go_loopg [11, 23] (E.length + 1) (fun kx s11 s23 wq => ∃ (j : Nat) (p : Option Addr) (q : Nat) (B : List Evd), s11 = .slice p B.length q ∧ s23 = .int .i64 j ∧ kx + j = E.length + 1 ∧ j ≤ E.length ∧ B.length ≤ al.length + j ∧ al.length ≤ B.length ∧ Hid (B = al ++ (E.take j).filter (mine lo hi (1 + (u : Int)))) ∧ Hid (Sx w wq s h (i + 1) S' (AE en) x (.slice p B.length q) B (.slice pt told.length ct) told (some (bx, #[.int .i64 c.kind, .int .i64 c.n, .int .i64 c.max, .string c.lo, .string c.hi, .slice p5 c.keys.length k5])) ∧ EVs wq (.slice pl E.length cl) E ∧ ∀ k, (Value.slice pl E.length cl).ownBlock = some k → (Value.slice p B.length q).ownBlock ≠ some k ∧ k < wq.heap.size))
                  case atStart => exact ⟨0, pa, ca, al, rfl, rfl, rfl, Nat.zero_le _, by omega, Nat.le_refl _, (by show al = _; rw [List.take_zero, List.filter_nil, List.append_nil]), HL0⟩
                  case round =>
                    clear HL0
                    obtain ⟨j, p, q, B, rfl, rfl, hkj3, hj3, hBl, hBg, HB, HL⟩ := hrel
                    by_cases hjl : j < E.length
                    · obtain ⟨ev, hev⟩ : ∃ ev, E[j]? = some ev := ⟨_, List.getElem?_eq_getElem hjl⟩
                      have hrev1 := HER.out ev (List.mem_of_getElem? hev)
                      obtain ⟨pp, cc, ep, hcc, hh⟩ := HL.out.2.1
                      obtain ⟨gg, hg, hgl, hcell⟩ := hh j ev hev
                      subst hg
                      simp only [Value.slice.injEq] at ep
                      obtain ⟨rfl, -, rfl⟩ := ep
                      have hgn := (HL.out.2.2 gg rfl).1
                      have e0 := hcell 0 _ (by omega) rfl
                      have e1 := hcell 1 _ (by omega) rfl
                      have e2 := hcell 2 _ (by omega) rfl
                      have e3 := hcell 3 _ (by omega) rfl
                      have e4 := hcell 4 _ (by omega) rfl
                      have e5 := hcell 5 _ (by omega) rfl
                      have e6 := hcell 6 _ (by omega) rfl
                      have e7 := hcell 7 _ (by omega) rfl
                      have htk : (E.take (j + 1)).filter (mine lo hi (1 + (u : Int))) = (E.take j).filter (mine lo hi (1 + (u : Int))) ++ if mine lo hi (1 + (u : Int)) ev then [ev] else [] := by
                        rw [List.take_add_one, hev, List.filter_append]
                        congr 1
                        show List.filter _ [ev] = _
                        rw [List.filter_cons, List.filter_nil]
                      have hel : evL ev = (evC ev.1 ev.2.2.isNone (evKV ev.1 ev.2.1 ev.2.2)).toList := rfl
                      have hmi : mine lo hi (1 + (u : Int)) ev = (decide (1 + (u : Int) ≤ ev.1) && inR lo hi (evKV ev.1 ev.2.1 ev.2.2).key) := rfl
                      have HTK := Hid.mkW htk
                      have HMI := Hid.mkW hmi
                      have HEL := Hid.mkW hel
                      generalize evKV ev.1 ev.2.1 ev.2.2 = kv at *
                      generalize ev.2.2.isNone = dl at *
                      obtain ⟨xk, xv, xc, xm, xe, xl⟩ := kv
                      have hinc := fun W => in_any xk lo hi W
                      rw [hrev1] at e0
                      simp only [Nat.add_zero] at e0
                      dsimp only at e2 e3 e4 e5 e6 e7
                      dsimp only [evC] at HEL
                      dsimp only at HMI
                      clear hh hcell hev htk hmi hel
                      by_cases hge : 1 + (u : Int) ≤ (S.rev : Int) + 1
                      · cases hin : inR lo hi xk with
                        | false =>
                          rw [hin] at hinc
                          have HN : Hid (mine lo hi (1 + (u : Int)) ev = false) := by show _ = _; rw [HMI.out, hin, Bool.and_false]
                          go_wp2_with (go_at_call 33; with_reducible refine (hinc _).mono ?_; rintro e w' ⟨rfl, hw'⟩; obtain rfl := hw'.symm)
                          go_roundg (E.length - j)
                          case measure => omega
                          case rel => exact ⟨j + 1, p, q, B, rfl, by congr 1, by omega, by omega, by omega, hBg, (by show B = _; rw [HTK.out, HN.out]; simpa using HB.out), HL⟩
                        | true =>
                          rw [hin] at hinc
                          have HN : Hid (mine lo hi (1 + (u : Int)) ev = true) := by show _ = _; rw [HMI.out, hin, hrev1, decide_eq_true hge]; rfl
                          have HX : Hid (Src Tryz.prog 8 28 (.slice (some ⟨wr.heap.size, 0, none⟩) 1 1) 1 (evL ev) (wr.alloc (.cells #[.int .i64 ((S.rev : Int) + 1), .bool dl, .string xk, .string xv, .int .i64 xc, .int .i64 xm, .int .i64 xe, .int .i64 xl] 63)) ∧ (wr.alloc (.cells #[.int .i64 ((S.rev : Int) + 1), .bool dl, .string xk, .string xv, .int .i64 xc, .int .i64 xm, .int .i64 xe, .int .i64 xl] 63)).ownsRow w.heap.size 63 8 (.slice p B.length q) B.length (evsC B) ∧ w.heap.size ≤ (wr.alloc (.cells #[.int .i64 ((S.rev : Int) + 1), .bool dl, .string xk, .string xv, .int .i64 xc, .int .i64 xm, .int .i64 xe, .int .i64 xl] 63)).heap.size ∧ Hid (Below wr.heap.size wr (wr.alloc (.cells #[.int .i64 ((S.rev : Int) + 1), .bool dl, .string xk, .string xv, .int .i64 xc, .int .i64 xm, .int .i64 xe, .int .i64 xl] 63)))) := by
                            have hba : Below wr.heap.size wr (wr.alloc (.cells #[.int .i64 ((S.rev : Int) + 1), .bool dl, .string xk, .string xv, .int .i64 xc, .int .i64 xm, .int .i64 xe, .int .i64 xl] 63)) := (Below.refl _ wr).alloc (Nat.le_refl _) _
                            refine ⟨Src.ofSlice _ Tryz.underlying28 ⟨wr.heap.size, 0, none⟩ 1 1 _ (by rw [HEL.out]; rfl) (fun t v ht => ?_) (fun v hv => ?_), ownsRow_upd HL.out.1.rows.1 (Upd.ofBelow (S := fun _ => False) hba) (fun _ _ h => h), Nat.le_trans HL.out.1.bel.size hba.size, hba⟩
                            · rw [HEL.out, hrev1] at ht
                              rw [Addr.add_lit, Nat.zero_add, cell_of_row _ _ _ _ _ _ (row_alloc wr _ 63)]
                              simpa using ht
                            · rw [HEL.out, hrev1] at hv
                              simp at hv
                              rcases hv with rfl | rfl | rfl | rfl | rfl | rfl | rfl | rfl <;> rfl
                          obtain ⟨hsrc, hown, hwz, HBA⟩ := HX.out
                          clear HX
                          have hB3 : B.length ≤ 1000000 := by omega
                          go_wp2_with (first
                            | (go_at_call 33; with_reducible refine (hinc _).mono ?_; rintro e w' ⟨rfl, hw'⟩; obtain rfl := hw'.symm)
                            | (at_builtin; refine wpList_appS _ rfl (.tmp 137) (.tmp 142) 28 28 rfl w.heap.size 63 t9 _ 8 Tryz.underlying28 hti hz0 hz1 rfl (by rw [hz2]; decide) _ B.length (evsC B) rfl hown _ rfl 1 (evL ev) hsrc (by omega) hwz ?_; intro v' w9 a1 a2 a3 a4; obtain ⟨np, nc, hnv⟩ := owns_formB0 a1; subst hnv; have HA := Hid.mkW (And.intro a1 (And.intro a2 a3)); clear a1 a2 a3 a4))
                          go_roundg (E.length - j)
                          case measure => omega
                          case rel =>
                            obtain ⟨a1, a2, a3⟩ := HA.out
                            have a1' : w9.ownsRow w.heap.size 63 8 (.slice np (B.length + 1) nc) (B.length + [ev].length) (evsC B ++ evsC [ev]) := by simpa [evsC] using a1
                            obtain ⟨s1, s2⟩ := Sx.app (l := [ev]) HL.out.1 HBA.out a1' a2 a3
                            have hlen : (B ++ [ev]).length = B.length + 1 := by simp
                            refine ⟨j + 1, np, nc, B ++ [ev], by rw [hlen], by congr 1, by omega, by omega, by rw [hlen]; omega, by rw [hlen]; omega, ?_, ?_⟩
                            · show B ++ [ev] = _
                              rw [HTK.out, HN.out, HB.out, if_pos rfl, List.append_assoc]
                            · rw [hlen]
                              refine ⟨s1, EVs.keep HL.out.2.1 s2 (fun k hk e => (HL.out.2.2 k hk).1 e), fun k hk => ⟨fun e => ?_, Nat.lt_of_lt_of_le (HL.out.2.2 k hk).2 s2.size⟩⟩
                              rcases a3 with e3 | e3
                              · exact (HL.out.2.2 k hk).1 (e3 ▸ e)
                              · rw [e3] at e
                                cases e
                                have h1 := (HL.out.2.2 _ hk).2
                                have h2 := HBA.out.size
                                omega
                      · have HN : Hid (mine lo hi (1 + (u : Int)) ev = false) := by show _ = _; rw [HMI.out, hrev1, decide_eq_false hge, Bool.false_and]
                        go_wp2
                        go_roundg (E.length - j)
                        case measure => omega
                        case rel => exact ⟨j + 1, p, q, B, rfl, by congr 1, by omega, by omega, by omega, hBg, (by show B = _; rw [HTK.out, HN.out]; simpa using HB.out), HL⟩
                    · obtain rfl : j = E.length := by omega
                      have hBe : B = al ++ E.filter (mine lo hi (1 + (u : Int))) := by have := HB.out; rw [List.take_length] at this; exact this
                      rw [← hBe] at HFD
                      have hfd := HL.out.1.feed (by omega)
                      clear HL HB hBe
                      by_cases h16 : 16 < B.length - told.length
                      · have h16' : (16 : Int) < (B.length : Int) - (told.length : Int) := by omega
                        go_wp2_with (first
                          | (go_at_call 19; refine hfd.mono ?_; rintro e w8 ⟨rfl, HF⟩))
                        go_roundg (80 - i)
                        case measure => omega
                        case rel => exact ⟨i + 1, _, _, _, _, B, told, en, true, S', feedX S' x, rfl, rfl, rfl, rfl, by congr 1, by omega, by omega, by omega, by omega, by omega, FX.late HF.out HFD.out h16⟩
                      · have h16' : ¬ (16 : Int) < (B.length : Int) - (told.length : Int) := by omega
                        go_wp2_with (first
                          | (go_at_call 19; refine hfd.mono ?_; rintro e w8 ⟨rfl, HF⟩))
                        go_roundg (80 - i)
                        case measure => omega
                        case rel => exact ⟨i + 1, _, _, _, _, B, told, en, lg, S', feedX S' x, rfl, rfl, rfl, rfl, by congr 1, by omega, by omega, by omega, by omega, by omega, FX.soon HF.out HFD.out h16⟩
          · have hkt : decide (kd < 2) = false := decide_eq_false hk2
            rw [hkt]
            clear hkt
            by_cases hk4 : kd = 4
            · obtain rfl := hk4
              as_aux_lemma =>
                have hrev : ∀ q, Calls Tryz.prog 31 #[ptr s] (w3.drewN q) fun e w' => e = .returned (.int .i64 S.rev) ∧ w' = w3.drewN q := fun q => (HS3.out.below (below_drewF q w3)).rev
                go_upto_region 51 with fail
                by_cases hr0 : S.rev = 0
                · have hz : decide ((0 : Int) < (S.rev : Int)) = false := by simp [hr0]
                  have HS4 : Hid (∀ q, Sx w (w3.drewN q) s h (i + 1) S (AE en) x (.slice pa al.length ca) al (.slice pt told.length ct) told (some (bx, #[.int .i64 c.kind, .int .i64 c.n, .int .i64 c.max, .string c.lo, .string c.hi, .slice p5 c.keys.length k5]))) := fun q => (HS3.out.below (below_drewF q w3)).more
                  go_quiet (first | (go_at_call 31; with_reducible exact Calls.quiet_of_same (hrev _)) | (go_at_call 31; exact Calls.quiet_of_same (hrev 0)))
                  by_cases h16 : 16 < al.length - told.length
                  · have h16' : (16 : Int) < (al.length : Int) - (told.length : Int) := by omega
                    go_wp2
                    go_roundg (80 - i)
                    case measure => omega
                    case rel => exact ⟨i + 1, pa, ca, pt, ct, al, told, en, true, S, x, rfl, rfl, rfl, rfl, by congr 1, by omega, by omega, by omega, by omega, htl, FX.late (HS4.out _) (HFJ.out.mono .inl) h16⟩
                  · have h16' : ¬ (16 : Int) < (al.length : Int) - (told.length : Int) := by omega
                    go_wp2
                    go_roundg (80 - i)
                    case measure => omega
                    case rel => exact ⟨i + 1, pa, ca, pt, ct, al, told, en, lg, S, x, rfl, rfl, rfl, rfl, by congr 1, by omega, by omega, by omega, by omega, htl, FX.soon (HS4.out _) (HFJ.out.mono .inl) h16⟩
                · obtain ⟨r, hr⟩ : ∃ r : Nat, (r : Int) = withinF c.n S.rev := ⟨(withinF c.n S.rev).toNat, by have := within_bd c.n S.rev (by omega); omega⟩
                  have hrb : r < S.rev := by have := within_bd c.n S.rev (by omega); omega
                  have hwn := fun W => within_any c.n S.rev W (by omega) (by omega)
                  rw [← hr] at hwn
                  have HRB := Hid.mkW hrb
                  obtain ⟨rv, hrv⟩ : ∃ rv : Int, rv = (S.rev : Int) := ⟨_, rfl⟩
                  have hz : 0 < rv := by omega
                  have hz2 : decide (0 < rv) = true := decide_eq_true hz
                  have hwp : IntKind.i64.wrap (1 + (r : Int)) = 1 + (r : Int) := by rw [IntKind.wrap_i64]; omega
                  rw [← hrv] at hwn hrev
                  clear hr hrv
                  by_cases hpr : S.past < r + 1
                  · have hcm : ∀ q, Calls Tryz.prog 28 #[ptr s, .int .i64 (1 + (r : Int))] (w3.drewN q) fun e w' => e = .returned (.int .i64 0) ∧ Hid (Sx w w' s h i (compS S (r + 1)) (AE en) x (.slice pa al.length ca) al (.slice pt told.length ct) told (some (bx, #[.int .i64 c.kind, .int .i64 c.n, .int .i64 c.max, .string c.lo, .string c.hi, .slice p5 c.keys.length k5]))) := fun q => by
                      have := (HS3.out.below (below_drewF q w3)).compact (by omega) (r + 1) (by omega) (by omega) hpr
                      have e : ((r + 1 : Nat) : Int) = 1 + (r : Int) := by omega
                      rw [e] at this
                      exact this
                    have HCJ : Hid (FJ (compS S (r + 1)) x lo hi (1 + (u : Int)) al told en (true = true)) := by
                      obtain ⟨_, _, ⟨g, hg⟩, hok⟩ := HS3.out.past
                      exact HFJ.out.comp hg hok (r + 1) (by omega) rfl
                    have hrev1 : Calls Tryz.prog 31 #[ptr s] w3.drew fun e w' => e = .returned (.int .i64 rv) ∧ w' = w3.drew := hrev 1
                    have hcm1 : Calls Tryz.prog 28 #[ptr s, .int .i64 (1 + (r : Int))] w3.drew fun e w' => e = .returned (.int .i64 0) ∧ Hid (Sx w w' s h i (compS S (r + 1)) (AE en) x (.slice pa al.length ca) al (.slice pt told.length ct) told (some (bx, #[.int .i64 c.kind, .int .i64 c.n, .int .i64 c.max, .string c.lo, .string c.hi, .slice p5 c.keys.length k5]))) := hcm 1
                    clear HFJ hrev hcm
                    go_region_with (first
                      | (go_at_call 31; with_reducible refine hrev1.mono ?_; rintro e w' ⟨rfl, hw'⟩; obtain rfl := hw'.symm)
                      | (go_at_call 10; with_reducible refine (hwn _).mono ?_; rintro e w' ⟨rfl, hw'⟩; obtain rfl := hw'.symm)
                      | (go_at_call 28; with_reducible refine hcm1.mono ?_; rintro e w6 ⟨rfl, HQ⟩))
                    all_goals
                      by_cases h16 : 16 < al.length - told.length
                      · have h16' : (16 : Int) < (al.length : Int) - (told.length : Int) := by omega
                        go_wp2
                        go_roundg (80 - i)
                        case measure => omega
                        case rel => exact ⟨i + 1, pa, ca, pt, ct, al, told, en, true, compS S (r + 1), x, rfl, rfl, rfl, rfl, by congr 1, by omega, by omega, by omega, by omega, htl, HQ.out.drop.more, HCJ.out.mono (fun _ => rfl), fun e => by cases e⟩
                      · have h16' : ¬ (16 : Int) < (al.length : Int) - (told.length : Int) := by omega
                        go_wp2
                        go_roundg (80 - i)
                        case measure => omega
                        case rel => exact ⟨i + 1, pa, ca, pt, ct, al, told, en, true, compS S (r + 1), x, rfl, rfl, rfl, rfl, by congr 1, by omega, by omega, by omega, by omega, htl, HQ.out.drop.more, HCJ.out.mono (fun _ => rfl), fun e => by cases e⟩
                  · have hcm : ∀ q, Calls Tryz.prog 28 #[ptr s, .int .i64 (1 + (r : Int))] (w3.drewN q) fun e w' => e = .returned (.int .i64 16) ∧ w' = w3.drewN q := fun q => by
                      have := (HS3.out.below (below_drewF q w3)).compactNo (r + 1) (by omega) (by omega) hpr
                      have e : ((r + 1 : Nat) : Int) = 1 + (r : Int) := by omega
                      rw [e] at this
                      exact this
                    have HS4 : Hid (∀ q, Sx w (w3.drewN q) s h (i + 1) S (AE en) x (.slice pa al.length ca) al (.slice pt told.length ct) told (some (bx, #[.int .i64 c.kind, .int .i64 c.n, .int .i64 c.max, .string c.lo, .string c.hi, .slice p5 c.keys.length k5]))) := fun q => (HS3.out.below (below_drewF q w3)).more
                    go_quiet (first
                      | (go_at_call 31; with_reducible exact Calls.quiet_of_same (hrev _))
                      | (go_at_call 31; exact Calls.quiet_of_same (hrev 0))
                      | (go_at_call 10; with_reducible exact Calls.quiet_of_same (hwn _))
                      | (go_at_call 28; with_reducible exact Calls.quiet_of_same (hcm _))
                      | (go_at_call 28; exact Calls.quiet_of_same (hcm 0)))
                    by_cases h16 : 16 < al.length - told.length
                    · have h16' : (16 : Int) < (al.length : Int) - (told.length : Int) := by omega
                      go_wp2
                      go_roundg (80 - i)
                      case measure => omega
                      case rel => exact ⟨i + 1, pa, ca, pt, ct, al, told, en, true, S, x, rfl, rfl, rfl, rfl, by congr 1, by omega, by omega, by omega, by omega, htl, FX.late (HS4.out _) (HFJ.out.mono .inl) h16⟩
                    · have h16' : ¬ (16 : Int) < (al.length : Int) - (told.length : Int) := by omega
                      go_wp2
                      go_roundg (80 - i)
                      case measure => omega
                      case rel => exact ⟨i + 1, pa, ca, pt, ct, al, told, en, lg, S, x, rfl, rfl, rfl, rfl, by congr 1, by omega, by omega, by omega, by omega, htl, FX.soon (HS4.out _) (HFJ.out.mono .inl) h16⟩
            · go_upto_region 39 with fail
              go_upto_if 146 with fail
              go_cut [146, 147, 148] from 48 to 145 (fun s146 _ _ wc => s146 = .bool true ∧ wc = w3)
              case first =>
                by_cases h0 : kd = 2
                · have h0' : (kd == 2) = true := by simp [h0]
                  go_wp2_with fail
                  go_meet
                  exact ⟨rfl, rfl⟩
                · have h0' : (kd == 2) = false := by simp [h0]
                  have h1' : (kd == 3) = true := by
                    have : kd = 3 := by omega
                    simp [this]
                  go_wp2_with fail
                  go_meet
                  exact ⟨rfl, rfl⟩
              case rest =>
              obtain ⟨rfl, hwc⟩ := hcut
              obtain rfl := hwc.symm
              cases en with
              | true =>
                have hno := Sx.none_ (show Sx w w3 s h i S [] x (.slice pa al.length ca) al (.slice pt told.length ct) told (some (bx, #[.int .i64 c.kind, .int .i64 c.n, .int .i64 c.max, .string c.lo, .string c.hi, .slice p5 c.keys.length k5])) from HS3.out) c.max
                go_wp2_with (first
                  | (go_at_call 23; refine hno.mono ?_; rintro e w4 ⟨rfl, hw4⟩; obtain rfl := hw4.symm))
                go_roundg (80 - i)
                case measure => omega
                case rel => exact ⟨i + 1, pa, ca, pt, ct, al, told, true, lg, S, x, rfl, rfl, rfl, rfl, by congr 1, by omega, by omega, by omega, by omega, htl, HS3.out.drop.more, HFJ.out, HFEW.out⟩
              | false =>
                have HFI : Hid (FI S x lo hi (1 + (u : Int)) al told (lg = true)) := HFJ.out
                have hpl := Sx.poll (show Sx w w3 s h i S [1] x (.slice pa al.length ca) al (.slice pt told.length ct) told (some (bx, #[.int .i64 c.kind, .int .i64 c.n, .int .i64 c.max, .string c.lo, .string c.hi, .slice p5 c.keys.length k5])) from HS3.out) (by omega) c.max (max c.max 1) rfl
                by_cases he : pollE S x = 0
                · rw [he, if_pos rfl] at hpl
                  have HP := Hid.mkW (FI.poll HFI.out (max c.max 1) he)
                  obtain ⟨L, hL⟩ : ∃ L, L = pollL S x (max c.max 1) := ⟨_, rfl⟩
                  obtain ⟨y, hy⟩ : ∃ y, y = pollX S x (max c.max 1) := ⟨_, rfl⟩
                  rw [← hL, ← hy] at hpl HP
                  have hlen : told.length + L.length ≤ al.length := by have := FJ.len (en := false) HP.out; rw [List.length_append] at this; exact this
                  clear hL hy he HFI HFJ
                  go_upto_region 49 with (first
                    | (go_at_call 23; refine hpl.mono ?_; rintro e w6 ⟨p6, q6, rfl, HQ⟩))
                  have hsrc := (EVs.of HQ.out.1).src (own_ptr HQ.out.1)
                  have hown := HQ.out.2.rows.2
                  have hwz := HQ.out.2.bel.size
                  have hsum : told.length + L.length ≤ 1000000000 := by omega
                  obtain ⟨t9, hti, hz0, hz1, hz2⟩ := info_parts info85
                  go_upto_region 53 with (at_builtin; refine wpList_appS _ rfl (.tmp 173) (.tmp 174) 28 28 rfl w.heap.size 63 t9 _ 8 Tryz.underlying28 hti hz0 hz1 rfl (by rw [hz2]; decide) _ told.length (evsC told) rfl hown _ rfl L.length (evsC L) hsrc hsum hwz ?_; intro v' w9 a1 a2 a3 a4; obtain ⟨np, nc, hnv⟩ := owns_formB0 a1; subst hnv; have HA := Hid.mkW (And.intro a1 (And.intro a2 a3)); clear a1 a2 a3 a4)
                  have HS9 : Hid (Sx w w9 s h (i + 1) S (AE false) y (.slice pa al.length ca) al (.slice np (told.length + L.length) nc) (told ++ L) (some (bx, #[.int .i64 c.kind, .int .i64 c.n, .int .i64 c.max, .string c.lo, .string c.hi, .slice p5 c.keys.length k5]))) := (Sx.appT HQ.out.2 (Below.refl _ _) HA.out.1 HA.out.2.1 HA.out.2.2).more
                  have htL : (told ++ L).length = told.length + L.length := List.length_append
                  have HTL := Hid.mkW htL
                  clear htL hown hsrc HQ HA hpl y0 y1 y2
                  by_cases h16 : 16 < al.length - (told ++ L).length
                  · have h16' : (16 : Int) < (al.length : Int) - ((told.length : Int) + (L.length : Int)) := by have := HTL.out; omega
                    go_wp2
                    go_roundg (80 - i)
                    case measure => omega
                    case rel => exact ⟨i + 1, pa, ca, np, nc, al, told ++ L, false, true, S, y, rfl, by rw [HTL.out], rfl, rfl, by congr 1, by omega, by omega, by omega, by omega, by rw [HTL.out]; exact hlen, by rw [HTL.out]; exact FX.late HS9.out (FJ.mono (en := false) HP.out .inl) h16⟩
                  · have h16' : ¬ (16 : Int) < (al.length : Int) - ((told.length : Int) + (L.length : Int)) := by have := HTL.out; omega
                    go_wp2
                    go_roundg (80 - i)
                    case measure => omega
                    case rel => exact ⟨i + 1, pa, ca, np, nc, al, told ++ L, false, lg, S, y, rfl, by rw [HTL.out], rfl, rfl, by congr 1, by omega, by omega, by omega, by omega, by rw [HTL.out]; exact hlen, by rw [HTL.out]; exact FX.soon HS9.out (FJ.mono (en := false) HP.out .inl) h16⟩
                · obtain ⟨h1, h2, h3⟩ := FI.pollEnd HFI.out (max c.max 1) he
                  rw [h2, if_neg he, List.length_nil] at hpl
                  have HPR := Hid.mkW (And.intro h3 (FI.pre HFI.out))
                  obtain ⟨v, hv⟩ : ∃ v, v = pollE S x := ⟨_, rfl⟩
                  obtain ⟨y, hy⟩ : ∃ y, y = pollX S x (max c.max 1) := ⟨_, rfl⟩
                  rw [← hv] at hpl h1
                  rw [← hy] at hpl
                  clear hv hy he h2 h3 HFI
                  rcases h1 with rfl | rfl
                  all_goals
                    go_wp2_with (first
                      | (go_at_call 23; refine hpl.mono ?_; rintro e w6 ⟨p6, q6, rfl, HQ⟩))
                    go_roundg (80 - i)
                    case measure => omega
                    case rel => exact ⟨i + 1, pa, ca, pt, ct, al, told, true, lg, S, y, rfl, rfl, rfl, rfl, by congr 1, by omega, by omega, by omega, by omega, htl, HQ.out.2.drop.more, HPR.out, HFEW.out⟩
      · skip
        obtain ⟨hrA, hrT⟩ := HM.out.sx.rows
        obtain ⟨R, hR⟩ := HM.out.fj.pre
        have hsame := same_evs (EVs.of hrT) (EVs.front (EVs.of hrA) hR) (by omega)
        have hpa := own_ptr hrA
        have hcap : al.length ≤ ca := by
          obtain ⟨p', c', e, h1, _⟩ := EVs.of hrA
          simp only [Value.slice.injEq] at e
          obtain ⟨_, _, rfl⟩ := e
          exact h1
        have hcapT : (told.length : Int) ≤ (ca : Int) := by omega
        have hgt : ¬ (al.length : Int) < (told.length : Int) := by omega
        have hal2 : al.length ≤ 2400 := by omega
        have HL : Hid (en = true → lg = true) := fun e => by
          have := HM.out.fj
          rw [e] at this
          exact this.1
        have hor : (i < cs.length ∧ ¬ (i : Int) < 80) ∨ ¬ i < cs.length := by
          by_cases h1 : i < cs.length
          · exact .inl ⟨h1, by omega⟩
          · exact .inr h1
        clear hrA hrT hR hlt HK
        go_upto_region 14 with fail
        go_cut [55] from 48 to 54 (fun s55 wc => s55 = .bool false ∧ wc = wr)
        case first =>
          rcases hor with ⟨h1, h2⟩ | h1
          · go_wp2_with fail
            go_meet
            exact ⟨rfl, rfl⟩
          · go_wp2_with fail
            go_meet
            exact ⟨rfl, rfl⟩
        case rest =>
          obtain ⟨rfl, hwc⟩ := hcut
          obtain rfl := hwc.symm
          clear hor
          go_upto_region 57 with (go_at_call 25; refine hsame.mono ?_; rintro e w5 ⟨rfl, hb5⟩; have HM5 := Hid.mkW (HM.out.below hb5))
          clear hsame HM
          cases en with
          | true =>
            obtain rfl : lg = true := HL.out rfl
            go_wp2
            go_ret
            exact ⟨rfl, HM5.out.sx.bel⟩
          | false =>
            cases lg with
            | true =>
              go_wp2
              go_ret
              exact ⟨rfl, HM5.out.sx.bel⟩
            | false =>
              clear HL
              go_wp2
              go_loopg [12, 26, 27, 28] 2 (fun kx s12 s26 s27 s28 wq => ∃ (k : Nat) (pt : Option Addr) (ct : Nat) (told : List Evd) (x : Wd), s12 = .slice pt told.length ct ∧ s26 = .int .i64 k ∧ kx + k = 2 ∧ k ≤ 1 ∧ told.length ≤ al.length ∧ Hid (k = 1 → told = al) ∧ Hid (FX w wq s h i S x (.slice pa al.length ca) al (.slice pt told.length ct) told none false false lo hi (1 + (u : Int))))
              case atStart => exact ⟨0, pt, ct, told, x, rfl, rfl, rfl, Nat.zero_le _, htl, (fun e => (by cases e)), HM5⟩
              case round =>
                clear HM5
                obtain ⟨k, pt, ct, told, x, rfl, rfl, hkk, hk1, htl, HTA, HM⟩ := hrel
                have hFI : FI S x lo hi (1 + (u : Int)) al told (false = true) := HM.out.fj
                obtain ⟨he, hta⟩ := hFI.last (by decide) (HM.out.few rfl)
                have hpl := Sx.poll (show Sx w wr s h i S [1] x (.slice pa al.length ca) al (.slice pt told.length ct) told none from HM.out.sx) (by omega) 100 100 (by decide)
                rw [he, if_pos rfl] at hpl
                have HP := Hid.mkW (FI.poll hFI 100 he)
                have HFW : Hid (al.length - told.length ≤ 16) := HM.out.few rfl
                obtain ⟨L, hL⟩ : ∃ L, L = pollL S x 100 := ⟨_, rfl⟩
                obtain ⟨y, hy⟩ : ∃ y, y = pollX S x 100 := ⟨_, rfl⟩
                rw [← hL, ← hy] at HP
                rw [← hL, ← hy] at hpl
                rw [← hL] at hta
                have HTL := Hid.mkW hta
                have hlen : told.length + L.length = al.length := by rw [← hta, List.length_append]
                clear hL hy he hFI hta HM
                by_cases hL0 : L.length = 0
                · have hq0 : ((L.length : Int) == 0) = true := by simp [hL0]
                  have HTE : Hid (told = al) := by have := HTL.out; rw [List.eq_nil_of_length_eq_zero hL0, List.append_nil] at this; exact this
                  go_wp2_with (first
                    | (go_at_call 23; refine hpl.mono ?_; rintro e w6 ⟨p6, q6, rfl, HQ⟩; have hsm := same_evs (EVs.of HQ.out.2.rows.2) ((EVs.of HQ.out.2.rows.1).other HTE.out.symm) (by omega))
                    | (go_at_call 25; refine hsm.mono ?_; rintro e w7 ⟨rfl, hb7⟩))
                  go_ret
                  exact ⟨rfl, HQ.out.2.bel.trans (hb7.mono HQ.out.2.bel.size)⟩
                · have hq0 : ((L.length : Int) == 0) = false := by simpa using hL0
                  obtain rfl : k = 0 := by
                    rcases Nat.eq_zero_or_pos k with e | e
                    · exact e
                    · have := HTA.out (by omega)
                      rw [this] at hlen
                      omega
                  go_upto_region 66 with (first
                    | (go_at_call 23; refine hpl.mono ?_; rintro e w6 ⟨p6, q6, rfl, HQ⟩))
                  have hsrc := (EVs.of HQ.out.1).src (own_ptr HQ.out.1)
                  have hown := HQ.out.2.rows.2
                  have hwz := HQ.out.2.bel.size
                  have hsum : told.length + L.length ≤ 1000000000 := by omega
                  obtain ⟨t9, hti, hz0, hz1, hz2⟩ := info_parts info85
                  go_wp2_with (at_builtin; refine wpList_appS _ rfl (.tmp 236) (.tmp 237) 28 28 rfl w.heap.size 63 t9 _ 8 Tryz.underlying28 hti hz0 hz1 rfl (by rw [hz2]; decide) _ told.length (evsC told) rfl hown _ rfl L.length (evsC L) hsrc hsum hwz ?_; intro v' w9 a1 a2 a3 a4; obtain ⟨np, nc, hnv⟩ := owns_formB0 a1; subst hnv; have HA := Hid.mkW (And.intro a1 (And.intro a2 a3)); clear a1 a2 a3 a4)
                  go_roundg 1
                  case measure => omega
                  case rel =>
                    have HS9 : Sx w w9 s h i S (AE false) y (.slice pa al.length ca) al (.slice np (told.length + L.length) nc) (told ++ L) none := Sx.appT HQ.out.2 (Below.refl _ _) HA.out.1 HA.out.2.1 HA.out.2.2
                    have htL : (told ++ L).length = told.length + L.length := List.length_append
                    exact ⟨1, np, nc, told ++ L, y, by rw [htL, hlen], rfl, rfl, Nat.le_refl _, by rw [htL]; omega, fun _ => HTL.out, by rw [htL]; exact ⟨HS9, HP.out, fun _ => by have := HFW.out; rw [htL]; omega⟩⟩

theorem watchFronts_walk (v0 : Value) (x1 x2 : ByteArray) (x3 : Int) (cs : List Cd) (W : World) (hS : SeesC W v0 cs) (hm : cs.length ≤ maxLen) (h1 : x1.size ≤ 140737488355328) (h2 : x2.size ≤ 140737488355328) (_ : -9223372036854775808 ≤ x3 ∧ x3 ≤ 9223372036854775807) : Calls Tryz.prog 4 #[v0, .string x1, .string x2, .int .i64 x3] W fun e w' => e = .returned (.bool true) ∧ Below W.heap.size W w' := fronts_walk v0 x1 x2 x3 cs W hS hm h1 h2
end Go.Proofs.YtjdmgmnndfhmgaaGreat
