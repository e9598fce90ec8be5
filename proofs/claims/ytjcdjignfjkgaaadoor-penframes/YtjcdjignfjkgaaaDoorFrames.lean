/- The walk of PenFrames: whatever the slices of bytes, the bytes behind them and the cut, it returns true and turns nothing that was there. -/
import Derived.Test.YtjcdjignfjkgaaaDoorFrameLaws
import Derived.Deep.RegionWith
import Derived.Deep.CutRange
namespace Go.Proofs.YtjcdjignfjkgaaaDoor
open Go Go.RowKit

theorem unfN_le (R : List Int) (h : unfE R = 0) : 8 ≤ unfN R ∧ unfN R ≤ R.length := by
  rw [unfN, if_pos h]
  rw [unfE] at h
  split at h
  · cases h
  · split at h
    · cases h
    · split at h
      · cases h
      · omega

set_option maxRecDepth 100000 in
set_option maxHeartbeats 8000000 in
theorem frames_walk (v0 v1 : Value) (cut : Int) (ls : List (List Int)) (ms : List Int) (w : World) (hT : HasTab w) (h0 : SeesS w v0 ls) (hl0 : ls.length ≤ maxLen) (h1 : Sees w v1 ms) (hb1 : isB ms) (hl1 : ms.length ≤ maxLen) (_hwf : (Lit.int .i64 cut).wf = true) :
    Calls Tryd.prog 5 #[v0, v1, .int .i64 cut] w fun e w' => e = .returned (.bool true) ∧ Below w.heap.size w w' := by
  obtain ⟨i0, hi, hz0, hz1, hz2⟩ := info_parts info5
  obtain ⟨a0, cap0, rfl⟩ := h0.form
  obtain ⟨a1, cap1, rfl, _, _⟩ := h1.form
  unfold maxLen at hl0 hl1
  by_cases hbig : 10 < ls.length
  · go_enter Tryd.func5, Tryd.ntmps5
    go_wp2_with (go_at_call 9; refine (known_any _ hT).mono ?_; rintro e w1 ⟨rfl, hbk⟩)
    go_ret
    exact ⟨rfl, hbk⟩
  · by_cases hbig2 : 500 < ms.length
    · have hd : decide ((10 : Int) < (ls.length : Int)) = false := by simp; omega
      go_enter Tryd.func5, Tryd.ntmps5
      go_wp2_with (go_at_call 9; refine (known_any _ hT).mono ?_; rintro e w1 ⟨rfl, hbk⟩)
      go_ret
      exact ⟨rfl, hbk⟩
    · have hd : decide ((10 : Int) < (ls.length : Int)) = false := by simp; omega
      have hd2 : decide ((500 : Int) < (ms.length : Int)) = false := by simp; omega
      go_enter Tryd.func5, Tryd.ntmps5
      go_wp2_with (go_at_call 9; refine (known_any _ hT).mono ?_; rintro e w1 ⟨rfl, hbk⟩)
      have hs1 := hbk.size
      have HS := Hid.mk' h0
      have HM := Hid.mk' h1
      have HMB := Hid.mk' hb1
      have HT := Hid.mk' hT
      have HBK := Hid.mk' hbk
      clear h0 h1 hb1 hT hbk
      go_loopg [7, 8] ls.length (fun g vb i wx => ∃ k : Nat, k ≤ ls.length ∧ g = ls.length - k ∧ i = .int .i64 k ∧ (∀ z ∈ ls.take k, isB z ∧ z.length ≤ 500) ∧ wx.ownsRow w1.heap.size 5 1 vb (framesB (ls.take k)).length (u8s (framesB (ls.take k))) ∧ Below w.heap.size w wx ∧ w1.heap.size ≤ wx.heap.size)
      case atStart => exact ⟨0, Nat.zero_le _, rfl, rfl, (fun z hz => by simp at hz), World.ownsRow_nil _ _ _ _, HBK.out, Nat.le_refl _⟩
      case round =>
        obtain ⟨k, hk, hg, rfl, hall, hown, hbx, hsx⟩ := hrel
        by_cases hlt : k < ls.length
        · obtain ⟨b0, off0, ai, ci, rfl, hbl, c1, hsz, hzB, hzm⟩ := HS.out.at hlt
          have d1 := (hbx.cell (p := ⟨b0, off0 + k, none⟩) hbl).trans c1
          unfold maxLen at hzm
          by_cases hz5 : 500 < (ls[k]).length
          · go_wp2
            go_ret
            exact ⟨rfl, hbx⟩
          · have hfl := frameB_len ls[k]
            have HALL : Hid (∀ z ∈ ls.take (k + 1), isB z ∧ z.length ≤ 500) := by
              intro z hz
              rw [List.take_succ_eq_append_getElem hlt] at hz
              rcases List.mem_append.1 hz with hz | hz
              · exact hall z hz
              · simp at hz; subst hz; exact ⟨hzB, by omega⟩
            have HFL : Hid ((framesB (ls.take k)).length ≤ 508 * 10) := Nat.le_trans (framesB_len _ (fun z hz => (hall z hz).2)) (by simp; omega)
            have HNX : Hid (framesB (ls.take (k + 1)) = framesB (ls.take k) ++ frameB ls[k]) := by show _ = _; rw [List.take_succ_eq_append_getElem hlt, framesB_snoc]
            have HO := Hid.mk' hown
            have HSZ := Hid.mk' hsz
            have HBX := Hid.mk' hbx
            have HC1 := Hid.mk' c1
            have HZB := Hid.mk' hzB
            clear hall hown hsz hbx c1 hzB
            generalize ls[k] = z at *
            go_wp2_with (go_at_call 34; refine (frame_any _ z _ (HT.out.below HBX.out) HZB.out (by omega) (HSZ.out.below HBX.out)).mono ?_; rintro e w3 ⟨vf, rfl, hof, hb3⟩; obtain ⟨gf, capf, rfl, hgf1, hgf2⟩ := hof.form (by omega); have hbw3 := HBX.out.trans (hb3.mono HBX.out.size); have d3 := (hbw3.cell (p := ⟨b0, off0 + k, none⟩) hbl).trans HC1.out)
            rw [hfl] at hof
            have hcf : z.length + 8 ≤ capf ∧ capf ≤ maxLen := by
              rcases hof.2 with ⟨e, _⟩ | ⟨g', c', cur, e, _, _, hc, hcm, _⟩
              · cases e
              · cases e; exact ⟨hc, hcm⟩
            have HSF : Hid (∀ w', Below w3.heap.size w3 w' → Sees w' (.slice (some ⟨gf, 0, none⟩) (z.length + 8) capf) (frameB z)) := fun w' hb => sees_in hfl hof hb
            have HB3 := Hid.mk' hb3
            have HBW3 := Hid.mk' hbw3
            have hs3 := hb3.size
            have HOF := Hid.mk' hof
            have HFL2 := Hid.mk' hfl
            clear hb3 hbw3 hof hfl
            go_cut [56] from 31 to 73 (fun s56 wx => s56 = .bool false ∧ Below w3.heap.size w3 wx)
            case first =>
              have q0 := conv_sees (HSF.out _ ((Below.refl _ w3).drew))
              go_region_with (go_at_call 35; refine (fFrame _ z _ HZB.out (by omega) (HSZ.out.below HBW3.out.drew)).mono ?_; rintro e w4 ⟨vg, rfl, hog, hb4⟩; have q1 := conv_sees (sees_own hog); have q2 := conv_sees (HSF.out _ ((Below.refl _ w3).drew.trans hb4)))
              all_goals
                go_wp2_with fail
                go_meet
                exact ⟨rfl, (Below.refl _ w3).drew.trans hb4⟩
            case rest =>
            obtain ⟨rfl, hbc⟩ := hcut
            have HBC := Hid.mk' hbc
            have hsc := hbc.size
            clear hbc
            have hwb := withinF_bd cut (z.length + 8) (by omega)
            have hcutE := fun c hc => unfE_cut z (by omega) c hc
            obtain ⟨kk, hkk⟩ : ∃ kk : Nat, withinF cut (z.length + 8 : Nat) = kk := ⟨(withinF cut (z.length + 8 : Nat)).toNat, by omega⟩
            have hkN : kk < z.length + 8 := by omega
            have HWC : Hid (∀ w', Calls Tryd.prog 36 #[.int .i64 cut, .int .i64 ((z.length : Int) + 8)] w' fun e w'' => e = .returned (.int .i64 (kk : Int)) ∧ w'' = w') := fun w' => by
              have := within_any cut (z.length + 8) w' (by omega) (by omega)
              rw [hkk] at this
              exact this
            have HUN : Hid (∀ w', Below w3.heap.size w3 w' → Calls Tryd.prog 37 #[.slice (some ⟨gf, 0, none⟩) kk capf] w' fun e w'' => ∃ v' n, e = .returned (.tuple #[v', .int .i64 n, .int .i64 8]) ∧ Below w'.heap.size w' w'') := fun w' hb => by
              have hsub : Sees w' (.slice (some ⟨gf, 0, none⟩) kk capf) ((frameB z).take kk) := by
                have h := HOF.out
                have h' : w'.ownsRow wr.heap.size 5 1 (.slice (some ⟨gf, 0, none⟩) (frameB z).length capf) (frameB z).length (u8s (frameB z)) := by
                  rw [HFL2.out]; exact ownsRow_upd h (Upd.ofBelow (S := fun _ => False) hb) (fun _ _ h => h)
                have := sees_sub h' 0 kk capf (by rw [HFL2.out]; omega) (by omega) hcf.2
                simpa using this
              refine (unframe_any _ _ w' ((HT.out.below HBW3.out).below hb) ?_ ?_ hsub).mono ?_
              · exact fun x hx => frameB_isB HZB.out (by omega) x (List.mem_of_mem_take hx)
              · have := List.length_take_le kk (frameB z); omega
              · rintro e w'' ⟨v', rfl, _, hb'⟩
                rw [hcutE kk (by rw [HFL2.out]; omega)]
                exact ⟨v', _, rfl, hb'⟩
            have HSRC : Hid (∀ w', Below w3.heap.size w3 w' → Src Tryd.prog 1 27 (.slice (some ⟨gf, 0, none⟩) (z.length + 8) capf) (frameB z).length (u8s (frameB z)) w') := fun w' hb => Src_sees (HSF.out w' hb)
            have HOW : Hid (∀ w', Below w3.heap.size w3 w' → w'.ownsRow w1.heap.size 5 1 u7 (framesB (ls.take k)).length (u8s (framesB (ls.take k)))) := fun w' hb => ownsRow_upd HO.out (Upd.ofBelow (S := fun _ => False) (HB3.out.trans (hb.mono hs3))) (fun _ _ h => h)
            have HLN : Hid ((framesB (ls.take k)).length + (frameB z).length ≤ 1000000000) := by show _ ≤ _; have := HFL.out; rw [HFL2.out]; omega
            clear hwb hkk hcutE
            go_wp2_with (first | (go_at_call 36; refine (HWC.out _).mono ?_; rintro e w5 ⟨rfl, rfl⟩) | (go_at_call 37; refine (HUN.out _ HBC.out).mono ?_; rintro e w6 ⟨vu, nu, rfl, hb6⟩; have hb63 := HBC.out.trans (hb6.mono hsc)) | (at_builtin; refine wpList_app _ rfl (.tmp 71) (.tmp 72) 27 27 rfl w1.heap.size 5 i0 Tryd.underlying27 hi hz0 hz1 hz2 u7 _ _ rfl (HOW.out _ hb63) (.slice (some ⟨gf, 0, none⟩) (z.length + 8) capf) rfl _ _ (HSRC.out _ hb63) HLN.out (by have := hb63.size; omega) ?_; intro v' w7 g1 g2 g3 g4))
            go_roundg (ls.length - (k + 1))
            case measure => omega
            case rel =>
              have hb36 := HBW3.out.trans (hb63.mono (by have := HBX.out.size; omega))
              have hs7 := g2.size
              have hs6 := hb63.size
              refine ⟨k + 1, by omega, rfl, by go_num, HALL.out, ?_, hb36.trans (g2.below (by have := hb36.size; omega) (fun j hj e => ?_)), by omega⟩
              · rw [HNX.out, List.length_append]; simpa using g1
              · have := (HO.out.lt j e.symm).1; omega
        · obtain rfl : k = ls.length := by omega
          rw [List.take_length] at hown hall
          have HLS := Hid.mk' (fun z hz => (hall z hz : isB z ∧ z.length ≤ 500))
          have hfl : (framesB ls).length ≤ 508 * 10 := Nat.le_trans (framesB_len _ (fun z hz => (hall z hz).2)) (by omega)
          have hsrc := Src_sees (HM.out.below hbx)
          have HBX := Hid.mk' hbx
          have HOWN := Hid.mk' hown
          clear hall hbx hown
          go_wp2_with (at_builtin; refine wpList_app _ rfl (.tmp 74) (.tmp 75) 27 27 rfl w1.heap.size 5 i0 Tryd.underlying27 hi hz0 hz1 hz2 u7 _ _ rfl HOWN.out _ rfl _ _ hsrc (by omega) hsx ?_; intro vb w2 g1 g2 g3 g4)
          have H0 : Hid (Sees w2 vb (framesB ls ++ ms) ∧ Below w.heap.size w w2) := by
            refine ⟨sees_own (B := w1.heap.size) (by rw [List.length_append]; simpa using g1), HBX.out.trans (g2.below HBX.out.size (fun j hj e => ?_))⟩
            have := (HOWN.out.lt j e.symm).1
            omega
          have HIB : Hid (∀ k, isB (framesB (ls.drop k) ++ ms) ∧ (framesB (ls.drop k) ++ ms).length ≤ 10000) := by
            intro k
            have h1 := framesB_isB (ls.drop k) (fun z hz => HLS.out z (List.mem_of_mem_drop hz))
            have h2 := framesB_len (ls.drop k) (fun z hz => (HLS.out z (List.mem_of_mem_drop hz)).2)
            refine ⟨fun x hx => ?_, ?_⟩
            · rcases List.mem_append.1 hx with hx | hx
              · exact h1 x hx
              · exact HMB.out x hx
            · rw [List.length_append]; simp at h2; omega
          clear hsrc g1 g2 g3 g4 hk hg hlt
          go_loopg [7, 14] (ls.length + 2) (fun g v i wx => ∃ (k : Nat) (R : List Int), k ≤ ls.length + 1 ∧ g = ls.length + 2 - k ∧ i = .int .i64 k ∧ Sees wx v R ∧ (k ≤ ls.length → R = framesB (ls.drop k) ++ ms) ∧ Below w.heap.size w wx)
          case atStart => exact ⟨0, _, by omega, rfl, rfl, H0.out.1, (fun _ => rfl), H0.out.2⟩
          case round =>
            obtain ⟨k, R, hk, hg, rfl, hsv, hR, hbx⟩ := hrel
            have hbs := hbx.size
            by_cases hkl : k ≤ ls.length
            · have hRB : isB R ∧ R.length ≤ 10000 := by rw [hR hkl]; exact HIB.out k
              have HT2 := HT.out.below hbx
              by_cases hlt : k < ls.length
              · have HR : Hid (R = frameB ls[k] ++ (framesB (ls.drop (k + 1)) ++ ms)) := by
                  show _ = _
                  rw [hR hkl, List.drop_eq_getElem_cons hlt, framesB_cons, List.append_assoc]
                have hz5 := HLS.out _ (List.getElem_mem hlt)
                obtain ⟨b0, off0, ai, ci, rfl, hbl, c1, hsz, hzB, hzm⟩ := HS.out.at hlt
                have hT2 : Hid (∀ T, R = frameB ls[k] ++ T → unfE R = 0 ∧ unfR R = ls[k] ∧ unfN R = (ls[k]).length + 8 ∧ R.length = (ls[k]).length + 8 + T.length ∧ R.drop ((ls[k]).length + 8) = T) := by
                  intro T hT; subst hT
                  exact ⟨unfE_frame _ _ (by omega), unfR_frame _ _ (by omega), unfN_frame _ _ (by omega), by rw [List.length_append, frameB_len], drop_len _ _ _ (frameB_len _)⟩
                obtain ⟨hE, hRR, hN, hRl, hRd⟩ := hT2.out _ HR.out
                have HNXT : Hid (R.drop ((ls[k]).length + 8) = framesB (ls.drop (k + 1)) ++ ms) := hRd
                have hlo : (ls[k]).length + 8 ≤ R.length := by omega
                clear hRd hRl hT2 HR hR
                generalize ls[k] = z at *
                have HU37 : Hid (∀ v w', Below wr.heap.size wr w' → Sees w' v R → Calls Tryd.prog 37 #[v] w' fun e w'' => ∃ vx, e = .returned (.tuple #[vx, .int .i64 ((z.length : Int) + 8), .int .i64 0]) ∧ Sees w'' vx z ∧ Below w'.heap.size w' w'') := fun v w' hb hs => by
                  refine (unframe_any v R w' (HT2.below hb) hRB.1 (by omega) hs).mono ?_
                  rintro e w'' ⟨v', rfl, h1, h2⟩
                  rw [hE, hN]
                  rw [hRR] at h1
                  exact ⟨v', rfl, h1, h2⟩
                have HU38 : Hid (∀ v w', Sees w' v R → Calls Tryd.prog 38 #[v] w' fun e w'' => ∃ vx, e = .returned (.tuple #[vx, .int .i64 ((z.length : Int) + 8), .int .i64 0]) ∧ Sees w'' vx z ∧ Below w'.heap.size w' w'') := fun v w' hs => by
                  refine (fUnframe v R w' hRB.1 (by omega) hs).mono ?_
                  rintro e w'' ⟨v', rfl, h1, h2⟩
                  rw [hE, hN]
                  rw [hRR] at h1
                  exact ⟨v', rfl, h1, h2⟩
                clear hE hRR hN
                have HBX := Hid.mk' hbx
                have HSV := Hid.mk' hsv
                have HSZ := Hid.mk' hsz
                have HC1 := Hid.mk' c1
                have hRl : R.length ≤ 10000 := hRB.2
                have hzl : z.length ≤ 500 := hz5.2
                rcases hsv with ⟨h, _⟩ | ⟨g, off, cap, rfl, hx0, hcap, hcm, hc⟩
                · rw [h] at hlo; simp at hlo
                have HSC : Hid (∀ w', Below wr.heap.size wr w' → ∀ c, R.length - (z.length + 8) ≤ c → c ≤ maxLen → Sees w' (.slice (some ⟨g, off + (z.length + 8), none⟩) (R.length - (z.length + 8)) c) (framesB (ls.drop (k + 1)) ++ ms)) := fun w' hb c h1 h2 => by
                  have hh := (sees_cut hc (z.length + 8) (R.length - (z.length + 8)) c (by omega) h1 h2).below hb
                  rw [HNXT.out, List.take_of_length_le (by rw [← HNXT.out]; simp)] at hh
                  exact hh
                clear hbx hsz c1 hc hRB hz5 HT2
                go_wp2_with (first | (go_at_call 37; refine (HU37.out _ _ (Below.refl _ _) HSV.out).mono ?_; rintro e w5 ⟨vx, rfl, hsx1, hb5⟩) | (go_at_call 38; refine (HU38.out _ _ (HSV.out.below hb5)).mono ?_; rintro e w6 ⟨vy, rfl, hsy1, hb6⟩; have hb56 := hb5.trans (hb6.mono hb5.size); have hbw6 := HBX.out.trans (hb56.mono hbs); have d1 := (hbw6.cell (p := ⟨b0, off0 + k, none⟩) hbl).trans HC1.out; have q1 := fun m => conv_sees ((hsx1.below hb6).below (below_drewN (Below.refl _ _) m)); have q2 := fun m => conv_sees (hsy1.below (below_drewN (Below.refl _ _) m)); have q3 := fun m => conv_sees ((HSZ.out.below hbw6).below (below_drewN (Below.refl _ w6) m))))
                by_cases hca : cap = z.length + 8
                · subst hca
                  go_quiet (fail)
                  go_wp2
                  go_roundg (ls.length + 2 - (k + 1))
                  case measure => omega
                  case rel =>
                    refine ⟨k + 1, framesB (ls.drop (k + 1)) ++ ms, by omega, rfl, by go_num, ?_, (fun _ => rfl), below_drewN hbw6 _⟩
                    refine .inl ⟨?_, some ⟨g, off, none⟩, z.length + 8 - (z.length + 8), by rw [show R.length - (z.length + 8) = 0 by omega], (fun e => by cases e), by omega⟩
                    rw [← HNXT.out]
                    exact List.eq_nil_of_length_eq_zero (by simp; omega)
                · go_quiet (fail)
                  go_wp2
                  go_roundg (ls.length + 2 - (k + 1))
                  case measure => omega
                  case rel =>
                    exact ⟨k + 1, framesB (ls.drop (k + 1)) ++ ms, by omega, rfl, by go_num, HSC.out _ (below_drewN hb56 _) _ (by omega) (by omega), (fun _ => rfl), below_drewN hbw6 _⟩
              · obtain rfl : k = ls.length := by omega
                have HBX := Hid.mk' hbx
                have HSV := Hid.mk' hsv
                have hRl : R.length ≤ 10000 := hRB.2
                have HU37 : Hid (∀ v w', Below wr.heap.size wr w' → Sees w' v R → Calls Tryd.prog 37 #[v] w' fun e w'' => ∃ vx, e = .returned (.tuple #[vx, .int .i64 (unfN R), .int .i64 (unfE R)]) ∧ Sees w'' vx (unfR R) ∧ Below w'.heap.size w' w'') := fun v w' hb hs => unframe_any v R w' (HT2.below hb) hRB.1 (by omega) hs
                have HU38 : Hid (∀ v w', Sees w' v R → Calls Tryd.prog 38 #[v] w' fun e w'' => ∃ vx, e = .returned (.tuple #[vx, .int .i64 (unfN R), .int .i64 (unfE R)]) ∧ Sees w'' vx (unfR R) ∧ Below w'.heap.size w' w'') := fun v w' hs => fUnframe v R w' hRB.1 (by omega) hs
                have HNL : Hid (unfE R = 0 → 8 ≤ unfN R ∧ unfN R ≤ R.length) := unfN_le R
                generalize unfN R = N at *
                generalize unfE R = E at *
                generalize unfR R = P at *
                clear hbx hRB HT2 hR
                have hdl : decide ((ls.length : Int) < (ls.length : Int)) = false := by simp
                by_cases hE : E = 0
                · subst hE
                  have hNl := HNL.out rfl
                  rcases hsv with ⟨h, _⟩ | ⟨g, off, cap, rfl, hx0, hcap, hcm, hc⟩
                  · rw [h] at hNl; simp at hNl; omega
                  have HSC : Hid (∀ w', Below wr.heap.size wr w' → ∀ c, R.length - N ≤ c → c ≤ maxLen → Sees w' (.slice (some ⟨g, off + N, none⟩) (R.length - N) c) ((R.drop N).take (R.length - N))) := fun w' hb c h1 h2 => (sees_cut hc N (R.length - N) c (by omega) h1 h2).below hb
                  clear hc
                  have hN2 : N ≤ R.length := hNl.2
                  go_wp2_with (first | (go_at_call 37; refine (HU37.out _ _ (Below.refl _ _) HSV.out).mono ?_; rintro e w5 ⟨vx, rfl, hsx1, hb5⟩) | (go_at_call 38; refine (HU38.out _ _ (HSV.out.below hb5)).mono ?_; rintro e w6 ⟨vy, rfl, hsy1, hb6⟩; have hb56 := hb5.trans (hb6.mono hb5.size); have hbw6 := HBX.out.trans (hb56.mono hbs); have q1 := fun m => conv_sees ((hsx1.below hb6).below (below_drewN (Below.refl _ _) m)); have q2 := fun m => conv_sees (hsy1.below (below_drewN (Below.refl _ _) m))))
                  by_cases hca : cap = N
                  · subst hca
                    go_quiet (fail)
                    go_wp2
                    go_roundg (ls.length + 2 - (ls.length + 1))
                    case measure => omega
                    case rel =>
                      refine ⟨ls.length + 1, [], by omega, rfl, by go_num, ?_, (fun h => by omega), below_drewN hbw6 _⟩
                      exact .inl ⟨rfl, some ⟨g, off, none⟩, 0, rfl, (fun e => by cases e), by decide⟩
                  · go_quiet (fail)
                    go_wp2
                    go_roundg (ls.length + 2 - (ls.length + 1))
                    case measure => omega
                    case rel =>
                      exact ⟨ls.length + 1, _, by omega, rfl, by go_num, HSC.out _ (below_drewN hb56 _) _ (by omega) (by omega), (fun h => by omega), below_drewN hbw6 _⟩
                · have hne : (E == 0) = false := by simpa using hE
                  obtain ⟨av, cv, rfl, _, _⟩ := HSV.out.form
                  go_wp2_with (first | (go_at_call 37; refine (HU37.out _ _ (Below.refl _ _) HSV.out).mono ?_; rintro e w5 ⟨vx, rfl, hsx1, hb5⟩) | (go_at_call 38; refine (HU38.out _ _ (HSV.out.below hb5)).mono ?_; rintro e w6 ⟨vy, rfl, hsy1, hb6⟩; have hb56 := hb5.trans (hb6.mono hb5.size); have hbw6 := HBX.out.trans (hb56.mono hbs); have q1 := fun m => conv_sees ((hsx1.below hb6).below (below_drewN (Below.refl _ _) m)); have q2 := fun m => conv_sees (hsy1.below (below_drewN (Below.refl _ _) m))))
                  go_quiet (fail)
                  go_wp2
                  go_ret
                  exact ⟨rfl, below_drewN hbw6 _⟩
            · go_wp2
              go_ret
              exact ⟨rfl, hbx⟩
end Go.Proofs.YtjcdjignfjkgaaaDoor
