/- The document's disk: Rename. -/
import Derived.Test.YtmfhfabfhoiegaaRefG
import Derived.Deep.RegionWith
namespace Go.Proofs.Ytmfhfabfhoiegaa
open Go Go.RowKit
set_option maxRecDepth 100000 in
set_option maxHeartbeats 2000000 in
theorem rrename_any (B x : Nat) (h : Ru) (p : PS) (left : Int) (s t : ByteArray) (w : World) (hd : Rk B w x h p left) (hs : p.sane) (hl : s.size ≤ 1000000) (hl2 : t.size ≤ 1000000) (hB : B ≤ w.heap.size) :
    Calls Try.prog 17 #[ptr x, .string s, .string t] w fun e w' => e = .returned (.int .i64 (renE p s.data.toList t.data.toList)) ∧ RkPost B w w' x h (renP p s.data.toList t.data.toList) := by
  have hbeg := rbegin_any B x h p left w hd hs
  have hnameS := fun w' => rname_any s w' hl
  have hnameT := fun w' => rname_any t w' hl2
  cases hst : p.stopped with
  | true =>
    have hE : renE p s.data.toList t.data.toList = 13 := by unfold renE; rw [if_pos hst]
    rw [renP_no (by rw [hE]; decide), hE]
    rw [hst] at hbeg
    clear hd hs
    go_enter Try.func17, Try.ntmps17
    go_wp2_with (go_at_call 36; refine hbeg.mono ?_; rintro e w1 ⟨rfl, l1, hq, hu⟩)
    go_ret
    exact ⟨rfl, RkPost.same hq hu⟩
  | false =>
    rw [hst] at hbeg
    cases hok : okName s.data.toList with
    | false =>
      have hE : renE p s.data.toList t.data.toList = 1 := by unfold renE; rw [hst, Rk.fault1 hok]; simp
      rw [renP_no (by rw [hE]; decide), hE]
      rw [hok] at hnameS
      clear hd hs
      go_enter Try.func17, Try.ntmps17
      go_wp2_with (first | (go_at_call 36; refine hbeg.mono ?_; rintro e w1 ⟨rfl, l1, hq, hu⟩) | (go_at_call 32; with_reducible refine (hnameS _).mono ?_; rintro e w1 ⟨rfl, rfl⟩))
      go_ret
      exact ⟨rfl, RkPost.same hq hu⟩
    | true =>
      rw [hok] at hnameS
      cases hok2 : okName t.data.toList with
      | false =>
        have hE : renE p s.data.toList t.data.toList = 1 := by unfold renE; rw [hst, hok2]; rfl
        rw [renP_no (by rw [hE]; decide), hE]
        rw [hok2] at hnameT
        clear hd hs
        go_enter Try.func17, Try.ntmps17
        go_wp2_with (first | (go_at_call 36; refine hbeg.mono ?_; rintro e w1 ⟨rfl, l1, hq, hu⟩) | (go_at_call 32; with_reducible refine (hnameS _).mono ?_; rintro e w1 ⟨rfl, rfl⟩) | (go_at_call 32; with_reducible refine (hnameT _).mono ?_; rintro e w1 ⟨rfl, rfl⟩))
        go_ret
        exact ⟨rfl, RkPost.same hq hu⟩
      | true =>
        rw [hok2] at hnameT
        have hE : renE p s.data.toList t.data.toList = p.fault s.data.toList := by unfold renE; rw [hst, hok2]; rfl
        have hat := fun w1 l1 (r : Rk B w1 x h p.begun l1) => rat_any B x h p.begun l1 s w1 r (begun_sane hs).1
        by_cases hf : p.fault s.data.toList = 0
        · rw [hf] at hE
          obtain ⟨_, f, pre, post, hlk, hof, hfn, hlp, hk⟩ := hd.fault hf
          have hfm : f ∈ h.l := by rw [hlp]; simp
          have hlen := hd.len
          have hln := hs.len
          have hup := hd.up
          have HPP : Hid (renP p s.data.toList t.data.toList = { p.begun with fs := insK PF.name ⟨t.data.toList, f.pf.xs, f.pf.sy⟩ (delK PF.name t.data.toList (delK PF.name s.data.toList (h.l.map Rl.pf))) }) := by
            show _ = _
            unfold renP putP
            rw [if_pos hE, hof, hd.view]
          have hpl : pre.length < h.l.length := by rw [hlp]; simp
          rw [hk] at hat
          rw [hE]
          obtain ⟨bo, bc, hbv⟩ := sees_form (hd.rest.ok f hfm).sees
          have HBV := Hid.mk' hbv
          obtain ⟨n, hnn⟩ : ∃ n, h.l.length = n := ⟨_, rfl⟩
          have hki : (pre.length : Int) < (n : Int) := by omega
          have hdl := del_len s.data.toList h.l
          have HLP := Hid.mk' hlp
          clear hd hs hlk hof hk hf hE hbv hlp
          go_enter Try.func17, Try.ntmps17
          go_wp2_with (first
            | (go_at_call 36
               refine hbeg.mono ?_
               rintro e w1 ⟨rfl, l1, hq, hu⟩
               have hatW := hat _ _ hq
               have c0 := hq.cells.c0
               obtain ⟨g, c, hvv, e0, e1, e2, _⟩ := hq.mid HLP.out
               rw [HBV.out] at e1
               rw [hvv, hnn] at c0
               have hxl := hq.cells.lt
               have hsW := hu.size
               have HVV := Hid.mk' hvv
               have HQ := Hid.mk' hq
               have HU := Hid.mk' hu
               clear hq hu hat hbeg hvv)
            | (go_at_call 32
               with_reducible refine (hnameS _).mono ?_
               rintro e w1 ⟨rfl, rfl⟩)
            | (go_at_call 32
               with_reducible refine (hnameT _).mono ?_
               rintro e w1 ⟨rfl, rfl⟩)
            | (go_at_call 37
               refine hatW.mono ?_
               rintro e w1 ⟨rfl, rfl⟩))
          have hal : Below w1.heap.size w1 (w1.alloc (.cells #[.string t, .slice bo f.pf.xs.length bc, .int .i64 f.pf.sy] 74)).drew := ((Below.refl _ _).alloc (Nat.le_refl _) _).drew
          have hsal : (w1.alloc (.cells #[.string t, .slice bo f.pf.xs.length bc, .int .i64 f.pf.sy] 74)).drew.heap.size = w1.heap.size + 1 := by simp
          have y0 : (w1.alloc (.cells #[.string t, .slice bo f.pf.xs.length bc, .int .i64 f.pf.sy] 74)).drew.cell? ⟨x, 0, none⟩ = _ := (hal.cell (p := ⟨x, 0, none⟩) hxl).trans c0
          have y0' : (w1.alloc (.cells #[.string t, .slice bo f.pf.xs.length bc, .int .i64 f.pf.sy] 74)).cell? ⟨x, 0, none⟩ = _ := (((Below.refl _ _).alloc (Nat.le_refl _) (.cells #[.string t, .slice bo f.pf.xs.length bc, .int .i64 f.pf.sy] 74)).cell (p := ⟨x, 0, none⟩) hxl).trans c0
          have hwo := without_any B h.v h.l s _ (own_below HQ.out.rest.row hal) (fun q hq => (HQ.out.rest.ok q hq).below hal) (by omega)
          rw [HVV.out, hnn] at hwo
          have hfs := (HQ.out.rest.ok f hfm)
          have HFS : Hid (Sees w1 (.slice bo f.pf.xs.length bc) f.pf.xs ∧ isB f.pf.xs ∧ f.pf.sy ≤ f.pf.xs.length) := by
            have := hfs.sees
            rw [HBV.out] at this
            exact ⟨this, hfs.bytes, hfs.le⟩
          have HWO := Hid.mk' hwo
          clear hwo hfs hnameS hnameT hatW e0 e1 e2
          go_region_with (first
            | (go_at_call 42
               with_reducible refine HWO.out.mono ?_
               rintro e w2 ⟨v1, rfl, hr1, hb2⟩
               obtain ⟨vo1, vc1, rfl⟩ := own_form3 hr1
               have hs2 := hb2.size
               have hbW2 : Below w1.heap.size w1 w2 := hal.trans (hb2.mono (by omega))
               have x0 := (hbW2.cell (p := ⟨x, 0, none⟩) hxl).trans c0
               have t0 : w2.cell? ⟨w1.heap.size, 0, none⟩ = some (.string t) := (hb2.cell (p := ⟨w1.heap.size, 0, none⟩) (by show w1.heap.size < _; omega)).trans (by simp)
               have t1 : w2.cell? ⟨w1.heap.size, 1, none⟩ = some (.slice bo f.pf.xs.length bc) := (hb2.cell (p := ⟨w1.heap.size, 1, none⟩) (by show w1.heap.size < _; omega)).trans (by simp)
               have t2 : w2.cell? ⟨w1.heap.size, 2, none⟩ = some (.int .i64 f.pf.sy) := (hb2.cell (p := ⟨w1.heap.size, 2, none⟩) (by show w1.heap.size < _; omega)).trans (by simp)
               have hokf : OkR w2 (⟨⟨t.data.toList, f.pf.xs, f.pf.sy⟩, t, .slice bo f.pf.xs.length bc⟩ : Rl) := ⟨rfl, HFS.out.1.below hbW2, HFS.out.2.1, HFS.out.2.2⟩
               have hwi := with_any _ _ _ (⟨⟨t.data.toList, f.pf.xs, f.pf.sy⟩, t, .slice bo f.pf.xs.length bc⟩ : Rl) w2 hr1 (fun q hq => (HQ.out.rest.ok q (mem_del hq).1).below hbW2) hokf (up_del hup) (by omega)
               have HWI : Hid (Calls Try.prog 38 #[.slice vo1 (delK Rl.nm s.data.toList h.l).length vc1, .agg #[.string t, .slice bo f.pf.xs.length bc, .int .i64 f.pf.sy]] w2 fun e w' => ∃ v', e = .returned v' ∧ w'.ownsRow w2.heap.size 74 3 v' (insK Rl.nm (⟨⟨t.data.toList, f.pf.xs, f.pf.sy⟩, t, .slice bo f.pf.xs.length bc⟩ : Rl) (delK Rl.nm t.data.toList (delK Rl.nm s.data.toList h.l))).length (rrow (insK Rl.nm (⟨⟨t.data.toList, f.pf.xs, f.pf.sy⟩, t, .slice bo f.pf.xs.length bc⟩ : Rl) (delK Rl.nm t.data.toList (delK Rl.nm s.data.toList h.l)))) ∧ Below w2.heap.size w2 w') := hwi
               have HOKF := Hid.mk' hokf
               have HBW2 := Hid.mk' hbW2
               clear hwi hokf hbW2 hr1 hb2 HWO)
            | (go_at_call 38
               with_reducible refine HWI.out.mono ?_
               rintro e w3 ⟨v5, rfl, hrow, hb3⟩
               obtain ⟨vo5, vc5, rfl⟩ := own_form3 hrow
               have hbW3 : Below w1.heap.size w1 w3 := HBW2.out.trans (hb3.mono HBW2.out.size)
               have x1 := (HQ.out.cells.upd (Upd.ofBelow hbW3 (S := fun _ => False)) (fun h => h)).c0
               have xf := (HQ.out.cells.upd (Upd.ofBelow hbW3 (S := fun _ => False)) (fun h => h)).f0
               have HROW := Hid.mk' hrow
               have HBB := Hid.mk' hb3
               have HBW3 := Hid.mk' hbW3
               clear hrow hb3 hbW3 HWI))
          all_goals
            go_wp2
            go_ret
            have hsz := HBW2.out.size
            have hszb := HBB.out.size
            have hrow := own_low HROW.out (show w1.heap.size ≤ _ from hsz)
            have hmem : ∀ q, q ∈ insK Rl.nm (⟨⟨t.data.toList, f.pf.xs, f.pf.sy⟩, t, .slice bo f.pf.xs.length bc⟩ : Rl) (delK Rl.nm t.data.toList (delK Rl.nm s.data.toList h.l)) → q = (⟨⟨t.data.toList, f.pf.xs, f.pf.sy⟩, t, .slice bo f.pf.xs.length bc⟩ : Rl) ∨ q ∈ h.l := fun q hq => by
              rcases List.mem_cons.1 ((ins_perm _ _).mem_iff.1 hq) with e | e
              · exact .inl e
              · exact .inr (mem_del (mem_del e).1).1
            refine ⟨rfl, RkPost.row HQ.out HU.out HBW3.out hrow (by omega) (fun q hq => ?_) (fun q hq k hk => ?_) (by rw [HPP.out, map_ins rl_pf, map_del rl_pf, map_del rl_pf]) (up_put (up_del hup) rfl) (by rw [HPP.out]) (by rw [HPP.out]) (by rw [HPP.out]) (by rw [HPP.out])⟩
            · rcases hmem q hq with rfl | e
              · exact HOKF.out.below HBB.out
              · exact (HQ.out.rest.ok q e).below HBW3.out
            · rcases hmem q hq with rfl | e
              · have hk : f.v.ownBlock = some k := by rw [HBV.out]; exact hk
                exact .inl ⟨.inr (.inr ⟨f, hfm, hk⟩), (HQ.out.rest.off f hfm k hk).2.2.1⟩
              · exact .inl ⟨.inr (.inr ⟨q, e, hk⟩), (HQ.out.rest.off q e k hk).2.2.1⟩
        · obtain ⟨hf2, hk⟩ := hd.fault2 hok hf
          rw [hf2] at hE
          rw [renP_no (by rw [hE]; decide), hE]
          rw [hk] at hat
          clear hd hs
          go_enter Try.func17, Try.ntmps17
          go_wp2_with (first | (go_at_call 36; refine hbeg.mono ?_; rintro e w1 ⟨rfl, l1, hq, hu⟩) | (go_at_call 32; with_reducible refine (hnameS _).mono ?_; rintro e w1 ⟨rfl, rfl⟩) | (go_at_call 32; with_reducible refine (hnameT _).mono ?_; rintro e w1 ⟨rfl, rfl⟩) | (go_at_call 37; refine (hat _ _ hq).mono ?_; rintro e w1 ⟨rfl, rfl⟩))
          go_ret
          exact ⟨rfl, RkPost.same hq hu⟩
end Go.Proofs.Ytmfhfabfhoiegaa
