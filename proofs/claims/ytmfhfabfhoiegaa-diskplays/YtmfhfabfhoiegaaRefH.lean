/- The document's disk: Append. -/
import Derived.Test.YtmfhfabfhoiegaaRefG
import Derived.Deep.RegionWith
namespace Go.Proofs.Ytmfhfabfhoiegaa
open Go Go.RowKit
theorem appE_name {p : PS} {nm : List UInt8} {n : Nat} (h : p.stopped = false) (h1 : okName nm = false) : appE p nm n = 1 := by unfold appE; rw [h, h1]; rfl
set_option maxRecDepth 100000 in
set_option maxHeartbeats 2000000 in
theorem rappend_any (B x : Nat) (h : Ru) (p : PS) (left : Int) (s : ByteArray) (v : Value) (ys : List Int) (w : World) (hd : Rk B w x h p left) (hs : p.sane) (hl : s.size ≤ 1000000) (hv : Sees w v ys) (hy : isB ys) (hyl : ys.length ≤ 1000000) (hB : B ≤ w.heap.size)
    (hoff : ∀ k, v.ownBlock = some k → 0 < ys.length → ¬ FootX x h k) :
    Calls Try.prog 13 #[ptr x, .string s, v] w fun e w' => e = .returned (.int .i64 (appE p s.data.toList ys.length)) ∧ RkPost B w w' x h (appP p s.data.toList ys) := by
  have hbeg := rbegin_any B x h p left w hd hs
  have hname := fun w' => rname_any s w' hl
  obtain ⟨vo, vc, hvv⟩ := sees_form hv
  subst hvv
  cases hst : p.stopped with
  | true =>
    have hE := appE_stop (nm := s.data.toList) (n := ys.length) hst
    rw [appP_no (by rw [hE]; decide), hE]
    rw [hst] at hbeg
    clear hd hs hv hoff
    go_enter Try.func13, Try.ntmps13
    go_wp2_with (go_at_call 36; refine hbeg.mono ?_; rintro e w1 ⟨rfl, l1, hq, hu⟩)
    go_ret
    exact ⟨rfl, RkPost.same hq hu⟩
  | false =>
    rw [hst] at hbeg
    cases hok : okName s.data.toList with
    | false =>
      have hE := appE_name (n := ys.length) hst hok
      rw [appP_no (by rw [hE]; decide), hE]
      rw [hok] at hname
      clear hd hs hv hoff
      go_enter Try.func13, Try.ntmps13
      go_wp2_with (first | (go_at_call 36; refine hbeg.mono ?_; rintro e w1 ⟨rfl, l1, hq, hu⟩) | (go_at_call 32; refine (hname _).mono ?_; rintro e w1 ⟨rfl, rfl⟩))
      go_ret
      exact ⟨rfl, RkPost.same hq hu⟩
    | true =>
      rw [hok] at hname
      have hr0 := hs.room0
      have hr1 := hs.room1
      have htt := hs.tot
      have hused := fun w1 l1 (r : Rk B w1 x h p.begun l1) => rused_any B x h p.begun l1 w1 r (begun_sane hs).2 (begun_sane hs).1
      rw [begun_fs] at hused
      by_cases hfit : (ys.length : Int) ≤ p.room - total p.fs
      · have hE : appE p s.data.toList ys.length = 0 := by unfold appE; rw [hst, hok, if_pos hfit]; rfl
        have hdf : decide (p.room - total p.fs < (ys.length : Int)) = false := decide_eq_false (by omega)
        rw [hE, appP_yes hE]
        have hat := fun w1 l1 (r : Rk B w1 x h p.begun l1) => rat_any B x h p.begun l1 s w1 r (begun_sane hs).1
        have hlen := hd.len
        have hln := hs.len
        have hview := hd.view
        have hup := hd.up
        have hxx := hd.cells.lt
        obtain ⟨i0, hi, hz0, hz1, hz2⟩ := info_parts info5
        have HV := Hid.mk' hv
        have HOFF := Hid.mk' hoff
        cases hlk : lookK Rl.nm s.data.toList h.l with
        | none =>
          have hold : oldF p s.data.toList = ⟨s.data.toList, [], 0⟩ := by unfold oldF; rw [hd.look, hlk]; rfl
          rw [atK_none hlk] at hat
          have HPP : Hid (putP p.begun ⟨s.data.toList, (oldF p s.data.toList).xs ++ ys, (oldF p s.data.toList).sy⟩ = { p.begun with fs := insK PF.name ⟨s.data.toList, ([] : List Int) ++ ys, 0⟩ (delK PF.name s.data.toList (h.l.map Rl.pf)) }) := by
            show _ = _
            unfold putP
            rw [hold, begun_fs, hview]
          clear hd hs hv hoff hlk hold hview
          go_enter Try.func13, Try.ntmps13
          go_wp2_with (first | (go_at_call 36; refine hbeg.mono ?_; rintro e w1 ⟨rfl, l1, hq, hu⟩; have c1 := hq.cells.c1; rw [begun_room] at c1; have HU := Hid.mk' hu; have HQ := Hid.mk' hq; have hus := fun n => hused _ _ (hq.upd (Upd.drewN _ n (fun _ => False)) (fun _ _ h => h)); clear hq hu hused) | (go_at_call 32; refine (hname _).mono ?_; rintro e w1 ⟨rfl, rfl⟩))
          go_quiet ((go_at_call 30; exact Calls.quiet_of_same (hus _)))
          have HW : Hid (Upd w (w1.drewN nq) (fun k => k = x)) := HU.out.trans (Upd.drewN _ _ _) (fun _ _ h => h)
          have HQW : Hid (Rk B (w1.drewN nq) x h p.begun l1) := HQ.out.upd (Upd.drewN _ _ (fun _ => False)) (fun _ _ h => h)
          generalize w1.drewN nq = W at *
          clear hus HQ HU hbeg c1
          have hsW := HW.out.size
          have hatW := hat _ _ (HQW.out.below ((Below.refl _ _).alloc (Nat.le_refl _) (.cells #[.string s, .slice none 0 0, .int .i64 0] 74)))
          have hYb : Below W.heap.size W (W.alloc (.cells #[.string s, (.slice none 0 0), .int .i64 0] 74)) := (Below.refl _ _).alloc (Nat.le_refl _) _
          have hYs : (W.alloc (.cells #[.string s, (.slice none 0 0), .int .i64 0] 74)).heap.size = W.heap.size + 1 := by simp
          have hEb : Below W.heap.size W ((W.alloc (.cells #[.string s, (.slice none 0 0), .int .i64 0] 74)).alloc (.cells #[] 5)) := hYb.alloc hYb.size _
          have hsV : Sees W (.slice vo ys.length vc) ys := HV.out.upd HW.out (fun k hk h0 e => HOFF.out k hk h0 (.inl e))
          have hsrcY0 := fun (w3 : World) (hb : Below W.heap.size W w3) => Src_sees (hsV.below hb)
          have hsB : Sees W (.slice none 0 0) [] := .inl ⟨rfl, _, _, rfl, fun _ => rfl, by decide⟩
          have hsrcB := Src_sees (hsB.below hEb)
          have hownE : ((W.alloc (.cells #[.string s, (.slice none 0 0), .int .i64 0] 74)).alloc (.cells #[] 5)).ownsRow (W.heap.size + 1) 5 1 (.slice (some ⟨W.heap.size + 1, 0, none⟩) 0 0) 0 [] := by
            have := World.ownsRow_lit (size := 1) (e := 5) (base := W.heap.size + 1) (W.alloc (.cells #[.string s, (.slice none 0 0), .int .i64 0] 74)) #[] 0 (by simp) (by decide) rfl
            rw [hYs] at this
            exact this
          clear hname
          go_wp2_with (first
            | (go_at_call 37
               refine hatW.mono ?_
               rintro e w2 ⟨rfl, rfl⟩)
            | (at_builtin
               refine wpList_app _ rfl (.tmp 39) (.tmp 41) 31 31 rfl (W.heap.size + 1) 5 i0 Try.underlying31 hi hz0 hz1 hz2 _ 0 [] rfl hownE _ rfl _ _ hsrcB (by first | omega | (simp; done) | (simp; omega)) (by simp) ?_
               intro v1 w3 f1 f2 f3 f4
               have hb3 : Below W.heap.size W w3 := hEb.trans (f2.below hEb.size (fun k hk e => by have := Option.some.inj (show some k = some (W.heap.size + 1) from e); omega))
               have hs3 : W.heap.size + 1 < w3.heap.size := by have := f2.size; simp at this; omega
               have z0 : ∀ j, w3.cell? ⟨W.heap.size, j, none⟩ = ((W.alloc (.cells #[.string s, (.slice none 0 0), .int .i64 0] 74)).alloc (.cells #[] 5)).cell? ⟨W.heap.size, j, none⟩ := fun j => f2.cell (p := ⟨W.heap.size, j, none⟩) (by simp; omega) (fun e => by have := Option.some.inj (show some W.heap.size = some (W.heap.size + 1) from e); omega)
               have zf : ∀ j, w3.frozen? ⟨W.heap.size, j, none⟩ = ((W.alloc (.cells #[.string s, (.slice none 0 0), .int .i64 0] 74)).alloc (.cells #[] 5)).frozen? ⟨W.heap.size, j, none⟩ := fun j => f2.frozen (p := ⟨W.heap.size, j, none⟩) (by simp; omega) (fun e => by have := Option.some.inj (show some W.heap.size = some (W.heap.size + 1) from e); omega)
               have hsrcY := hsrcY0 _ hb3
               rw [List.nil_append, Nat.zero_add] at f1
               have HF1 : Hid (∀ k, some k = v1.ownBlock → W.heap.size + 1 ≤ k) := fun k e => (f1.lt k e.symm).1
               clear f2 f3 f4 hownE hsrcB hatW hsrcY0)
            | (at_builtin
               refine wpList_app _ rfl (.tmp 42) (.tmp 43) 31 31 rfl (W.heap.size + 1) 5 i0 Try.underlying31 hi hz0 hz1 hz2 _ _ _ rfl f1 _ rfl _ _ hsrcY (by first | omega | (simp; done) | (simp; omega)) (by omega) ?_
               intro v2 w4 g1 g2 g3 g4
               rw [List.length_nil, Nat.zero_add] at g1
               obtain ⟨vo2, vc2, rfl⟩ := owns_form g1
               have hb4 : Below W.heap.size W w4 := hb3.trans (g2.below hb3.size (fun k hk e => by have := HF1.out k e; omega))
               have hs4 := g2.size
               have hne : ¬ (some W.heap.size = v1.ownBlock) := fun e => by have := HF1.out _ e; omega
               have t0 : w4.cell? ⟨W.heap.size, 0, none⟩ = some (.string s) := (g2.cell (p := ⟨W.heap.size, 0, none⟩) (by show W.heap.size < _; omega) hne).trans ((z0 0).trans (by simp))
               have t1 : w4.cell? ⟨W.heap.size, 1, none⟩ = some (.slice none 0 0) := (g2.cell (p := ⟨W.heap.size, 1, none⟩) (by show W.heap.size < _; omega) hne).trans ((z0 1).trans (by simp))
               have t2 : w4.cell? ⟨W.heap.size, 2, none⟩ = some (.int .i64 0) := (g2.cell (p := ⟨W.heap.size, 2, none⟩) (by show W.heap.size < _; omega) hne).trans ((z0 2).trans (by simp))
               have tf : w4.frozen? ⟨W.heap.size, 1, none⟩ = false := (g2.frozen (p := ⟨W.heap.size, 1, none⟩) (by show W.heap.size < _; omega) hne).trans ((zf 1).trans (by simp))
               have hset : Upd w4 (w4.setCell ⟨W.heap.size, 1, none⟩ (.slice vo2 ys.length vc2)).drew (fun k => k = W.heap.size) := (upd_cell w4 W.heap.size 1 _).drew
               have hb5 : Below W.heap.size W (w4.setCell ⟨W.heap.size, 1, none⟩ (.slice vo2 ys.length vc2)).drew := hb4.trans (hset.below hb4.size (fun k hk e => by omega))
               have hx5 := (HQW.out.cells.upd (Upd.ofBelow hb5 (S := fun _ => False)) (fun h => h)).c0
               have hxw := HQW.out.cells.lt
               have hx4 : (w4.setCell ⟨W.heap.size, 1, none⟩ (.slice vo2 ys.length vc2)).cell? ⟨x, 0, none⟩ = some h.v := hx5
               have hg1 : w4.ownsRow (W.heap.size + 1) 5 1 (.slice vo2 ys.length vc2) (([] : List Int) ++ ys).length (u8s (([] : List Int) ++ ys)) := by rw [List.nil_append]; exact g1
               have hg5 := ownsRow_upd hg1 hset (fun k hk e => by have := (g1.lt k hk).1; omega)
               have hok5 : OkR (w4.setCell ⟨W.heap.size, 1, none⟩ (.slice vo2 ys.length vc2)).drew (⟨⟨s.data.toList, ([] : List Int) ++ ys, 0⟩, s, .slice vo2 ys.length vc2⟩ : Rl) := ⟨rfl, sees_own hg5, fun y hy' => (List.mem_append.1 hy').elim (fun e => by cases e) (hy y), by exact Nat.zero_le _⟩
               have HWI : Hid (Calls Try.prog 38 #[h.v, .agg #[.string s, .slice vo2 ys.length vc2, .int .i64 0]] (w4.setCell ⟨W.heap.size, 1, none⟩ (.slice vo2 ys.length vc2)).drew fun e w' => ∃ v', e = .returned v' ∧ w'.ownsRow ((w4.setCell ⟨W.heap.size, 1, none⟩ (.slice vo2 ys.length vc2)).drew).heap.size 74 3 v' (insK Rl.nm (⟨⟨s.data.toList, ([] : List Int) ++ ys, 0⟩, s, .slice vo2 ys.length vc2⟩ : Rl) (delK Rl.nm s.data.toList h.l)).length (rrow (insK Rl.nm (⟨⟨s.data.toList, ([] : List Int) ++ ys, 0⟩, s, .slice vo2 ys.length vc2⟩ : Rl) (delK Rl.nm s.data.toList h.l))) ∧ Below ((w4.setCell ⟨W.heap.size, 1, none⟩ (.slice vo2 ys.length vc2)).drew).heap.size ((w4.setCell ⟨W.heap.size, 1, none⟩ (.slice vo2 ys.length vc2)).drew) w') := with_any B h.v h.l (⟨⟨s.data.toList, ([] : List Int) ++ ys, 0⟩, s, .slice vo2 ys.length vc2⟩ : Rl) (w4.setCell ⟨W.heap.size, 1, none⟩ (.slice vo2 ys.length vc2)).drew (own_below HQW.out.rest.row hb5) (fun q hq => (HQW.out.rest.ok q hq).below hb5) hok5 hup (by omega)
               have hg1lt := hg1.lt
               have HOK5 := Hid.mk' hok5
               have HB5 := Hid.mk' hb5
               have HLT := Hid.mk' hg1lt
               have hs5 : ((w4.setCell ⟨W.heap.size, 1, none⟩ (.slice vo2 ys.length vc2)).drew).heap.size = w4.heap.size := by simp
               clear f1 g1 g2 g3 g4 z0 zf hsrcY hb3 hb4 hset hg1 hg5 hok5 hb5 hg1lt hx5 hEb hYb hYs hsV hsB))
          go_region_with (
            go_at_call 38
            with_reducible refine HWI.out.mono ?_
            rintro e w5 ⟨v5, rfl, hrow, hb⟩
            obtain ⟨vo5, vc5, rfl⟩ := own_form3 hrow
            have hbW : Below W.heap.size W w5 := HB5.out.trans (hb.mono (by rw [hs5]; omega))
            have x0 := (HQW.out.cells.upd (Upd.ofBelow hbW (S := fun _ => False)) (fun h => h)).c0
            have xf := (HQW.out.cells.upd (Upd.ofBelow hbW (S := fun _ => False)) (fun h => h)).f0
            have HROW := Hid.mk' hrow
            have HBB := Hid.mk' hb
            have HBW := Hid.mk' hbW
            clear hrow hb hbW)
          all_goals
            go_wp2
            go_ret
            have hsz := HB5.out.size
            have hszb := HBB.out.size
            rw [hs5] at hsz hszb
            have hrow := own_low HROW.out (show W.heap.size ≤ _ by rw [hs5]; exact hsz)
            have hmem : ∀ q, q ∈ insK Rl.nm (⟨⟨s.data.toList, ([] : List Int) ++ ys, 0⟩, s, .slice vo2 ys.length vc2⟩ : Rl) (delK Rl.nm s.data.toList h.l) → q = (⟨⟨s.data.toList, ([] : List Int) ++ ys, 0⟩, s, .slice vo2 ys.length vc2⟩ : Rl) ∨ q ∈ h.l := fun q hq => by
              rcases List.mem_cons.1 ((ins_perm _ _).mem_iff.1 hq) with e | e
              · exact .inl e
              · exact .inr (mem_del e).1
            refine ⟨rfl, RkPost.row HQW.out HW.out HBW.out hrow (by omega) (fun q hq => ?_) (fun q hq k hk => ?_) (by rw [HPP.out, map_ins rl_pf, map_del rl_pf]) (up_put hup rfl) (by rw [HPP.out]) (by rw [HPP.out]) (by rw [HPP.out]) (by rw [HPP.out])⟩
            · rcases hmem q hq with rfl | e
              · exact HOK5.out.below HBB.out
              · exact (HQW.out.rest.ok q e).below HBW.out
            · rcases hmem q hq with rfl | e
              · have := HLT.out k hk
                refine .inr ⟨by omega, by omega, fun e => ?_⟩
                have := (HROW.out.lt k e).1
                rw [hs5] at this
                omega
              · exact .inl ⟨.inr (.inr ⟨q, e, hk⟩), (HQW.out.rest.off q e k hk).2.2.1⟩
        | some f =>
          obtain ⟨hfn, pre, post, hlp, hk⟩ := look_at hlk
          have hfm : f ∈ h.l := by rw [hlp]; simp
          have hold : oldF p s.data.toList = f.pf := by unfold oldF; rw [hd.look, hlk]; rfl
          have hxl : f.pf.xs.length ≤ 1000000 := by
            have := mem_total (f := f.pf) (l := p.fs) (by rw [hview]; exact List.mem_map.2 ⟨f, hfm, rfl⟩)
            omega
          have hpl : pre.length < h.l.length := by rw [hlp]; simp
          rw [hk] at hat
          have hfok := hd.rest.ok f hfm
          obtain ⟨bo, bc, hbv⟩ := sees_form hfok.sees
          obtain ⟨n, hnn⟩ : ∃ n, h.l.length = n := ⟨_, rfl⟩
          have hki : (pre.length : Int) < (n : Int) := by omega
          have hse : f.s.data.toList = s.data.toList := hfok.name.trans hfn
          have HBV := Hid.mk' hbv
          clear hbv
          have HPP : Hid (putP p.begun ⟨s.data.toList, (oldF p s.data.toList).xs ++ ys, (oldF p s.data.toList).sy⟩ = { p.begun with fs := insK PF.name ⟨s.data.toList, f.pf.xs ++ ys, f.pf.sy⟩ (delK PF.name s.data.toList (h.l.map Rl.pf)) }) := by
            show _ = _
            unfold putP
            rw [hold, begun_fs, hview]
          clear hd hs hv hoff hlk hold hview
          go_enter Try.func13, Try.ntmps13
          go_wp2_with (first | (go_at_call 36; refine hbeg.mono ?_; rintro e w1 ⟨rfl, l1, hq, hu⟩; have c1 := hq.cells.c1; rw [begun_room] at c1; have HU := Hid.mk' hu; have HQ := Hid.mk' hq; have hus := fun n => hused _ _ (hq.upd (Upd.drewN _ n (fun _ => False)) (fun _ _ h => h)); clear hq hu hused) | (go_at_call 32; refine (hname _).mono ?_; rintro e w1 ⟨rfl, rfl⟩))
          go_quiet ((go_at_call 30; exact Calls.quiet_of_same (hus _)))
          have HW : Hid (Upd w (w1.drewN nq) (fun k => k = x)) := HU.out.trans (Upd.drewN _ _ _) (fun _ _ h => h)
          have HQW : Hid (Rk B (w1.drewN nq) x h p.begun l1) := HQ.out.upd (Upd.drewN _ _ (fun _ => False)) (fun _ _ h => h)
          generalize w1.drewN nq = W at *
          clear hus HQ HU hbeg c1
          have hsW := HW.out.size
          have hatW := hat _ _ (HQW.out.below ((Below.refl _ _).alloc (Nat.le_refl _) (.cells #[.string s, .slice none 0 0, .int .i64 0] 74)))
          have hYb : Below W.heap.size W (W.alloc (.cells #[.string f.s, (.slice bo f.pf.xs.length bc), .int .i64 (f.pf.sy : Int)] 74)) := (Below.refl _ _).alloc (Nat.le_refl _) _
          have hYs : (W.alloc (.cells #[.string f.s, (.slice bo f.pf.xs.length bc), .int .i64 (f.pf.sy : Int)] 74)).heap.size = W.heap.size + 1 := by simp
          have hEb : Below W.heap.size W ((W.alloc (.cells #[.string f.s, (.slice bo f.pf.xs.length bc), .int .i64 (f.pf.sy : Int)] 74)).alloc (.cells #[] 5)) := hYb.alloc hYb.size _
          have hsV : Sees W (.slice vo ys.length vc) ys := HV.out.upd HW.out (fun k hk h0 e => HOFF.out k hk h0 (.inl e))
          have hsrcY0 := fun (w3 : World) (hb : Below W.heap.size W w3) => Src_sees (hsV.below hb)
          have hfW := HQW.out.rest.ok f hfm
          have hsB := hfW.sees
          rw [HBV.out] at hsB
          have c0 := HQW.out.cells.c0
          obtain ⟨g, c, hvv, e0, e1, e2, _⟩ := HQW.out.mid hlp
          rw [HBV.out] at e1
          have hgl : g < W.heap.size := World.block_lt_of_cell? _ _ e0
          have hxW := HQW.out.cells.lt
          have HVV := Hid.mk' hvv
          rw [hvv, hnn] at c0
          clear hvv hlp
          have y0 := (((Below.refl _ _).alloc (Nat.le_refl _) (.cells #[.string s, .slice none 0 0, .int .i64 0] 74)).cell (p := ⟨x, 0, none⟩) hxW).trans c0
          have y1 := (((Below.refl _ _).alloc (Nat.le_refl _) (.cells #[.string s, .slice none 0 0, .int .i64 0] 74)).cell (p := ⟨g, pre.length * 3, none⟩) hgl).trans e0
          have y2 := (((Below.refl _ _).alloc (Nat.le_refl _) (.cells #[.string s, .slice none 0 0, .int .i64 0] 74)).cell (p := ⟨g, pre.length * 3 + 1, none⟩) hgl).trans e1
          have y3 := (((Below.refl _ _).alloc (Nat.le_refl _) (.cells #[.string s, .slice none 0 0, .int .i64 0] 74)).cell (p := ⟨g, pre.length * 3 + 2, none⟩) hgl).trans e2
          have hsrcB := Src_sees (hsB.below hEb)
          have hownE : ((W.alloc (.cells #[.string f.s, (.slice bo f.pf.xs.length bc), .int .i64 (f.pf.sy : Int)] 74)).alloc (.cells #[] 5)).ownsRow (W.heap.size + 1) 5 1 (.slice (some ⟨W.heap.size + 1, 0, none⟩) 0 0) 0 [] := by
            have := World.ownsRow_lit (size := 1) (e := 5) (base := W.heap.size + 1) (W.alloc (.cells #[.string f.s, (.slice bo f.pf.xs.length bc), .int .i64 (f.pf.sy : Int)] 74)) #[] 0 (by simp) (by decide) rfl
            rw [hYs] at this
            exact this
          clear hname
          go_wp2_with (first
            | (go_at_call 37
               refine hatW.mono ?_
               rintro e w2 ⟨rfl, rfl⟩)
            | (at_builtin
               refine wpList_app _ rfl (.tmp 39) (.tmp 41) 31 31 rfl (W.heap.size + 1) 5 i0 Try.underlying31 hi hz0 hz1 hz2 _ 0 [] rfl hownE _ rfl _ _ hsrcB (by first | omega | (simp; done) | (simp; omega)) (by simp) ?_
               intro v1 w3 f1 f2 f3 f4
               have hb3 : Below W.heap.size W w3 := hEb.trans (f2.below hEb.size (fun k hk e => by have := Option.some.inj (show some k = some (W.heap.size + 1) from e); omega))
               have hs3 : W.heap.size + 1 < w3.heap.size := by have := f2.size; simp at this; omega
               have z0 : ∀ j, w3.cell? ⟨W.heap.size, j, none⟩ = ((W.alloc (.cells #[.string f.s, (.slice bo f.pf.xs.length bc), .int .i64 (f.pf.sy : Int)] 74)).alloc (.cells #[] 5)).cell? ⟨W.heap.size, j, none⟩ := fun j => f2.cell (p := ⟨W.heap.size, j, none⟩) (by simp; omega) (fun e => by have := Option.some.inj (show some W.heap.size = some (W.heap.size + 1) from e); omega)
               have zf : ∀ j, w3.frozen? ⟨W.heap.size, j, none⟩ = ((W.alloc (.cells #[.string f.s, (.slice bo f.pf.xs.length bc), .int .i64 (f.pf.sy : Int)] 74)).alloc (.cells #[] 5)).frozen? ⟨W.heap.size, j, none⟩ := fun j => f2.frozen (p := ⟨W.heap.size, j, none⟩) (by simp; omega) (fun e => by have := Option.some.inj (show some W.heap.size = some (W.heap.size + 1) from e); omega)
               have hsrcY := hsrcY0 _ hb3
               rw [List.nil_append, Nat.zero_add] at f1
               have HF1 : Hid (∀ k, some k = v1.ownBlock → W.heap.size + 1 ≤ k) := fun k e => (f1.lt k e.symm).1
               clear f2 f3 f4 hownE hsrcB hatW hsrcY0)
            | (at_builtin
               refine wpList_app _ rfl (.tmp 42) (.tmp 43) 31 31 rfl (W.heap.size + 1) 5 i0 Try.underlying31 hi hz0 hz1 hz2 _ _ _ rfl f1 _ rfl _ _ hsrcY (by first | omega | (simp; done) | (simp; omega)) (by omega) ?_
               intro v2 w4 g1 g2 g3 g4
               obtain ⟨vo2, vc2, rfl⟩ := owns_form g1
               have hb4 : Below W.heap.size W w4 := hb3.trans (g2.below hb3.size (fun k hk e => by have := HF1.out k e; omega))
               have hs4 := g2.size
               have hne : ¬ (some W.heap.size = v1.ownBlock) := fun e => by have := HF1.out _ e; omega
               have t0 : w4.cell? ⟨W.heap.size, 0, none⟩ = some (.string f.s) := (g2.cell (p := ⟨W.heap.size, 0, none⟩) (by show W.heap.size < _; omega) hne).trans ((z0 0).trans (by simp))
               have t1 : w4.cell? ⟨W.heap.size, 1, none⟩ = some (.slice bo f.pf.xs.length bc) := (g2.cell (p := ⟨W.heap.size, 1, none⟩) (by show W.heap.size < _; omega) hne).trans ((z0 1).trans (by simp))
               have t2 : w4.cell? ⟨W.heap.size, 2, none⟩ = some (.int .i64 (f.pf.sy : Int)) := (g2.cell (p := ⟨W.heap.size, 2, none⟩) (by show W.heap.size < _; omega) hne).trans ((z0 2).trans (by simp))
               have tf : w4.frozen? ⟨W.heap.size, 1, none⟩ = false := (g2.frozen (p := ⟨W.heap.size, 1, none⟩) (by show W.heap.size < _; omega) hne).trans ((zf 1).trans (by simp))
               have hset : Upd w4 (w4.setCell ⟨W.heap.size, 1, none⟩ (.slice vo2 (f.pf.xs.length + ys.length) vc2)).drew (fun k => k = W.heap.size) := (upd_cell w4 W.heap.size 1 _).drew
               have hb5 : Below W.heap.size W (w4.setCell ⟨W.heap.size, 1, none⟩ (.slice vo2 (f.pf.xs.length + ys.length) vc2)).drew := hb4.trans (hset.below hb4.size (fun k hk e => by omega))
               have hx5 := (HQW.out.cells.upd (Upd.ofBelow hb5 (S := fun _ => False)) (fun h => h)).c0
               have hxw := HQW.out.cells.lt
               have hx4 : (w4.setCell ⟨W.heap.size, 1, none⟩ (.slice vo2 (f.pf.xs.length + ys.length) vc2)).cell? ⟨x, 0, none⟩ = some h.v := hx5
               have hg1 : w4.ownsRow (W.heap.size + 1) 5 1 (.slice vo2 (f.pf.xs.length + ys.length) vc2) (f.pf.xs ++ ys).length (u8s (f.pf.xs ++ ys)) := by rw [List.length_append, u8s, List.map_append]; exact g1
               have hg5 := ownsRow_upd hg1 hset (fun k hk e => by have := (g1.lt k hk).1; omega)
               have hok5 : OkR (w4.setCell ⟨W.heap.size, 1, none⟩ (.slice vo2 (f.pf.xs.length + ys.length) vc2)).drew (⟨⟨s.data.toList, f.pf.xs ++ ys, f.pf.sy⟩, f.s, .slice vo2 (f.pf.xs.length + ys.length) vc2⟩ : Rl) := ⟨hse, sees_own hg5, fun y hy' => (List.mem_append.1 hy').elim (fun e => hfW.bytes y e) (hy y), by have := hfW.le; show f.pf.sy ≤ _; rw [List.length_append]; omega⟩
               have HWI : Hid (Calls Try.prog 38 #[h.v, .agg #[.string f.s, .slice vo2 (f.pf.xs.length + ys.length) vc2, .int .i64 (f.pf.sy : Int)]] (w4.setCell ⟨W.heap.size, 1, none⟩ (.slice vo2 (f.pf.xs.length + ys.length) vc2)).drew fun e w' => ∃ v', e = .returned v' ∧ w'.ownsRow ((w4.setCell ⟨W.heap.size, 1, none⟩ (.slice vo2 (f.pf.xs.length + ys.length) vc2)).drew).heap.size 74 3 v' (insK Rl.nm (⟨⟨s.data.toList, f.pf.xs ++ ys, f.pf.sy⟩, f.s, .slice vo2 (f.pf.xs.length + ys.length) vc2⟩ : Rl) (delK Rl.nm s.data.toList h.l)).length (rrow (insK Rl.nm (⟨⟨s.data.toList, f.pf.xs ++ ys, f.pf.sy⟩, f.s, .slice vo2 (f.pf.xs.length + ys.length) vc2⟩ : Rl) (delK Rl.nm s.data.toList h.l))) ∧ Below ((w4.setCell ⟨W.heap.size, 1, none⟩ (.slice vo2 (f.pf.xs.length + ys.length) vc2)).drew).heap.size ((w4.setCell ⟨W.heap.size, 1, none⟩ (.slice vo2 (f.pf.xs.length + ys.length) vc2)).drew) w') := with_any B h.v h.l (⟨⟨s.data.toList, f.pf.xs ++ ys, f.pf.sy⟩, f.s, .slice vo2 (f.pf.xs.length + ys.length) vc2⟩ : Rl) (w4.setCell ⟨W.heap.size, 1, none⟩ (.slice vo2 (f.pf.xs.length + ys.length) vc2)).drew (own_below HQW.out.rest.row hb5) (fun q hq => (HQW.out.rest.ok q hq).below hb5) hok5 hup (by omega)
               have hg1lt := hg1.lt
               have HOK5 := Hid.mk' hok5
               have HB5 := Hid.mk' hb5
               have HLT := Hid.mk' hg1lt
               have hs5 : ((w4.setCell ⟨W.heap.size, 1, none⟩ (.slice vo2 (f.pf.xs.length + ys.length) vc2)).drew).heap.size = w4.heap.size := by simp
               clear f1 g1 g2 g3 g4 z0 zf hsrcY hb3 hb4 hset hg1 hg5 hok5 hb5 hg1lt hx5 hEb hYb hYs hsV hsB))
          go_region_with (
            go_at_call 38
            with_reducible refine HWI.out.mono ?_
            rintro e w5 ⟨v5, rfl, hrow, hb⟩
            obtain ⟨vo5, vc5, rfl⟩ := own_form3 hrow
            have hbW : Below W.heap.size W w5 := HB5.out.trans (hb.mono (by rw [hs5]; omega))
            have x0 := (HQW.out.cells.upd (Upd.ofBelow hbW (S := fun _ => False)) (fun h => h)).c0
            have xf := (HQW.out.cells.upd (Upd.ofBelow hbW (S := fun _ => False)) (fun h => h)).f0
            have HROW := Hid.mk' hrow
            have HBB := Hid.mk' hb
            have HBW := Hid.mk' hbW
            clear hrow hb hbW)
          all_goals
            go_wp2
            go_ret
            have hsz := HB5.out.size
            have hszb := HBB.out.size
            rw [hs5] at hsz hszb
            have hrow := own_low HROW.out (show W.heap.size ≤ _ by rw [hs5]; exact hsz)
            have hmem : ∀ q, q ∈ insK Rl.nm (⟨⟨s.data.toList, f.pf.xs ++ ys, f.pf.sy⟩, f.s, .slice vo2 (f.pf.xs.length + ys.length) vc2⟩ : Rl) (delK Rl.nm s.data.toList h.l) → q = (⟨⟨s.data.toList, f.pf.xs ++ ys, f.pf.sy⟩, f.s, .slice vo2 (f.pf.xs.length + ys.length) vc2⟩ : Rl) ∨ q ∈ h.l := fun q hq => by
              rcases List.mem_cons.1 ((ins_perm _ _).mem_iff.1 hq) with e | e
              · exact .inl e
              · exact .inr (mem_del e).1
            refine ⟨rfl, RkPost.row HQW.out HW.out HBW.out hrow (by omega) (fun q hq => ?_) (fun q hq k hk => ?_) (by rw [HPP.out, map_ins rl_pf, map_del rl_pf]) (up_put hup rfl) (by rw [HPP.out]) (by rw [HPP.out]) (by rw [HPP.out]) (by rw [HPP.out])⟩
            · rcases hmem q hq with rfl | e
              · exact HOK5.out.below HBB.out
              · exact (HQW.out.rest.ok q e).below HBW.out
            · rcases hmem q hq with rfl | e
              · have := HLT.out k hk
                refine .inr ⟨by omega, by omega, fun e => ?_⟩
                have := (HROW.out.lt k e).1
                rw [hs5] at this
                omega
              · exact .inl ⟨.inr (.inr ⟨q, e, hk⟩), (HQW.out.rest.off q e k hk).2.2.1⟩
      · have hE : appE p s.data.toList ys.length = 14 := by unfold appE; rw [hst, hok, if_neg hfit]; rfl
        have hdf : decide (p.room - total p.fs < (ys.length : Int)) = true := decide_eq_true (by omega)
        rw [appP_no (by rw [hE]; decide), hE]
        clear hd hs hv hoff
        go_enter Try.func13, Try.ntmps13
        go_wp2_with (first | (go_at_call 36; refine hbeg.mono ?_; rintro e w1 ⟨rfl, l1, hq, hu⟩; have c1 := hq.cells.c1; rw [begun_room] at c1; have HU := Hid.mk' hu; have HQ := Hid.mk' hq; have hus := fun n => hused _ _ (hq.upd (Upd.drewN _ n (fun _ => False)) (fun _ _ h => h)); clear hq hu hused) | (go_at_call 32; refine (hname _).mono ?_; rintro e w1 ⟨rfl, rfl⟩))
        go_quiet ((go_at_call 30; exact Calls.quiet_of_same (hus _)))
        go_wp2
        go_ret
        exact ⟨rfl, RkPost.same (HQ.out.upd (Upd.drewN _ _ (fun _ => False)) (fun _ _ h => h)) (HU.out.trans (Upd.drewN _ _ _) (fun _ _ h => h))⟩
end Go.Proofs.Ytmfhfabfhoiegaa
