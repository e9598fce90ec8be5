/- The walk of NetPlays. -/
import Derived.Test.YtamgoknoapcnjaaDoorNPM
import Derived.Test.YtamgoknoapcnjaaDoorNL
import Derived.Deep.RegionHeldLaw
import Derived.Deep.CutBlock
namespace Go.Proofs.YtamgoknoapcnjaaDoor
open Go Go.RowKit
theorem load_box {d : Nat} {R : Array Value} {W : World} (h : Bx d R 28 W) (hs : R.size = 15) : (loadVar 28 ⟨d, 0, none⟩).run Tryd.prog W = .ok (.agg R) W :=
  run_loadVar_row W d 28 28 R (0, 0) _ h Tryd.underlying28 rfl (by rw [hs]; kernel_rfl)
theorem fill28 (m : Md) (ve vv vd : Value) : Instr.fill (fun i => some (i * 15, 15)) ((Array.range (1 * 15)).map (fun k => (Value.agg zrow).cells[k % (Value.agg zrow).cells.size]!)) [(0, .agg (mrow m ve vv vd))] = some (mrow m ve vv vd) := by kernel_rfl
theorem mvC_arr (x : Mv) : (mvC x).toArray = mrow x.m x.e x.v x.d := rfl
theorem wpList_load_msg {ops : Array Oper} {rest : List Oper} {op : Oper} {a : Act} {w : World} {Q : Exit → Act → World → Prop} (hgd : op.guard = none) (x : Operand) (ho : op.op = .load 28 x)
    (b o : Nat) (hx : a.eval x = .pointer (some ⟨b, o, none⟩)) (R : Array Value) (hs : R.size = 15) (hc : w.rangeAt b o R.toList)
    (h : wpList Tryd.prog ops Q rest (a.put op.dst (.agg R)) w) : wpList Tryd.prog ops Q (op :: rest) a w :=
  wpList_load_mid hgd 28 x ho b o hx R.toList _ hc Tryd.underlying28 rfl (by rw [Array.length_toList, hs]; kernel_rfl) h
theorem wpList_build_msg {ops : Array Oper} {rest : List Oper} {o : Oper} {a : Act} {w : World} {Q : Exit → Act → World → Prop} (hg : o.guard = none) (x : Operand) (ho : o.op = .buildSlice 47 1 #[(0, x)]) (i : TypeInfo) (hi : Tryd.prog.info? 28 = some i) (hz0 : i.zero = some (.agg zrow)) (hz1 : i.size = 15)
    (R : Array Value) (m : Md) (ve vv vd : Value) (hR : R = mrow m ve vv vd) (hx : a.eval x = .agg R)
    (h : wpList Tryd.prog ops Q rest (a.put o.dst (.slice (some ⟨w.heap.size, 0, none⟩) 1 1)) (w.alloc (.cells R 28))) : wpList Tryd.prog ops Q (o :: rest) a w := by
  refine wpList_buildSlice hg 47 28 1 #[(0, x)] ho R i (.agg zrow) Tryd.underlying47 hi hz0 (by rw [hz1]; decide) (by rw [hz1]; decide) ?_ h
  have : (#[(0, x)].map fun (j, y) => (j, a.eval y)).toList = [(0, .agg R)] := by simp [hx]
  rw [this, hz1, hR]
  exact fill28 m ve vv vd
theorem step_build_msg {ops : Array Oper} {o : Oper} {a : Act} {w : World} {K : Act → World → Prop} {Q : Exit → Act → World → Prop} {E : Prop} (hgd : o.guard = none) (x : Operand) (ho : o.op = .buildSlice 47 1 #[(0, x)]) (i : TypeInfo) (hi : Tryd.prog.info? 28 = some i) (hz0 : i.zero = some (.agg zrow)) (hz1 : i.size = 15)
    (R : Array Value) (m : Md) (ve vv vd : Value) (hR : R = mrow m ve vv vd) (hx : a.eval x = .agg R)
    (h : K (a.put o.dst (.slice (some ⟨w.heap.size, 0, none⟩) 1 1)) (w.alloc (.cells R 28))) : if Region.wanted o (yielded ops a.tmps) = true then Oper.wp Tryd.prog o a w K Q else E := by
  have hw : Region.wanted o (yielded ops a.tmps) = true := by simp [Region.wanted, hgd]
  rw [if_pos hw]
  refine wp_buildSlice 47 28 1 #[(0, x)] ho R i (.agg zrow) Tryd.underlying47 hi hz0 (by rw [hz1]; decide) (by rw [hz1]; decide) ?_ h
  have : (#[(0, x)].map fun (j, y) => (j, a.eval y)).toList = [(0, .agg R)] := by simp [hx]
  rw [this, hz1, hR]
  exact fill28 m ve vv vd
theorem take_loadO {ops : Array Oper} {Q : Exit → Act → World → Prop} {md : Region.Mode} {S : World → Prop} {fuel : Nat} {listed : Array Bool} {a : Act} {w : World} {x : Operand} {oi : Oper} (i : Nat) (d o : Nat) (R : Array Value) (hi : ops[i]? = some oi)
    (hs : Region.noSelect ops = true) (hf : Region.free md ops listed i = true) (hr : (Region.ready md ops listed).contains i = true)
    (hQ : ∀ c a w, Q (.panic c) (a.put oi.dst (.agg R)) w → Q (.panic c) a w) (hw : Region.wanted oi (yielded ops a.tmps) = true) (ho : oi.op = .load 28 x) (hx : a.eval x = .pointer (some ⟨d, o, none⟩))
    (hl : ∀ w, S w → (loadVar 28 ⟨d, o, none⟩).run Tryd.prog w = .ok (.agg R) w) (hS : S w)
    (h : wpAnyH Tryd.prog md ops Q S fuel (listed.setIfInBounds i true) (a.put oi.dst (.agg R)) w) : wpAnyH Tryd.prog md ops Q S (fuel + 1) listed a w :=
  wpAnyH_take hi hs hf hr hQ (.inl ⟨hw, fun w hw' => by
    unfold execOp
    simp only [ho, hx, Instr.loadAt, Instr.sureAddr, Sem.run_bind, Sem.run_pure, Result.andThen_ok, hl w hw']⟩) hS h
/-- One of the law's messages is loaded. -/
theorem Pm.load {w0 W : World} {d base bc g cc k : Nat} {v : Value} {bs : List Nat} {L K : List Mv} {c : Cv} {x : Mv} {R : Array Value} (h : Pm w0 W d base v bs (.slice (some ⟨g, 0, none⟩) L.length cc) L K bc c) (hx : L[k]? = some x) (hR : R = mrow x.m x.e x.v x.d) :
    ∀ V, Below W.heap.size W V → (loadVar 28 ⟨g, k * 15, none⟩).run Tryd.prog V = .ok (.agg R) V := by
  intro V hV
  have hs : R.size = 15 := by rw [hR]; rfl
  refine run_loadVar_mid V g (k * 15) 28 R.toList _ (fun j u hj => ?_) Tryd.underlying28 rfl (by rw [Array.length_toList, hs]; kernel_rfl)
  rw [hR] at hj
  have h1 := h.row.cells (g := g) rfl _ u (mvsC_at L hx hj)
  rw [Addr.add_lit, Nat.zero_add] at h1
  exact (hV.cell (p := ⟨g, k * 15 + j, none⟩) (h.row.lt g rfl).2).trans h1
set_option maxRecDepth 100000 in
set_option maxHeartbeats 16000000 in
theorem plays_any (w : World) (v0 : Value) (cs : List Cv) (hT : HasTab w) (hC : CsIn w v0 cs) (hcl : cs.length ≤ 140737488355328) :
    Calls Tryd.prog 5 #[v0] w fun e w' => e = .returned (.bool true) ∧ Below w.heap.size w w' := by
  obtain ⟨pa, ca, rfl, _, _, hcs⟩ := hC
  have HCS := Hid.mkW hcs
  have hkn := known_any w hT
  obtain ⟨i28, hi, hi0⟩ : ∃ i, Tryd.prog.info? 28 = some i ∧ (i.zero, i.size, i.bytes) = (some (.agg zrow), 15, 168) := by
    have := info28
    cases h : Tryd.prog.info? 28 with
    | none => rw [h] at this; cases this
    | some i => rw [h] at this; exact ⟨i, rfl, Option.some.inj this⟩
  simp only [Prod.mk.injEq] at hi0
  obtain ⟨hz0, hz1, hz2⟩ := hi0
  have HI := Hid.mkW (And.intro hi (And.intro hz0 (And.intro hz1 hz2)))
  clear hT hcs hi hz0 hz1 hz2
  go_enter Tryd.func5, Tryd.ntmps5
  go_upto_region 3 with (go_at_call 8; refine hkn.mono ?_; rintro e w1 ⟨rfl, hb1⟩)
  have hnew := Nn.new w1 (fun k => some k = (Value.slice none 0 0).ownBlock) (fun k hk => by simp [Value.ownBlock] at hk)
  go_wp2_with (go_at_call 17; refine hnew.mono ?_; rintro e w2 ⟨rfl, hn2, hb2⟩)
  have H0 : Hid (∃ v bs, Ps w w2 w1.heap.size w1.heap.size v bs (.slice none 0 0) []) := ⟨_, _, hn2, World.ownsRow_nil _ _ _ _, (by simp), hb1.trans (hb2.mono hb1.size), hb1.size, hb1.size, hb2.size⟩
  generalize w1.heap.size = d at *
  clear hn2 hb2 hnew hkn hb1
  go_loopg [4, 5] 101 (fun kx s4 s5 wr => ∃ (i : Nat) (L : List Mv) (p : Option Addr) (c : Nat), s5 = .int .i64 i ∧ s4 = .slice p L.length c ∧ kx + i = 101 ∧ i ≤ 100 ∧ i ≤ cs.length ∧ L.length ≤ 5 * i ∧ Hid (∃ v bs, Ps w wr d d v bs (.slice p L.length c) L))
  case atStart => exact ⟨0, [], none, 0, rfl, rfl, rfl, by omega, by omega, by simp, H0⟩
  case round =>
    clear H0
    obtain ⟨i, L, p, c, rfl, rfl, hk, hi, hics, hLl, HP⟩ := hrel
    by_cases hlt : i < cs.length ∧ i < 100
    · obtain ⟨c1, c2⟩ := hlt
      obtain ⟨x, hx⟩ : ∃ x, cs[i]? = some x := ⟨_, List.getElem?_eq_getElem c1⟩
      obtain ⟨g, o, rfl, hg, x0, x1, x2, hms, hxk, hxn, hxl⟩ := HCS.out i x hx
      obtain ⟨v, bs, hps⟩ := HP.out
      have y0 := (hps.u.cell (p := ⟨g, o + i * 3, none⟩) hg).trans x0
      have y1 := (hps.u.cell (p := ⟨g, o + i * 3 + 1, none⟩) hg).trans x1
      have y2 := (hps.u.cell (p := ⟨g, o + i * 3 + 2, none⟩) hg).trans x2
      obtain ⟨lp, lc, hlv, hlc, hlm, hme⟩ := hms
      obtain ⟨W0, hW0⟩ : ∃ W0, W0 = wr.alloc (.cells #[.int .i64 x.k, .int .i64 x.n, x.lv] 49) := ⟨_, rfl⟩
      have hb0 : Below wr.heap.size wr W0 := by rw [hW0]; exact (Below.refl _ _).alloc (Nat.le_refl _) _
      have HM0 : Hid (Pm w W0 d d v bs (.slice p L.length c) L L wr.heap.size x) := (hps.below hb0).pm (by rw [hW0]; exact row_alloc wr _ 49)
      rw [hlv] at hW0 y2
      have HLV := Hid.mkW hlv
      have HME := Hid.mkW hme
      clear x0 x1 x2 hps HP hx hb0 hme hlv
      go_upto_region 9 with fail
      rw [← hW0]
      generalize wr.heap.size = bc at *
      have z0 : W0.cell? ⟨bc, 0, none⟩ = some (iv x.k) := HM0.out.bx.cell 0
      have z1 : W0.cell? ⟨bc, 1, none⟩ = some (iv x.n) := HM0.out.bx.cell 1
      have z2 : W0.cell? ⟨bc, 2, none⟩ = some (.slice lp x.L.length lc) := by rw [← HLV.out]; exact HM0.out.bx.cell 2
      clear hW0 y0 y1 y2
      have hdi : decide ((i : Int) < 100) = true := by simp; omega
      go_upto_if 31 with fail
      rw [hdi]
      go_cut [7] from 29 to 36 (fun s7 wx => ∃ (kk : Nat), s7 = .int .i64 kk ∧ wx = W0 ∧ Hid ((L = [] ∧ kk = 0) ∨ (kk < L.length ∧ (kk : Int) = pickF x.n L.length)))
      case first =>
        by_cases hL : L.length = 0
        · have hp1 : ¬ (0 : Int) < (L.length : Int) := by omega
          have HN : Hid (L = []) := List.eq_nil_of_length_eq_zero hL
          clear hL
          go_wp2
          go_meet
          exact ⟨0, rfl, rfl, .inl ⟨HN.out, rfl⟩⟩
        · have hpos : 0 < L.length := by omega
          have hp1 : (0 : Int) < (L.length : Int) := by omega
          obtain ⟨b1, b2⟩ := withinF_bd x.n L.length hpos
          obtain ⟨kk, hkk⟩ := Int.eq_ofNat_of_zero_le b1
          have hwi := within_any x.n L.length W0 hpos (by omega)
          rw [hkk] at hwi
          have HK : Hid (kk < L.length ∧ (kk : Int) = pickF x.n L.length) := ⟨by rw [hkk] at b2; exact Int.ofNat_lt.1 b2, by rw [← hkk]; exact withinF_pickF x.n L.length hpos⟩
          clear b1 b2 hkk hL hpos
          go_wp2_with (go_at_call 16; refine hwi.mono ?_; rintro e w3 ⟨rfl, hw3⟩; obtain rfl := hw3.symm)
          go_meet
          exact ⟨kk, rfl, rfl, .inr HK.out⟩
      case rest =>
        obtain ⟨kk, rfl, rfl, HK⟩ := hcut
        go_upto_if 39 with fail
        go_cut [8] from 37 to 39 (fun s8 wx => ∃ (ww : Int), s8 = .int .i64 ww ∧ wx = wc ∧ Hid ((L = [] ∧ ww = 2) ∨ (0 < L.length ∧ ww = 0)))
        case first =>
          by_cases hL : L.length = 0
          · have hp1 : ((L.length : Int) == 0) = true := by simpa using hL
            have HN : Hid (L = []) := List.eq_nil_of_length_eq_zero hL
            clear hL
            go_wp2
            go_meet
            exact ⟨2, rfl, rfl, .inl ⟨HN.out, rfl⟩⟩
          · have hp1 : ((L.length : Int) == 0) = false := by simpa using hL
            have HN : Hid (0 < L.length) := by show _ < _; omega
            clear hL
            go_wp2
            go_meet
            exact ⟨0, rfl, rfl, .inr ⟨HN.out, rfl⟩⟩
        case rest =>
          obtain ⟨ww, rfl, hwc, HW⟩ := hcut
          subst hwc
          have HKW : Hid ((L = [] ∧ kk = 0 ∧ ww = 2) ∨ (kk < L.length ∧ (kk : Int) = pickF x.n L.length ∧ ww = 0)) := by
            rcases HK.out with ⟨h1, h2⟩ | ⟨h1, h2⟩ <;> rcases HW.out with ⟨h3, h4⟩ | ⟨h3, h4⟩
            · exact .inl ⟨h1, h2, h4⟩
            · subst h1; simp at h3
            · subst h3; simp at h1
            · exact .inr ⟨h1, h2, h4⟩
          obtain ⟨ai, hai⟩ : ∃ a, a = withinF x.k 4 := ⟨_, rfl⟩
          have hwi := within_any x.k 4 wc (by omega) (by omega)
          obtain ⟨b1, b2⟩ := withinF_bd x.k 4 (by omega)
          rw [show ((4 : Nat) : Int) = 4 from rfl, ← hai] at hwi b1 b2
          clear hai HK HW
          go_upto_block 2 with (go_at_call 16; refine hwi.mono ?_; rintro e w3 ⟨rfl, hw3⟩; obtain rfl := hw3.symm)
          go_cut [4, 9, 10, 11] from 43 to 163 (fun s4 _s9 _s10 _s11 wx => ∃ (L' : List Mv) (p' : Option Addr) (c' : Nat), s4 = .slice p' L'.length c' ∧ L'.length ≤ 5 * (i + 1) ∧ Hid (∃ v bs, Pm w wx d d v bs (.slice p' L'.length c') L' L' bc x))
          case first =>
            by_cases a0 : ai = 0
            · have e0 : (ai == 0) = true := beq_iff_eq.2 a0
              clear a0
              go_upto_block 3 with fail
              go_wp2_with fail
              go_loopg [4, 9] 6 (fun kx s4 s9 wq => ∃ (j : Nat) (M : List Mv) (q : Option Addr) (e : Nat), s9 = .int .i64 j ∧ s4 = .slice q M.length e ∧ kx + j = 6 ∧ j ≤ 5 ∧ j ≤ x.L.length ∧ M.length ≤ 5 * i + j ∧ Hid (∃ v bs, Pm w wq d d v bs (.slice q M.length e) M M bc x))
              case atStart => exact ⟨0, L, p, c, rfl, rfl, rfl, by omega, by omega, by omega, ⟨_, _, HM0.out⟩⟩
              case round =>
                clear z0 z1 z2 HM0 HKW hwi e0
                obtain ⟨j, M, q, e, rfl, rfl, hkj, hj, hjl, hMl, HQ⟩ := hrel
                obtain ⟨v1, bs1, hq⟩ := HQ.out
                have z2 : wr.cell? ⟨bc, 2, none⟩ = some (.slice lp x.L.length lc) := by rw [← HLV.out]; exact hq.bx.cell 2
                by_cases hj5 : j < x.L.length ∧ j < 5
                · obtain ⟨j1, j2⟩ := hj5
                  obtain ⟨y, hy⟩ : ∃ y, x.L[j]? = some y := ⟨_, List.getElem?_eq_getElem j1⟩
                  obtain ⟨gy, oy, rfl, hgy, hyc, hyo, hyb, hym⟩ := HME.out j y hy
                  obtain ⟨R, hR⟩ : ∃ R, R = mrow y.m y.e y.v y.d := ⟨_, rfl⟩
                  have HR := Hid.mkW hR
                  have HRs : Hid (R.size = 15) := by show _ = _; rw [hR]; rfl
                  have HRA : Hid (∀ W, Below w.heap.size w W → W.rangeAt gy (oy + j * 15) R.toList) := fun W hW j' u hu => by
                    rw [hR] at hu
                    exact (hW.cell (p := ⟨gy, oy + j * 15 + j', none⟩) hgy).trans (hyc j' u hu)
                  have HQ1 := Hid.mkW hq
                  have HYO := Hid.mkW hyo
                  have hfew := few_any _ wr y.m y.e y.v y.d (hyo.below hq.u) hyb
                  rw [← hR] at hfew
                  have HF : Hid (fewM y.m = true → Small y.m) := few_small
                  clear hR hyc hyo hyb hym hq hy HQ
                  obtain ⟨bf, hbf⟩ : ∃ b, b = fewM y.m := ⟨_, rfl⟩
                  rw [← hbf] at hfew
                  have HBF := Hid.mkW hbf
                  clear hbf
                  go_upto_if 61 with (first
                    | (refine wpList_load_msg rfl _ rfl gy (oy + j * 15) rfl R HRs.out (HRA.out _ HQ1.out.u) ?_)
                    | (go_at_call 9; refine hfew.mono ?_; rintro e wf ⟨rfl, hbw⟩))
                  clear hfew z2
                  have hq2 := HQ1.out.below hbw
                  have HQ2 := Hid.mkW hq2
                  have z2 : wf.cell? ⟨bc, 2, none⟩ = some (.slice (some ⟨gy, oy, none⟩) x.L.length lc) := by rw [← HLV.out]; exact hq2.bx.cell 2
                  cases bf
                  · clear hq2
                    go_wp2
                    go_roundg (5 - j)
                    case measure => omega
                    case rel => exact ⟨j + 1, M, q, e, by congr 1, rfl, by omega, by omega, by omega, by omega, ⟨_, _, HQ2.out⟩⟩
                  · have HSM : Hid (Small y.m) := HF.out HBF.out.symm
                    have hs := hq2.new_msg HYO.out HSM.out (by omega)
                    rw [mvC_arr, ← HR.out] at hs
                    clear hq2
                    go_upto_region 22 with (first
                      | (refine wpList_load_msg rfl _ rfl gy (oy + j * 15) rfl R HRs.out (HRA.out _ HQ2.out.u) ?_)
                      | (refine wpList_build_msg rfl _ rfl i28 HI.out.1 HI.out.2.1 HI.out.2.2.1 R y.m y.e y.v y.d HR.out rfl ?_)
                      | (go_at_call 18; refine hs.mono ?_; rintro e w3 ⟨rfl, v3, b3, HP3⟩))
                    have z3 : w3.cell? ⟨bc, 2, none⟩ = some (.slice (some ⟨gy, oy, none⟩) x.L.length lc) := by rw [← HLV.out]; exact HP3.out.bx.cell 2
                    have HP4 := Hid.mkW (HP3.out.below ((Below.refl _ w3).alloc (Nat.le_refl _) (.cells R 28)))
                    have HSR : Hid (Src Tryd.prog 15 47 (.slice (some ⟨w3.heap.size, 0, none⟩) 1 1) 1 (mvC y) (w3.alloc (.cells R 28))) := by
                      show Src _ _ _ _ _ _ _
                      rw [HR.out]
                      exact src_msg w3 y HYO.out
                    clear hs z2
                    go_wp2_with (first
                      | (refine wpList_load_msg rfl _ rfl gy (oy + j * 15) rfl R HRs.out (HRA.out _ HP3.out.u) ?_)
                      | (refine wpList_build_msg rfl _ rfl i28 HI.out.1 HI.out.2.1 HI.out.2.2.1 R y.m y.e y.v y.d HR.out rfl ?_)
                      | (at_builtin; refine wpList_appS _ rfl (.tmp 70) (.tmp 76) 47 47 rfl d 28 i28 _ 15 Tryd.underlying47 HI.out.1 HI.out.2.1 HI.out.2.2.1 rfl (by rw [HI.out.2.2.2]; decide) _ M.length (mvsC M) rfl HP4.out.row _ rfl 1 _ HSR.out (by omega) HP4.out.hw ?_; intro v5 w5 q1 q2 q3 _q4; have HG := Hid.mkW (HP3.out.grow q1 q2 q3); obtain ⟨np, nc, rfl⟩ := owns_formB0 q1; clear q1 q2 q3 _q4))
                    go_roundg (5 - j)
                    case measure => omega
                    case rel => exact ⟨j + 1, M ++ [y], np, nc, by congr 1, by simp, by omega, by omega, by omega, by simp; omega, by show ∃ _ _, _; rw [List.length_append]; exact ⟨_, _, HG.out⟩⟩
                · have hor : (j < x.L.length ∧ ¬ (j : Int) < 5) ∨ ¬ j < x.L.length := by
                    by_cases h1 : j < x.L.length
                    · exact .inl ⟨h1, by omega⟩
                    · exact .inr h1
                  have HE := Hid.mkW hq
                  clear hj5 HQ hq
                  rcases hor with ⟨h1, h2⟩ | h1
                  all_goals
                    go_wp2
                    go_meet
                    exact ⟨M, q, e, rfl, by omega, _, _, HE.out⟩
            · have e0 : (ai == 0) = false := beq_eq_false_iff_ne.2 a0
              by_cases a1 : ai = 1
              · have e1 : (ai == 1) = true := beq_iff_eq.2 a1
                clear a0 a1
                go_upto_region 24 with fail
                rcases HKW.out with ⟨h1, h2, h3⟩ | ⟨h1, h2, h3⟩
                · have hdr := (show Pm w wc d d v bs (.slice p L.length c) L L bc x from HM0.out)
                  rw [h1] at hdr
                  have hdr2 := hdr.deliver0 x.n
                  have HN : Hid (L = []) := h1
                  have n1 : ((2 : Int) != ww) = false := by rw [h3]; rfl
                  clear h1 h2 h3 hdr HKW HM0 z0 z2
                  go_wp2_with (fail)
                  refine hdr2.mono ?_
                  rintro e w3 ⟨rfl, HP3⟩
                  obtain ⟨R1, hR1⟩ : ∃ R1, R1 = zrow := ⟨_, rfl⟩
                  rw [← hR1]
                  have HR1 := Hid.mkW hR1
                  have HR1s : Hid (R1.size = 15) := by show _ = _; rw [hR1]; rfl
                  have hR1a : R1.all (·.oneCell') = true := by rw [hR1]; kernel_rfl
                  clear hR1 hdr2
                  have hr4 : (w3.alloc (.cells zrow 28)).heap[w3.heap.size]? = some (.cells zrow 28 (0, 0)) := row_alloc w3 zrow 28
                  have hb4 : Below w3.heap.size w3 (w3.alloc (.cells zrow 28)) := (Below.refl _ _).alloc (Nat.le_refl _) _
                  obtain ⟨HX4, u4⟩ := (show Bx w3.heap.size zrow 28 (w3.alloc (.cells zrow 28)) from hr4).fill (row' := R1)
                  go_upto_region 25 with (refine wpList_store_row rfl 28 _ _ rfl w3.heap.size R1 rfl rfl 28 zrow hr4 (by rw [HR1s.out]; kernel_rfl) (by rw [HR1s.out]; rfl) hR1a ?_)
                  obtain ⟨w4, hw4⟩ : ∃ w4, w4 = (w3.alloc (.cells zrow 28)).setRow w3.heap.size R1 := ⟨_, rfl⟩
                  rw [← hw4] at HX4 u4
                  have hw4' := hw4
                  unfold zrow at hw4'
                  rw [← hw4']
                  have hb5 : Below w3.heap.size w3 w4 := hb4.trans (u4.below hb4.size (fun k' hk e => by have e1 : k' = w3.heap.size := e; omega))
                  have HP4 := Hid.mkW (HP3.out.below hb5)
                  obtain ⟨d10, hd10⟩ : ∃ d10, d10 = w3.heap.size := ⟨_, rfl⟩
                  rw [← hd10] at HX4 ⊢
                  have L10 : ∀ W, Below w4.heap.size w4 W → (loadVar 28 ⟨d10, 0, none⟩).run Tryd.prog W = .ok (.agg R1) W := fun W hW => load_box (HX4.below hW) HR1s.out
                  have k14 : ∀ W, Below w4.heap.size w4 W → Calls Tryd.prog 14 #[.agg R1, .agg zrow] W fun e w' => e = .returned (.bool true) ∧ Below w4.heap.size w4 w' := fun W hW => by
                    rw [HR1.out]
                    exact (same_zero W).mono fun e w' h' => ⟨h'.1, hW.trans (h'.2.mono hW.size)⟩
                  unfold zrow at k14
                  clear hw4 hw4' hr4 hb4 u4 hd10 hb5 hR1a
                  go_cut [112] from 87 to 112 (fun s112 wx => s112 = .bool false ∧ Hid (Below w4.heap.size w4 wx))
                  case first =>
                    refine wp_region_held_drew (S := Below w4.heap.size w4) (by kernel_rfl) (Below.refl w4.heap.size w4).drew (fun hHeld => ?_)
                    refine wpAnyH_take (i := 0) (oi := { dst := some 87, op := Op.move (Operand.tmp 11), type := 31, pos := "law.go:121", after := #[], guard := none }) (v := ?_) rfl (by kernel_rfl) (by kernel_rfl) (by kernel_rfl) (fun _ _ _ h => h) (Or.inl ⟨by kernel_rfl, ?_⟩) hHeld ?_
                    rotate_left
                    · intro w hSw; go_simp; try with_reducible rfl
                    try simp only [Act.put, List.setIfInBounds_toArray, List.set_cons_zero, List.set_cons_succ]
                    refine wpAnyH_take (i := 1) (oi := { dst := some 88, op := Op.move (Operand.tmp 8), type := 31, pos := "law.go:121", after := #[], guard := none }) (v := ?_) rfl (by kernel_rfl) (by kernel_rfl) (by kernel_rfl) (fun _ _ _ h => h) (Or.inl ⟨by kernel_rfl, ?_⟩) hHeld ?_
                    rotate_left
                    · intro w hSw; go_simp; try with_reducible rfl
                    try simp only [Act.put, List.setIfInBounds_toArray, List.set_cons_zero, List.set_cons_succ]
                    refine wpAnyH_take (i := 2) (oi := { dst := some 89, op := Op.binOp BinOp.neq 31 (Operand.tmp 87) (Operand.tmp 88) 31, type := 4, pos := "law.go:121", after := #[{ on := 0, ground := Ground.data }, { on := 1, ground := Ground.data }], guard := none }) (v := ?_) rfl (by kernel_rfl) (by kernel_rfl) (by kernel_rfl) (fun _ _ _ h => h) (Or.inl ⟨by kernel_rfl, ?_⟩) hHeld ?_
                    rotate_left
                    · intro w hSw; go_simp; try with_reducible rfl
                    try simp only [Act.put, List.setIfInBounds_toArray, List.set_cons_zero, List.set_cons_succ]
                    refine wpAnyH_take (i := 3) (oi := { dst := some 90, op := Op.move (Operand.tmp 89), type := 4, pos := "law.go:121", after := #[{ on := 2, ground := Ground.data }], guard := none }) (v := ?_) rfl (by kernel_rfl) (by kernel_rfl) (by kernel_rfl) (fun _ _ _ h => h) (Or.inl ⟨by kernel_rfl, ?_⟩) hHeld ?_
                    rotate_left
                    · intro w hSw; go_simp; try with_reducible rfl
                    try simp only [Act.put, List.setIfInBounds_toArray, List.set_cons_zero, List.set_cons_succ]
                    refine wpAnyH_take (i := 4) (oi := { dst := some 91, op := Op.move (Operand.tmp 11), type := 31, pos := "law.go:121", after := #[{ on := 3, ground := Ground.guard }], guard := some (3, false) }) (v := ?_) rfl (by kernel_rfl) (by kernel_rfl) (by kernel_rfl) (fun _ _ _ h => h) (Or.inl ⟨by kernel_rfl, ?_⟩) hHeld ?_
                    rotate_left
                    · intro w hSw; go_simp; try with_reducible rfl
                    try simp only [Act.put, List.setIfInBounds_toArray, List.set_cons_zero, List.set_cons_succ]
                    refine wpAnyH_take (i := 5) (oi := { dst := some 92, op := Op.binOp BinOp.eql 31 (Operand.tmp 91) (Operand.const (Value.int IntKind.i64 0)) 31, type := 4, pos := "law.go:121", after := #[{ on := 4, ground := Ground.data }, { on := 3, ground := Ground.guard }], guard := some (3, false) }) (v := ?_) rfl (by kernel_rfl) (by kernel_rfl) (by kernel_rfl) (fun _ _ _ h => h) (Or.inl ⟨by kernel_rfl, ?_⟩) hHeld ?_
                    rotate_left
                    · intro w hSw; go_simp; try with_reducible rfl
                    try simp only [Act.put, List.setIfInBounds_toArray, List.set_cons_zero, List.set_cons_succ]
                    refine wpAnyH_take (i := 6) (oi := { dst := some 93, op := Op.move (Operand.tmp 92), type := 4, pos := "law.go:121", after := #[{ on := 5, ground := Ground.data }, { on := 3, ground := Ground.chain }, { on := 3, ground := Ground.guard }], guard := some (3, false) }) (v := ?_) rfl (by kernel_rfl) (by kernel_rfl) (by kernel_rfl) (fun _ _ _ h => h) (Or.inl ⟨by kernel_rfl, ?_⟩) hHeld ?_
                    rotate_left
                    · intro w hSw; go_simp; try with_reducible rfl
                    try simp only [Act.put, List.setIfInBounds_toArray, List.set_cons_zero, List.set_cons_succ]
                    refine wpAnyH_take (i := 7) (oi := { dst := some 94, op := Op.load 28 (Operand.tmp 10), type := 28, pos := "law.go:121", after := #[{ on := 6, ground := Ground.guard }], guard := some (6, true) }) (v := undef) rfl (by kernel_rfl) (by kernel_rfl) (by kernel_rfl) (fun _ _ _ h => h) (Or.inr ⟨by kernel_rfl, rfl⟩) hHeld ?_
                    try simp only [Act.put, List.setIfInBounds_toArray, List.set_cons_zero, List.set_cons_succ]
                    refine wpAnyH_take (i := 8) (oi := { dst := some 95, op := Op.move (Operand.tmp 4), type := 47, pos := "law.go:121", after := #[{ on := 6, ground := Ground.guard }], guard := some (6, true) }) (v := undef) rfl (by kernel_rfl) (by kernel_rfl) (by kernel_rfl) (fun _ _ _ h => h) (Or.inr ⟨by kernel_rfl, rfl⟩) hHeld ?_
                    try simp only [Act.put, List.setIfInBounds_toArray, List.set_cons_zero, List.set_cons_succ]
                    refine wpAnyH_take (i := 9) (oi := { dst := some 96, op := Op.move (Operand.tmp 7), type := 3, pos := "law.go:121", after := #[{ on := 6, ground := Ground.guard }], guard := some (6, true) }) (v := undef) rfl (by kernel_rfl) (by kernel_rfl) (by kernel_rfl) (fun _ _ _ h => h) (Or.inr ⟨by kernel_rfl, rfl⟩) hHeld ?_
                    try simp only [Act.put, List.setIfInBounds_toArray, List.set_cons_zero, List.set_cons_succ]
                    refine wpAnyH_take (i := 10) (oi := { dst := some 97, op := Op.indexAddr 47 (Operand.tmp 95) (Operand.tmp 96), type := 0, pos := "law.go:121", after := #[{ on := 8, ground := Ground.data }, { on := 9, ground := Ground.data }, { on := 6, ground := Ground.guard }], guard := some (6, true) }) (v := undef) rfl (by kernel_rfl) (by kernel_rfl) (by kernel_rfl) (fun _ _ _ h => h) (Or.inr ⟨by kernel_rfl, rfl⟩) hHeld ?_
                    try simp only [Act.put, List.setIfInBounds_toArray, List.set_cons_zero, List.set_cons_succ]
                    refine wpAnyH_take (i := 11) (oi := { dst := some 98, op := Op.load 28 (Operand.tmp 97), type := 28, pos := "law.go:121", after := #[{ on := 10, ground := Ground.data }, { on := 6, ground := Ground.guard }], guard := some (6, true) }) (v := undef) rfl (by kernel_rfl) (by kernel_rfl) (by kernel_rfl) (fun _ _ _ h => h) (Or.inr ⟨by kernel_rfl, rfl⟩) hHeld ?_
                    try simp only [Act.put, List.setIfInBounds_toArray, List.set_cons_zero, List.set_cons_succ]
                    refine wpAnyH_take (i := 12) (oi := { dst := some 99, op := Op.call { callee := Callee.value (Operand.func 14), args := #[Operand.tmp 94, Operand.tmp 98], argTypes := #[28, 28] }, type := 4, pos := "law.go:121", after := #[{ on := 7, ground := Ground.data }, { on := 11, ground := Ground.data }, { on := 6, ground := Ground.chain }, { on := 6, ground := Ground.guard }], guard := some (6, true) }) (v := undef) rfl (by kernel_rfl) (by kernel_rfl) (by kernel_rfl) (fun _ _ _ h => h) (Or.inr ⟨by kernel_rfl, rfl⟩) hHeld ?_
                    try simp only [Act.put, List.setIfInBounds_toArray, List.set_cons_zero, List.set_cons_succ]
                    refine wpAnyH_take (i := 13) (oi := { dst := some 100, op := Op.unOp UnOp.not 4 (Operand.tmp 99), type := 4, pos := "law.go:121", after := #[{ on := 12, ground := Ground.data }, { on := 6, ground := Ground.guard }], guard := some (6, true) }) (v := undef) rfl (by kernel_rfl) (by kernel_rfl) (by kernel_rfl) (fun _ _ _ h => h) (Or.inr ⟨by kernel_rfl, rfl⟩) hHeld ?_
                    try simp only [Act.put, List.setIfInBounds_toArray, List.set_cons_zero, List.set_cons_succ]
                    refine wpAnyH_take (i := 14) (oi := { dst := some 101, op := Op.pick (Operand.tmp 93) (Operand.tmp 100) (Operand.const (Value.bool false)), type := 4, pos := "law.go:121", after := #[{ on := 6, ground := Ground.data }, { on := 13, ground := Ground.data }, { on := 3, ground := Ground.guard }], guard := some (3, false) }) (v := ?_) rfl (by kernel_rfl) (by kernel_rfl) (by kernel_rfl) (fun _ _ _ h => h) (Or.inl ⟨by kernel_rfl, ?_⟩) hHeld ?_
                    rotate_left
                    · intro w hSw; go_simp; try with_reducible rfl
                    try simp only [Act.put, List.setIfInBounds_toArray, List.set_cons_zero, List.set_cons_succ]
                    refine wpAnyH_take (i := 15) (oi := { dst := some 102, op := Op.pick (Operand.tmp 90) (Operand.const (Value.bool true)) (Operand.tmp 101), type := 4, pos := "law.go:121", after := #[{ on := 3, ground := Ground.data }, { on := 14, ground := Ground.data }], guard := none }) (v := ?_) rfl (by kernel_rfl) (by kernel_rfl) (by kernel_rfl) (fun _ _ _ h => h) (Or.inl ⟨by kernel_rfl, ?_⟩) hHeld ?_
                    rotate_left
                    · intro w hSw; go_simp; try with_reducible rfl
                    try simp only [Act.put, List.setIfInBounds_toArray, List.set_cons_zero, List.set_cons_succ]
                    refine wpAnyH_take (i := 16) (oi := { dst := some 103, op := Op.move (Operand.tmp 102), type := 4, pos := "law.go:121", after := #[{ on := 15, ground := Ground.data }, { on := 12, ground := Ground.chain }], guard := none }) (v := ?_) rfl (by kernel_rfl) (by kernel_rfl) (by kernel_rfl) (fun _ _ _ h => h) (Or.inl ⟨by kernel_rfl, ?_⟩) hHeld ?_
                    rotate_left
                    · intro w hSw; go_simp; try with_reducible rfl
                    try simp only [Act.put, List.setIfInBounds_toArray, List.set_cons_zero, List.set_cons_succ]
                    refine wpAnyH_take (i := 17) (oi := { dst := some 104, op := Op.move (Operand.tmp 11), type := 31, pos := "law.go:121", after := #[{ on := 16, ground := Ground.guard }], guard := some (16, false) }) (v := ?_) rfl (by kernel_rfl) (by kernel_rfl) (by kernel_rfl) (fun _ _ _ h => h) (Or.inl ⟨by kernel_rfl, ?_⟩) hHeld ?_
                    rotate_left
                    · intro w hSw; go_simp; try with_reducible rfl
                    try simp only [Act.put, List.setIfInBounds_toArray, List.set_cons_zero, List.set_cons_succ]
                    refine wpAnyH_take (i := 18) (oi := { dst := some 105, op := Op.binOp BinOp.neq 31 (Operand.tmp 104) (Operand.const (Value.int IntKind.i64 0)) 31, type := 4, pos := "law.go:121", after := #[{ on := 17, ground := Ground.data }, { on := 16, ground := Ground.guard }], guard := some (16, false) }) (v := ?_) rfl (by kernel_rfl) (by kernel_rfl) (by kernel_rfl) (fun _ _ _ h => h) (Or.inl ⟨by kernel_rfl, ?_⟩) hHeld ?_
                    rotate_left
                    · intro w hSw; go_simp; try with_reducible rfl
                    try simp only [Act.put, List.setIfInBounds_toArray, List.set_cons_zero, List.set_cons_succ]
                    refine wpAnyH_take (i := 19) (oi := { dst := some 106, op := Op.move (Operand.tmp 105), type := 4, pos := "law.go:121", after := #[{ on := 18, ground := Ground.data }, { on := 16, ground := Ground.chain }, { on := 16, ground := Ground.guard }], guard := some (16, false) }) (v := ?_) rfl (by kernel_rfl) (by kernel_rfl) (by kernel_rfl) (fun _ _ _ h => h) (Or.inl ⟨by kernel_rfl, ?_⟩) hHeld ?_
                    rotate_left
                    · intro w hSw; go_simp; try with_reducible rfl
                    try simp only [Act.put, List.setIfInBounds_toArray, List.set_cons_zero, List.set_cons_succ]
                    refine take_loadO (oi := { dst := some 107, op := Op.load 28 (Operand.tmp 10), type := 28, pos := "law.go:121", after := #[{ on := 19, ground := Ground.guard }], guard := some (19, true) }) (x := Operand.tmp 10) 20 d10 0 R1 rfl (by kernel_rfl) (by kernel_rfl) (by kernel_rfl) (fun _ _ _ h => h) (by kernel_rfl) rfl (by kernel_rfl) L10 hHeld ?_
                    try simp only [Act.put, List.setIfInBounds_toArray, List.set_cons_zero, List.set_cons_succ]
                    refine wpAnyH_take (i := 21) (oi := { dst := some 108, op := Op.build 28 #[], type := 28, pos := "law.go:121", after := #[{ on := 19, ground := Ground.guard }], guard := some (19, true) }) (v := ?_) rfl (by kernel_rfl) (by kernel_rfl) (by kernel_rfl) (fun _ _ _ h => h) (Or.inl ⟨by kernel_rfl, ?_⟩) hHeld ?_
                    rotate_left
                    · intro w hSw; go_simp; try with_reducible rfl
                    try simp only [Act.put, List.setIfInBounds_toArray, List.set_cons_zero, List.set_cons_succ]
                    refine wpAnyH_ready (rs := [22]) (by kernel_rfl) (by simp) ?_
                    refine AllReadyH.cons rfl (fun K hK => ?_) AllReadyH.nil
                    go_simp
                    go_at_call 14
                    (with_reducible refine (k14 _ hHeld).mono ?_)
                    rintro e wE ⟨rfl, hE⟩
                    go_simp
                    refine hK.out _ _ hE (fun hHeld => ?_)
                    clear hK K
                    try simp only [Act.put, List.setIfInBounds_toArray, List.set_cons_zero, List.set_cons_succ]
                    refine wpAnyH_take (i := 23) (oi := { dst := some 110, op := Op.unOp UnOp.not 4 (Operand.tmp 109), type := 4, pos := "law.go:121", after := #[{ on := 22, ground := Ground.data }, { on := 19, ground := Ground.guard }], guard := some (19, true) }) (v := ?_) rfl (by kernel_rfl) (by kernel_rfl) (by kernel_rfl) (fun _ _ _ h => h) (Or.inl ⟨by kernel_rfl, ?_⟩) hHeld ?_
                    rotate_left
                    · intro w hSw; go_simp; try with_reducible rfl
                    try simp only [Act.put, List.setIfInBounds_toArray, List.set_cons_zero, List.set_cons_succ]
                    refine wpAnyH_take (i := 24) (oi := { dst := some 111, op := Op.pick (Operand.tmp 106) (Operand.tmp 110) (Operand.const (Value.bool false)), type := 4, pos := "law.go:121", after := #[{ on := 19, ground := Ground.data }, { on := 23, ground := Ground.data }, { on := 16, ground := Ground.guard }], guard := some (16, false) }) (v := ?_) rfl (by kernel_rfl) (by kernel_rfl) (by kernel_rfl) (fun _ _ _ h => h) (Or.inl ⟨by kernel_rfl, ?_⟩) hHeld ?_
                    rotate_left
                    · intro w hSw; go_simp; try with_reducible rfl
                    try simp only [Act.put, List.setIfInBounds_toArray, List.set_cons_zero, List.set_cons_succ]
                    refine wpAnyH_take (i := 25) (oi := { dst := some 112, op := Op.pick (Operand.tmp 103) (Operand.const (Value.bool true)) (Operand.tmp 111), type := 4, pos := "law.go:121", after := #[{ on := 16, ground := Ground.data }, { on := 24, ground := Ground.data }], guard := none }) (v := ?_) rfl (by kernel_rfl) (by kernel_rfl) (by kernel_rfl) (fun _ _ _ h => h) (Or.inl ⟨by kernel_rfl, ?_⟩) hHeld ?_
                    rotate_left
                    · intro w hSw; go_simp; try with_reducible rfl
                    try simp only [Act.put, List.setIfInBounds_toArray, List.set_cons_zero, List.set_cons_succ]
                    refine wpAnyH_done (by kernel_rfl) ?_ _
                    go_wp2_with fail
                    go_meet
                    exact ⟨rfl, hHeld⟩
                  case rest =>
                    obtain ⟨rfl, HC⟩ := hcut
                    have HP5 := Hid.mkW (HP4.out.below HC.out)
                    clear k14 L10
                    go_wp2_with fail
                    go_meet
                    exact ⟨L, p, c, rfl, by omega, by rw [HN.out]; exact ⟨_, _, HP5.out⟩⟩
                · obtain ⟨y, hy⟩ : ∃ y, L[kk]? = some y := ⟨_, List.getElem?_eq_getElem h1⟩
                  have hdr2 := HM0.out.deliverR x.n kk y h2.symm hy (by omega)
                  have HKL : Hid (kk < L.length) := h1
                  have HYK := Hid.mkW hy
                  have HYI : Hid (y ∈ L) := List.mem_of_getElem? hy
                  obtain ⟨gb, c4, e4, _, _⟩ := owns_formB HM0.out.row (show 0 < L.length by omega)
                  cases e4
                  have n1 : ((0 : Int) != ww) = false := by rw [h3]; rfl
                  clear h2 h3 hy HKW HM0 z0 z2
                  go_wp2_with (fail)
                  refine hdr2.mono ?_
                  rintro e w3 ⟨R1, rfl, HR1s, hR1a, HR1, v3, bs3, HP3⟩
                  clear hdr2
                  have hr4 : (w3.alloc (.cells zrow 28)).heap[w3.heap.size]? = some (.cells zrow 28 (0, 0)) := row_alloc w3 zrow 28
                  have hb4 : Below w3.heap.size w3 (w3.alloc (.cells zrow 28)) := (Below.refl _ _).alloc (Nat.le_refl _) _
                  obtain ⟨HX4, u4⟩ := (show Bx w3.heap.size zrow 28 (w3.alloc (.cells zrow 28)) from hr4).fill (row' := R1)
                  go_upto_region 25 with (refine wpList_store_row rfl 28 _ _ rfl w3.heap.size R1 rfl rfl 28 zrow hr4 (by rw [HR1s.out]; kernel_rfl) (by rw [HR1s.out]; rfl) hR1a ?_)
                  obtain ⟨w4, hw4⟩ : ∃ w4, w4 = (w3.alloc (.cells zrow 28)).setRow w3.heap.size R1 := ⟨_, rfl⟩
                  rw [← hw4] at HX4 u4
                  have hw4' := hw4
                  unfold zrow at hw4'
                  rw [← hw4']
                  have hb5 : Below w3.heap.size w3 w4 := hb4.trans (u4.below hb4.size (fun k' hk e => by have e1 : k' = w3.heap.size := e; omega))
                  have HP4 := Hid.mkW (HP3.out.below hb5)
                  obtain ⟨R, hR⟩ : ∃ R, R = mrow y.m y.e y.v y.d := ⟨_, rfl⟩
                  have HR := Hid.mkW hR
                  have hld := HP4.out.load HYK.out hR
                  have HMs : Hid (∃ ve vv vd, R1 = mrow y.m ve vv vd ∧ Ms (fun _ => True) w4 ve vv vd y.m) := by
                    obtain ⟨ve, vv, vd, h1, h2⟩ := HR1.out
                    exact ⟨ve, vv, vd, h1, h2.below hb5⟩
                  obtain ⟨d10, hd10⟩ : ∃ d10, d10 = w3.heap.size := ⟨_, rfl⟩
                  rw [← hd10] at HX4 ⊢
                  have L10 : ∀ W, Below w4.heap.size w4 W → (loadVar 28 ⟨d10, 0, none⟩).run Tryd.prog W = .ok (.agg R1) W := fun W hW => load_box (HX4.below hW) HR1s.out
                  have k14 : ∀ W, Below w4.heap.size w4 W → Calls Tryd.prog 14 #[.agg R1, .agg R] W fun e w' => e = .returned (.bool true) ∧ Below w4.heap.size w4 w' := fun W hW => by
                    obtain ⟨ve, vv, vd, h1, h2⟩ := HMs.out
                    obtain ⟨h3, h4⟩ := HP4.out.okL y HYI.out
                    rw [h1, HR.out]
                    exact (refSame_yes (h2.below hW) (h3.below hW) (by have := h4.es; omega) (by have := h4.vs; omega)).mono fun e w' h' => ⟨h'.1, hW.trans (h'.2.mono hW.size)⟩
                  clear hw4 hw4' hr4 hb4 u4 hd10 hb5 hR1a hR
                  go_cut [112] from 87 to 112 (fun s112 wx => s112 = .bool false ∧ Hid (Below w4.heap.size w4 wx))
                  case first =>
                    refine wp_region_held_drew (S := Below w4.heap.size w4) (by kernel_rfl) (Below.refl w4.heap.size w4).drew (fun hHeld => ?_)
                    refine wpAnyH_take (i := 0) (oi := { dst := some 87, op := Op.move (Operand.tmp 11), type := 31, pos := "law.go:121", after := #[], guard := none }) (v := ?_) rfl (by kernel_rfl) (by kernel_rfl) (by kernel_rfl) (fun _ _ _ h => h) (Or.inl ⟨by kernel_rfl, ?_⟩) hHeld ?_
                    rotate_left
                    · intro w hSw; go_simp; try with_reducible rfl
                    try simp only [Act.put, List.setIfInBounds_toArray, List.set_cons_zero, List.set_cons_succ]
                    refine wpAnyH_take (i := 1) (oi := { dst := some 88, op := Op.move (Operand.tmp 8), type := 31, pos := "law.go:121", after := #[], guard := none }) (v := ?_) rfl (by kernel_rfl) (by kernel_rfl) (by kernel_rfl) (fun _ _ _ h => h) (Or.inl ⟨by kernel_rfl, ?_⟩) hHeld ?_
                    rotate_left
                    · intro w hSw; go_simp; try with_reducible rfl
                    try simp only [Act.put, List.setIfInBounds_toArray, List.set_cons_zero, List.set_cons_succ]
                    refine wpAnyH_take (i := 2) (oi := { dst := some 89, op := Op.binOp BinOp.neq 31 (Operand.tmp 87) (Operand.tmp 88) 31, type := 4, pos := "law.go:121", after := #[{ on := 0, ground := Ground.data }, { on := 1, ground := Ground.data }], guard := none }) (v := ?_) rfl (by kernel_rfl) (by kernel_rfl) (by kernel_rfl) (fun _ _ _ h => h) (Or.inl ⟨by kernel_rfl, ?_⟩) hHeld ?_
                    rotate_left
                    · intro w hSw; go_simp; try with_reducible rfl
                    try simp only [Act.put, List.setIfInBounds_toArray, List.set_cons_zero, List.set_cons_succ]
                    refine wpAnyH_take (i := 3) (oi := { dst := some 90, op := Op.move (Operand.tmp 89), type := 4, pos := "law.go:121", after := #[{ on := 2, ground := Ground.data }], guard := none }) (v := ?_) rfl (by kernel_rfl) (by kernel_rfl) (by kernel_rfl) (fun _ _ _ h => h) (Or.inl ⟨by kernel_rfl, ?_⟩) hHeld ?_
                    rotate_left
                    · intro w hSw; go_simp; try with_reducible rfl
                    try simp only [Act.put, List.setIfInBounds_toArray, List.set_cons_zero, List.set_cons_succ]
                    refine wpAnyH_take (i := 4) (oi := { dst := some 91, op := Op.move (Operand.tmp 11), type := 31, pos := "law.go:121", after := #[{ on := 3, ground := Ground.guard }], guard := some (3, false) }) (v := ?_) rfl (by kernel_rfl) (by kernel_rfl) (by kernel_rfl) (fun _ _ _ h => h) (Or.inl ⟨by kernel_rfl, ?_⟩) hHeld ?_
                    rotate_left
                    · intro w hSw; go_simp; try with_reducible rfl
                    try simp only [Act.put, List.setIfInBounds_toArray, List.set_cons_zero, List.set_cons_succ]
                    refine wpAnyH_take (i := 5) (oi := { dst := some 92, op := Op.binOp BinOp.eql 31 (Operand.tmp 91) (Operand.const (Value.int IntKind.i64 0)) 31, type := 4, pos := "law.go:121", after := #[{ on := 4, ground := Ground.data }, { on := 3, ground := Ground.guard }], guard := some (3, false) }) (v := ?_) rfl (by kernel_rfl) (by kernel_rfl) (by kernel_rfl) (fun _ _ _ h => h) (Or.inl ⟨by kernel_rfl, ?_⟩) hHeld ?_
                    rotate_left
                    · intro w hSw; go_simp; try with_reducible rfl
                    try simp only [Act.put, List.setIfInBounds_toArray, List.set_cons_zero, List.set_cons_succ]
                    refine wpAnyH_take (i := 6) (oi := { dst := some 93, op := Op.move (Operand.tmp 92), type := 4, pos := "law.go:121", after := #[{ on := 5, ground := Ground.data }, { on := 3, ground := Ground.chain }, { on := 3, ground := Ground.guard }], guard := some (3, false) }) (v := ?_) rfl (by kernel_rfl) (by kernel_rfl) (by kernel_rfl) (fun _ _ _ h => h) (Or.inl ⟨by kernel_rfl, ?_⟩) hHeld ?_
                    rotate_left
                    · intro w hSw; go_simp; try with_reducible rfl
                    try simp only [Act.put, List.setIfInBounds_toArray, List.set_cons_zero, List.set_cons_succ]
                    refine take_loadO (oi := { dst := some 94, op := Op.load 28 (Operand.tmp 10), type := 28, pos := "law.go:121", after := #[{ on := 6, ground := Ground.guard }], guard := some (6, true) }) (x := Operand.tmp 10) 7 d10 0 R1 rfl (by kernel_rfl) (by kernel_rfl) (by kernel_rfl) (fun _ _ _ h => h) (by kernel_rfl) rfl (by kernel_rfl) L10 hHeld ?_
                    try simp only [Act.put, List.setIfInBounds_toArray, List.set_cons_zero, List.set_cons_succ]
                    refine wpAnyH_take (i := 8) (oi := { dst := some 95, op := Op.move (Operand.tmp 4), type := 47, pos := "law.go:121", after := #[{ on := 6, ground := Ground.guard }], guard := some (6, true) }) (v := ?_) rfl (by kernel_rfl) (by kernel_rfl) (by kernel_rfl) (fun _ _ _ h => h) (Or.inl ⟨by kernel_rfl, ?_⟩) hHeld ?_
                    rotate_left
                    · intro w hSw; go_simp; try with_reducible rfl
                    try simp only [Act.put, List.setIfInBounds_toArray, List.set_cons_zero, List.set_cons_succ]
                    refine wpAnyH_take (i := 9) (oi := { dst := some 96, op := Op.move (Operand.tmp 7), type := 3, pos := "law.go:121", after := #[{ on := 6, ground := Ground.guard }], guard := some (6, true) }) (v := ?_) rfl (by kernel_rfl) (by kernel_rfl) (by kernel_rfl) (fun _ _ _ h => h) (Or.inl ⟨by kernel_rfl, ?_⟩) hHeld ?_
                    rotate_left
                    · intro w hSw; go_simp; try with_reducible rfl
                    try simp only [Act.put, List.setIfInBounds_toArray, List.set_cons_zero, List.set_cons_succ]
                    refine wpAnyH_take (i := 10) (oi := { dst := some 97, op := Op.indexAddr 47 (Operand.tmp 95) (Operand.tmp 96), type := 0, pos := "law.go:121", after := #[{ on := 8, ground := Ground.data }, { on := 9, ground := Ground.data }, { on := 6, ground := Ground.guard }], guard := some (6, true) }) (v := ?_) rfl (by kernel_rfl) (by kernel_rfl) (by kernel_rfl) (fun _ _ _ h => h) (Or.inl ⟨by kernel_rfl, ?_⟩) hHeld ?_
                    rotate_left
                    · intro w hSw; go_simp; try with_reducible rfl
                    try simp only [Act.put, List.setIfInBounds_toArray, List.set_cons_zero, List.set_cons_succ]
                    refine take_loadO (oi := { dst := some 98, op := Op.load 28 (Operand.tmp 97), type := 28, pos := "law.go:121", after := #[{ on := 10, ground := Ground.data }, { on := 6, ground := Ground.guard }], guard := some (6, true) }) (x := Operand.tmp 97) 11 gb (kk * 15) R rfl (by kernel_rfl) (by kernel_rfl) (by kernel_rfl) (fun _ _ _ h => h) (by kernel_rfl) rfl (by kernel_rfl) hld hHeld ?_
                    try simp only [Act.put, List.setIfInBounds_toArray, List.set_cons_zero, List.set_cons_succ]
                    refine wpAnyH_ready (rs := [12]) (by kernel_rfl) (by simp) ?_
                    refine AllReadyH.cons rfl (fun K hK => ?_) AllReadyH.nil
                    go_simp
                    go_at_call 14
                    (with_reducible refine (k14 _ hHeld).mono ?_)
                    rintro e wE ⟨rfl, hE⟩
                    go_simp
                    refine hK.out _ _ hE (fun hHeld => ?_)
                    clear hK K
                    try simp only [Act.put, List.setIfInBounds_toArray, List.set_cons_zero, List.set_cons_succ]
                    refine wpAnyH_take (i := 13) (oi := { dst := some 100, op := Op.unOp UnOp.not 4 (Operand.tmp 99), type := 4, pos := "law.go:121", after := #[{ on := 12, ground := Ground.data }, { on := 6, ground := Ground.guard }], guard := some (6, true) }) (v := ?_) rfl (by kernel_rfl) (by kernel_rfl) (by kernel_rfl) (fun _ _ _ h => h) (Or.inl ⟨by kernel_rfl, ?_⟩) hHeld ?_
                    rotate_left
                    · intro w hSw; go_simp; try with_reducible rfl
                    try simp only [Act.put, List.setIfInBounds_toArray, List.set_cons_zero, List.set_cons_succ]
                    refine wpAnyH_take (i := 14) (oi := { dst := some 101, op := Op.pick (Operand.tmp 93) (Operand.tmp 100) (Operand.const (Value.bool false)), type := 4, pos := "law.go:121", after := #[{ on := 6, ground := Ground.data }, { on := 13, ground := Ground.data }, { on := 3, ground := Ground.guard }], guard := some (3, false) }) (v := ?_) rfl (by kernel_rfl) (by kernel_rfl) (by kernel_rfl) (fun _ _ _ h => h) (Or.inl ⟨by kernel_rfl, ?_⟩) hHeld ?_
                    rotate_left
                    · intro w hSw; go_simp; try with_reducible rfl
                    try simp only [Act.put, List.setIfInBounds_toArray, List.set_cons_zero, List.set_cons_succ]
                    refine wpAnyH_take (i := 15) (oi := { dst := some 102, op := Op.pick (Operand.tmp 90) (Operand.const (Value.bool true)) (Operand.tmp 101), type := 4, pos := "law.go:121", after := #[{ on := 3, ground := Ground.data }, { on := 14, ground := Ground.data }], guard := none }) (v := ?_) rfl (by kernel_rfl) (by kernel_rfl) (by kernel_rfl) (fun _ _ _ h => h) (Or.inl ⟨by kernel_rfl, ?_⟩) hHeld ?_
                    rotate_left
                    · intro w hSw; go_simp; try with_reducible rfl
                    try simp only [Act.put, List.setIfInBounds_toArray, List.set_cons_zero, List.set_cons_succ]
                    refine wpAnyH_take (i := 16) (oi := { dst := some 103, op := Op.move (Operand.tmp 102), type := 4, pos := "law.go:121", after := #[{ on := 15, ground := Ground.data }, { on := 12, ground := Ground.chain }], guard := none }) (v := ?_) rfl (by kernel_rfl) (by kernel_rfl) (by kernel_rfl) (fun _ _ _ h => h) (Or.inl ⟨by kernel_rfl, ?_⟩) hHeld ?_
                    rotate_left
                    · intro w hSw; go_simp; try with_reducible rfl
                    try simp only [Act.put, List.setIfInBounds_toArray, List.set_cons_zero, List.set_cons_succ]
                    refine wpAnyH_take (i := 17) (oi := { dst := some 104, op := Op.move (Operand.tmp 11), type := 31, pos := "law.go:121", after := #[{ on := 16, ground := Ground.guard }], guard := some (16, false) }) (v := ?_) rfl (by kernel_rfl) (by kernel_rfl) (by kernel_rfl) (fun _ _ _ h => h) (Or.inl ⟨by kernel_rfl, ?_⟩) hHeld ?_
                    rotate_left
                    · intro w hSw; go_simp; try with_reducible rfl
                    try simp only [Act.put, List.setIfInBounds_toArray, List.set_cons_zero, List.set_cons_succ]
                    refine wpAnyH_take (i := 18) (oi := { dst := some 105, op := Op.binOp BinOp.neq 31 (Operand.tmp 104) (Operand.const (Value.int IntKind.i64 0)) 31, type := 4, pos := "law.go:121", after := #[{ on := 17, ground := Ground.data }, { on := 16, ground := Ground.guard }], guard := some (16, false) }) (v := ?_) rfl (by kernel_rfl) (by kernel_rfl) (by kernel_rfl) (fun _ _ _ h => h) (Or.inl ⟨by kernel_rfl, ?_⟩) hHeld ?_
                    rotate_left
                    · intro w hSw; go_simp; try with_reducible rfl
                    try simp only [Act.put, List.setIfInBounds_toArray, List.set_cons_zero, List.set_cons_succ]
                    refine wpAnyH_take (i := 19) (oi := { dst := some 106, op := Op.move (Operand.tmp 105), type := 4, pos := "law.go:121", after := #[{ on := 18, ground := Ground.data }, { on := 16, ground := Ground.chain }, { on := 16, ground := Ground.guard }], guard := some (16, false) }) (v := ?_) rfl (by kernel_rfl) (by kernel_rfl) (by kernel_rfl) (fun _ _ _ h => h) (Or.inl ⟨by kernel_rfl, ?_⟩) hHeld ?_
                    rotate_left
                    · intro w hSw; go_simp; try with_reducible rfl
                    try simp only [Act.put, List.setIfInBounds_toArray, List.set_cons_zero, List.set_cons_succ]
                    refine wpAnyH_take (i := 20) (oi := { dst := some 107, op := Op.load 28 (Operand.tmp 10), type := 28, pos := "law.go:121", after := #[{ on := 19, ground := Ground.guard }], guard := some (19, true) }) (v := undef) rfl (by kernel_rfl) (by kernel_rfl) (by kernel_rfl) (fun _ _ _ h => h) (Or.inr ⟨by kernel_rfl, rfl⟩) hHeld ?_
                    try simp only [Act.put, List.setIfInBounds_toArray, List.set_cons_zero, List.set_cons_succ]
                    refine wpAnyH_take (i := 21) (oi := { dst := some 108, op := Op.build 28 #[], type := 28, pos := "law.go:121", after := #[{ on := 19, ground := Ground.guard }], guard := some (19, true) }) (v := undef) rfl (by kernel_rfl) (by kernel_rfl) (by kernel_rfl) (fun _ _ _ h => h) (Or.inr ⟨by kernel_rfl, rfl⟩) hHeld ?_
                    try simp only [Act.put, List.setIfInBounds_toArray, List.set_cons_zero, List.set_cons_succ]
                    refine wpAnyH_take (i := 22) (oi := { dst := some 109, op := Op.call { callee := Callee.value (Operand.func 14), args := #[Operand.tmp 107, Operand.tmp 108], argTypes := #[28, 28] }, type := 4, pos := "law.go:121", after := #[{ on := 20, ground := Ground.data }, { on := 21, ground := Ground.data }, { on := 19, ground := Ground.chain }, { on := 19, ground := Ground.guard }], guard := some (19, true) }) (v := undef) rfl (by kernel_rfl) (by kernel_rfl) (by kernel_rfl) (fun _ _ _ h => h) (Or.inr ⟨by kernel_rfl, rfl⟩) hHeld ?_
                    try simp only [Act.put, List.setIfInBounds_toArray, List.set_cons_zero, List.set_cons_succ]
                    refine wpAnyH_take (i := 23) (oi := { dst := some 110, op := Op.unOp UnOp.not 4 (Operand.tmp 109), type := 4, pos := "law.go:121", after := #[{ on := 22, ground := Ground.data }, { on := 19, ground := Ground.guard }], guard := some (19, true) }) (v := undef) rfl (by kernel_rfl) (by kernel_rfl) (by kernel_rfl) (fun _ _ _ h => h) (Or.inr ⟨by kernel_rfl, rfl⟩) hHeld ?_
                    try simp only [Act.put, List.setIfInBounds_toArray, List.set_cons_zero, List.set_cons_succ]
                    refine wpAnyH_take (i := 24) (oi := { dst := some 111, op := Op.pick (Operand.tmp 106) (Operand.tmp 110) (Operand.const (Value.bool false)), type := 4, pos := "law.go:121", after := #[{ on := 19, ground := Ground.data }, { on := 23, ground := Ground.data }, { on := 16, ground := Ground.guard }], guard := some (16, false) }) (v := ?_) rfl (by kernel_rfl) (by kernel_rfl) (by kernel_rfl) (fun _ _ _ h => h) (Or.inl ⟨by kernel_rfl, ?_⟩) hHeld ?_
                    rotate_left
                    · intro w hSw; go_simp; try with_reducible rfl
                    try simp only [Act.put, List.setIfInBounds_toArray, List.set_cons_zero, List.set_cons_succ]
                    refine wpAnyH_take (i := 25) (oi := { dst := some 112, op := Op.pick (Operand.tmp 103) (Operand.const (Value.bool true)) (Operand.tmp 111), type := 4, pos := "law.go:121", after := #[{ on := 16, ground := Ground.data }, { on := 24, ground := Ground.data }], guard := none }) (v := ?_) rfl (by kernel_rfl) (by kernel_rfl) (by kernel_rfl) (fun _ _ _ h => h) (Or.inl ⟨by kernel_rfl, ?_⟩) hHeld ?_
                    rotate_left
                    · intro w hSw; go_simp; try with_reducible rfl
                    try simp only [Act.put, List.setIfInBounds_toArray, List.set_cons_zero, List.set_cons_succ]
                    refine wpAnyH_done (by kernel_rfl) ?_ _
                    go_wp2_with fail
                    go_meet
                    exact ⟨rfl, hHeld⟩
                  case rest =>
                    obtain ⟨rfl, HC⟩ := hcut
                    have HP3 := Hid.mkW (HP4.out.below HC.out)
                    clear k14 L10 hld
                    go_upto_region 28 with fail
                    have hc1 : ∀ W, (Instr.sliceAt 47 (.slice (some ⟨gb, 0, none⟩) L.length c) none (some (.int .i64 (kk : Int))) none).run Tryd.prog W = .ok (.slice (some ⟨gb, 0, none⟩) kk c) W := mv_cut HP3.out.row (by have := HKL.out; omega) HP3.out.cap
                    obtain ⟨p2, hc2, hs2⟩ := HP3.out.cutB (k := kk + 1) HKL.out
                    have hc2' : ∀ W, (Instr.sliceAt 47 (.slice (some ⟨gb, 0, none⟩) L.length c) (some (.int .i64 ((kk : Int) + 1))) none none).run Tryd.prog W = .ok (.slice p2 (L.length - (kk + 1)) (c - (kk + 1))) W := hc2
                    have hwr : IntKind.i64.wrap ((kk : Int) + 1) = (kk : Int) + 1 := by
                      have := HKL.out
                      rw [IntKind.wrap_i64]; omega
                    have HS2 := Hid.mkW hs2
                    have HF1 : Hid ((wc.alloc (.cells #[] 28)).drew.ownsRow wc.heap.size 28 15 (.slice (some ⟨wc.heap.size, 0, none⟩) 0 0) 0 []) := (World.ownsRow_lit (size := 15) (e := 28) wc #[] 0 (Nat.le_refl _) (by decide) rfl).drew
                    have HA1 : Hid (Src Tryd.prog 15 47 (.slice (some ⟨gb, 0, none⟩) kk c) kk (mvsC (L.take kk)) (wc.alloc (.cells #[] 28)).drew) := HP3.out.cutA (by have := HKL.out; omega) ((Below.refl _ _).alloc (Nat.le_refl _) _).drew
                    clear hc2 hs2
                    go_region_law (first
                      | (refine step_appS _ rfl _ _ 47 47 rfl wc.heap.size 28 i28 _ 15 Tryd.underlying47 HI.out.1 HI.out.2.1 HI.out.2.2.1 rfl (by rw [HI.out.2.2.2]; decide) (.slice (some ⟨wc.heap.size, 0, none⟩) 0 0) 0 [] (by simp [Act.eval]; done) HF1.out (.slice (some ⟨gb, 0, none⟩) kk c) (by simp [Act.eval]; done) kk (mvsC (L.take kk)) HA1.out (by have := HKL.out; omega) (by simp) ?_
                         intro va wa q1 q2 q3 _q4
                         obtain ⟨pq, cq, rfl, HER⟩ := HP3.out.eraseR HKL.out q1 q2 q3
                         clear q1 q2 q3 _q4)
                      | (refine step_appS _ rfl _ _ 47 47 rfl wc.heap.size 28 i28 _ 15 Tryd.underlying47 HI.out.1 HI.out.2.1 HI.out.2.2.1 rfl (by rw [HI.out.2.2.2]; decide) (.slice pq kk cq) kk (mvsC (L.take kk)) (by simp [Act.eval]; done) (HER.out _ (by first | exact .inl rfl | exact .inr rfl)).1 (.slice p2 (L.length - (kk + 1)) (c - (kk + 1))) (by simp [Act.eval]; done) (L.length - (kk + 1)) (mvsC (L.drop (kk + 1))) (HS2.out _ (HER.out _ (by first | exact .inl rfl | exact .inr rfl)).2.1) (by have := HKL.out; omega) (HER.out _ (by first | exact .inl rfl | exact .inr rfl)).2.2.1 ?_
                         intro vb wb q1 q2 q3 _q4
                         obtain ⟨pb, cb, rfl, hfin⟩ := (HER.out _ (by first | exact .inl rfl | exact .inr rfl)).2.2.2 vb wb q1 q2 q3
                         clear q1 q2 q3 _q4))
                    all_goals
                      go_wp2_with fail
                      go_meet
                      exact ⟨L.eraseIdx kk, pb, cb, by rw [List.length_eraseIdx]; simp [HKL.out], by rw [List.length_eraseIdx]; simp [HKL.out]; omega, by rw [show (L.eraseIdx kk).length = L.length - 1 by rw [List.length_eraseIdx]; simp [HKL.out]]; exact ⟨_, _, hfin.out⟩⟩
              · have e1 : (ai == 1) = false := beq_eq_false_iff_ne.2 a1
                by_cases a2 : ai = 2
                · have e2 : (ai == 2) = true := beq_iff_eq.2 a2
                  clear a0 a1 a2
                  go_upto_region 30 with fail
                  rcases HKW.out with ⟨h1, h2, h3⟩ | ⟨h1, h2, h3⟩
                  · have hdr := (show Pm w wc d d v bs (.slice p L.length c) L L bc x from HM0.out)
                    rw [h1] at hdr
                    have hdr2 := hdr.drop0 x.n
                    have HN : Hid (L = []) := h1
                    have n1 : ((2 : Int) != ww) = false := by rw [h3]; rfl
                    have n2 : (ww == 0) = false := by rw [h3]; rfl
                    clear h1 h2 h3 hdr HKW HM0 z0 z2
                    go_wp2_with (go_at_call 20; refine hdr2.mono ?_; rintro e w3 ⟨rfl, HP3⟩)
                    go_meet
                    exact ⟨L, p, c, rfl, by omega, by rw [HN.out]; exact ⟨_, _, HP3.out⟩⟩
                  · obtain ⟨y, hy⟩ : ∃ y, L[kk]? = some y := ⟨_, List.getElem?_eq_getElem h1⟩
                    have hdr2 := HM0.out.drop x.n kk y h2.symm hy (by omega)
                    have HKL : Hid (kk < L.length) := h1
                    have n1 : ((0 : Int) != ww) = false := by rw [h3]; rfl
                    have n2 : (ww == 0) = true := by rw [h3]; rfl
                    clear h2 h3 hy HKW HM0 z0 z2
                    go_upto_region 33 with (go_at_call 20; refine hdr2.mono ?_; rintro e w3 ⟨rfl, v3, bs3, HP3⟩)
                    have hc1 : ∀ W, (Instr.sliceAt 47 (.slice p L.length c) none (some (.int .i64 (kk : Int))) none).run Tryd.prog W = .ok (.slice p kk c) W := mv_cut HP3.out.row (by have := HKL.out; omega) HP3.out.cap
                    obtain ⟨p2, hc2, hs2⟩ := HP3.out.cutB (k := kk + 1) HKL.out
                    have hc2' : ∀ W, (Instr.sliceAt 47 (.slice p L.length c) (some (.int .i64 ((kk : Int) + 1))) none none).run Tryd.prog W = .ok (.slice p2 (L.length - (kk + 1)) (c - (kk + 1))) W := hc2
                    have hwr : IntKind.i64.wrap ((kk : Int) + 1) = (kk : Int) + 1 := by
                      have := HKL.out
                      rw [IntKind.wrap_i64]; omega
                    have HS2 := Hid.mkW hs2
                    have HF1 : Hid ((w3.alloc (.cells #[] 28)).drew.ownsRow w3.heap.size 28 15 (.slice (some ⟨w3.heap.size, 0, none⟩) 0 0) 0 []) := (World.ownsRow_lit (size := 15) (e := 28) w3 #[] 0 (Nat.le_refl _) (by decide) rfl).drew
                    have HA1 : Hid (Src Tryd.prog 15 47 (.slice p kk c) kk (mvsC (L.take kk)) (w3.alloc (.cells #[] 28)).drew) := HP3.out.cutA (by have := HKL.out; omega) ((Below.refl _ _).alloc (Nat.le_refl _) _).drew
                    clear hc2 hs2
                    go_region_law (first
                      | (refine step_appS _ rfl _ _ 47 47 rfl w3.heap.size 28 i28 _ 15 Tryd.underlying47 HI.out.1 HI.out.2.1 HI.out.2.2.1 rfl (by rw [HI.out.2.2.2]; decide) (.slice (some ⟨w3.heap.size, 0, none⟩) 0 0) 0 [] (by simp [Act.eval]; done) HF1.out (.slice p kk c) (by simp [Act.eval]; done) kk (mvsC (L.take kk)) HA1.out (by have := HKL.out; omega) (by simp) ?_
                         intro va wa q1 q2 q3 _q4
                         obtain ⟨pq, cq, rfl, HER⟩ := HP3.out.eraseR HKL.out q1 q2 q3
                         clear q1 q2 q3 _q4)
                      | (refine step_appS _ rfl _ _ 47 47 rfl w3.heap.size 28 i28 _ 15 Tryd.underlying47 HI.out.1 HI.out.2.1 HI.out.2.2.1 rfl (by rw [HI.out.2.2.2]; decide) (.slice pq kk cq) kk (mvsC (L.take kk)) (by simp [Act.eval]; done) (HER.out _ (by first | exact .inl rfl | exact .inr rfl)).1 (.slice p2 (L.length - (kk + 1)) (c - (kk + 1))) (by simp [Act.eval]; done) (L.length - (kk + 1)) (mvsC (L.drop (kk + 1))) (HS2.out _ (HER.out _ (by first | exact .inl rfl | exact .inr rfl)).2.1) (by have := HKL.out; omega) (HER.out _ (by first | exact .inl rfl | exact .inr rfl)).2.2.1 ?_
                         intro vb wb q1 q2 q3 _q4
                         obtain ⟨pb, cb, rfl, hfin⟩ := (HER.out _ (by first | exact .inl rfl | exact .inr rfl)).2.2.2 vb wb q1 q2 q3
                         clear q1 q2 q3 _q4))
                    all_goals
                      go_wp2_with fail
                      go_meet
                      exact ⟨L.eraseIdx kk, pb, cb, by rw [List.length_eraseIdx]; simp [HKL.out], by rw [List.length_eraseIdx]; simp [HKL.out]; omega, by rw [show (L.eraseIdx kk).length = L.length - 1 by rw [List.length_eraseIdx]; simp [HKL.out]]; exact ⟨_, _, hfin.out⟩⟩
                · have e2 : (ai == 2) = false := beq_eq_false_iff_ne.2 a2
                  have e3 : (ai == 3) = true := by simp; omega
                  clear a0 a1 a2
                  go_upto_region 35 with fail
                  rcases HKW.out with ⟨h1, h2, h3⟩ | ⟨h1, h2, h3⟩
                  · have hdr := (show Pm w wc d d v bs (.slice p L.length c) L L bc x from HM0.out)
                    rw [h1] at hdr
                    have hdr2 := hdr.double0 x.n
                    have HN : Hid (L = []) := h1
                    have n1 : ((2 : Int) != ww) = false := by rw [h3]; rfl
                    have n2 : (ww == 0) = false := by rw [h3]; rfl
                    clear h1 h2 h3 hdr HKW HM0 z0 z2
                    go_wp2_with (go_at_call 21; refine hdr2.mono ?_; rintro e w3 ⟨rfl, HP3⟩)
                    go_meet
                    exact ⟨L, p, c, rfl, by omega, by rw [HN.out]; exact ⟨_, _, HP3.out⟩⟩
                  · obtain ⟨y, hy⟩ : ∃ y, L[kk]? = some y := ⟨_, List.getElem?_eq_getElem h1⟩
                    have hdr2 := HM0.out.double x.n kk y h2.symm hy (by omega)
                    have HKL : Hid (kk < L.length) := h1
                    have HYK := Hid.mkW hy
                    obtain ⟨gb, c4, e4, _, _⟩ := owns_formB HM0.out.row (show 0 < L.length by omega)
                    cases e4
                    have n1 : ((0 : Int) != ww) = false := by rw [h3]; rfl
                    have n2 : (ww == 0) = true := by rw [h3]; rfl
                    have HOK := Hid.mkW (HM0.out.okL y (List.mem_of_getElem? hy))
                    clear h2 h3 hy HKW HM0 z0 z2
                    go_upto_region 38 with (go_at_call 21; refine hdr2.mono ?_; rintro e w3 ⟨rfl, v3, bs3, HP3⟩)
                    clear hdr2
                    obtain ⟨R, hR⟩ : ∃ R, R = mrow y.m y.e y.v y.d := ⟨_, rfl⟩
                    have HR := Hid.mkW hR
                    have hld := HP3.out.load HYK.out hR
                    have HAL : Hid (∀ V, Below w3.heap.size w3 V → Src Tryd.prog 15 47 (.slice (some ⟨gb, 0, none⟩) L.length c) L.length (mvsC L) V) := fun V hV => HP3.out.all hV
                    clear hR
                    refine wp_region_held_drew (S := Below w3.heap.size w3) (by kernel_rfl) (Below.refl w3.heap.size w3).drew (fun hHeld => ?_)
                    refine wpAnyH_take (i := 1) (oi := { dst := some 156, op := Op.move (Operand.tmp 4), type := 47, pos := "law.go:139", after := #[], guard := none }) (v := ?_) rfl (by kernel_rfl) (by kernel_rfl) (by kernel_rfl) (fun _ _ _ h => h) (Or.inl ⟨by kernel_rfl, ?_⟩) hHeld ?_
                    rotate_left
                    · intro w hSw; go_simp; try with_reducible rfl
                    try simp only [Act.put, List.setIfInBounds_toArray, List.set_cons_zero, List.set_cons_succ]
                    refine wpAnyH_take (i := 3) (oi := { dst := some 158, op := Op.move (Operand.tmp 4), type := 47, pos := "law.go:139", after := #[], guard := none }) (v := ?_) rfl (by kernel_rfl) (by kernel_rfl) (by kernel_rfl) (fun _ _ _ h => h) (Or.inl ⟨by kernel_rfl, ?_⟩) hHeld ?_
                    rotate_left
                    · intro w hSw; go_simp; try with_reducible rfl
                    try simp only [Act.put, List.setIfInBounds_toArray, List.set_cons_zero, List.set_cons_succ]
                    refine wpAnyH_take (i := 4) (oi := { dst := some 159, op := Op.move (Operand.tmp 7), type := 3, pos := "law.go:139", after := #[], guard := none }) (v := ?_) rfl (by kernel_rfl) (by kernel_rfl) (by kernel_rfl) (fun _ _ _ h => h) (Or.inl ⟨by kernel_rfl, ?_⟩) hHeld ?_
                    rotate_left
                    · intro w hSw; go_simp; try with_reducible rfl
                    try simp only [Act.put, List.setIfInBounds_toArray, List.set_cons_zero, List.set_cons_succ]
                    refine wpAnyH_take (i := 5) (oi := { dst := some 160, op := Op.indexAddr 47 (Operand.tmp 158) (Operand.tmp 159), type := 0, pos := "law.go:139", after := #[{ on := 3, ground := Ground.data }, { on := 4, ground := Ground.data }], guard := none }) (v := ?_) rfl (by kernel_rfl) (by kernel_rfl) (by kernel_rfl) (fun _ _ _ h => h) (Or.inl ⟨by kernel_rfl, ?_⟩) hHeld ?_
                    rotate_left
                    · intro w hSw; go_simp; try with_reducible rfl
                    try simp only [Act.put, List.setIfInBounds_toArray, List.set_cons_zero, List.set_cons_succ]
                    refine take_loadO (oi := { dst := some 161, op := Op.load 28 (Operand.tmp 160), type := 28, pos := "law.go:139", after := #[{ on := 5, ground := Ground.data }], guard := none }) (x := Operand.tmp 160) 6 gb (kk * 15) R rfl (by kernel_rfl) (by kernel_rfl) (by kernel_rfl) (fun _ _ _ h => h) (by kernel_rfl) rfl (by kernel_rfl) hld hHeld ?_
                    try simp only [Act.put, List.setIfInBounds_toArray, List.set_cons_zero, List.set_cons_succ]
                    refine wpAnyH_ready (rs := [0, 7]) (by kernel_rfl) (by simp) ?_
                    refine AllReadyH.cons rfl (fun K hK => ?_) ?_
                    ·
                      go_simp
                      refine hK.out _ _ (hHeld.alloc hHeld.size _) (fun hHeld => ?_)
                      clear hK K
                      try simp only [Act.put, List.setIfInBounds_toArray, List.set_cons_zero, List.set_cons_succ]
                      refine wpAnyH_ready (rs := [2, 7]) (by kernel_rfl) (by simp) ?_
                      refine AllReadyH.cons rfl (fun K hK => ?_) ?_
                      ·
                        have hX := hHeld
                        have hrow : ((w3.drew).alloc (.cells #[] 28)).ownsRow w3.heap.size 28 15 (.slice (some ⟨((w3.drew).heap.size), 0, none⟩) 0 0) 0 [] := World.ownsRow_lit (size := 15) (e := 28) (w3.drew) #[] 0 (by simp) (by decide) rfl
                        refine step_appS _ rfl _ _ 47 47 rfl w3.heap.size 28 i28 _ 15 Tryd.underlying47 HI.out.1 HI.out.2.1 HI.out.2.2.1 rfl (by rw [HI.out.2.2.2]; decide) (.slice (some ⟨(w3.drew).heap.size, 0, none⟩) 0 0) 0 [] (by simp [Act.eval]; done) hrow (.slice (some ⟨gb, 0, none⟩) L.length c) (by simp [Act.eval]; done) L.length (mvsC L) (HAL.out _ hX) (by have := HKL.out; omega) hX.size ?_
                        intro va wa q1 q2 q3 _q4
                        obtain ⟨pq, cq, rfl, ow, hbw⟩ := dup_one hX (by simp) q1 q2
                        have hszw := q2.size
                        clear q1 q2 q3 _q4 hrow hX
                        go_simp
                        refine hK.out _ _ hbw (fun hHeld => ?_)
                        clear hK K
                        try simp only [Act.put, List.setIfInBounds_toArray, List.set_cons_zero, List.set_cons_succ]
                        refine wpAnyH_ready (rs := [7]) (by kernel_rfl) (by simp) ?_
                        refine AllReadyH.cons rfl (fun K hK => ?_) AllReadyH.nil
                        refine step_build_msg rfl _ rfl i28 HI.out.1 HI.out.2.1 HI.out.2.2.1 R y.m y.e y.v y.d HR.out rfl ?_
                        go_simp
                        refine hK.out _ _ (hHeld.alloc hHeld.size _) (fun hHeld => ?_)
                        clear hK K
                        try simp only [Act.put, List.setIfInBounds_toArray, List.set_cons_zero, List.set_cons_succ]
                        try simp only [Act.put, List.setIfInBounds_toArray, List.set_cons_zero, List.set_cons_succ]
                        refine wpAnyH_ready (rs := [8]) (by kernel_rfl) (by simp) ?_
                        refine AllReadyH.cons rfl (fun K hK => ?_) AllReadyH.nil
                        have own2 : ((wa).alloc (.cells R 28)).ownsRow w3.heap.size 28 15 (.slice pq L.length cq) L.length (mvsC L) := ow.alloc _
                        have hgb2 : Bx ((wa).heap.size) R 28 ((wa).alloc (.cells R 28)) := row_alloc wa R 28
                        have hlt2 : w3.heap.size < ((wa).alloc (.cells R 28)).heap.size := by simp at hszw ⊢; omega
                        refine step_appS _ rfl _ _ 47 47 rfl w3.heap.size 28 i28 _ 15 Tryd.underlying47 HI.out.1 HI.out.2.1 HI.out.2.2.1 rfl (by rw [HI.out.2.2.2]; decide) (.slice pq L.length cq) L.length (mvsC L) (by simp [Act.eval]; done) own2 (.slice (some ⟨(wa).heap.size, 0, none⟩) 1 1) (by simp [Act.eval]; done) 1 (mvC y) (src_box HOK.out.1 HR.out hgb2) (by have := HKL.out; omega) hHeld.size ?_
                        intro vb wb q1 q2 q3 _q4
                        obtain ⟨pb, cb, rfl, hfin⟩ := HP3.out.dup hHeld hlt2 own2 q1 q2
                        have hsb := hHeld.trans (q2.below hHeld.size (fun j hj e => by have := (own2.lt j e.symm).1; omega))
                        clear q1 q2 q3 _q4
                        go_simp
                        refine hK.out _ _ hsb (fun hHeld => ?_)
                        clear hK K
                        try simp only [Act.put, List.setIfInBounds_toArray, List.set_cons_zero, List.set_cons_succ]
                        refine wpAnyH_take (i := 9) (oi := { dst := some 4, op := Op.assign (Operand.tmp 163), type := 47, pos := "law.go:139", after := #[{ on := 8, ground := Ground.data }, { on := 8, ground := Ground.chain }, { on := 0, ground := Ground.phase }, { on := 1, ground := Ground.phase }, { on := 2, ground := Ground.phase }, { on := 3, ground := Ground.phase }, { on := 4, ground := Ground.phase }, { on := 5, ground := Ground.phase }, { on := 6, ground := Ground.phase }, { on := 7, ground := Ground.phase }, { on := 8, ground := Ground.phase }], guard := none }) (v := ?_) rfl (by kernel_rfl) (by kernel_rfl) (by kernel_rfl) (fun _ _ _ h => h) (Or.inl ⟨by kernel_rfl, ?_⟩) hHeld ?_
                        rotate_left
                        · intro w hSw; go_simp; try with_reducible rfl
                        try simp only [Act.put, List.setIfInBounds_toArray, List.set_cons_zero, List.set_cons_succ]
                        refine wpAnyH_done (by kernel_rfl) ?_ _
                        go_wp2_with fail
                        go_meet
                        exact ⟨L ++ [y], pb, cb, by rw [List.length_append]; rfl, by rw [List.length_append]; show L.length + 1 ≤ _; omega, by show ∃ _ _, _; rw [List.length_append]; exact ⟨_, _, hfin.out⟩⟩
                      refine AllReadyH.cons rfl (fun K hK => ?_) AllReadyH.nil
                      refine step_build_msg rfl _ rfl i28 HI.out.1 HI.out.2.1 HI.out.2.2.1 R y.m y.e y.v y.d HR.out rfl ?_
                      go_simp
                      refine hK.out _ _ (hHeld.alloc hHeld.size _) (fun hHeld => ?_)
                      clear hK K
                      try simp only [Act.put, List.setIfInBounds_toArray, List.set_cons_zero, List.set_cons_succ]
                      try simp only [Act.put, List.setIfInBounds_toArray, List.set_cons_zero, List.set_cons_succ]
                      refine wpAnyH_ready (rs := [2]) (by kernel_rfl) (by simp) ?_
                      refine AllReadyH.cons rfl (fun K hK => ?_) AllReadyH.nil
                      have hX := hHeld
                      have hrow : (((w3.drew).alloc (.cells #[] 28)).alloc (.cells R 28)).ownsRow w3.heap.size 28 15 (.slice (some ⟨((w3.drew).heap.size), 0, none⟩) 0 0) 0 [] := (World.ownsRow_lit (size := 15) (e := 28) (w3.drew) #[] 0 (by simp) (by decide) rfl).alloc _
                      refine step_appS _ rfl _ _ 47 47 rfl w3.heap.size 28 i28 _ 15 Tryd.underlying47 HI.out.1 HI.out.2.1 HI.out.2.2.1 rfl (by rw [HI.out.2.2.2]; decide) (.slice (some ⟨(w3.drew).heap.size, 0, none⟩) 0 0) 0 [] (by simp [Act.eval]; done) hrow (.slice (some ⟨gb, 0, none⟩) L.length c) (by simp [Act.eval]; done) L.length (mvsC L) (HAL.out _ hX) (by have := HKL.out; omega) hX.size ?_
                      intro va wa q1 q2 q3 _q4
                      obtain ⟨pq, cq, rfl, ow, hbw⟩ := dup_one hX (by simp) q1 q2
                      have hszw := q2.size
                      have hgB : Bx (((w3.drew).alloc (.cells #[] 28)).heap.size) R 28 wa := Bx.upd (w := ((w3.drew).alloc (.cells #[] 28)).alloc (.cells R 28)) (show Bx (((w3.drew).alloc (.cells #[] 28)).heap.size) R 28 (((w3.drew).alloc (.cells #[] 28)).alloc (.cells R 28)) from row_alloc _ R 28) q2 (fun e => by have e1 : some (((w3.drew).alloc (.cells #[] 28)).heap.size) = some ((w3.drew).heap.size) := e; simp at e1)
                      clear q1 q2 q3 _q4 hrow hX
                      go_simp
                      refine hK.out _ _ hbw (fun hHeld => ?_)
                      clear hK K
                      try simp only [Act.put, List.setIfInBounds_toArray, List.set_cons_zero, List.set_cons_succ]
                      refine wpAnyH_ready (rs := [8]) (by kernel_rfl) (by simp) ?_
                      refine AllReadyH.cons rfl (fun K hK => ?_) AllReadyH.nil
                      have own2 : (wa).ownsRow w3.heap.size 28 15 (.slice pq L.length cq) L.length (mvsC L) := ow
                      have hgb2 : Bx (((w3.drew).alloc (.cells #[] 28)).heap.size) R 28 (wa) := hgB
                      have hlt2 : w3.heap.size < (wa).heap.size := by simp at hszw ⊢; omega
                      refine step_appS _ rfl _ _ 47 47 rfl w3.heap.size 28 i28 _ 15 Tryd.underlying47 HI.out.1 HI.out.2.1 HI.out.2.2.1 rfl (by rw [HI.out.2.2.2]; decide) (.slice pq L.length cq) L.length (mvsC L) (by simp [Act.eval]; done) own2 (.slice (some ⟨((w3.drew).alloc (.cells #[] 28)).heap.size, 0, none⟩) 1 1) (by simp [Act.eval]; done) 1 (mvC y) (src_box HOK.out.1 HR.out hgb2) (by have := HKL.out; omega) hHeld.size ?_
                      intro vb wb q1 q2 q3 _q4
                      obtain ⟨pb, cb, rfl, hfin⟩ := HP3.out.dup hHeld hlt2 own2 q1 q2
                      have hsb := hHeld.trans (q2.below hHeld.size (fun j hj e => by have := (own2.lt j e.symm).1; omega))
                      clear q1 q2 q3 _q4
                      go_simp
                      refine hK.out _ _ hsb (fun hHeld => ?_)
                      clear hK K
                      try simp only [Act.put, List.setIfInBounds_toArray, List.set_cons_zero, List.set_cons_succ]
                      refine wpAnyH_take (i := 9) (oi := { dst := some 4, op := Op.assign (Operand.tmp 163), type := 47, pos := "law.go:139", after := #[{ on := 8, ground := Ground.data }, { on := 8, ground := Ground.chain }, { on := 0, ground := Ground.phase }, { on := 1, ground := Ground.phase }, { on := 2, ground := Ground.phase }, { on := 3, ground := Ground.phase }, { on := 4, ground := Ground.phase }, { on := 5, ground := Ground.phase }, { on := 6, ground := Ground.phase }, { on := 7, ground := Ground.phase }, { on := 8, ground := Ground.phase }], guard := none }) (v := ?_) rfl (by kernel_rfl) (by kernel_rfl) (by kernel_rfl) (fun _ _ _ h => h) (Or.inl ⟨by kernel_rfl, ?_⟩) hHeld ?_
                      rotate_left
                      · intro w hSw; go_simp; try with_reducible rfl
                      try simp only [Act.put, List.setIfInBounds_toArray, List.set_cons_zero, List.set_cons_succ]
                      refine wpAnyH_done (by kernel_rfl) ?_ _
                      go_wp2_with fail
                      go_meet
                      exact ⟨L ++ [y], pb, cb, by rw [List.length_append]; rfl, by rw [List.length_append]; show L.length + 1 ≤ _; omega, by show ∃ _ _, _; rw [List.length_append]; exact ⟨_, _, hfin.out⟩⟩
                    refine AllReadyH.cons rfl (fun K hK => ?_) AllReadyH.nil
                    refine step_build_msg rfl _ rfl i28 HI.out.1 HI.out.2.1 HI.out.2.2.1 R y.m y.e y.v y.d HR.out rfl ?_
                    go_simp
                    refine hK.out _ _ (hHeld.alloc hHeld.size _) (fun hHeld => ?_)
                    clear hK K
                    try simp only [Act.put, List.setIfInBounds_toArray, List.set_cons_zero, List.set_cons_succ]
                    try simp only [Act.put, List.setIfInBounds_toArray, List.set_cons_zero, List.set_cons_succ]
                    refine wpAnyH_ready (rs := [0]) (by kernel_rfl) (by simp) ?_
                    refine AllReadyH.cons rfl (fun K hK => ?_) AllReadyH.nil
                    go_simp
                    refine hK.out _ _ (hHeld.alloc hHeld.size _) (fun hHeld => ?_)
                    clear hK K
                    try simp only [Act.put, List.setIfInBounds_toArray, List.set_cons_zero, List.set_cons_succ]
                    refine wpAnyH_ready (rs := [2]) (by kernel_rfl) (by simp) ?_
                    refine AllReadyH.cons rfl (fun K hK => ?_) AllReadyH.nil
                    have hX := hHeld
                    have hrow : (((w3.drew).alloc (.cells R 28)).alloc (.cells #[] 28)).ownsRow w3.heap.size 28 15 (.slice (some ⟨(((w3.drew).alloc (.cells R 28)).heap.size), 0, none⟩) 0 0) 0 [] := World.ownsRow_lit (size := 15) (e := 28) (w3.drew.alloc (.cells R 28)) #[] 0 (by simp) (by decide) rfl
                    refine step_appS _ rfl _ _ 47 47 rfl w3.heap.size 28 i28 _ 15 Tryd.underlying47 HI.out.1 HI.out.2.1 HI.out.2.2.1 rfl (by rw [HI.out.2.2.2]; decide) (.slice (some ⟨((w3.drew).alloc (.cells R 28)).heap.size, 0, none⟩) 0 0) 0 [] (by simp [Act.eval]; done) hrow (.slice (some ⟨gb, 0, none⟩) L.length c) (by simp [Act.eval]; done) L.length (mvsC L) (HAL.out _ hX) (by have := HKL.out; omega) hX.size ?_
                    intro va wa q1 q2 q3 _q4
                    obtain ⟨pq, cq, rfl, ow, hbw⟩ := dup_one hX (by simp) q1 q2
                    have hszw := q2.size
                    have hgB : Bx ((w3.drew).heap.size) R 28 wa := Bx.upd (w := ((w3.drew).alloc (.cells R 28)).alloc (.cells #[] 28)) (show Bx ((w3.drew).heap.size) R 28 (((w3.drew).alloc (.cells R 28)).alloc (.cells #[] 28)) from Bx.below (row_alloc w3.drew R 28) ((Below.refl _ _).alloc (Nat.le_refl _) _)) q2 (fun e => by have e1 : some ((w3.drew).heap.size) = some (((w3.drew).alloc (.cells R 28)).heap.size) := e; simp at e1)
                    clear q1 q2 q3 _q4 hrow hX
                    go_simp
                    refine hK.out _ _ hbw (fun hHeld => ?_)
                    clear hK K
                    try simp only [Act.put, List.setIfInBounds_toArray, List.set_cons_zero, List.set_cons_succ]
                    refine wpAnyH_ready (rs := [8]) (by kernel_rfl) (by simp) ?_
                    refine AllReadyH.cons rfl (fun K hK => ?_) AllReadyH.nil
                    have own2 : (wa).ownsRow w3.heap.size 28 15 (.slice pq L.length cq) L.length (mvsC L) := ow
                    have hgb2 : Bx ((w3.drew).heap.size) R 28 (wa) := hgB
                    have hlt2 : w3.heap.size < (wa).heap.size := by simp at hszw ⊢; omega
                    refine step_appS _ rfl _ _ 47 47 rfl w3.heap.size 28 i28 _ 15 Tryd.underlying47 HI.out.1 HI.out.2.1 HI.out.2.2.1 rfl (by rw [HI.out.2.2.2]; decide) (.slice pq L.length cq) L.length (mvsC L) (by simp [Act.eval]; done) own2 (.slice (some ⟨(w3.drew).heap.size, 0, none⟩) 1 1) (by simp [Act.eval]; done) 1 (mvC y) (src_box HOK.out.1 HR.out hgb2) (by have := HKL.out; omega) hHeld.size ?_
                    intro vb wb q1 q2 q3 _q4
                    obtain ⟨pb, cb, rfl, hfin⟩ := HP3.out.dup hHeld hlt2 own2 q1 q2
                    have hsb := hHeld.trans (q2.below hHeld.size (fun j hj e => by have := (own2.lt j e.symm).1; omega))
                    clear q1 q2 q3 _q4
                    go_simp
                    refine hK.out _ _ hsb (fun hHeld => ?_)
                    clear hK K
                    try simp only [Act.put, List.setIfInBounds_toArray, List.set_cons_zero, List.set_cons_succ]
                    refine wpAnyH_take (i := 9) (oi := { dst := some 4, op := Op.assign (Operand.tmp 163), type := 47, pos := "law.go:139", after := #[{ on := 8, ground := Ground.data }, { on := 8, ground := Ground.chain }, { on := 0, ground := Ground.phase }, { on := 1, ground := Ground.phase }, { on := 2, ground := Ground.phase }, { on := 3, ground := Ground.phase }, { on := 4, ground := Ground.phase }, { on := 5, ground := Ground.phase }, { on := 6, ground := Ground.phase }, { on := 7, ground := Ground.phase }, { on := 8, ground := Ground.phase }], guard := none }) (v := ?_) rfl (by kernel_rfl) (by kernel_rfl) (by kernel_rfl) (fun _ _ _ h => h) (Or.inl ⟨by kernel_rfl, ?_⟩) hHeld ?_
                    rotate_left
                    · intro w hSw; go_simp; try with_reducible rfl
                    try simp only [Act.put, List.setIfInBounds_toArray, List.set_cons_zero, List.set_cons_succ]
                    refine wpAnyH_done (by kernel_rfl) ?_ _
                    go_wp2_with fail
                    go_meet
                    exact ⟨L ++ [y], pb, cb, by rw [List.length_append]; rfl, by rw [List.length_append]; show L.length + 1 ≤ _; omega, by show ∃ _ _, _; rw [List.length_append]; exact ⟨_, _, hfin.out⟩⟩
          case rest =>
            obtain ⟨L', p', c', rfl, hLl', HM⟩ := hcut
            obtain ⟨v', bs', hm⟩ := HM.out
            have hlen := hm.len
            have hbne : ((L'.length : Int) != (L'.length : Int)) = false := by simp
            have HE : Hid (∃ v bs, Ps w wc d d v bs (.slice p' L'.length c') L') := ⟨_, _, hm.ps⟩
            clear hm
            go_wp2_with (go_at_call 22; refine hlen.mono ?_; rintro e w3 ⟨rfl, hw3⟩; obtain rfl := hw3.symm)
            go_roundg (100 - i)
            case measure => omega
            case rel => exact ⟨i + 1, L', p', c', by congr 1, rfl, by omega, by omega, by omega, hLl', HE⟩
    · have hor : (i < cs.length ∧ ¬ (i : Int) < 100) ∨ ¬ i < cs.length := by
        by_cases h1 : i < cs.length
        · exact .inl ⟨h1, by omega⟩
        · exact .inr h1
      obtain ⟨v, bs, hps⟩ := HP.out
      have HB := Hid.mkW hps.u
      clear hps hlt
      rcases hor with ⟨h1, h2⟩ | h1
      all_goals
        go_wp2
        go_ret
        exact ⟨rfl, HB.out⟩
end Go.Proofs.YtamgoknoapcnjaaDoor
