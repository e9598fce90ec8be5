/- DiskStays, walked: what was synced stays, whatever is done to other files, and however often the disk crashes; what was not is a front. -/
import Derived.Test.YtmfhfabfhoiegaaStaysP
import Derived.BigRegion
import Derived.Deep.RegionLaw
import Derived.Deep.RegionHeldLaw
namespace Go.Proofs.Ytmfhfabfhoiegaa
open Go Go.RowKit
theorem zz_ne {s : ByteArray} (h : ¬ s.data.toList = zz) : (s.toList == [122, 122]) = false := by rw [ByteArray.toList_eq]; exact beq_eq_false_iff_ne.2 h
theorem zz_eq {s : ByteArray} (h : s.data.toList = zz) : (s.toList == [122, 122]) = true := by rw [ByteArray.toList_eq, h]; rfl
theorem step_app_w {P : Program} (w : World) {ops : Array Oper} {o : Oper} {a : Act} {K : Act → World → Prop} {Q : Exit → Act → World → Prop} {E : Prop} (hwt : Region.wanted o (yielded ops a.tmps) = true) (s x : Operand) (t tx : TypeId) (ho : o.op = .call { callee := .builtin .append, args := #[s, x], argTypes := #[t, tx] })
    (base : Nat) (e : TypeId) (i : TypeInfo) (ht : P.underlying t = some (.slice e)) (hi : P.info? e = some i) (hz : i.zero = some (.int .u8 0)) (hsize : i.size = 1) (hby : i.bytes = 1)
    (v : Value) (n : Nat) (xs : List Value) (hev : a.eval s = v) (hown : w.ownsRow base e 1 v n xs) (vx : Value) (hex : a.eval x = vx) (m : Nat) (news : List Value) (hs : Src P 1 tx vx m news w) (hb : n + m ≤ 1000000000) (hbase : base ≤ w.heap.size)
    (h : ∀ v' w', w'.ownsRow base e 1 v' (n + m) (xs ++ news) → Upd w w' (fun k => some k = v.ownBlock) → (v'.ownBlock = v.ownBlock ∨ v'.ownBlock = some w.heap.size) → (v.ownBlock ≠ none ∨ 0 < m → v'.ownBlock ≠ none) → K (a.put o.dst v') w') :
    if Region.wanted o (yielded ops a.tmps) = true then Oper.wp P o a w K Q else E := by
  rw [if_pos hwt]
  exact wp_app w s x t tx ho base e i ht hi hz hsize hby v n xs hev hown vx hex m news hs hb hbase h
theorem staysRel_below {B d k : Nat} {w0 w w' : World} {a b : List Int} (h : staysRel B w0 w d a b k) (hb : Below w.heap.size w w') (hB : B ≤ w0.heap.size := by exact Nat.le_refl _) : staysRel B w0 w' d a b k := by
  obtain ⟨g, p, o, q1, q2, q3, q4⟩ := h
  exact ⟨g, p, o, q1.below hb, q2, q3, q4.trans (hb.mono (by have := q4.size; omega))⟩
theorem two_apps {N : Nat} {w6 : World} {v1 v2 : Value} {a b xs : List Int} (hne : v1.ownBlock ≠ none) (t1 : w6.ownsRow N 5 1 v2 (a.length + b.length) (u8s a ++ u8s b)) (t4 : v1.ownBlock ≠ none ∨ 0 < b.length → v2.ownBlock ≠ none) (hxe : xs = (a ++ b).take xs.length) (hx2 : xs.length ≤ a.length + b.length) :
    ∃ lg lc, v2 = .slice (some ⟨lg, 0, none⟩) (a.length + b.length) lc ∧ xs.length ≤ lc ∧ (convert 31 9 (.slice (some ⟨lg, 0, none⟩) xs.length lc)).run Try.prog w6 = .ok (.string (strOfNums xs)) w6 := by
  have hv2 := t4 (.inl hne)
  obtain ⟨lg, lc, hv2e, hlc⟩ : ∃ lg lc, v2 = .slice (some ⟨lg, 0, none⟩) (a.length + b.length) lc ∧ a.length + b.length ≤ lc := by
    rcases t1.2 with ⟨e, _⟩ | ⟨g', c', cur, e, _, _, hc, _⟩
    · rw [e] at hv2; exact absurd rfl hv2
    · exact ⟨g', c', e, hc⟩
  have t1' : w6.ownsRow N 5 1 v2 (a ++ b).length (u8s (a ++ b)) := by
    rw [List.length_append, show u8s (a ++ b) = u8s a ++ u8s b from by simp [u8s]]; exact t1
  have hcut := own_cut t1' (by rw [hv2e, List.length_append]) xs.length (by rw [List.length_append]; omega)
  rw [← hxe] at hcut
  exact ⟨lg, lc, hv2e, by omega, conv_sees (sees_own hcut)⟩
set_option maxRecDepth 100000 in
set_option maxHeartbeats 4000000 in
theorem stays_short (va vb vc vp : Value) (a b : List Int) (cs : List Cl) (picks : List Int) (w : World) (ha : Sees w va a) (hab : isB a) (hb : Sees w vb b) (hbb : isB b) (hc : SeesC w vc cs) (hp : SeesI w vp picks) (hl : a.length + b.length ≤ 1000) :
    Calls Try.prog 4 #[va, vb, vc, vp] w fun e w' => e = .returned (.bool true) ∧ Below w.heap.size w w' := by
  obtain ⟨ao, ac, hva⟩ := ha.form
  obtain ⟨bo, bc, hvb⟩ := hb.form
  obtain ⟨co, cc, hvc⟩ := hc.form
  obtain ⟨po, pc, hvp⟩ := hp.form
  subst hva hvb hvc hvp
  have HA := Hid.mk' ha; have HB := Hid.mk' hb; have HC := Hid.mk' hc; have HP := Hid.mk' hp
  have heq : ∀ (w' : World) (d : Nat), (binOp .eql 24 (ptr d) (.pointer none)).run Try.prog w' = .ok (.bool false) w' := fun _ _ => by kernel_rfl
  clear ha hb hc hp
  go_enter Try.func4, Try.ntmps4
  go_wp2_with (go_at_call 9; refine (known_any _).mono ?_; rintro e w0 ⟨rfl, hb0⟩)
  have hs0 := hb0.size
  refine (new_dk w.heap.size 1048576 w0 (by decide) hs0).mono ?_
  rintro e w1 ⟨d, hdd, rfl, hd1, hb1⟩
  replace hb1 := hb0.trans (hb1.mono hs0)
  have hs1 := hb1.size
  clear hdd hb0 hs0
  obtain ⟨hE1, hP1⟩ := st1 a (by omega)
  have hA1 := append_any w.heap.size d _ _ ⟨#[122, 122]⟩ (.slice ao a.length ac) a w1 hd1 (sane_q0 (by decide) (by decide)) hs1 (HA.out.below hb1) hab (HA.out.off hd1 (Nat.le_refl _)) (by omega)
  rw [show (⟨#[122, 122]⟩ : ByteArray).data.toList = zz from rfl, hE1, hP1] at hA1
  go_wp2_with (go_at_call 12; refine hA1.mono ?_; rintro e w2 ⟨rfl, hp2⟩; obtain ⟨g2, hd2, hb2'⟩ := hp2.go hd1 hs1; have hb2 := hb1.trans hb2'; clear hp2 hb2' hd1 hb1)
  have hs2 := hb2.size
  obtain ⟨hE2, hP2⟩ := st2 a
  have hA2 := sync_any w.heap.size d g2 _ ⟨#[122, 122]⟩ w2 hd2 (sane_mk (by decide) (by decide) (by decide) (by decide) (by decide) (by decide) (by simp [total]; omega) (by simp))
  rw [show (⟨#[122, 122]⟩ : ByteArray).data.toList = zz from rfl, hE2, hP2] at hA2
  clear hA1 hE1 hP1
  refine hA2.mono ?_
  rintro e w3 ⟨rfl, hp3⟩
  obtain ⟨g3, hd3, hb3'⟩ := hp3.go hd2 hs2
  have hb3 := hb2.trans hb3'
  have hs3 := hb3.size
  clear hp3 hb3' hd2 hb2 hA2 hE2 hP2
  obtain ⟨hE3, hP3⟩ := st3 a b hl
  have hA3 := append_any w.heap.size d g3 _ ⟨#[122, 122]⟩ (.slice bo b.length bc) b w3 hd3 (sane_mk (by decide) (by decide) (by decide) (by decide) (by decide) (by decide) (by simp [total]; omega) (by simp)) hs3 (HB.out.below hb3) hbb (HB.out.off hd3 (Nat.le_refl _)) (by omega)
  rw [show (⟨#[122, 122]⟩ : ByteArray).data.toList = zz from rfl, hE3, hP3] at hA3
  go_wp2_with (go_at_call 12; refine hA3.mono ?_; rintro e w4 ⟨rfl, hp4⟩; obtain ⟨g4, hd4, hb4'⟩ := hp4.go hd3 hs3; have hb4 := hb3.trans hb4'; clear hp4 hb4' hd3 hb3)
  have HI : Hid (staysRel w.heap.size w w4 d a b 0) := ⟨g4, _, 3, hd4, st4 a b hl, by omega, hb4⟩
  clear hA3 hE3 hP3 hd4 hb4
  go_loopg [11] 40 (fun g0 i wx => ∃ (k : Nat), k ≤ 40 ∧ g0 = 40 - k ∧ i = .int .i64 k ∧ ∃ j, j ≤ k ∧ staysRel w.heap.size w wx d a b j)
  case atStart => exact ⟨0, by omega, rfl, rfl, 0, by omega, HI.out⟩
  case round =>
    obtain ⟨k, hk, hg0, rfl, j, hjk, hrel0⟩ := hrel
    by_cases hlt : k < cs.length ∧ k < 40
    · obtain ⟨h1, h2⟩ := hlt
      obtain ⟨vb', off, rfl, hvb, hcl⟩ := HC.out.at h1
      generalize cs.getD k noCl = cl at hcl
      have hbw : Below w.heap.size w wr := by obtain ⟨_, _, _, _, _, _, h⟩ := hrel0; exact h
      have hs := hbw.size
      have hc := hcl.below hvb hbw
      obtain ⟨do', dc, hdv⟩ := hc.data.form
      have e0 := hc.c0; have e1 := hc.c1; have e2 := hc.c2; have e3 := hc.c3; have e4 := hc.c4; have e5 := hc.c5
      rw [hdv] at e4
      obtain ⟨qo, qc, hpv⟩ := hc.picks.form
      rw [hpv] at e5
      have hal : Below wr.heap.size wr (wr.alloc (.cells #[.int .i64 cl.kind, .int .i64 cl.n, .string cl.a, .string cl.b, .slice do' cl.data.length dc, .slice qo cl.picks.length qc] 34)) := (Below.refl _ _).alloc (Nat.le_refl _) _
      have hrel1 : staysRel w.heap.size w (wr.alloc (.cells #[.int .i64 cl.kind, .int .i64 cl.n, .string cl.a, .string cl.b, .slice do' cl.data.length dc, .slice qo cl.picks.length qc] 34)) d a b j := by
        obtain ⟨g, p, o, q1, q2, q3, q4⟩ := hrel0
        exact ⟨g, p, o, q1.below hal, q2, q3, q4.trans (hal.mono hs)⟩
      have hdat := hc.data.below hal
      rw [hdv] at hdat
      have hdat0 := hcl.data
      rw [hdv] at hdat0
      have hbyt := hc.bytes
      have HR1 := Hid.mk' hrel1
      have HD1 := Hid.mk' hdat
      have HD0 := Hid.mk' hdat0
      have HBY := Hid.mk' hbyt
      clear hrel1 hdat hdat0 hbyt hrel0 hc hcl hbw hal hdv hpv
      by_cases ha1 : cl.a.data.toList = zz
      · have hq1 := zz_eq ha1
        go_wp2
        go_roundg (40 - (k + 1))
        case measure => omega
        case rel => exact ⟨k + 1, by omega, rfl, by go_num, j, by omega, HR1.out⟩
      · have hq1 := zz_ne ha1
        by_cases hb1 : cl.b.data.toList = zz
        · have hq2 := zz_eq hb1
          go_wp2
          go_roundg (40 - (k + 1))
          case measure => omega
          case rel => exact ⟨k + 1, by omega, rfl, by go_num, j, by omega, HR1.out⟩
        · have hq2 := zz_ne hb1
          by_cases hlong : 1000 < cl.data.length
          · go_wp2
            go_roundg (40 - (k + 1))
            case measure => omega
            case rel => exact ⟨k + 1, by omega, rfl, by go_num, j, by omega, HR1.out⟩
          · have C0 := Hid.mk' (stays_app HR1.out (by omega) (Nat.le_refl _) cl.a (.slice do' cl.data.length dc) cl.data (fun e => ha1 e.symm) HD1.out HBY.out (by omega) HD0.out (Nat.le_refl _))
            have C1 := Hid.mk' (stays_sync HR1.out (by omega) (Nat.le_refl _) cl.a (fun e => ha1 e.symm))
            have C2 := Hid.mk' (stays_ren HR1.out (by omega) (Nat.le_refl _) cl.a cl.b (fun e => ha1 e.symm) (fun e => hb1 e.symm))
            have C3 := Hid.mk' (stays_rem HR1.out (by omega) (Nat.le_refl _) cl.a (fun e => ha1 e.symm))
            go_wp2_with (first | (go_at_call 12; refine C0.out.mono ?_; rintro e w5 ⟨E, rfl, hr5⟩) | (go_at_call 14; refine C1.out.mono ?_; rintro e w5 ⟨E, rfl, hr5⟩) | (go_at_call 16; refine C2.out.mono ?_; rintro e w5 ⟨E, rfl, hr5⟩) | (go_at_call 18; refine C3.out.mono ?_; rintro e w5 ⟨E, rfl, hr5⟩))
            all_goals
              go_roundg (40 - (k + 1))
              case measure => omega
              case rel => first | exact ⟨k + 1, by omega, rfl, by go_num, j + 1, by omega, hr5⟩ | exact ⟨k + 1, by omega, rfl, by go_num, j, by omega, HR1.out⟩
    · have hlt2 : ¬ ((k : Int) < cs.length ∧ (k : Int) < 40) := by omega
      obtain ⟨i0, hi, hz0, hz1, hz2⟩ := info_parts info5
      have HR0 := Hid.mk' hrel0
      clear hrel0
      go_wp2_with fail
      all_goals
        go_loopg [13] 3 (fun g0 i wx => ∃ (r : Nat), r ≤ 3 ∧ g0 = 3 - r ∧ i = .int .i64 r ∧ staysRel w.heap.size w wx d a b j)
        case atStart => exact ⟨0, by omega, rfl, rfl, HR0.out⟩
        case round =>
          obtain ⟨r, hr, hgr, rfl, hrel1⟩ := hrel
          by_cases hr3 : r < 3
          · have hbw : Below w.heap.size w wr := by obtain ⟨_, _, _, _, _, _, h⟩ := hrel1; exact h
            have hCR := stays_crash hrel1 (by omega) (Nat.le_refl _) (.slice po picks.length pc) picks (HP.out.below hbw) HP.out (Nat.le_refl _)
            have HRX : Hid (staysRel w.heap.size w wr d a b j) := hrel1
            clear hrel1 hbw
            by_cases hp2 : picks.length < 200
            case' pos => go_wp2_with (go_at_call 26; refine hCR.mono ?_; rintro e wr ⟨nn, rfl, HRX⟩)
            case' neg => go_wp2_with fail
            all_goals
              have hRD := stays_read HRX (by omega) (Nat.le_refl _)
              clear hCR
              refine hRD.mono ?_
              rintro e wq ⟨vx, xs, rfl, hox, hxe, hx1, hx2, hbx, hrelq⟩
              obtain ⟨xo, xc, hvx⟩ := owns_form hox
              subst hvx
              have hbq : Below w.heap.size w wq := by obtain ⟨_, _, _, _, _, _, h⟩ := hrelq; exact h
              have hsq := hbq.size
              have HSX := Hid.mk' (sees_own hox)
              have HRQ := Hid.mk' hrelq
              have HBQ := Hid.mk' hbq
              have HXE := Hid.mk' hxe
              clear hRD hox hxe hrelq hbq hbx HRX
              go_wp2_with fail
              have hsum1 : decide ((xs.length : Int) < a.length) = false := decide_eq_false (by omega)
              have hsum2 : decide ((a.length : Int) + b.length < xs.length) = false := decide_eq_false (by omega)
              have hsum5 : IntKind.i64.wrap ((a.length : Int) + b.length) = (a.length : Int) + b.length := by rw [IntKind.wrap_i64]; omega
              have hsum3 : decide (xs.length < a.length) = false := decide_eq_false (by omega)
              have hsum4 : decide (a.length + b.length < xs.length) = false := decide_eq_false (by omega)
              have q0 := conv_sees (HSX.out.below ((Below.refl _ _).drew))
              have hba : Below wq.heap.size wq (wq.alloc (.cells #[] 5)).drew := ((Below.refl _ _).alloc (Nat.le_refl _) _).drew
              have q1 := conv_sees (HSX.out.below hba)
              have hsrca := Src_sees ((HA.out.below HBQ.out).below hba)
              have hown0 : (wq.alloc (.cells #[] 5)).drew.ownsRow wq.heap.size 5 1 (.slice (some ⟨wq.heap.size, 0, none⟩) 0 0) 0 [] := (World.ownsRow_lit (size := 1) (e := 5) wq #[] 0 (Nat.le_refl _) (by decide) rfl).drew
              have HBA := Hid.mk' hba
              have c3 := str_same xs
              have hneq : ((strOfNums xs).toList != (strOfNums xs).toList) = false := by rw [bne, c3]; rfl
              have hx0 : (0 : Int) ≤ xs.length := by omega
              clear hba
              go_region_held_law (fun w' => True) (trivial) ((first | (refine step_app_w _ (by simp [Region.wanted, yielded]) (.tmp 142) (.tmp 143) 31 31 rfl wq.heap.size 5 i0 Try.underlying31 hi hz0 hz1 hz2 (.slice (some ⟨wq.heap.size, 0, none⟩) 0 0) 0 [] (by simp [Act.eval]) hown0 (.slice ao a.length ac) (by simp [Act.eval]) a.length (u8s a) hsrca (by omega) (by simp) ?_; intro v1 w5 f1 f2 f3 f4; simp only [Nat.zero_add, List.nil_append] at f1; have hb5 : Below wq.heap.size wq w5 := (HBA.out.trans (f2.below (by simp) (fun q hq e => by have : q = wq.heap.size := Option.some.inj e; omega))); have q2 := conv_sees (HSX.out.below hb5); have hsrcb := Src_sees ((HB.out.below HBQ.out).below hb5); have hs5 := hb5.size; have hne1 := f4 (.inl (by simp [Value.ownBlock])); have HB5 := Hid.mk' hb5; clear f2 f3 f4 hb5; obtain ⟨uo, uc, rfl⟩ := owns_form f1) | (refine step_app_w _ (by simp [Region.wanted, yielded, Act.put]) (.tmp 144) (.tmp 145) 31 31 rfl wq.heap.size 5 i0 Try.underlying31 hi hz0 hz1 hz2 (.slice uo a.length uc) a.length (u8s a) (by simp [Act.eval, Act.put]) f1 (.slice bo b.length bc) (by simp [Act.eval, Act.put]) b.length (u8s b) hsrcb (by omega) hs5 ?_; intro v2 w6 t1 t2 t3 t4; have hb6 : Below wq.heap.size wq w6 := (HB5.out.trans (t2.below hs5 (fun q hq e => by have := (f1.lt q e.symm).1; omega))); have q3 := conv_sees (HSX.out.below hb6); obtain ⟨lg, lc, rfl, hlc, q4⟩ := two_apps hne1 t1 t4 HXE.out hx2; have hlci : (xs.length : Int) ≤ lc := (by omega); have HB6 := Hid.mk' hb6; clear t1 t2 t3 t4 hb6)))
              all_goals
                go_wp2
                go_roundg (3 - (r + 1))
                case measure => omega
                case rel => exact ⟨r + 1, by omega, rfl, by go_num, staysRel_below HRQ.out HB6.out⟩
          · have hbw : Below w.heap.size w wr := by obtain ⟨_, _, _, _, _, _, h⟩ := hrel1; exact h
            clear hrel1
            go_wp2
            go_ret
            exact ⟨rfl, hbw⟩
set_option maxHeartbeats 1000000 in
theorem stays_walk (va vb vc vp : Value) (a b : List Int) (cs : List Cl) (picks : List Int) (w : World) (ha : Sees w va a) (hab : isB a) (hal : a.length ≤ 140737488355328) (hb : Sees w vb b) (hbb : isB b) (hbl : b.length ≤ 140737488355328) (hc : SeesC w vc cs) (_hcl : cs.length ≤ maxLen) (hp : SeesI w vp picks) (_hpl : picks.length ≤ 140737488355328) :
    Calls Try.prog 4 #[va, vb, vc, vp] w fun e w' => e = .returned (.bool true) ∧ Below w.heap.size w w' := by
  by_cases hl : a.length + b.length ≤ 1000
  · exact stays_short va vb vc vp a b cs picks w ha hab hb hbb hc hp hl
  · obtain ⟨ao, ac, hva⟩ := ha.form
    obtain ⟨bo, bc, hvb⟩ := hb.form
    subst hva hvb
    have h1' : (1000 : Int) < (a.length : Int) + b.length := by omega
    clear ha hb hab hbb hc hp hl
    go_enter Try.func4, Try.ntmps4
    go_wp2_with (go_at_call 9; refine (known_any _).mono ?_; rintro e w0 ⟨rfl, hb0⟩)
    go_ret
    exact ⟨rfl, hb0⟩
end Go.Proofs.Ytmfhfabfhoiegaa
