/- What the records of a file say: sayFile. -/
import Derived.Test.YtecnlfalpfbobaaGreatDoorWC5
namespace Go.Proofs.YtecnlfalpfbobaaGreatDoor
open Go Go.RowKit
theorem SmPost.trans {B : Nat} {w w1 w2 : World} {b o : Nat} {ev ev1 : Value} {s : Sm} (hu : Upd w w1 (fun k => k = b ∨ some k = ev.ownBlock)) (ho : Owned w ev ev1) (hk : Keeps w w1 b o) (h : SmPost B w1 w2 b o ev1 s) : SmPost B w w2 b o ev s := by
  obtain ⟨ev2, a, u, own, kp⟩ := h
  refine ⟨ev2, a, hu.trans u (fun j hj hk => ?_), ho.trans hu.size own, hk.trans kp⟩
  rcases hk with hk | hk
  · exact .inl hk
  · rcases ho with ho | ho | ⟨g, hg, ho⟩
    · exact .inr (by rw [hk, ho])
    · rw [ho] at hk; cases hk
    · rw [ho] at hk; have := Option.some.inj hk; omega
theorem say_len (s : Sm) : ∀ r : RecV, (s.say r).es.length ≤ s.es.length + 1
  | .hard _ _ _ => Nat.le_succ _
  | .entry e => by
    show (s.sayE e).es.length ≤ _
    unfold St.sayE
    have := s.pos_le (ix e)
    split <;> simp <;> omega
  | .base i t vs => by
    show (s.sayB i t vs).es.length ≤ _
    unfold St.sayB
    split
    · simp; omega
    · split <;> simp
theorem says_len : ∀ (rs : List RecV) (s : Sm), (s.says rs).es.length ≤ s.es.length + rs.length
  | [], _ => Nat.le_refl _
  | r :: rs, s => by
    have h1 := say_len s r
    have h2 := says_len rs (s.say r)
    show ((s.say r).says rs).es.length ≤ _
    simp only [List.length_cons]
    omega
/-- Records that are seen through a slice. -/
structure SeesR (w : World) (v : Value) (rs : List RecV) : Prop where
  row : ∃ B, RowO w B 107 1 v rs.length (rs.map recVal)
  ok : ∀ r ∈ rs, RecOk w r
def RowAway (S : Nat → Prop) (v : Value) (rs : List RecV) : Prop := (∀ k, v.ownBlock = some k → ¬ S k) ∧ ∀ r ∈ rs, RecAway S r
theorem SeesR.upd {w w' : World} {S : Nat → Prop} {v : Value} {rs : List RecV} (h : SeesR w v rs) (hu : Upd w w' S) (ha : RowAway S v rs) : SeesR w' v rs := by
  obtain ⟨⟨B, hr⟩, ho⟩ := h
  exact ⟨⟨B, hr.upd hu ha.1⟩, fun r hr => (ho r hr).upd hu (ha.2 r hr)⟩
theorem SeesR.form {w : World} {v : Value} {rs : List RecV} (h : SeesR w v rs) : ∃ ao c, v = .slice ao rs.length c ∧ c ≤ maxLen := by
  obtain ⟨⟨B, hr⟩, _⟩ := h
  obtain ⟨ao, c, e, _, h2⟩ := hr.form
  exact ⟨ao, c, e, h2⟩
theorem SeesR.at_ {w : World} {ao : Option Addr} {c : Nat} {rs : List RecV} (h : SeesR w (.slice ao rs.length c) rs) (j : Nat) (hj : j < rs.length) : ∃ g off, ao = some ⟨g, off, none⟩ ∧ w.cell? ⟨g, off + j, none⟩ = some (recVal rs[j]) := by
  obtain ⟨⟨B, hr⟩, _⟩ := h
  rcases hr.2 with ⟨h', _⟩ | ⟨g, off, cap, cur, h', _⟩
  · simp only [Value.slice.injEq] at h'; omega
  · simp only [Value.slice.injEq, true_and] at h'
    obtain ⟨rfl, rfl⟩ := h'
    exact ⟨g, off, rfl, hr.cell j _ (by simp [hj])⟩
theorem recVal_form (r : RecV) : ∃ t v, recVal r = .iface t v := by cases r <;> exact ⟨_, _, rfl⟩
theorem info40 : (Tryz.prog.info? 40).map (·.size) = some 7 := by kernel_rfl
set_option maxRecDepth 100000 in
set_option maxHeartbeats 1000000 in
theorem blank_any (w : World) : Calls Tryz.prog 81 #[] w fun e w' => e = .returned (.agg #[.int .i64 0, .int .i64 (-1), .int .i64 0, .int .i64 0, .int .i64 0, .slice none 0 0, .slice none 0 0]) ∧ Below w.heap.size w w' := by
  go_enter Tryz.func81, Tryz.ntmps81
  go_wp2
  refine bodyPost_ret (results_cell_row rfl _ _ w.heap.size 40 #[.int .i64 0, .int .i64 (-1), .int .i64 0, .int .i64 0, .int .i64 0, .slice none 0 0, .slice none 0 0] (0, 0) _ rfl (heap_alloc_new w _) Tryz.underlying40 rfl info40) rfl ?_
  exact ⟨rfl, (Below.refl _ _).alloc (Nat.le_refl _) _⟩
def noVv : Vv := ⟨[], .slice none 0 0⟩
theorem SCells.setAll {w : World} {b o : Nat} {ht hv hc mi mt : Int} {vv ev : Value} (h : SCells w b o ht hv hc mi mt vv ev) (a0 a1 a2 a3 a4 : Int) (a5 a6 : Value) :
    SCells (((((((w.setCell ⟨b, o, none⟩ (.int .i64 a0)).setCell ⟨b, o + 1, none⟩ (.int .i64 a1)).setCell ⟨b, o + 2, none⟩ (.int .i64 a2)).setCell ⟨b, o + 3, none⟩ (.int .i64 a3)).setCell ⟨b, o + 4, none⟩ (.int .i64 a4)).setCell ⟨b, o + 5, none⟩ a5).setCell ⟨b, o + 6, none⟩ a6) b o a0 a1 a2 a3 a4 a5 a6 := by
  have h1 := ((h.setH a0 a1 a2).setM a3 a4 a5).set6 a6
  exact h1
theorem Smem.fresh {B : Nat} {w W : World} {b o : Nat} {s : Sm} {ev : Value} (_h : Smem B w b o s ev) (hu : Upd w W (fun k => k = b)) (hc : SCells W b o 0 (-1) 0 0 0 (.slice none 0 0) (.slice none 0 0)) (hkp : Keeps w W b o) : SmPost B w W b o ev (blankOf noVv) :=
  ⟨.slice none 0 0, ⟨hc, ⟨RowO.nil _ _ _ _, fun _ h => (by cases h), ⟨.inl ⟨rfl, _, _, rfl⟩, by decide⟩, (fun e => by cases e), fun _ h => (by cases h), fun k hk => (by cases hk), blank_ok _, by decide⟩⟩, hu.mono (fun k _ hk => .inl hk), .inr (.inl rfl), hkp⟩
set_option maxRecDepth 100000 in
set_option maxHeartbeats 4000000 in
theorem sayFile_any (B b o : Nat) (s : Sm) (ev : Value) (v : Value) (rs : List RecV) (w : World) (h : Smem B w b o s ev) (hr : SeesR w v rs) (hra : RowAway (fun k => k = b ∨ some k = ev.ownBlock) v rs) (hf : s.es.length + rs.length < 1000000) (hB : B ≤ w.heap.size) :
    Calls Tryz.prog 82 #[.pointer (some ⟨b, o, none⟩), v] w fun e w' => e = .returned (.tuple #[]) ∧ SmPost B w w' b o ev (s.sayFile noVv rs) := by
  obtain ⟨ao, cp, rfl, hcm⟩ := hr.form
  by_cases h0 : rs.length = 0
  · obtain rfl := List.eq_nil_of_length_eq_zero h0
    have HM := Hid.mk' h
    clear h hr hra h0
    go_enter Tryz.func82, Tryz.ntmps82
    go_wp2
    refine bodyPost_ret (results_none rfl _ _ _) rfl ?_
    exact ⟨rfl, ev, HM.out, Upd.refl _ _, .inl rfl, Keeps.refl _ _ _⟩
  · obtain ⟨g, off, rfl, hc⟩ := hr.at_ 0 (by omega)
    rw [Nat.add_zero] at hc
    have HM := Hid.mk' h
    have HRR := Hid.mk' hr
    have HRA := Hid.mk' hra
    have HFS : Hid (s.sayFile noVv rs = (if baseFirst rs then blankOf noVv else s).says rs) := rfl
    have HB0 : Hid (baseFirst rs = rs[0].isBase) := by
      show _ = _
      cases rs with
      | nil => simp at h0
      | cons r q => rfl
    have HOK0 := Hid.mk' (hr.ok rs[0] (List.getElem_mem _))
    obtain ⟨n, hn⟩ : ∃ n, n = rs.length := ⟨_, rfl⟩
    generalize rs[0] = r0 at *
    rw [← hn] at hf h0 ⊢
    have HN := Hid.mk' hn
    have hz0 : ((n : Int) == 0) = false := by rw [beq_eq_false_iff_ne]; omega
    have HBL := h.cells.lt
    have d0 := h.cells.c0; have d1 := h.cells.c1; have d2 := h.cells.c2; have d3 := h.cells.c3; have d4 := h.cells.c4; have d5 := h.cells.c5; have d6 := h.cells.c6
    have g0 := h.cells.free o; have g1 := h.cells.free (o + 1); have g2 := h.cells.free (o + 2); have g3 := h.cells.free (o + 3); have g4 := h.cells.free (o + 4); have g5 := h.cells.free (o + 5); have g6 := h.cells.free (o + 6)
    have HSTEP : Hid (∀ (s1 : Sm) (wr : World) (ev1 : Value) (k : Nat) (hk : k < rs.length), Smem B wr b o (s1.says (rs.take k)) ev1 → s1.es.length ≤ s.es.length → Upd w wr (fun j => j = b ∨ some j = ev.ownBlock) → Owned w ev ev1 → Keeps w wr b o →
        wr.cell? ⟨g, off + k, none⟩ = some (recVal rs[k]) ∧ Calls Tryz.prog 51 #[.pointer (some ⟨b, o, none⟩), recVal rs[k]] wr fun e w' => e = .returned (.tuple #[]) ∧ SmPost B w w' b o ev (s1.says (rs.take (k + 1)))) := by
      intro s1 wr ev1 k hk hm hl hu ho hkp
      have hrr := HRR.out.upd hu HRA.out
      obtain ⟨g', off', e', hc'⟩ := hrr.at_ k hk
      simp only [Option.some.injEq, Addr.mk.injEq, and_true] at e'
      obtain ⟨rfl, rfl⟩ := e'
      refine ⟨hc', ?_⟩
      have hmem := List.getElem_mem hk
      have hlen := says_len (rs.take k) s1
      have hlt : (rs.take k).length ≤ rs.length := by rw [List.length_take]; omega
      refine (say_any B b o _ ev1 rs[k] wr hm (hrr.ok _ hmem) ((HRA.out.2 _ hmem).owned (HRR.out.ok _ hmem) ho) (by have := HN.out; omega) (Nat.le_trans hB hu.size)).mono ?_
      rintro e w' ⟨rfl, hp⟩
      refine ⟨rfl, ?_⟩
      rw [List.take_succ_eq_append_getElem hk, says_snoc]
      exact SmPost.trans hu ho hkp hp
    clear h hr hra hn
    cases r0 with
    | hard t1 v1 c1 =>
      have t1 := ta153_117
      unfold recVal at hc
      have HSF : Hid (s.sayFile noVv rs = s.says rs) := by show _ = _; rw [HFS.out, HB0.out]; rfl
      go_enter Tryz.func82, Tryz.ntmps82
      go_wp2
      go_loopg [24] n (fun kx s24 wr => ∃ k : Nat, s24 = .int .i64 k ∧ k ≤ n ∧ n - k ≤ kx ∧ Hid (SmPost B w wr b o ev ((s : Sm).says (rs.take k))))
      case atStart => exact ⟨0, rfl, Nat.zero_le _, by omega, Hid.mk' ⟨ev, HM.out.below ((Below.refl _ _).alloc (Nat.le_refl _) _), Upd.ofBelow ((Below.refl _ _).alloc (Nat.le_refl _) _), .inl rfl, Keeps.below ((Below.refl _ _).alloc (Nat.le_refl _) _) HBL⟩⟩
      case round =>
        obtain ⟨k, rfl, hkn, hkx, HP⟩ := hrel
        by_cases hk : k < n
        · obtain ⟨ev1, hm1, hu1, ho1, hk1⟩ := HP.out
          have hkr : k < rs.length := by rw [← HN.out]; exact hk
          obtain ⟨hcell, hcall⟩ := HSTEP.out _ _ _ k hkr hm1 (Nat.le_refl _) hu1 ho1 hk1
          obtain ⟨tt, vv1, hform⟩ := recVal_form rs[k]
          rw [hform] at hcell hcall
          clear hm1 hu1 ho1 hk1 hform
          go_wp2_with (go_at_call 51; refine hcall.mono ?_; rintro e w2 ⟨rfl, hp⟩)
          go_roundg (n - (k + 1))
          case measure => omega
          case rel => exact ⟨k + 1, rfl, by omega, by omega, Hid.mk' hp⟩
        · obtain rfl : k = n := by omega
          have hp := HP.out
          rw [List.take_of_length_le (by rw [← HN.out]; exact Nat.le_refl _)] at hp
          have HP2 := Hid.mk' hp
          clear hp
          go_wp2
          go_end0
          refine ⟨rfl, ?_⟩
          rw [HSF.out]
          exact HP2.out
    | entry x =>
      have t1 := ta152_117
      obtain ⟨vo, vc, hvv⟩ := HOK0.out.1.sees.form
      simp only [recVal, hvv] at hc
      clear hvv
      have HSF : Hid (s.sayFile noVv rs = s.says rs) := by show _ = _; rw [HFS.out, HB0.out]; rfl
      go_enter Tryz.func82, Tryz.ntmps82
      go_wp2
      go_loopg [24] n (fun kx s24 wr => ∃ k : Nat, s24 = .int .i64 k ∧ k ≤ n ∧ n - k ≤ kx ∧ Hid (SmPost B w wr b o ev ((s : Sm).says (rs.take k))))
      case atStart => exact ⟨0, rfl, Nat.zero_le _, by omega, Hid.mk' ⟨ev, HM.out.below ((Below.refl _ _).alloc (Nat.le_refl _) _), Upd.ofBelow ((Below.refl _ _).alloc (Nat.le_refl _) _), .inl rfl, Keeps.below ((Below.refl _ _).alloc (Nat.le_refl _) _) HBL⟩⟩
      case round =>
        obtain ⟨k, rfl, hkn, hkx, HP⟩ := hrel
        by_cases hk : k < n
        · obtain ⟨ev1, hm1, hu1, ho1, hk1⟩ := HP.out
          have hkr : k < rs.length := by rw [← HN.out]; exact hk
          obtain ⟨hcell, hcall⟩ := HSTEP.out _ _ _ k hkr hm1 (Nat.le_refl _) hu1 ho1 hk1
          obtain ⟨tt, vv1, hform⟩ := recVal_form rs[k]
          rw [hform] at hcell hcall
          clear hm1 hu1 ho1 hk1 hform
          go_wp2_with (go_at_call 51; refine hcall.mono ?_; rintro e w2 ⟨rfl, hp⟩)
          go_roundg (n - (k + 1))
          case measure => omega
          case rel => exact ⟨k + 1, rfl, by omega, by omega, Hid.mk' hp⟩
        · obtain rfl : k = n := by omega
          have hp := HP.out
          rw [List.take_of_length_le (by rw [← HN.out]; exact Nat.le_refl _)] at hp
          have HP2 := Hid.mk' hp
          clear hp
          go_wp2
          go_end0
          refine ⟨rfl, ?_⟩
          rw [HSF.out]
          exact HP2.out
    | base i t vv =>
      have t1 := ta117_117
      obtain ⟨vo, vc, hvv⟩ := HOK0.out.1.sees.form
      simp only [recVal, hvv] at hc
      clear hvv
      have HSF : Hid (s.sayFile noVv rs = (blankOf noVv : Sm).says rs) := by show _ = _; rw [HFS.out, HB0.out]; rfl
      go_enter Tryz.func82, Tryz.ntmps82
      go_wp2_with (go_at_call 81; refine (blank_any _).mono ?_; rintro e w1 ⟨rfl, hb1⟩; have HBw : Hid (Below w.heap.size w w1) := (((Below.refl w.heap.size w).alloc (Nat.le_refl _) _).trans (hb1.mono (by simp))); have HM1 := Hid.mk' (HM.out.below HBw.out); have k0 := HM1.out.cells.c0; have k1 := HM1.out.cells.c1; have k2 := HM1.out.cells.c2; have k3 := HM1.out.cells.c3; have k4 := HM1.out.cells.c4; have k5 := HM1.out.cells.c5; have k6 := HM1.out.cells.c6; have l0 := HM1.out.cells.free (o); have l1 := HM1.out.cells.free (o + 1); have l2 := HM1.out.cells.free (o + 2); have l3 := HM1.out.cells.free (o + 3); have l4 := HM1.out.cells.free (o + 4); have l5 := HM1.out.cells.free (o + 5); have l6 := HM1.out.cells.free (o + 6); clear hb1)
      go_loopg [24] n (fun kx s24 wr => ∃ k : Nat, s24 = .int .i64 k ∧ k ≤ n ∧ n - k ≤ kx ∧ Hid (SmPost B w wr b o ev ((blankOf noVv : Sm).says (rs.take k))))
      case atStart => exact ⟨0, rfl, Nat.zero_le _, by omega, Hid.mk' (SmPost.ahead HBL HBw.out (HM1.out.fresh (((((((((Upd.refl w1 (fun k => k = b)).setCell (p := ⟨b, o, none⟩) (.inr rfl) _).setCell (p := ⟨b, o + 1, none⟩) (.inr rfl) _).setCell (p := ⟨b, o + 2, none⟩) (.inr rfl) _).setCell (p := ⟨b, o + 3, none⟩) (.inr rfl) _).setCell (p := ⟨b, o + 4, none⟩) (.inr rfl) _).setCell (p := ⟨b, o + 5, none⟩) (.inr rfl) _).setCell (p := ⟨b, o + 6, none⟩) (.inr rfl) _)) (HM1.out.cells.setAll 0 (-1) 0 0 0 _ _) ((((((((Keeps.refl w1 b o).set o (by omega) _).set (o + 1) (by omega) _).set (o + 2) (by omega) _).set (o + 3) (by omega) _).set (o + 4) (by omega) _).set (o + 5) (by omega) _).set (o + 6) (by omega) _)))⟩
      case round =>
        obtain ⟨k, rfl, hkn, hkx, HP⟩ := hrel
        by_cases hk : k < n
        · obtain ⟨ev1, hm1, hu1, ho1, hk1⟩ := HP.out
          have hkr : k < rs.length := by rw [← HN.out]; exact hk
          obtain ⟨hcell, hcall⟩ := HSTEP.out _ _ _ k hkr hm1 (Nat.zero_le _) hu1 ho1 hk1
          obtain ⟨tt, vv1, hform⟩ := recVal_form rs[k]
          rw [hform] at hcell hcall
          clear hm1 hu1 ho1 hk1 hform
          go_wp2_with (go_at_call 51; refine hcall.mono ?_; rintro e w2 ⟨rfl, hp⟩)
          go_roundg (n - (k + 1))
          case measure => omega
          case rel => exact ⟨k + 1, rfl, by omega, by omega, Hid.mk' hp⟩
        · obtain rfl : k = n := by omega
          have hp := HP.out
          rw [List.take_of_length_le (by rw [← HN.out]; exact Nat.le_refl _)] at hp
          have HP2 := Hid.mk' hp
          clear hp
          go_wp2
          go_end0
          refine ⟨rfl, ?_⟩
          rw [HSF.out]
          exact HP2.out
end Go.Proofs.YtecnlfalpfbobaaGreatDoor
