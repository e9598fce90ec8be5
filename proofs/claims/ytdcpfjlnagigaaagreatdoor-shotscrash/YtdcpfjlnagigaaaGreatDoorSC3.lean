/- Trim on a disk that stops. -/
import Derived.Test.YtdcpfjlnagigaaaGreatDoorSC2
namespace Go.Proofs.YtdcpfjlnagigaaaGreatDoor
open Go Go.RowKit
set_option maxRecDepth 100000 in
set_option maxHeartbeats 4000000 in
theorem trim_stop (hPY : ParseYes) (B d : Nat) (g : Gu) (p : PS) (rm : Int) (kk : Nat) (w : World) (hd : Dk B w d g p) (hp : PlayAt p rm kk) (hkk : kk + (ixs p).length ≤ 300) (hlive : p.dead = false) (hnm : ∀ f ∈ p.fs, ShotName f.name) (hT : HasTab w)
    (got : Int → Option Sh) (hF : ∀ m ∈ ixs p, FileAt p got m) (keep : Int) (hex : ∃ m ∈ ixs p, got m ≠ none)
    (hkeep : ∀ k s, k < (ixs p).length → got (fromBack (ixs p) k).2 = some s → (∀ j, j < k → got (fromBack (ixs p) j).2 = none) → s.i = keep)
    (n0 : Nat) (h0 : (ixs p)[0]? = some (n0 : Int)) (hn0 : n0 < 100) (hne : (n0 : Int) ≠ keep) (hE0 : opE p (sname n0) = 13) :
    Calls Tryz.prog 15 #[ptr d] w fun e w' => e = .returned (.int .i64 13) ∧ DkPost B w w' d g (remP p (sname n0)) := by
  have ht : total p.fs ≤ 1000000 := by have := hp.tot; omega
  have hfl : p.fs.length < 1000000 := by have := hp.len; omega
  have hfi := filesOf_any B d g p w hd hfl hlive hnm
  obtain ⟨ms, hmsE⟩ : ∃ ms, ms = ixs p := ⟨_, rfl⟩
  rw [← hmsE] at hkk hF hex hkeep h0
  have hfi2 : Calls Tryz.prog 41 #[ptr d] w fun e w' => ∃ v', e = .returned (.tuple #[v', .int .i64 0]) ∧ RowO w' w.heap.size 3 1 v' ms.length (i64s ms) ∧ Below w.heap.size w w' := by rw [hmsE]; exact hfi
  clear hfi
  go_enter Tryz.func15, Tryz.ntmps15
  go_wp2_with fail
  refine hfi2.mono ?_
  rintro e w1 ⟨v1, rfl, hr1, hb1⟩
  have hIn : IntsIn w1.heap.size w1 v1 ms := by
    rcases hr1.2 with ⟨h, h0⟩ | ⟨g', off, cap, cur, h, _⟩
    · exact .inl ⟨h, List.eq_nil_of_length_eq_zero h0⟩
    · exact rowO_ints hr1 (.inr ⟨g', off, cap, h⟩)
  obtain ⟨a1, c1, rfl, _, _⟩ := hr1.form
  have hlen : ms.length ≤ 300 := by omega
  have hnw := newest_any hPY B d g p w1 (hd.below hb1) ht (hT.below hb1) a1 _ c1 ms (by omega) hIn got hF
  clear hIn hF hT hnm hfi2
  obtain ⟨N, hN⟩ : ∃ N, N = ms.length := ⟨_, rfl⟩
  have HN := Hid.mk' hN
  rw [← hN] at hnw hr1 hlen ⊢
  have HR1 := Hid.mk' hr1
  have HHD := Hid.mk' hd
  clear hN hr1 hd
  go_wp2_with fail
  refine hnw.mono ?_
  rintro e w2 ⟨hres, hb2⟩
  rcases hres with ⟨rfl, hno⟩ | ⟨k, s, vv, dv, hk, hgk, hj, rfl, hvv, hdv, hfv, hfd⟩
  · obtain ⟨m, hm, hmn⟩ := hex
    exact absurd (hno m hm) hmn
  · have hsk : s.i = keep := hkeep k s (by rw [← HN.out]; exact hk) hgk hj
    rw [hsk]
    obtain ⟨vo, vc, rfl⟩ := hvv.form
    obtain ⟨do_, dc, rfl⟩ := hdv.form
    have HB2 : Hid (Below w.heap.size w w2) := hb1.trans (hb2.mono hb1.size)
    have HR2 : Hid (RowO w2 w.heap.size 3 1 (.slice a1 N c1) N (i64s ms)) := HR1.out.upd (Upd.ofBelow hb2 : Upd w1 w2 (fun _ => False)) (fun _ _ => id)
    clear hb1 hb2 hvv hdv hfv hfd hgk hj hk hnw hkeep HR1 hex
    go_wp2_with fail
    obtain ⟨w3, hw3⟩ : ∃ w3, w3 = w2.alloc (.cells #[.int .i64 keep, .int .i64 s.t, .slice vo s.vs.length vc, .slice do_ s.d.length dc] 81) := ⟨_, rfl⟩
    rw [← hw3]
    have HX3 : Hid (w3.heap[w2.heap.size]? = some (.cells #[.int .i64 keep, .int .i64 s.t, .slice vo s.vs.length vc, .slice do_ s.d.length dc] 81)) := by rw [hw3]; exact heap_alloc_new w2 _
    have HB3 : Hid (Below w.heap.size w w3) := by rw [hw3]; exact HB2.out.alloc HB2.out.size _
    have HR3 : Hid (RowO w3 w.heap.size 3 1 (.slice a1 N c1) N (i64s ms)) := by rw [hw3]; exact HR2.out.upd (Upd.alloc w2 _ (fun _ => False)) (fun _ _ => id)
    have HS : Hid (w.heap.size ≤ w2.heap.size ∧ w2.heap.size < w3.heap.size) := ⟨HB2.out.size, by rw [hw3]; simp⟩
    have HFT : Hid (∀ k, Foot d g k → k < w.heap.size) := fun k hk => HHD.out.lt hk
    have HD3 : Hid (Dk B w3 d g p) := HHD.out.below HB3.out
    have HP := Hid.mk' hp
    have HH0 := Hid.mk' h0
    have HE0 := Hid.mk' hE0
    clear hw3 hp h0 hE0 HB2 HR2 HHD
    obtain ⟨N1, hN1⟩ : ∃ N1, N = N1 + 1 := by
      have h1 := List.getElem?_eq_some_iff.1 HH0.out
      obtain ⟨h2, _⟩ := h1
      rw [← HN.out] at h2
      exact ⟨N - 1, by omega⟩
    obtain ⟨gg, off, hgo⟩ : ∃ gg off, a1 = some ⟨gg, off, none⟩ := by
      rcases HR3.out.2 with ⟨h', h0⟩ | ⟨gg, off, cap, cur, h', _⟩
      · omega
      · simp only [Value.slice.injEq, true_and] at h'
        exact ⟨gg, off, h'.1⟩
    subst hgo
    go_loopg [30] 1 (fun kx s30 wr => s30 = .int .i64 0 ∧ kx = 1 ∧ Hid (wr = w3))
    case atStart => exact ⟨rfl, rfl, Hid.mk' rfl⟩
    case round =>
      obtain ⟨rfl, _, HW⟩ := hrel
      obtain rfl := HW.out
      have hcell : wr.cell? ⟨gg, off, none⟩ = some (.int .i64 n0) := by
        have := HR3.out.cell 0 (.int .i64 n0) (by simp [i64s, HH0.out])
        exact this
      obtain ⟨x0, _, _, _⟩ := row4 HX3.out
      have hrem := remove_any B d g p ⟨(sname n0).toArray⟩ wr HD3.out (HP.out.sane (by omega))
      have hnm : (⟨(sname n0).toArray⟩ : ByteArray).data.toList = sname n0 := rfl
      rw [hnm, HE0.out] at hrem
      have HFIN : Hid (∀ w', DkPost B wr w' d g (remP p (sname n0)) → DkPost B w w' d g (remP p (sname n0))) := by
        intro w' h
        obtain ⟨g2, h1, h2, h3⟩ := h
        have hub : Upd w wr (Foot d g) := Upd.ofBelow HB3.out
        exact ⟨g2, h1, hub.trans h2 (fun _ _ h => h), fun k hk => by rcases h3 k hk with h | h; exact .inl h; exact .inr (Nat.le_trans HB3.out.size h)⟩
      have hg1 : ((n0 : Int) == keep) = false := by simpa using hne
      have hg2 : decide ((0 : Int) < N) = true := by simp; omega
      have hfn := fun W => fileName_any n0 W hn0
      clear hnm hne
      go_wp2_with (first | (go_at_call 33; refine (hfn _).mono ?_; rintro e w' ⟨rfl, rfl⟩) | (go_at_call 46; refine hrem.mono ?_; rintro e w' ⟨rfl, hpo⟩))
      go_ret
      exact ⟨rfl, HFIN.out _ hpo⟩
theorem ixs_two {ms : List Int} (hup : ms.Pairwise (· < ·)) (h3 : (3 : Int) ∈ ms) (h9 : (9 : Int) ∈ ms) (h : ∀ m ∈ ms, m = 9 ∨ m = 3) : ms = [3, 9] := by
  match ms, hup, h3, h9, h with
  | [], _, h3, _, _ => cases h3
  | [a], _, h3, h9, _ =>
    have e1 := List.mem_singleton.1 h3
    have e2 := List.mem_singleton.1 h9
    omega
  | [a, b], hup, _, _, h =>
    have h1 := h a (by simp)
    have h2 := h b (by simp)
    have h3 := (List.pairwise_cons.1 hup).1 b (by simp)
    obtain rfl : a = 3 := by omega
    obtain rfl : b = 9 := by omega
    rfl
  | a :: b :: c :: r, hup, _, _, h =>
    have h1 := h a (by simp)
    have h2 := h b (by simp)
    have h4 := h c (by simp)
    obtain ⟨h5, h6⟩ := List.pairwise_cons.1 hup
    have h7 := h5 b (by simp)
    have h8 := (List.pairwise_cons.1 h6).1 c (by simp)
    omega
theorem ixs_one {ms : List Int} (hup : ms.Pairwise (· < ·)) (h9 : (9 : Int) ∈ ms) (h : ∀ m ∈ ms, m = 9) : ms = [9] := by
  match ms, hup, h9, h with
  | [], _, h9, _ => cases h9
  | [a], _, _, h => rw [h a (by simp)]
  | a :: b :: r, hup, _, h =>
    have h1 := h a (by simp)
    have h2 := h b (by simp)
    have h3 := (List.pairwise_cons.1 hup).1 b (by simp)
    omega
theorem Cc.cr {c : Nat} {fst trm : Bool} {za zb : List Int} {p : PS} (h : Cc c fst trm za zb p) : Cr fst za zb p := ⟨h.calm, fun f hf => by
  rcases (h.mem f).1 hf with h1 | ⟨_, h1⟩
  · exact .inr (.inl h1)
  · exact .inl h1⟩
theorem Cc.two {c : Nat} {za zb : List Int} {p : PS} (h : Cc c true true za zb p) : ixs p = [3, 9] :=
  ixs_two (ixs_up h.calm.up h.cr.names) ((mem_ixs h.cr.names).2 ⟨3, _, (h.mem _).2 (.inl ⟨rfl, rfl⟩), rfl, by decide, by decide, rfl⟩) ((mem_ixs h.cr.names).2 ⟨9, _, (h.mem _).2 (.inr ⟨rfl, rfl⟩), rfl, by decide, by decide, rfl⟩) fun m hm => by
    rcases h.cr.ix hm with ⟨e, _⟩ | ⟨e, _⟩
    · exact .inl e
    · exact .inr e
theorem Cc.one {c : Nat} {za zb : List Int} {p : PS} (h : Cc c false true za zb p) : ixs p = [9] :=
  ixs_one (ixs_up h.calm.up h.cr.names) ((mem_ixs h.cr.names).2 ⟨9, _, (h.mem _).2 (.inr ⟨rfl, rfl⟩), rfl, by decide, by decide, rfl⟩) fun m hm => by
    rcases h.cr.ix hm with ⟨e, _⟩ | ⟨_, e, _⟩
    · exact e
    · cases e
theorem back9 {ms : List Int} {za zb : List Int} (hl : ms[ms.length - 1]? = some 9) : ∀ k s, k < ms.length → gotC za zb (fromBack ms k).2 = some s → (∀ j, j < k → gotC za zb (fromBack ms j).2 = none) → s.i = 9 := fun k s hk hg hj => by
  have e0 : (fromBack ms 0).2 = 9 := by show ms[ms.length - 1 - 0]?.getD 0 = 9; rw [Nat.sub_zero, hl]; rfl
  rcases Nat.eq_zero_or_pos k with rfl | h0
  · rw [e0] at hg
    obtain rfl : sB zb = s := Option.some.inj hg
    rfl
  · have := hj 0 h0
    rw [e0] at this
    exact absurd this (by unfold gotC; rw [if_pos rfl]; exact fun e => by cases e)
/-- Trim on a disk that stops, or not. -/
theorem trim_cc (hPY : ParseYes) (B d : Nat) (g : Gu) (kk : Nat) (w : World) {c : Nat} {fst : Bool} {za zb : List Int} {p : PS} {n : Int} (h2 : Two za zb) (h : Cc c fst true za zb p) (hd : Dk B w d g { p with stops := n }) (hp : PlayAt { p with stops := n } 65536 kk) (hkk : kk + 2 ≤ 290) (hT : HasTab w) :
    Calls Tryz.prog 15 #[ptr d] w fun e w' => ∃ x q, e = .returned (.int .i64 x) ∧ Af fst true za zb x q ∧ PlayAt q 65536 (kk + 2) ∧ DkPost B w w' d g q := by
  have hlive : ({ p with stops := n } : PS).dead = false := h.calm.dead
  have hnm : ∀ f ∈ ({ p with stops := n } : PS).fs, ShotName f.name := h.cr.names
  have hF0 := h.cr.file h2
  have hF : ∀ m ∈ ixs { p with stops := n }, FileAt { p with stops := n } (gotC za zb) m := hF0
  have m9 : bF 9 (sB zb) ∈ p.fs := (h.mem _).2 (.inr ⟨rfl, rfl⟩)
  have g9 : gotC za zb 9 ≠ none := by unfold gotC; rw [if_pos rfl]; exact fun e => by cases e
  have hall : ∀ f ∈ p.fs, f = bF 9 (sB zb) ∨ (fst = true ∧ f = bF 3 (sA za)) ∨ f.name = newName := h.cr.all
  cases fst with
  | false =>
    have hix : ixs { p with stops := n } = [9] := h.one
    refine (trim_yes hPY B d g { p with stops := n } 65536 kk w hd hp (by rw [hix]; show kk + 1 ≤ 300; omega) hlive hnm hT (gotC za zb) hF 9 ⟨9, by rw [hix]; simp, g9⟩ (by rw [hix]; exact back9 rfl) (by
      rw [hix]; intro j hj hne
      match j, hj, hne with
      | 0, _, hne => exact absurd rfl hne)).mono ?_
    rintro e w' ⟨rfl, hpo⟩
    rw [hix] at hpo
    have e1 : trimP 9 { p with stops := n } [9] = { p with stops := n } := rfl
    rw [e1] at hpo
    exact ⟨0, { p with stops := n }, rfl, ⟨h.calm.up, .inl rfl, hall, fun _ => m9, fun e => by cases e⟩, hp.mono (by omega), hpo⟩
  | true =>
    have hix : ixs { p with stops := n } = [3, 9] := h.two
    have m3 : bF 3 (sA za) ∈ p.fs := (h.mem _).2 (.inl ⟨rfl, rfl⟩)
    by_cases h1 : n = 1
    · have hst : ({ p with stops := n } : PS).stops = 1 := h1
      refine (trim_stop hPY B d g { p with stops := n } 65536 kk w hd hp (by rw [hix]; show kk + 2 ≤ 300; omega) hlive hnm hT (gotC za zb) hF 9 ⟨9, by rw [hix]; simp, g9⟩ (by rw [hix]; exact back9 rfl) 3 (by rw [hix]; rfl) (by decide) (by decide) (stop_op hst)).mono ?_
      rintro e w' ⟨rfl, hpo⟩
      have hfs := stop_rem (nm := sname 3) hst
      refine ⟨13, _, rfl, ⟨by rw [hfs]; exact h.calm.up, .inr rfl, by rw [hfs]; exact hall, fun _ => by rw [hfs]; exact m9, fun _ e => by cases e⟩, (hp.rem _).mono (by omega), hpo⟩
    · have L : Live { p with stops := n } := ⟨h.calm.dead, h1, h.calm.up⟩
      have hl := look_mem L.up m3
      have hE : opE { p with stops := n } (sname 3) = 0 := by rw [opE_go L.go]; unfold PS.fault; rw [sname_ok 3 (by decide), hl]; rfl
      have hfs := rem_fs (p := { p with stops := n }) (nm := sname 3) L.go (sname_ok 3 (by decide))
      refine (trim_yes hPY B d g { p with stops := n } 65536 kk w hd hp (by rw [hix]; show kk + 2 ≤ 300; omega) hlive hnm hT (gotC za zb) hF 9 ⟨9, by rw [hix]; simp, g9⟩ (by rw [hix]; exact back9 rfl) (by
        rw [hix]; intro j hj hne
        match j, hj, hne with
        | 0, _, _ => exact hE
        | 1, _, hne => exact absurd rfl hne)).mono ?_
      rintro e w' ⟨rfl, hpo⟩
      rw [hix] at hpo
      have e1 : trimP 9 { p with stops := n } [3, 9] = remP { p with stops := n } (sname 3) := rfl
      rw [e1] at hpo
      refine ⟨0, _, rfl, ⟨by rw [hfs]; exact up_del h.calm.up, .inl rfl, fun f hf => ?_, fun _ => ?_, fun e => by cases e⟩, (hp.rem _).mono (by omega), hpo⟩
      · rw [hfs, mem_delK] at hf
        exact hall f hf.1
      · rw [hfs, mem_delK]
        exact ⟨m9, fun e => ne39 (f := bF 3 (sA za)) rfl e.symm⟩
end Go.Proofs.YtdcpfjlnagigaaaGreatDoor
