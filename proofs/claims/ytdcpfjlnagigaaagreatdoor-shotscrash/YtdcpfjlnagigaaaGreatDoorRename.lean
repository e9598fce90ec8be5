/- Rename: what it answers, and what it leaves. -/
import Derived.Test.YtdcpfjlnagigaaaGreatDoorCalls
namespace Go.Proofs.YtdcpfjlnagigaaaGreatDoor
open Go Go.RowKit
theorem apart_mid {pre post : List Fl} {f x : Fl} (h : (pre ++ f :: post).Pairwise (fun f h => ∀ k, footF f k → ¬ footF h k)) (hx : x ∈ pre ++ f :: post) (hn : x.nm ≠ f.nm) : ∀ k, footF f k → ¬ footF x k := by
  have h1 := List.pairwise_append.1 h
  have h2 := List.pairwise_cons.1 h1.2.1
  intro k hk hk'
  rcases List.mem_append.1 hx with hx | hx
  · exact h1.2.2 x hx f (by simp) k hk' hk
  · rcases List.mem_cons.1 hx with rfl | hx
    · exact hn rfl
    · exact h2.1 x hx k hk hk'
theorem del_del {α : Type} {k : α → List UInt8} (a b : List UInt8) (l : List α) : delK k b (delK k a (delK k b l)) = delK k b (delK k a l) := by
  unfold delK
  simp only [List.filter_filter]
  congr 1
  funext x
  cases (k x == a) <;> cases (k x == b) <;> rfl
theorem del_swap {α : Type} {k : α → List UInt8} (a b : List UInt8) (l : List α) : delK k b (delK k a l) = delK k a (delK k b l) := by
  unfold delK
  simp only [List.filter_filter]
  congr 1
  funext x
  exact Bool.and_comm _ _
theorem look_del {α : Type} {k : α → List UInt8} {a b : List UInt8} {l : List α} {f : α} (h : lookK k a l = some f) (hne : a ≠ b) : lookK k a (delK k b l) = some f := by
  unfold lookK delK at *
  rw [List.find?_filter]
  have e : (fun x => decide ((!(k x == b)) = true ∧ (k x == a) = true)) = (fun x => k x == a) := by
    funext x
    cases hx : (k x == a)
    · simp
    · have : k x = a := by simpa using hx
      simp [this, hne]
  rw [e]; exact h
theorem renE_stop {p : PS} {a b : List UInt8} (h : p.stopped = true) : renE p a b = 13 := by unfold renE; rw [if_pos h]
theorem renE_arg {p : PS} {a b : List UInt8} (h : p.stopped = false) (h2 : okName b = false) : renE p a b = 1 := by unfold renE; rw [h, h2]; rfl
theorem renE_go {p : PS} {a b : List UInt8} (h : p.stopped = false) (h2 : okName b = true) : renE p a b = p.fault a := by unfold renE; rw [h, h2]; rfl
theorem renP_no {p : PS} {a b : List UInt8} (h : renE p a b ≠ 0) : renP p a b = p.begun := by unfold renP; rw [if_neg h]
theorem renP_yes {p : PS} {a b : List UInt8} (h : renE p a b = 0) : renP p a b = putP { p.begun with fs := delK PF.name a p.fs } ⟨b, (oldF p a).xs, (oldF p a).sy⟩ := by unfold renP; rw [if_pos h]
set_option maxRecDepth 100000 in
set_option maxHeartbeats 1000000 in
theorem rename_no (B d : Nat) (g : Gu) (p : PS) (s t : ByteArray) (w : World) (hd : Dk B w d g p) (hs : p.sane) (hE : renE p s.data.toList t.data.toList ≠ 0) :
    Calls Tryz.prog 32 #[ptr d, .string s, .string t] w fun e w' => e = .returned (.int .i64 (renE p s.data.toList t.data.toList)) ∧ DkPost B w w' d g (renP p s.data.toList t.data.toList) := by
  have hbeg := begin_any B d g p w hd hs
  rw [renP_no hE]
  cases hst : p.stopped with
  | true =>
    rw [renE_stop hst]
    rw [begE_yes hst] at hbeg
    clear hd hs hE
    go_enter Tryz.func32, Tryz.ntmps32
    go_wp2_with (go_at_call 51; refine hbeg.mono ?_; rintro e w1 ⟨rfl, hd1, hu1⟩)
    go_ret
    exact ⟨rfl, DkPost.same hd1 hu1⟩
  | false =>
    rw [begE_no hst] at hbeg
    cases hok : okName t.data.toList with
    | false =>
      rw [renE_arg hst hok]
      clear hd hs hE
      go_enter Tryz.func32, Tryz.ntmps32
      go_wp2_with (first | (go_at_call 51; refine hbeg.mono ?_; rintro e w1 ⟨rfl, hd1, hu1⟩) | (go_at_call 52; refine (name_any _ _).mono ?_; rintro e w2 ⟨rfl, hb2⟩))
      go_ret
      exact ⟨rfl, DkPost.same (hd1.below hb2) (hu1.trans (Upd.ofBelow hb2) (fun _ _ h => h))⟩
    | true =>
      have hE2 := renE_go (a := s.data.toList) hst hok
      rw [hE2] at hE ⊢
      have hfind := fun w1 (h : Dk B w1 d g p.begun) => find_any B d g p.begun s w1 h
      rw [fault_begun, foundP_no (by rw [fault_begun]; exact hE)] at hfind
      have hcs : p.fault s.data.toList = 1 ∨ p.fault s.data.toList = 2 := by rcases fault_cases p s.data.toList with h | h | h; exact absurd h hE; exact .inl h; exact .inr h
      clear hd hs hE2
      rcases hcs with h | h
      all_goals
        rw [h]
        rw [h] at hfind
        clear h hE
        go_enter Tryz.func32, Tryz.ntmps32
        go_wp2_with (first | (go_at_call 51; refine hbeg.mono ?_; rintro e w1 ⟨rfl, hd1, hu1⟩) | (go_at_call 52; refine (name_any _ _).mono ?_; rintro e w2 ⟨rfl, hb2⟩) | (go_at_call 66; refine (hfind _ (hd1.below hb2)).mono ?_; rintro e w3 ⟨rfl, hb3⟩))
        go_ret
        exact ⟨rfl, DkPost.same ((hd1.below hb2).below hb3) ((hu1.trans (Upd.ofBelow hb2) (fun _ _ h => h)).trans (Upd.ofBelow hb3) (fun _ _ h => h))⟩
set_option maxRecDepth 100000 in
set_option maxHeartbeats 1000000 in
theorem rename_yes (B d : Nat) (g : Gu) (p : PS) (s t : ByteArray) (w : World) (hd : Dk B w d g p) (hs : p.sane) (hE : renE p s.data.toList t.data.toList = 0) :
    Calls Tryz.prog 32 #[ptr d, .string s, .string t] w fun e w' => e = .returned (.int .i64 0) ∧ DkPost B w w' d g (renP p s.data.toList t.data.toList) := by
  have hbeg := begin_any B d g p w hd hs
  rw [renP_yes hE]
  have hst : p.stopped = false := by
    cases h : p.stopped with
    | false => rfl
    | true => rw [renE_stop h] at hE; cases hE
  have hok : okName t.data.toList = true := by
    cases h : okName t.data.toList with
    | true => rfl
    | false => rw [renE_arg hst h] at hE; cases hE
  rw [renE_go hst hok] at hE
  rw [begE_no hst] at hbeg
  obtain ⟨hok1, f, hlk, hfp, hof⟩ := fault_found hd hE
  have hfp' : foundP g p.begun s.data.toList = some ⟨f.blk, 0, none⟩ := by unfold foundP at hfp ⊢; rw [fault_begun]; exact hfp
  have hfind := fun w1 (h : Dk B w1 d g p.begun) => find_any B d g p.begun s w1 h
  rw [fault_begun, hE, hfp'] at hfind
  obtain ⟨hfn, pre, post, hfs⟩ := look_parts hlk
  have hfm : f ∈ g.fs := by rw [hfs]; simp
  rw [hof]
  by_cases hst2 : s = t
  · subst hst2
    have HP : Hid (putP { p.begun with fs := delK PF.name s.data.toList p.fs } ⟨s.data.toList, f.pf.xs, f.pf.sy⟩ = p.begun) := by
      show _ = _
      have hup := upf hd.rest.up
      have hpf : f.pf = ⟨s.data.toList, f.pf.xs, f.pf.sy⟩ := by rw [← hfn]
      unfold putP
      show PS.mk (insK PF.name _ (delK PF.name s.data.toList (delK PF.name s.data.toList p.fs))) p.begun.room p.begun.ops p.begun.stops p.begun.dead = _
      have e1 : delK PF.name s.data.toList (delK PF.name s.data.toList p.fs) = delK PF.name s.data.toList p.fs := by unfold delK; simp [List.filter_filter]
      rw [e1, ← hpf, hd.view]
      rw [hfs, List.map_append, List.map_cons] at hup ⊢
      rw [put_parts hup hfn hfn, ← List.map_cons, ← List.map_append, ← hfs, ← hd.view, ← begun_fs p]
    rw [HP.out]
    clear hd hs hof hfp hfp' HP
    go_enter Tryz.func32, Tryz.ntmps32
    go_wp2_with (first | (go_at_call 51; refine hbeg.mono ?_; rintro e w1 ⟨rfl, hd1, hu1⟩) | (go_at_call 52; refine (name_any _ _).mono ?_; rintro e w2 ⟨rfl, hb2⟩) | (go_at_call 66; refine (hfind _ (hd1.below hb2)).mono ?_; rintro e w3 ⟨rfl, hb3⟩))
    go_ret
    exact ⟨rfl, DkPost.same ((hd1.below hb2).below hb3) ((hu1.trans (Upd.ofBelow hb2) (fun _ _ h => h)).trans (Upd.ofBelow hb3) (fun _ _ h => h))⟩
  · have hne : s.data.toList ≠ t.data.toList := fun e => hst2 (by
      cases s; cases t; simp at e; rw [e])
    obtain ⟨m0, hm0⟩ : ∃ b, g.m = some b := by
      rcases hd.rest.map with ⟨_, e⟩ | ⟨b, e, _⟩
      · rw [e] at hfs; simp at hfs
      · exact ⟨b, e⟩
    have htot := hs.tot
    have hsz := ok_size hok
    have hsz1 := ok_size hok1
    have hvl := hd.view
    have hlen : g.fs.length < 1000000 := by have := hs.len; rw [hd.view, List.length_map] at this; exact this
    have hLt : lenAt g.fs t.data.toList ≤ total p.fs ∧ total p.fs = lenAt g.fs t.data.toList + total (delK PF.name t.data.toList p.fs) := by
      have hvt := view_look hd t.data.toList
      cases hl : lookK Fl.nm t.data.toList g.fs with
      | none =>
        rw [hl] at hvt
        have : delK PF.name t.data.toList p.fs = p.fs := del_none hvt
        unfold lenAt; rw [hl, this]; simp
      | some f2 =>
        rw [hl] at hvt
        have := total_del (fs := p.fs) (by rw [hd.view]; exact upf hd.rest.up) hvt
        unfold lenAt; rw [hl]; simp; omega
    have hT2 : total (delK PF.name s.data.toList (delK PF.name t.data.toList p.fs)) + f.pf.xs.length = total (delK PF.name t.data.toList p.fs) :=
      total_del (by rw [hd.view]; exact up_del (upf hd.rest.up)) (look_del ((view_look hd _).trans (by rw [hlk]; rfl)) hne)
    have hdrop := fun w1 (h : Dk B w1 d g p.begun) => drop_any B d g t w1 _ _ _ _ _ h.cells h.rest hsz (by rw [begun_fs]; omega) (by rw [begun_fs]; omega)
    rw [begun_fs] at hdrop
    have hfd : f ∈ delK Fl.nm t.data.toList g.fs := by
      unfold delK; rw [List.mem_filter]; exact ⟨hfm, by rw [show Fl.nm f = s.data.toList from hfn, beq_eq_false_iff_ne.2 hne]; rfl⟩
    have HST : Hid (∀ w4, DCells w4 d g.m p.begun.room ((total p.fs : Int) - lenAt g.fs t.data.toList) p.begun.ops p.begun.stops p.begun.dead → DRest B w4 d ⟨g.m, delK Fl.nm t.data.toList g.fs⟩ →
        ∃ w5, ((Builtin.delete_ #[63, 9] 0 #[.map (some m0), .string s]).run Tryz.prog w4 = .ok (.tuple #[]) w5) ∧
          Calls Tryz.prog 53 #[ptr d, .string t, ptr f.blk] w5 fun e w' => e = .returned (.tuple #[]) ∧ DCells w' d (some m0) p.begun.room ((total p.fs : Int) - lenAt g.fs t.data.toList) p.begun.ops p.begun.stops p.begun.dead ∧
            DRest B w' d ⟨some m0, insK Fl.nm ⟨⟨t.data.toList, f.pf.xs, f.pf.sy⟩, f.blk, f.v⟩ (delK Fl.nm t.data.toList (delK Fl.nm s.data.toList g.fs))⟩ ∧ Upd w4 w' (fun k => k = m0)) := by
      intro w4 hc4 hr4
      have hm4 : w4.ownsMap Tryz.prog 9 Rf m0 (delK Fl.nm t.data.toList g.fs).length (.map ((delK Fl.nm t.data.toList g.fs).map ent)) := by
        rcases hr4.map with ⟨e, _⟩ | ⟨b', e, _, _, h⟩
        · have e : g.m = none := e
          rw [e] at hm0; cases hm0
        · have e : g.m = some b' := e
          rw [e] at hm0; cases hm0; exact h
      have hmd : m0 ≠ d := hr4.ne (.inl hm0)
      obtain ⟨w5, h1, h2, h3⟩ := DRest.strike hm4 s hsz1 0
      have hr5 := hr4.del hm0 s.data.toList h3 h2
      have hff := hr4.files f hfd
      have hoff := hr4.off f hfd
      have hf5 : HasF B w5 ⟨⟨t.data.toList, f.pf.xs, f.pf.sy⟩, f.blk, f.v⟩ := by
        have := hff.upd h3 (fun k hk e => (hoff k hk).2 (by rw [e]; exact hm0))
        exact ⟨this.c0, this.c1, this.f0, this.f1, this.own, this.ne, this.base, this.bytes, this.le, hok⟩
      have hl5 := lay_some B d m0 ⟨some m0, delK Fl.nm s.data.toList (delK Fl.nm t.data.toList g.fs)⟩ ⟨⟨t.data.toList, f.pf.xs, f.pf.sy⟩, f.blk, f.v⟩ t w5 _ _ _ _ _ (by rw [hm0] at hc4; exact hc4.upd h3 (fun e => hmd e.symm)) hr5 rfl hf5 rfl (fun k hk => by
        refine ⟨(hoff k hk).1, fun e => (hoff k hk).2 (by rw [e]; exact hm0), fun f2 hf2 _ => ?_⟩
        have hx := mem_del hf2
        have hap := hr4.apart
        obtain ⟨pr, po, hpp⟩ := List.append_of_mem hfd
        have hpp : delK Fl.nm t.data.toList g.fs = pr ++ f :: po := hpp
        rw [show (⟨g.m, delK Fl.nm t.data.toList g.fs⟩ : Gu).fs = pr ++ f :: po from hpp] at hap
        exact apart_mid hap (by rw [← hpp]; exact hx.1) (by rw [show f.nm = s.data.toList from hfn]; exact hx.2) k hk) (by
        show (delK Fl.nm _ (delK Fl.nm _ g.fs)).length < _
        have := List.length_filter_le (fun f : Fl => !(f.nm == s.data.toList)) (delK Fl.nm t.data.toList g.fs)
        have := List.length_filter_le (fun f : Fl => !(f.nm == t.data.toList)) g.fs
        unfold delK at *; omega)
      refine ⟨w5, h1, hl5.mono ?_⟩
      rintro e w' ⟨rfl, k1, k2, k3⟩
      refine ⟨rfl, k1, ?_, h3.trans k3 (fun _ _ h => h)⟩
      have e : delK Fl.nm t.data.toList (delK Fl.nm s.data.toList (delK Fl.nm t.data.toList g.fs)) = delK Fl.nm t.data.toList (delK Fl.nm s.data.toList g.fs) := del_del _ _ _
      have k2 : DRest B w' d ⟨some m0, insK Fl.nm ⟨⟨t.data.toList, f.pf.xs, f.pf.sy⟩, f.blk, f.v⟩ (delK Fl.nm t.data.toList (delK Fl.nm s.data.toList (delK Fl.nm t.data.toList g.fs)))⟩ := k2
      rw [e] at k2
      exact k2
    have hq : (s.toList == t.toList) = false := by rw [ByteArray.toList_eq, ByteArray.toList_eq]; exact beq_eq_false_iff_ne.2 hne
    clear hd hs hof hfp hfp'
    go_enter Tryz.func32, Tryz.ntmps32
    go_wp2_with (first | (go_at_call 51; refine hbeg.mono ?_; rintro e w1 ⟨rfl, hd1, hu1⟩) | (go_at_call 52; refine (name_any _ _).mono ?_; rintro e w2 ⟨rfl, hb2⟩) | (go_at_call 66; refine (hfind _ (hd1.below hb2)).mono ?_; rintro e w3 ⟨rfl, hb3⟩) | (go_at_call 67; refine (hdrop _ ((hd1.below hb2).below hb3)).mono ?_; rintro e w4 ⟨rfl, hc4, hr4, hu4⟩; obtain ⟨w5, hrun, hlay⟩ := HST.out w4 hc4 hr4; have c0 := hc4.c0; rw [hm0] at c0) | (go_at_call 53; refine hlay.mono ?_; rintro e w6 ⟨rfl, k1, k2, k3⟩))
    go_ret
    have hu3 : Upd w w3 (fun k => k = d) := (hu1.trans (Upd.ofBelow hb2) (fun _ _ h => h)).trans (Upd.ofBelow hb3) (fun _ _ h => h)
    refine ⟨rfl, ⟨some m0, insK Fl.nm ⟨⟨t.data.toList, f.pf.xs, f.pf.sy⟩, f.blk, f.v⟩ (delK Fl.nm t.data.toList (delK Fl.nm s.data.toList g.fs))⟩, ⟨?_, ?_, k2⟩, ?_, ?_⟩
    · show insK PF.name _ (delK PF.name t.data.toList (delK PF.name s.data.toList p.fs)) = _
      rw [map_ins name_pf, map_del name_pf, map_del name_pf, ← hvl]
    · show DCells _ _ _ p.begun.room (total (insK PF.name _ (delK PF.name t.data.toList (delK PF.name s.data.toList p.fs)))) p.begun.ops p.begun.stops p.begun.dead
      rw [total_ins, del_swap (k := PF.name) s.data.toList t.data.toList p.fs]
      have e : ((total p.fs : Int) - lenAt g.fs t.data.toList) = ((({ name := t.data.toList, xs := f.pf.xs, sy := f.pf.sy } : PF).xs.length + total (delK PF.name s.data.toList (delK PF.name t.data.toList p.fs)) : Nat) : Int) := by
        show _ = ((f.pf.xs.length + total (delK PF.name s.data.toList (delK PF.name t.data.toList p.fs)) : Nat) : Int)
        omega
      rw [← e]
      exact k1
    · refine ((hu3.mono (fun _ _ h => .inl h)).trans hu4 (fun j _ h => ?_)).trans k3 (fun j _ h => .inr (.inl (by rw [hm0, h])))
      rcases h with h | h
      · exact .inl h
      · exact .inr (.inl h)
    · intro k hk
      left
      rcases hk with hk | hk | ⟨x, hx, hk⟩
      · exact .inl hk
      · exact .inr (.inl (hm0.trans hk))
      · rcases List.mem_cons.1 ((ins_perm _ _).mem_iff.1 hx) with rfl | hx
        · exact .inr (.inr ⟨f, hfm, hk⟩)
        · exact .inr (.inr ⟨x, (mem_del (mem_del hx).1).1, hk⟩)
theorem rename_any (B d : Nat) (g : Gu) (p : PS) (s t : ByteArray) (w : World) (hd : Dk B w d g p) (hs : p.sane) :
    Calls Tryz.prog 32 #[ptr d, .string s, .string t] w fun e w' => e = .returned (.int .i64 (renE p s.data.toList t.data.toList)) ∧ DkPost B w w' d g (renP p s.data.toList t.data.toList) := by
  by_cases hE : renE p s.data.toList t.data.toList = 0
  · rw [hE]; exact rename_yes B d g p s t w hd hs hE
  · exact rename_no B d g p s t w hd hs hE
end Go.Proofs.YtdcpfjlnagigaaaGreatDoor
