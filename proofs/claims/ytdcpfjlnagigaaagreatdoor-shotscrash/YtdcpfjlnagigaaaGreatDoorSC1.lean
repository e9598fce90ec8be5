/- A disk that stops within a Save: what is left. -/
import Derived.Test.YtdcpfjlnagigaaaGreatDoorSKN
namespace Go.Proofs.YtdcpfjlnagigaaaGreatDoor
open Go Go.RowKit
structure Live (p : PS) : Prop where
  dead : p.dead = false
  stops : p.stops ≠ 1
  up : upK PF.name p.fs
def decS (s : Int) : Int := if 0 < s then s - 1 else s
theorem Live.go {p : PS} (h : Live p) : p.stopped = false := by simp [PS.stopped, h.dead, h.stops]
theorem Live.begun {p : PS} (h : Live p) : p.begun.stops = decS p.stops ∧ p.begun.dead = false := by rw [begun_go h.go]; exact ⟨rfl, h.dead⟩
theorem live_app {p : PS} {nm : List UInt8} {ys : List Int} (h : Live p) (hok : okName nm = true) (hr : (ys.length : Int) ≤ p.room - total p.fs) (hno : ∀ f ∈ p.fs, f.name ≠ nm) :
    appE p nm ys.length = 0 ∧ (appP p nm ys).dead = false ∧ (appP p nm ys).stops = decS p.stops ∧ upK PF.name (appP p nm ys).fs ∧ (appP p nm ys).fs = insK PF.name ⟨nm, ys, 0⟩ p.fs := by
  have hE := appE_ok h.go hok hr
  have ho : oldF p nm = ⟨nm, [], 0⟩ := by unfold oldF; rw [look_not hno]; rfl
  have hd : delK PF.name nm p.fs = p.fs := del_none (look_not hno)
  have hfs : (appP p nm ys).fs = insK PF.name ⟨nm, ys, 0⟩ p.fs := by
    rw [appP_yes hE, ho]
    show insK PF.name _ (delK PF.name nm p.begun.fs) = _
    rw [begun_fs, hd]
    rfl
  obtain ⟨b2, b3⟩ := h.begun
  obtain ⟨_, _, a3, a4⟩ := app_rest p nm ys
  refine ⟨hE, by rw [a4, b3], by rw [a3, b2], ?_, hfs⟩
  rw [hfs]
  exact up_ins h.up hno
theorem live_sync {p : PS} {nm : List UInt8} {f : PF} (h : Live p) (hok : okName nm = true) (hf : f ∈ p.fs) (hn : f.name = nm) :
    opE p nm = 0 ∧ (syncP p nm).dead = false ∧ (syncP p nm).stops = decS p.stops ∧ upK PF.name (syncP p nm).fs ∧ (syncP p nm).fs = insK PF.name ⟨nm, f.xs, f.xs.length⟩ (delK PF.name nm p.fs) := by
  have hl := look_mem h.up hf
  rw [hn] at hl
  have hE : opE p nm = 0 := by rw [opE_go h.go]; unfold PS.fault; rw [hok, hl]; rfl
  have ho : oldF p nm = f := by unfold oldF; rw [hl]; rfl
  have hfs : (syncP p nm).fs = insK PF.name ⟨nm, f.xs, f.xs.length⟩ (delK PF.name nm p.fs) := by
    unfold syncP
    rw [if_pos hE, ho]
    show insK PF.name _ (delK PF.name nm p.begun.fs) = _
    rw [begun_fs]
  obtain ⟨b2, b3⟩ := h.begun
  obtain ⟨_, _, a3, a4⟩ := sync_rest p nm
  refine ⟨hE, by rw [a4, b3], by rw [a3, b2], ?_, hfs⟩
  rw [hfs]
  exact up_put h.up rfl
theorem live_ren {p : PS} {a b : List UInt8} {f : PF} (h : Live p) (hoa : okName a = true) (hob : okName b = true) (hf : f ∈ p.fs) (hn : f.name = a) :
    renE p a b = 0 ∧ upK PF.name (renP p a b).fs ∧ (renP p a b).fs = insK PF.name ⟨b, f.xs, f.sy⟩ (delK PF.name b (delK PF.name a p.fs)) := by
  have hl := look_mem h.up hf
  rw [hn] at hl
  have hE : renE p a b = 0 := by rw [renE_go h.go hob]; unfold PS.fault; rw [hoa, hl]; rfl
  have ho : oldF p a = f := by unfold oldF; rw [hl]; rfl
  have hfs : (renP p a b).fs = insK PF.name ⟨b, f.xs, f.sy⟩ (delK PF.name b (delK PF.name a p.fs)) := by
    rw [renP_yes hE, ho]
    rfl
  refine ⟨hE, ?_, hfs⟩
  rw [hfs]
  exact up_put (up_del h.up) rfl
theorem stopped1 {p : PS} (h : p.stops = 1) : p.stopped = true := by simp [PS.stopped, h]
theorem stop_app {p : PS} {nm : List UInt8} {ys : List Int} (h : p.stops = 1) : appE p nm ys.length = 13 ∧ (appP p nm ys).fs = p.fs := by
  have hE := appE_stop (nm := nm) (n := ys.length) (stopped1 h)
  refine ⟨hE, ?_⟩
  unfold appP
  rw [if_neg (by rw [hE]; decide), begun_fs]
theorem stop_op {p : PS} {nm : List UInt8} (h : p.stops = 1) : opE p nm = 13 := by unfold opE; rw [if_pos (stopped1 h)]
theorem stop_sync {p : PS} {nm : List UInt8} (h : p.stops = 1) : (syncP p nm).fs = p.fs := by
  unfold syncP
  rw [if_neg (by rw [stop_op h]; decide), begun_fs]
theorem stop_rem {p : PS} {nm : List UInt8} (h : p.stops = 1) : (remP p nm).fs = p.fs := by
  unfold remP
  rw [if_neg (by rw [stop_op h]; decide), begun_fs]
theorem stop_ren {p : PS} {a b : List UInt8} (h : p.stops = 1) : renE p a b = 13 ∧ (renP p a b).fs = p.fs := by
  have hE := renE_stop (a := a) (b := b) (stopped1 h)
  refine ⟨hE, ?_⟩
  unfold renP
  rw [if_neg (by rw [hE]; decide), begun_fs]
/-- A Save on a disk that stops at its n-th operation, or not. -/
theorem save_stop {p : PS} {n : Int} {k : Nat} {bs : List Int} (hd : p.dead = false) (hsn : p.stops = n) (hup : upK PF.name p.fs) (hn : 1 ≤ n) (hk : k < 100) (hr : (bs.length : Int) ≤ p.room - total p.fs) (hno : ∀ f ∈ p.fs, f.name ≠ newName) :
    upK PF.name (saveP p k bs).fs ∧
    ((saveE p k bs = 0 ∧ ∀ f, f ∈ (saveP p k bs).fs ↔ f = ⟨sname k, bs, bs.length⟩ ∨ (f ∈ p.fs ∧ f.name ≠ sname k)) ∨
     (saveE p k bs = 13 ∧ (∀ f ∈ p.fs, f ∈ (saveP p k bs).fs) ∧ ∀ f ∈ (saveP p k bs).fs, f ∈ p.fs ∨ f.name = newName)) := by
  have hleft : leftN p = false := by
    unfold leftN
    rw [decide_eq_false_iff_not]
    intro hm
    obtain ⟨f, hf, e⟩ := List.mem_map.1 hm
    exact hno f hf e
  have hA : layAE p false = 0 := rfl
  have hAP : layA p false = p := rfl
  by_cases h1 : n = 1
  · obtain ⟨e1, f1⟩ := stop_app (p := p) (nm := newName) (ys := bs) (hsn.trans h1)
    have hlE : layE p bs false = 13 := by unfold layE; rw [hA, hAP, e1]; rfl
    have hlP : layP p bs false = appP p newName bs := by unfold layP; rw [hA, hAP, e1]; rfl
    have hsE : saveE p k bs = 13 := by unfold saveE; rw [hd, hleft, hlE]; rfl
    have hsP : saveP p k bs = appP p newName bs := by unfold saveP; rw [hd, hleft, hlE, hlP]; rfl
    rw [hsP, f1]
    exact ⟨hup, .inr ⟨hsE, fun f hf => hf, fun f hf => .inl hf⟩⟩
  · have L1 : Live p := ⟨hd, by rw [hsn]; exact h1, hup⟩
    obtain ⟨e1, d1, s1, u1, f1⟩ := live_app L1 new_ok hr hno
    have hm1 : (⟨newName, bs, 0⟩ : PF) ∈ (appP p newName bs).fs := by rw [f1, mem_ins]; exact .inl rfl
    have hs1 : (appP p newName bs).stops = n - 1 := by rw [s1, hsn]; show (if 0 < n then n - 1 else n) = _; rw [if_pos (by omega)]
    by_cases h2 : n = 2
    · have hst : (appP p newName bs).stops = 1 := by rw [hs1]; omega
      have e2 := stop_op (nm := newName) hst
      have f2 := stop_sync (nm := newName) hst
      have hlE : layE p bs false = 13 := by unfold layE; rw [hA, hAP, e1, e2]; rfl
      have hlP : layP p bs false = syncP (appP p newName bs) newName := by unfold layP; rw [hA, hAP, e1]; rfl
      have hsE : saveE p k bs = 13 := by unfold saveE; rw [hd, hleft, hlE]; rfl
      have hsP : saveP p k bs = syncP (appP p newName bs) newName := by unfold saveP; rw [hd, hleft, hlE, hlP]; rfl
      rw [hsP, f2]
      refine ⟨u1, .inr ⟨hsE, fun f hf => by rw [f1, mem_ins]; exact .inr hf, fun f hf => ?_⟩⟩
      rw [f1, mem_ins] at hf
      rcases hf with rfl | hf
      · exact .inr rfl
      · exact .inl hf
    · have L2 : Live (appP p newName bs) := ⟨d1, by rw [hs1]; omega, u1⟩
      obtain ⟨e2, d2, s2, u2, f2⟩ := live_sync L2 new_ok hm1 rfl
      have hm2 : (⟨newName, bs, bs.length⟩ : PF) ∈ (syncP (appP p newName bs) newName).fs := by rw [f2, mem_ins]; exact .inl rfl
      have hs2 : (syncP (appP p newName bs) newName).stops = n - 2 := by rw [s2, hs1]; show (if 0 < n - 1 then n - 1 - 1 else n - 1) = _; rw [if_pos (by omega)]; omega
      have hlE : layE p bs false = 0 := by unfold layE; rw [hA, hAP, e1, e2]; rfl
      have hlP : layP p bs false = syncP (appP p newName bs) newName := by unfold layP; rw [hA, hAP, e1]; rfl
      have hsE : saveE p k bs = renE (syncP (appP p newName bs) newName) newName (sname k) := by unfold saveE; rw [hd, hleft, hlE, hlP]; rfl
      have hsP : saveP p k bs = renP (syncP (appP p newName bs) newName) newName (sname k) := by unfold saveP; rw [hd, hleft, hlE, hlP]; rfl
      by_cases h3 : n = 3
      · obtain ⟨e3, f3⟩ := stop_ren (p := syncP (appP p newName bs) newName) (a := newName) (b := sname k) (by rw [hs2]; omega)
        rw [hsE, hsP, e3, f3]
        refine ⟨u2, .inr ⟨rfl, fun f hf => ?_, fun f hf => ?_⟩⟩
        · rw [f2, mem_ins, mem_delK, f1, mem_ins]
          exact .inr ⟨.inr hf, hno f hf⟩
        · rw [f2, mem_ins, mem_delK, f1, mem_ins] at hf
          rcases hf with rfl | ⟨rfl | hf, _⟩
          · exact .inr rfl
          · exact .inr rfl
          · exact .inl hf
      · have L3 : Live (syncP (appP p newName bs) newName) := ⟨d2, by rw [hs2]; omega, u2⟩
        obtain ⟨e3, u3, f3⟩ := live_ren (b := sname k) L3 new_ok (sname_ok k hk) hm2 rfl
        rw [hsE, hsP, e3]
        refine ⟨u3, .inl ⟨rfl, fun f => ?_⟩⟩
        rw [f3, mem_ins, mem_delK, mem_delK, f2, mem_ins, mem_delK, f1, mem_ins]
        constructor
        · rintro (rfl | ⟨⟨(rfl | ⟨(rfl | hf), h2⟩), h3⟩, h4⟩)
          · exact .inl rfl
          · exact absurd rfl h3
          · exact absurd rfl h3
          · exact .inr ⟨hf, h4⟩
        · rintro (rfl | ⟨hf, h4⟩)
          · exact .inl rfl
          · exact .inr ⟨⟨.inr ⟨.inr hf, hno f hf⟩, hno f hf⟩, h4⟩
/-- What a crash leaves. -/
theorem crash_of {picks : List Int} {l : List PF} {n : Nat} {f : PF} (h : f ∈ crashL picks n l) : ∃ x ∈ l, f.name = x.name ∧ (x.sy = x.xs.length → f = x) := by
  induction l generalizing n with
  | nil => cases h
  | cons x r ih =>
    unfold crashL at h
    split at h
    · rcases List.mem_cons.1 h with rfl | h
      · exact ⟨f, List.mem_cons_self, rfl, fun _ => rfl⟩
      · obtain ⟨y, hy, h1, h2⟩ := ih h
        exact ⟨y, List.mem_cons_of_mem _ hy, h1, h2⟩
    · rename_i hne
      rcases List.mem_cons.1 h with rfl | h
      · exact ⟨x, List.mem_cons_self, rfl, fun e => absurd e.symm hne⟩
      · obtain ⟨y, hy, h1, h2⟩ := ih h
        exact ⟨y, List.mem_cons_of_mem _ hy, h1, h2⟩
theorem crash_keep {picks : List Int} {l : List PF} {n : Nat} {f : PF} (h : f ∈ l) (hs : f.sy = f.xs.length) : f ∈ crashL picks n l := by
  induction l generalizing n with
  | nil => cases h
  | cons x r ih =>
    unfold crashL
    rcases List.mem_cons.1 h with rfl | h
    · rw [if_pos hs.symm]
      exact List.mem_cons_self
    · split
      · exact List.mem_cons_of_mem _ (ih h)
      · exact List.mem_cons_of_mem _ (ih h)
theorem crash_names (picks : List Int) (l : List PF) (n : Nat) : (crashL picks n l).map PF.name = l.map PF.name := by
  induction l generalizing n with
  | nil => rfl
  | cons x r ih =>
    unfold crashL
    split
    · rw [List.map_cons, List.map_cons, ih]
    · rw [List.map_cons, List.map_cons, ih]; rfl
theorem crash_calm {p : PS} (hup : upK PF.name p.fs) (picks : List Int) : Calm (crashP p picks) := by
  refine ⟨rfl, rfl, ?_⟩
  have h1 : ((crashP p picks).fs.map PF.name).Pairwise (fun x y => bytesBefore x y = true) := by
    show ((crashL picks 0 p.fs).map PF.name).Pairwise _
    rw [crash_names]
    exact List.pairwise_map.2 hup
  exact List.pairwise_map.1 h1
end Go.Proofs.YtdcpfjlnagigaaaGreatDoor
