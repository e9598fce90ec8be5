/- What the calls leave of a disk's numbers; a disk that is to stop: plain laws. -/
import Derived.Test.YtmfhfabfhoiegaaCall
import Derived.Deep.RegionWith
import Derived.Deep.CutRange
namespace Go.Proofs.Ytmfhfabfhoiegaa
open Go Go.RowKit
theorem sync_rest (p : PS) (nm : List UInt8) : (syncP p nm).room = p.begun.room ∧ (syncP p nm).ops = p.begun.ops ∧ (syncP p nm).stops = p.begun.stops ∧ (syncP p nm).dead = p.begun.dead := by
  by_cases hE : opE p nm = 0
  · unfold syncP; rw [if_pos hE]; exact ⟨rfl, rfl, rfl, rfl⟩
  · rw [syncP_no hE]; exact ⟨rfl, rfl, rfl, rfl⟩
theorem ren_rest (p : PS) (a b : List UInt8) : (renP p a b).room = p.begun.room ∧ (renP p a b).ops = p.begun.ops ∧ (renP p a b).stops = p.begun.stops ∧ (renP p a b).dead = p.begun.dead := by
  by_cases hE : renE p a b = 0
  · rw [renP_yes hE]; exact ⟨rfl, rfl, rfl, rfl⟩
  · rw [renP_no hE]; exact ⟨rfl, rfl, rfl, rfl⟩
theorem sync_total {p : PS} {nm : List UInt8} (hup : upK PF.name p.fs) : total (syncP p nm).fs = total p.fs ∧ (syncP p nm).fs.length ≤ p.fs.length + 1 := by
  by_cases hE : opE p nm = 0
  · have e : (syncP p nm).fs = insK PF.name ⟨nm, (oldF p nm).xs, (oldF p nm).xs.length⟩ (delK PF.name nm p.fs) := by
      unfold syncP; rw [if_pos hE]
      show insK PF.name _ (delK PF.name nm p.begun.fs) = _
      rw [begun_fs]
    rw [e]
    have := put_total (p := p) (nm := nm) (xs := (oldF p nm).xs) (sy := (oldF p nm).xs.length) hup
    exact ⟨by omega, put_len _ _⟩
  · rw [syncP_no hE, begun_fs]; omega
theorem rem_total (p : PS) (nm : List UInt8) : total (remP p nm).fs ≤ total p.fs ∧ (remP p nm).fs.length ≤ p.fs.length := by
  by_cases hE : opE p nm = 0
  · have e : (remP p nm).fs = delK PF.name nm p.fs := by unfold remP; rw [if_pos hE]
    rw [e]
    exact ⟨del_total nm, List.length_filter_le _ _⟩
  · rw [remP_no hE, begun_fs]; omega
theorem app_total_le {p : PS} {nm : List UInt8} {ys : List Int} (hup : upK PF.name p.fs) : total (appP p nm ys).fs ≤ total p.fs + ys.length := by
  by_cases hE : appE p nm ys.length = 0
  · rw [app_total hup hE]; omega
  · rw [appP_no hE, begun_fs]; omega
theorem ren_total {p : PS} {a b : List UInt8} (hup : upK PF.name p.fs) : total (renP p a b).fs ≤ total p.fs ∧ (renP p a b).fs.length ≤ p.fs.length + 1 := by
  by_cases hE : renE p a b = 0
  · have e : (renP p a b).fs = insK PF.name ⟨b, (oldF p a).xs, (oldF p a).sy⟩ (delK PF.name b (delK PF.name a p.fs)) := by rw [renP_yes hE]; rfl
    rw [e, total_ins]
    have h1 := del_total (fs := delK PF.name a p.fs) b
    have hlen : (insK PF.name (⟨b, (oldF p a).xs, (oldF p a).sy⟩ : PF) (delK PF.name b (delK PF.name a p.fs))).length ≤ p.fs.length + 1 := by
      have h2 := put_len (l := delK PF.name a p.fs) (⟨b, (oldF p a).xs, (oldF p a).sy⟩ : PF) b
      have h3 := List.length_filter_le (fun g : PF => !(g.name == a)) p.fs
      unfold delK at *; omega
    refine ⟨?_, hlen⟩
    show (oldF p a).xs.length + _ ≤ _
    cases hl : lookK PF.name a p.fs with
    | none =>
      have ho : oldF p a = ⟨a, [], 0⟩ := by unfold oldF PS.look; rw [hl]; rfl
      rw [ho]
      have := del_total (fs := p.fs) a
      show 0 + _ ≤ _
      omega
    | some f =>
      have ho : oldF p a = f := by unfold oldF PS.look; rw [hl]; rfl
      have := total_del hup hl
      rw [ho]; omega
  · rw [renP_no hE, begun_fs]; omega
/-- A disk that was to stop at the n-th operation, behind c of them. -/
structure DeadAt (p : PS) (n c : Nat) : Prop where
  room : p.room = 65536
  live : c < n → p.dead = false ∧ p.stops = (n : Int) - c ∧ p.ops = c
  over : n ≤ c → p.dead = true ∧ p.stops = 1 ∧ p.ops = (n : Int) - 1
  tot : total p.fs ≤ 500 * c
  len : p.fs.length ≤ c
theorem DeadAt.stopped {p : PS} {n c : Nat} (h : DeadAt p n c) : p.stopped = decide (n ≤ c + 1) := by
  by_cases h1 : c < n
  · obtain ⟨a, b, _⟩ := h.live h1
    unfold PS.stopped
    rw [a, b, Bool.false_or, decide_eq_decide]
    omega
  · obtain ⟨a, _, _⟩ := h.over (by omega)
    unfold PS.stopped
    rw [a, Bool.true_or]
    exact (decide_eq_true (by omega)).symm
theorem DeadAt.dead {p : PS} {n c : Nat} (h : DeadAt p n c) : p.dead = decide (n ≤ c) := by
  by_cases h1 : c < n
  · rw [(h.live h1).1]; exact (decide_eq_false (by omega)).symm
  · rw [(h.over (by omega)).1]; exact (decide_eq_true (by omega)).symm
theorem DeadAt.sane {p : PS} {n c : Nat} (h : DeadAt p n c) (h1n : 1 ≤ n) (hn : n ≤ 9) (hc : c ≤ 40) : p.sane := by
  have ht := h.tot
  have hl := h.len
  by_cases h1 : c < n
  · obtain ⟨_, a, b⟩ := h.live h1
    exact ⟨by rw [h.room]; decide, by rw [h.room]; decide, by rw [a]; omega, by rw [a]; omega, by rw [b]; omega, by rw [b]; omega, by omega, by omega⟩
  · obtain ⟨_, a, b⟩ := h.over (by omega)
    exact ⟨by rw [h.room]; decide, by rw [h.room]; decide, by rw [a]; omega, by rw [a]; omega, by rw [b]; omega, by rw [b]; omega, by omega, by omega⟩
theorem DeadAt.next {p p' : PS} {n c : Nat} (h : DeadAt p n c) (h1 : p'.room = p.begun.room) (h2 : p'.ops = p.begun.ops) (h3 : p'.stops = p.begun.stops) (h4 : p'.dead = p.begun.dead) (h5 : total p'.fs ≤ total p.fs + 500) (h6 : p'.fs.length ≤ p.fs.length + 1) : DeadAt p' n (c + 1) := by
  have hst := h.stopped
  have ht := h.tot
  have hl := h.len
  refine ⟨by rw [h1, begun_room, h.room], fun hc => ?_, fun hc => ?_, by omega, by omega⟩
  · rw [decide_eq_false (by omega)] at hst
    obtain ⟨a, b, d⟩ := h.live (by omega)
    rw [h2, h3, h4, begun_go hst]
    refine ⟨a, ?_, ?_⟩
    · show ite _ _ _ = _
      rw [b, if_pos (by omega)]; omega
    · show p.ops + 1 = _
      rw [d]; omega
  · rw [decide_eq_true (by omega)] at hst
    rw [h2, h3, h4, begun_stopped hst]
    refine ⟨rfl, ?_, ?_⟩
    · show p.stops = 1
      by_cases h7 : c < n
      · rw [(h.live h7).2.1]; omega
      · exact (h.over (by omega)).2.1
    · show p.ops = _
      by_cases h7 : c < n
      · rw [(h.live h7).2.2]; omega
      · exact (h.over (by omega)).2.2
theorem fault_ne (p : PS) (nm : List UInt8) : p.fault nm ≠ 13 := by rcases fault_cases p nm with h | h | h <;> rw [h] <;> decide
theorem appE_dead (p : PS) (nm : List UInt8) (n : Nat) : (appE p nm n = 13) ↔ p.stopped = true := by
  unfold appE
  cases p.stopped <;> simp
  split <;> (try split) <;> decide
theorem opE_dead (p : PS) (nm : List UInt8) : (opE p nm = 13) ↔ p.stopped = true := by
  unfold opE
  cases p.stopped <;> simp
  exact fault_ne p nm
theorem renE_dead (p : PS) (a b : List UInt8) : (renE p a b = 13) ↔ p.stopped = true := by
  unfold renE
  cases p.stopped <;> simp
  split
  · exact fault_ne p a
  · decide
theorem readE_dead (p : PS) (nm : List UInt8) : (readE p nm = 13) ↔ p.dead = true := by
  unfold readE
  cases p.dead <;> simp
  exact fault_ne p nm
theorem listE_dead (p : PS) : (listE p = 13) ↔ p.dead = true := by
  unfold listE
  cases p.dead <;> simp
theorem neqB (w' : World) (a b : Bool) : (binOp .neq 4 (.bool a) (.bool b)).run Try.prog w' = .ok (.bool (a != b)) w' := by cases a <;> cases b <;> kernel_rfl
end Go.Proofs.Ytmfhfabfhoiegaa
