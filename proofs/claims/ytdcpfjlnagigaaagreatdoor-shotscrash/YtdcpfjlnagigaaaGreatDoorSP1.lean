/- What calls leave of a disk, as plain data; a disk k calls on. -/
import Derived.Test.YtdcpfjlnagigaaaGreatDoorSN4
namespace Go.Proofs.YtdcpfjlnagigaaaGreatDoor
open Go Go.RowKit
theorem Dk.up {B : Nat} {w : World} {d : Nat} {g : Gu} {p : PS} (h : Dk B w d g p) : upK PF.name p.fs := by rw [h.view]; exact upf h.rest.up
theorem put_total {p : PS} {nm : List UInt8} {xs : List Int} {sy : Nat} (hup : upK PF.name p.fs) : total (insK PF.name ⟨nm, xs, sy⟩ (delK PF.name nm p.fs)) + (oldF p nm).xs.length = total p.fs + xs.length := by
  rw [total_ins]
  cases hl : lookK PF.name nm p.fs with
  | none =>
    have ho : oldF p nm = ⟨nm, [], 0⟩ := by unfold oldF PS.look; rw [hl]; rfl
    rw [del_none hl, ho]
    show xs.length + total p.fs + ([] : List Int).length = _
    simp; omega
  | some f =>
    have ho : oldF p nm = f := by unfold oldF PS.look; rw [hl]; rfl
    have := total_del hup hl
    rw [ho]
    show xs.length + _ + _ = _
    omega
theorem put_len {l : List PF} (f : PF) (nm : List UInt8) : (insK PF.name f (delK PF.name nm l)).length ≤ l.length + 1 := by
  rw [(ins_perm f _).length_eq, List.length_cons]
  have := List.length_filter_le (fun g : PF => !(g.name == nm)) l
  unfold delK; omega
theorem mem_put {l : List PF} {f x : PF} {nm : List UInt8} (h : x ∈ insK PF.name f (delK PF.name nm l)) : x = f ∨ (x ∈ l ∧ x.name ≠ nm) := by
  rcases List.mem_cons.1 ((ins_perm f _).mem_iff.1 h) with h | h
  · exact .inl h
  · exact .inr (mem_del h)
theorem begun_go {p : PS} (h : p.stopped = false) : p.begun = { p with stops := if 0 < p.stops then p.stops - 1 else p.stops, ops := p.ops + 1 } := by unfold PS.begun; rw [h]; rfl
theorem app_total {p : PS} {nm : List UInt8} {ys : List Int} (hup : upK PF.name p.fs) (hE : appE p nm ys.length = 0) : total (appP p nm ys).fs = total p.fs + ys.length := by
  rw [appP_yes hE]
  show total (insK PF.name _ (delK PF.name nm p.begun.fs)) = _
  rw [begun_fs]
  have := put_total (p := p) (nm := nm) (xs := (oldF p nm).xs ++ ys) (sy := (oldF p nm).sy) hup
  rw [List.length_append] at this
  omega
theorem app_len (p : PS) (nm : List UInt8) (ys : List Int) : (appP p nm ys).fs.length ≤ p.fs.length + 1 := by
  by_cases hE : appE p nm ys.length = 0
  · rw [appP_yes hE]
    show (insK PF.name _ (delK PF.name nm p.begun.fs)).length ≤ _
    rw [begun_fs]; exact put_len _ _
  · rw [appP_no hE, begun_fs]; omega
theorem app_mem {p : PS} {nm : List UInt8} {ys : List Int} {x : PF} (h : x ∈ (appP p nm ys).fs) : x.name = nm ∨ x ∈ p.fs := by
  by_cases hE : appE p nm ys.length = 0
  · rw [appP_yes hE] at h
    have h : x ∈ insK PF.name _ (delK PF.name nm p.begun.fs) := h
    rw [begun_fs] at h
    rcases mem_put h with rfl | h
    · exact .inl rfl
    · exact .inr h.1
  · rw [appP_no hE, begun_fs] at h; exact .inr h
theorem app_rest (p : PS) (nm : List UInt8) (ys : List Int) : (appP p nm ys).room = p.begun.room ∧ (appP p nm ys).ops = p.begun.ops ∧ (appP p nm ys).stops = p.begun.stops ∧ (appP p nm ys).dead = p.begun.dead := by
  by_cases hE : appE p nm ys.length = 0
  · rw [appP_yes hE]; exact ⟨rfl, rfl, rfl, rfl⟩
  · rw [appP_no hE]; exact ⟨rfl, rfl, rfl, rfl⟩
theorem rem_rest (p : PS) (nm : List UInt8) : (remP p nm).room = p.begun.room ∧ (remP p nm).ops = p.begun.ops ∧ (remP p nm).stops = p.begun.stops ∧ (remP p nm).dead = p.begun.dead := by
  by_cases hE : opE p nm = 0
  · unfold remP; rw [if_pos hE]; exact ⟨rfl, rfl, rfl, rfl⟩
  · rw [remP_no hE]; exact ⟨rfl, rfl, rfl, rfl⟩
theorem rem_fs {p : PS} {nm : List UInt8} (hst : p.stopped = false) (hok : okName nm = true) : (remP p nm).fs = delK PF.name nm p.fs := by
  by_cases hE : opE p nm = 0
  · unfold remP; rw [if_pos hE]
  · rw [remP_no hE, begun_fs]
    rw [opE_go hst] at hE
    unfold PS.fault at hE
    rw [hok] at hE
    cases hl : lookK PF.name nm p.fs with
    | none => exact (del_none hl).symm
    | some f => exact absurd (by unfold PS.look; rw [hl]; rfl) hE
theorem del_total {fs : List PF} (nm : List UInt8) : total (delK PF.name nm fs) ≤ total fs := by
  induction fs with
  | nil => exact Nat.le_refl _
  | cons f r ih =>
    unfold delK at *
    by_cases h : (f.name == nm) = true
    · rw [List.filter_cons_of_neg (by simp [h]), total_cons]; omega
    · rw [List.filter_cons_of_pos (by simp [h]), total_cons, total_cons]; omega
theorem stopped_no {p : PS} (h1 : p.dead = false) (h2 : p.stops = 0) : p.stopped = false := by simp [PS.stopped, h1, h2]
theorem begun_zero {p : PS} (h1 : p.dead = false) (h2 : p.stops = 0) : p.begun.ops = p.ops + 1 ∧ p.begun.stops = 0 ∧ p.begun.dead = false := by
  rw [begun_go (stopped_no h1 h2)]
  exact ⟨rfl, by show ite _ _ _ = _; rw [h2]; rfl, h1⟩
abbrev zeros (n : Nat) : List Int := List.replicate n 0
theorem isB_zeros (n : Nat) : isB (zeros n) := fun x hx => by rw [List.eq_of_mem_replicate hx]; decide
theorem sees_new0 (w : World) (zs : List Int) (hl : zs.length ≤ maxLen) : Sees (w.alloc (.cells (u8s zs).toArray 5)) (.slice (some ⟨w.heap.size, 0, none⟩) zs.length zs.length) zs := by
  by_cases h : 0 < zs.length
  · exact sees_new w zs (0, 0) h hl
  · have h0 : zs = [] := List.eq_nil_of_length_eq_zero (by omega)
    subst h0
    exact .inl ⟨rfl, _, _, rfl, (fun e => by cases e), by decide⟩
/-- A text of one sign. -/
abbrev oneS (r : Nat) : ByteArray := strOfNums [97 + (r : Int)]
theorem oneS_list (r : Nat) (h : r < 26) : (oneS r).data.toList = [97 + UInt8.ofNat r] := by
  rcases (by omega : r = 0 ∨ r = 1 ∨ r = 2 ∨ r = 3 ∨ r = 4 ∨ r = 5 ∨ 6 ≤ r) with rfl | rfl | rfl | rfl | rfl | rfl | h6
  all_goals first | rfl | skip
  rcases (by omega : r = 6 ∨ r = 7 ∨ r = 8 ∨ r = 9 ∨ r = 10 ∨ r = 11 ∨ r = 12 ∨ r = 13 ∨ r = 14 ∨ r = 15 ∨ 16 ≤ r) with rfl | rfl | rfl | rfl | rfl | rfl | rfl | rfl | rfl | rfl | h16
  all_goals first | rfl | skip
  rcases (by omega : r = 16 ∨ r = 17 ∨ r = 18 ∨ r = 19 ∨ r = 20 ∨ r = 21 ∨ r = 22 ∨ r = 23 ∨ r = 24 ∨ r = 25) with rfl | rfl | rfl | rfl | rfl | rfl | rfl | rfl | rfl | rfl
  all_goals rfl
abbrev nmR (r : Nat) : List UInt8 := [97 + UInt8.ofNat r]
theorem nmR_ok (r : Nat) (h : r < 6) : okName (nmR r) = true := by
  rcases (by omega : r = 0 ∨ r = 1 ∨ r = 2 ∨ r = 3 ∨ r = 4 ∨ r = 5) with rfl | rfl | rfl | rfl | rfl | rfl <;> rfl
theorem u8_small (r : Nat) (h : r < 26) : IntKind.u8.wrap (97 + (r : Int)) = 97 + r := by rw [IntKind.wrap_u8]; omega
theorem sync_rest (p : PS) (nm : List UInt8) : (syncP p nm).room = p.begun.room ∧ (syncP p nm).ops = p.begun.ops ∧ (syncP p nm).stops = p.begun.stops ∧ (syncP p nm).dead = p.begun.dead := by
  by_cases hE : opE p nm = 0
  · unfold syncP; rw [if_pos hE]; exact ⟨rfl, rfl, rfl, rfl⟩
  · rw [syncP_no hE]; exact ⟨rfl, rfl, rfl, rfl⟩
theorem ren_rest (p : PS) (a b : List UInt8) : (renP p a b).room = p.begun.room ∧ (renP p a b).ops = p.begun.ops ∧ (renP p a b).stops = p.begun.stops ∧ (renP p a b).dead = p.begun.dead := by
  by_cases hE : renE p a b = 0
  · rw [renP_yes hE]; exact ⟨rfl, rfl, rfl, rfl⟩
  · rw [renP_no hE]; exact ⟨rfl, rfl, rfl, rfl⟩
theorem sync_total {p : PS} {nm : List UInt8} (hup : upK PF.name p.fs) : total (syncP p nm).fs = total p.fs ∧ (syncP p nm).fs.length ≤ p.fs.length + 1 := by
  by_cases hE : opE p nm = 0
  · have e : (syncP p nm).fs = insK PF.name ⟨nm, (oldF p nm).xs, (oldF p nm).xs.length⟩ (delK PF.name nm p.fs) := by
      unfold syncP; rw [if_pos hE]
      show insK PF.name _ (delK PF.name nm p.begun.fs) = _
      rw [begun_fs]
    rw [e]
    have := put_total (p := p) (nm := nm) (xs := (oldF p nm).xs) (sy := (oldF p nm).xs.length) hup
    exact ⟨by omega, put_len _ _⟩
  · rw [syncP_no hE, begun_fs]; omega
theorem rem_total (p : PS) (nm : List UInt8) : total (remP p nm).fs ≤ total p.fs ∧ (remP p nm).fs.length ≤ p.fs.length := by
  by_cases hE : opE p nm = 0
  · have e : (remP p nm).fs = delK PF.name nm p.fs := by unfold remP; rw [if_pos hE]
    rw [e]
    exact ⟨del_total nm, List.length_filter_le _ _⟩
  · rw [remP_no hE, begun_fs]; omega
theorem app_total_le {p : PS} {nm : List UInt8} {ys : List Int} (hup : upK PF.name p.fs) : total (appP p nm ys).fs ≤ total p.fs + ys.length := by
  by_cases hE : appE p nm ys.length = 0
  · rw [app_total hup hE]; omega
  · rw [appP_no hE, begun_fs]; omega
theorem ren_total {p : PS} {a b : List UInt8} (hup : upK PF.name p.fs) : total (renP p a b).fs ≤ total p.fs ∧ (renP p a b).fs.length ≤ p.fs.length + 1 := by
  by_cases hE : renE p a b = 0
  · have e : (renP p a b).fs = insK PF.name ⟨b, (oldF p a).xs, (oldF p a).sy⟩ (delK PF.name b (delK PF.name a p.fs)) := by rw [renP_yes hE]; rfl
    rw [e, total_ins]
    have h1 := del_total (fs := delK PF.name a p.fs) b
    have hlen : (insK PF.name (⟨b, (oldF p a).xs, (oldF p a).sy⟩ : PF) (delK PF.name b (delK PF.name a p.fs))).length ≤ p.fs.length + 1 := by
      have h2 := put_len (l := delK PF.name a p.fs) (⟨b, (oldF p a).xs, (oldF p a).sy⟩ : PF) b
      have h3 := List.length_filter_le (fun g : PF => !(g.name == a)) p.fs
      unfold delK at *; omega
    refine ⟨?_, hlen⟩
    show (oldF p a).xs.length + _ ≤ _
    cases hl : lookK PF.name a p.fs with
    | none =>
      have ho : oldF p a = ⟨a, [], 0⟩ := by unfold oldF PS.look; rw [hl]; rfl
      rw [ho]
      have := del_total (fs := p.fs) a
      show 0 + _ ≤ _
      omega
    | some f =>
      have ho : oldF p a = f := by unfold oldF PS.look; rw [hl]; rfl
      have := total_del hup hl
      rw [ho]; omega
  · rw [renP_no hE, begun_fs]; omega
/-- A disk that was to stop at the n-th operation, behind c of them. -/
structure DeadAt (p : PS) (n c : Nat) : Prop where
  room : p.room = 65536
  live : c < n → p.dead = false ∧ p.stops = (n : Int) - c ∧ p.ops = c
  over : n ≤ c → p.dead = true ∧ p.stops = 1 ∧ p.ops = (n : Int) - 1
  tot : total p.fs ≤ 500 * c
  len : p.fs.length ≤ c
theorem DeadAt.stopped {p : PS} {n c : Nat} (h : DeadAt p n c) : p.stopped = decide (n ≤ c + 1) := by
  by_cases h1 : c < n
  · obtain ⟨a, b, _⟩ := h.live h1
    unfold PS.stopped
    rw [a, b, Bool.false_or, decide_eq_decide]
    omega
  · obtain ⟨a, _, _⟩ := h.over (by omega)
    unfold PS.stopped
    rw [a, Bool.true_or]
    exact (decide_eq_true (by omega)).symm
theorem DeadAt.dead {p : PS} {n c : Nat} (h : DeadAt p n c) : p.dead = decide (n ≤ c) := by
  by_cases h1 : c < n
  · rw [(h.live h1).1]; exact (decide_eq_false (by omega)).symm
  · rw [(h.over (by omega)).1]; exact (decide_eq_true (by omega)).symm
theorem DeadAt.sane {p : PS} {n c : Nat} (h : DeadAt p n c) (h1n : 1 ≤ n) (hn : n ≤ 9) (hc : c ≤ 40) : p.sane := by
  have ht := h.tot
  have hl := h.len
  by_cases h1 : c < n
  · obtain ⟨_, a, b⟩ := h.live h1
    exact ⟨by rw [h.room]; decide, by rw [h.room]; decide, by rw [a]; omega, by rw [a]; omega, by rw [b]; omega, by rw [b]; omega, by omega, by omega⟩
  · obtain ⟨_, a, b⟩ := h.over (by omega)
    exact ⟨by rw [h.room]; decide, by rw [h.room]; decide, by rw [a]; omega, by rw [a]; omega, by rw [b]; omega, by rw [b]; omega, by omega, by omega⟩
theorem DeadAt.next {p p' : PS} {n c : Nat} (h : DeadAt p n c) (h1 : p'.room = p.begun.room) (h2 : p'.ops = p.begun.ops) (h3 : p'.stops = p.begun.stops) (h4 : p'.dead = p.begun.dead) (h5 : total p'.fs ≤ total p.fs + 500) (h6 : p'.fs.length ≤ p.fs.length + 1) : DeadAt p' n (c + 1) := by
  have hst := h.stopped
  have ht := h.tot
  have hl := h.len
  refine ⟨by rw [h1, begun_room, h.room], fun hc => ?_, fun hc => ?_, by omega, by omega⟩
  · rw [decide_eq_false (by omega)] at hst
    obtain ⟨a, b, d⟩ := h.live (by omega)
    rw [h2, h3, h4, begun_go hst]
    refine ⟨a, ?_, ?_⟩
    · show ite _ _ _ = _
      rw [b, if_pos (by omega)]; omega
    · show p.ops + 1 = _
      rw [d]; omega
  · rw [decide_eq_true (by omega)] at hst
    rw [h2, h3, h4, begun_stopped hst]
    refine ⟨rfl, ?_, ?_⟩
    · show p.stops = 1
      by_cases h7 : c < n
      · rw [(h.live h7).2.1]; omega
      · exact (h.over (by omega)).2.1
    · show p.ops = _
      by_cases h7 : c < n
      · rw [(h.live h7).2.2]; omega
      · exact (h.over (by omega)).2.2
theorem fault_ne (p : PS) (nm : List UInt8) : p.fault nm ≠ 13 := by rcases fault_cases p nm with h | h | h <;> rw [h] <;> decide
theorem appE_dead (p : PS) (nm : List UInt8) (n : Nat) : (appE p nm n = 13) ↔ p.stopped = true := by
  unfold appE
  cases p.stopped <;> simp
  split <;> (try split) <;> decide
theorem opE_dead (p : PS) (nm : List UInt8) : (opE p nm = 13) ↔ p.stopped = true := by
  unfold opE
  cases p.stopped <;> simp
  exact fault_ne p nm
theorem renE_dead (p : PS) (a b : List UInt8) : (renE p a b = 13) ↔ p.stopped = true := by
  unfold renE
  cases p.stopped <;> simp
  split
  · exact fault_ne p a
  · decide
theorem readE_dead (p : PS) (nm : List UInt8) : (readE p nm = 13) ↔ p.dead = true := by
  unfold readE
  cases p.dead <;> simp
  exact fault_ne p nm
theorem listE_dead (p : PS) : (listE p = 13) ↔ p.dead = true := by
  unfold listE
  cases p.dead <;> simp
/-- A disk k calls on. -/
structure PlayAt (p : PS) (rm : Int) (k : Nat) : Prop where
  room : p.room = rm
  room0 : 0 ≤ rm
  room1 : rm ≤ 9223372036854775807
  stops0 : -9223372036854775808 ≤ p.stops
  stops1 : p.stops ≤ 9223372036854775807
  ops0 : 0 ≤ p.ops
  ops1 : p.ops ≤ k
  tot : total p.fs ≤ 3000 * k
  len : p.fs.length ≤ k
theorem PlayAt.sane {p : PS} {room : Int} {k : Nat} (h : PlayAt p room k) (hk : k ≤ 300) : p.sane :=
  ⟨by rw [h.room]; exact h.room0, by rw [h.room]; exact h.room1, h.stops0, h.stops1, h.ops0, by have := h.ops1; omega, by have := h.tot; omega, by have := h.len; omega⟩
theorem PlayAt.more {p : PS} {room : Int} {k : Nat} (h : PlayAt p room k) : PlayAt p room (k + 1) :=
  ⟨h.room, h.room0, h.room1, h.stops0, h.stops1, h.ops0, by have := h.ops1; omega, by have := h.tot; omega, by have := h.len; omega⟩
theorem begun_bd {p : PS} {room : Int} {k : Nat} (h : PlayAt p room k) : p.begun.room = room ∧ -9223372036854775808 ≤ p.begun.stops ∧ p.begun.stops ≤ 9223372036854775807 ∧ 0 ≤ p.begun.ops ∧ p.begun.ops ≤ k + 1 := by
  have h1 := h.ops0; have h2 := h.ops1; have h3 := h.stops0; have h4 := h.stops1
  refine ⟨by rw [begun_room]; exact h.room, ?_⟩
  unfold PS.begun
  split
  · exact ⟨h3, h4, h1, by show p.ops ≤ _; omega⟩
  · refine ⟨?_, ?_, by show 0 ≤ p.ops + 1; omega, by show p.ops + 1 ≤ _; omega⟩
    · show _ ≤ (if 0 < p.stops then p.stops - 1 else p.stops); split <;> omega
    · show (if 0 < p.stops then p.stops - 1 else p.stops) ≤ _; split <;> omega
theorem PlayAt.next {p p' : PS} {room : Int} {k : Nat} (h : PlayAt p room k) (h1 : p'.room = p.begun.room) (h2 : p'.ops = p.begun.ops) (h3 : p'.stops = p.begun.stops) (h5 : total p'.fs ≤ total p.fs + 3000) (h6 : p'.fs.length ≤ p.fs.length + 1) : PlayAt p' room (k + 1) := by
  obtain ⟨b1, b2, b3, b4, b5⟩ := begun_bd h
  have := h.tot; have := h.len
  exact ⟨by rw [h1, b1], h.room0, h.room1, by rw [h3]; exact b2, by rw [h3]; exact b3, by rw [h2]; exact b4, by rw [h2]; omega, by omega, by omega⟩
theorem PlayAt.app {p : PS} {room : Int} {k : Nat} (h : PlayAt p room k) (hup : upK PF.name p.fs) (nm : List UInt8) (ys : List Int) (hy : ys.length ≤ 3000) : PlayAt (appP p nm ys) room (k + 1) := by
  obtain ⟨a1, a2, a3, _⟩ := app_rest p nm ys
  exact h.next a1 a2 a3 (by have := app_total_le (nm := nm) (ys := ys) hup; omega) (app_len _ _ _)
theorem PlayAt.sync {p : PS} {room : Int} {k : Nat} (h : PlayAt p room k) (hup : upK PF.name p.fs) (nm : List UInt8) : PlayAt (syncP p nm) room (k + 1) := by
  obtain ⟨a1, a2, a3, _⟩ := sync_rest p nm
  have := sync_total (nm := nm) hup
  exact h.next a1 a2 a3 (by omega) (by omega)
theorem PlayAt.ren {p : PS} {room : Int} {k : Nat} (h : PlayAt p room k) (hup : upK PF.name p.fs) (a b : List UInt8) : PlayAt (renP p a b) room (k + 1) := by
  obtain ⟨a1, a2, a3, _⟩ := ren_rest p a b
  have := ren_total (a := a) (b := b) hup
  exact h.next a1 a2 a3 (by omega) (by omega)
theorem PlayAt.rem {p : PS} {room : Int} {k : Nat} (h : PlayAt p room k) (nm : List UInt8) : PlayAt (remP p nm) room (k + 1) := by
  obtain ⟨a1, a2, a3, _⟩ := rem_rest p nm
  have := rem_total p nm
  exact h.next a1 a2 a3 (by omega) (by omega)
theorem PlayAt.stop {p : PS} {room : Int} {k : Nat} (h : PlayAt p room k) {n : Int} (h1 : -9223372036854775808 ≤ n) (h2 : n ≤ 9223372036854775807) : PlayAt { p with stops := n } room (k + 1) := by
  have := h.ops1; have := h.tot; have := h.len
  exact ⟨h.room, h.room0, h.room1, h1, h2, h.ops0, by show p.ops ≤ _; omega, by show total p.fs ≤ _; omega, by show p.fs.length ≤ _; omega⟩
theorem PlayAt.crash {p : PS} {room : Int} {k : Nat} (h : PlayAt p room k) (picks : List Int) : PlayAt (crashP p picks) room (k + 1) := by
  have := h.ops1; have := h.tot; have := h.len
  have := crashL_total picks 0 p.fs
  have := crashL_len picks 0 p.fs
  exact ⟨h.room, h.room0, h.room1, by show _ ≤ (0 : Int); decide, by show (0 : Int) ≤ _; decide, h.ops0, by show p.ops ≤ _; omega, by show total (crashL picks 0 p.fs) ≤ _; omega, by show (crashL picks 0 p.fs).length ≤ _; omega⟩
end Go.Proofs.YtdcpfjlnagigaaaGreatDoor
