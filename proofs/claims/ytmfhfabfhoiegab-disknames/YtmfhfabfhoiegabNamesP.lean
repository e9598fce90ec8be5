/- Which names there are, behind each call; names of one sign, in order. -/
import Derived.Test.YtmfhfabfhoiegabStaysP
namespace Go.Proofs.Ytmfhfabfhoiegab
open Go Go.RowKit
/-- There is a file of that name. -/
def Nm (p : PS) (nm : List UInt8) : Prop := ∃ f ∈ p.fs, f.name = nm
theorem Nm_look {p : PS} {nm : List UInt8} : (p.look nm).isSome = true ↔ Nm p nm := by
  constructor
  · intro h
    obtain ⟨f, hf⟩ := Option.isSome_iff_exists.1 h
    obtain ⟨h1, pre, post, h2⟩ := look_parts hf
    exact ⟨f, by rw [h2]; simp, h1⟩
  · rintro ⟨f, hf, hn⟩
    cases hl : p.look nm with
    | some _ => rfl
    | none => exact absurd hn (look_none hl f hf)
theorem mem_put_iff {l : List PF} {f x : PF} {nm : List UInt8} : x ∈ insK PF.name f (delK PF.name nm l) ↔ x = f ∨ (x ∈ l ∧ x.name ≠ nm) := by
  rw [(ins_perm f _).mem_iff, List.mem_cons]
  unfold delK
  rw [List.mem_filter]
  simp
theorem Nm_app {p : PS} {a nm : List UInt8} {ys : List Int} (hE : appE p a ys.length = 0) : Nm (appP p a ys) nm ↔ nm = a ∨ Nm p nm := by
  rw [appP_yes hE]
  show (∃ f ∈ insK PF.name _ (delK PF.name a p.begun.fs), _) ↔ _
  rw [begun_fs]
  constructor
  · rintro ⟨f, hf, hn⟩
    rcases mem_put_iff.1 hf with rfl | ⟨h1, _⟩
    · exact .inl hn.symm
    · exact .inr ⟨f, h1, hn⟩
  · rintro (rfl | ⟨f, hf, hn⟩)
    · exact ⟨_, mem_put_iff.2 (.inl rfl), rfl⟩
    · by_cases he : nm = a
      · subst he; exact ⟨_, mem_put_iff.2 (.inl rfl), rfl⟩
      · exact ⟨f, mem_put_iff.2 (.inr ⟨hf, by rw [hn]; exact he⟩), hn⟩
theorem Nm_rem {p : PS} {a nm : List UInt8} (hst : p.stopped = false) (hok : okName a = true) : Nm (remP p a) nm ↔ nm ≠ a ∧ Nm p nm := by
  unfold Nm
  rw [rem_fs hst hok]
  constructor
  · rintro ⟨f, hf, rfl⟩
    obtain ⟨h1, h2⟩ := mem_del hf
    exact ⟨h2, f, h1, rfl⟩
  · rintro ⟨h1, f, hf, rfl⟩
    exact ⟨f, List.mem_filter.2 ⟨hf, by simp [h1]⟩, rfl⟩
theorem Nm_ren {p : PS} {a b nm : List UInt8} (hE : renE p a b = 0) : Nm (renP p a b) nm ↔ nm = b ∨ (nm ≠ a ∧ Nm p nm) := by
  have e : (renP p a b).fs = insK PF.name ⟨b, (oldF p a).xs, (oldF p a).sy⟩ (delK PF.name b (delK PF.name a p.fs)) := by rw [renP_yes hE]; rfl
  unfold Nm
  rw [e]
  constructor
  · rintro ⟨f, hf, rfl⟩
    rcases mem_put_iff.1 hf with rfl | ⟨h1, _⟩
    · exact .inl rfl
    · obtain ⟨h2, h3⟩ := mem_del h1
      exact .inr ⟨h3, f, h2, rfl⟩
  · rintro (rfl | ⟨h1, f, hf, rfl⟩)
    · exact ⟨_, mem_put_iff.2 (.inl rfl), rfl⟩
    · by_cases he : f.name = b
      · exact ⟨_, mem_put_iff.2 (.inl rfl), he.symm⟩
      · exact ⟨f, mem_put_iff.2 (.inr ⟨List.mem_filter.2 ⟨hf, by simp [h1]⟩, he⟩), rfl⟩
theorem crashL_names (picks : List Int) : ∀ (n : Nat) (l : List PF), (crashL picks n l).map PF.name = l.map PF.name
  | _, [] => rfl
  | n, f :: r => by
    unfold crashL
    split
    · rw [List.map_cons, List.map_cons, crashL_names picks n r]
    · rw [List.map_cons, List.map_cons, crashL_names picks (n + 1) r]; rfl
theorem Nm_map {p : PS} {nm : List UInt8} : Nm p nm ↔ nm ∈ p.fs.map PF.name := by
  rw [List.mem_map]
  exact Iff.rfl
theorem Nm_crash {p : PS} {nm : List UInt8} (picks : List Int) : Nm (crashP p picks) nm ↔ Nm p nm := by
  rw [Nm_map, Nm_map]
  show _ ∈ (crashL picks 0 p.fs).map PF.name ↔ _
  rw [crashL_names]
theorem ren_zero {p : PS} {a b : List UInt8} (hst : p.stopped = false) (h1 : okName a = true) (h2 : okName b = true) : renE p a b = 0 ↔ Nm p a := by
  unfold renE PS.fault
  rw [hst, h1, h2, ← Nm_look]
  cases (p.look a).isSome <;> simp
theorem op_zero {p : PS} {a : List UInt8} (hst : p.stopped = false) (h1 : okName a = true) : opE p a = 0 ↔ Nm p a := by
  unfold opE PS.fault
  rw [hst, h1, ← Nm_look]
  cases (p.look a).isSome <;> simp
/-- Rising rows of the same members are the same. -/
theorem up_ext : ∀ {l m : List (List UInt8)}, l.Pairwise (fun a b => bytesBefore a b = true) → m.Pairwise (fun a b => bytesBefore a b = true) → (∀ x, x ∈ l ↔ x ∈ m) → l = m
  | [], [], _, _, _ => rfl
  | [], b :: m, _, _, h => by have := (h b).2 (by simp); cases this
  | a :: l, [], _, _, h => by have := (h a).1 (by simp); cases this
  | a :: l, b :: m, h1, h2, h => by
    have p1 := List.pairwise_cons.1 h1
    have p2 := List.pairwise_cons.1 h2
    have hab : a = b := by
      rcases List.mem_cons.1 ((h a).1 (by simp)) with e | e
      · exact e
      · rcases List.mem_cons.1 ((h b).2 (by simp)) with e' | e'
        · exact e'.symm
        · have := WideShapes.bytes_trans _ _ _ (p2.1 a e) (p1.1 b e')
          rw [WideAt.bytes_irrefl] at this; cases this
    subst hab
    rw [up_ext p1.2 p2.2 (fun x => ⟨fun hx => ?_, fun hx => ?_⟩)]
    · rcases List.mem_cons.1 ((h x).1 (by simp [hx])) with rfl | e
      · have := p1.1 x hx; rw [WideAt.bytes_irrefl] at this; cases this
      · exact e
    · rcases List.mem_cons.1 ((h x).2 (by simp [hx])) with rfl | e
      · have := p2.1 x hx; rw [WideAt.bytes_irrefl] at this; cases this
      · exact e
/-- The names that h says, of the first k. -/
def nmsOf (h : Nat → Bool) (k : Nat) : List (List UInt8) := ((List.range k).filter h).map nmR
theorem nmR_before : ∀ {i j : Nat}, i < j → j < 6 → bytesBefore (nmR i) (nmR j) = true := by
  intro i j h1 h2
  rcases (by omega : j = 1 ∨ j = 2 ∨ j = 3 ∨ j = 4 ∨ j = 5) with rfl | rfl | rfl | rfl | rfl <;>
    rcases (by omega : i = 0 ∨ i = 1 ∨ i = 2 ∨ i = 3 ∨ i = 4) with rfl | rfl | rfl | rfl | rfl <;> first | rfl | omega
theorem nmR_inj {i j : Nat} (hi : i < 6) (hj : j < 6) (h : nmR i = nmR j) : i = j := by
  rcases Nat.lt_trichotomy i j with e | e | e
  · exact absurd h (before_ne (nmR_before e hj))
  · exact e
  · exact absurd h.symm (before_ne (nmR_before e hi))
theorem nmsOf_up (h : Nat → Bool) : (nmsOf h 6).Pairwise (fun a b => bytesBefore a b = true) := by
  refine List.pairwise_map.2 (List.Pairwise.filter _ ?_)
  have : (List.range 6).Pairwise (fun i j => i < j ∧ j < 6) := by decide
  exact this.imp (fun {a b} e => nmR_before e.1 e.2)
theorem nmsOf_mem {h : Nat → Bool} {k : Nat} {nm : List UInt8} : nm ∈ nmsOf h k ↔ ∃ j, j < k ∧ h j = true ∧ nm = nmR j := by
  unfold nmsOf
  rw [List.mem_map]
  constructor
  · rintro ⟨j, hj, rfl⟩
    have := List.mem_filter.1 hj
    exact ⟨j, List.mem_range.1 this.1, this.2, rfl⟩
  · rintro ⟨j, h1, h2, rfl⟩
    exact ⟨j, List.mem_filter.2 ⟨List.mem_range.2 h1, h2⟩, rfl⟩
theorem nmsOf_succ (h : Nat → Bool) (k : Nat) : nmsOf h (k + 1) = nmsOf h k ++ (if h k then [nmR k] else []) := by
  unfold nmsOf
  rw [List.range_succ, List.filter_append, List.map_append]
  cases hk : h k <;> simp [hk]
theorem nmsOf_len (h : Nat → Bool) (k : Nat) : (nmsOf h k).length ≤ k := by
  unfold nmsOf
  rw [List.length_map]
  have := List.length_filter_le h (List.range k)
  rw [List.length_range] at this
  exact this
theorem nmsOf_split (h : Nat → Bool) (k m : Nat) : ∃ r, nmsOf h (k + m) = nmsOf h k ++ r := by
  induction m with
  | zero => exact ⟨[], by simp⟩
  | succ m ih =>
    obtain ⟨r, hr⟩ := ih
    exact ⟨r ++ (if h (k + m) then [nmR (k + m)] else []), by rw [← Nat.add_assoc, nmsOf_succ, hr, List.append_assoc]⟩
theorem nmsOf_at {h : Nat → Bool} {k : Nat} (hk : k < 6) (hh : h k = true) : (nmsOf h k).length < (nmsOf h 6).length ∧ (nmsOf h 6).getD (nmsOf h k).length [] = nmR k := by
  obtain ⟨r, hr⟩ := nmsOf_split h (k + 1) (6 - (k + 1))
  rw [show k + 1 + (6 - (k + 1)) = 6 from by omega, nmsOf_succ h k, hh, if_pos rfl] at hr
  rw [hr]
  constructor
  · simp
  · simp
/-- A disk as DiskNames has it: h says which of the six names are there; n calls on. -/
structure NamesAt (p : PS) (h : Nat → Bool) (n : Nat) : Prop where
  room : p.room = 65536
  stops : p.stops = 0
  dead : p.dead = false
  ops0 : 0 ≤ p.ops
  ops : p.ops ≤ n
  tot : total p.fs ≤ n
  len : p.fs.length ≤ n
  names : ∀ nm, Nm p nm ↔ ∃ j, j < 6 ∧ h j = true ∧ nm = nmR j
section
variable {p : PS} {h : Nat → Bool} {n : Nat}
theorem NamesAt.sane (q : NamesAt p h n) (hn : n ≤ 1000) : p.sane :=
  ⟨by rw [q.room]; decide, by rw [q.room]; decide, by rw [q.stops]; decide, by rw [q.stops]; decide, q.ops0, by have := q.ops; omega, by have := q.tot; omega, by have := q.len; omega⟩
theorem NamesAt.go (q : NamesAt p h n) : p.stopped = false := stopped_no q.dead q.stops
theorem NamesAt.has (q : NamesAt p h n) {a : Nat} (ha : a < 6) : Nm p (nmR a) ↔ h a = true := by
  rw [q.names]
  constructor
  · rintro ⟨j, h1, h2, h3⟩
    rw [nmR_inj ha h1 h3]; exact h2
  · exact fun e => ⟨a, ha, e, rfl⟩
def setB (h : Nat → Bool) (a : Nat) (b : Bool) : Nat → Bool := fun j => if j = a then b else h j
theorem NamesAt.appE (q : NamesAt p h n) (hn : n ≤ 1000) {a : Nat} (ha : a < 6) : appE p (nmR a) 1 = 0 := appE_ok q.go (nmR_ok a ha) (by rw [q.room]; have := q.tot; omega)
theorem NamesAt.app (q : NamesAt p h n) (hn : n ≤ 1000) (hup : upK PF.name p.fs) {a : Nat} (ha : a < 6) (x : Int) : NamesAt (appP p (nmR a) [x]) (setB h a true) (n + 1) := by
  obtain ⟨a1, a2, a3, a4⟩ := app_rest p (nmR a) [x]
  obtain ⟨b1, b2, b3⟩ := begun_zero q.dead q.stops
  have hE : Ytmfhfabfhoiegab.appE p (nmR a) [x].length = 0 := q.appE hn ha
  have ht := app_total hup hE
  have hl := app_len p (nmR a) [x]
  have q1 := q.ops; have q2 := q.tot; have q3 := q.len; have q4 := q.ops0
  refine ⟨by rw [a1, begun_room, q.room], by rw [a3, b2], by rw [a4, b3], by rw [a2, b1]; omega, by rw [a2, b1]; omega, by rw [ht]; simp; omega, by omega, fun nm => ?_⟩
  rw [Nm_app hE, q.names]
  constructor
  · rintro (rfl | ⟨j, h1, h2, rfl⟩)
    · exact ⟨a, ha, by simp [setB], rfl⟩
    · exact ⟨j, h1, by unfold setB; split <;> first | rfl | exact h2, rfl⟩
  · rintro ⟨j, h1, h2, rfl⟩
    unfold setB at h2
    by_cases he : j = a
    · subst he; exact .inl rfl
    · rw [if_neg he] at h2; exact .inr ⟨j, h1, h2, rfl⟩
theorem NamesAt.rem (q : NamesAt p h n) {a : Nat} (ha : a < 6) : NamesAt (remP p (nmR a)) (setB h a false) (n + 1) := by
  obtain ⟨a1, a2, a3, a4⟩ := rem_rest p (nmR a)
  obtain ⟨b1, b2, b3⟩ := begun_zero q.dead q.stops
  have ht := rem_total p (nmR a)
  have q1 := q.ops; have q2 := q.tot; have q3 := q.len; have q4 := q.ops0
  refine ⟨by rw [a1, begun_room, q.room], by rw [a3, b2], by rw [a4, b3], by rw [a2, b1]; omega, by rw [a2, b1]; omega, by omega, by omega, fun nm => ?_⟩
  rw [Nm_rem q.go (nmR_ok a ha), q.names]
  constructor
  · rintro ⟨h0, j, h1, h2, rfl⟩
    refine ⟨j, h1, ?_, rfl⟩
    unfold setB
    rw [if_neg (fun e => h0 (by rw [e]))]; exact h2
  · rintro ⟨j, h1, h2, rfl⟩
    unfold setB at h2
    by_cases he : j = a
    · rw [if_pos he] at h2; cases h2
    · rw [if_neg he] at h2; exact ⟨fun e => he (nmR_inj h1 ha e), j, h1, h2, rfl⟩
theorem NamesAt.remE (q : NamesAt p h n) {a : Nat} (ha : a < 6) : opE p (nmR a) = 0 ↔ h a = true := (op_zero q.go (nmR_ok a ha)).trans (q.has ha)
theorem NamesAt.renE (q : NamesAt p h n) {a b : Nat} (ha : a < 6) (hb : b < 6) : renE p (nmR a) (nmR b) = 0 ↔ h a = true := (ren_zero q.go (nmR_ok a ha) (nmR_ok b hb)).trans (q.has ha)
theorem NamesAt.rem2 (q : NamesAt p h n) {a : Nat} (ha : a < 6) (hh : h a = false) : opE p (nmR a) = 2 := by
  have h1 : (p.look (nmR a)).isSome = false := by
    rw [Bool.eq_false_iff]; exact fun e => by rw [(q.has ha).1 (Nm_look.1 e)] at hh; cases hh
  unfold opE PS.fault
  rw [q.go, nmR_ok a ha, h1]
  rfl
theorem NamesAt.ren2 (q : NamesAt p h n) {a b : Nat} (ha : a < 6) (hb : b < 6) (hh : h a = false) : Ytmfhfabfhoiegab.renE p (nmR a) (nmR b) = 2 := by
  have h1 : (p.look (nmR a)).isSome = false := by
    rw [Bool.eq_false_iff]; exact fun e => by rw [(q.has ha).1 (Nm_look.1 e)] at hh; cases hh
  unfold Ytmfhfabfhoiegab.renE PS.fault
  rw [q.go, nmR_ok a ha, nmR_ok b hb, h1]
  rfl
theorem NamesAt.ren_no (q : NamesAt p h n) {a b : Nat} (ha : a < 6) (hb : b < 6) (hh : h a = false) : NamesAt (renP p (nmR a) (nmR b)) h (n + 1) := by
  obtain ⟨b1, b2, b3⟩ := begun_zero q.dead q.stops
  have hE : Ytmfhfabfhoiegab.renE p (nmR a) (nmR b) ≠ 0 := fun e => by rw [q.renE ha hb, hh] at e; cases e
  have q1 := q.ops; have q2 := q.tot; have q3 := q.len; have q4 := q.ops0
  rw [renP_no hE]
  refine ⟨by rw [begun_room, q.room], b2, b3, by rw [b1]; omega, by rw [b1]; omega, by rw [begun_fs]; omega, by rw [begun_fs]; omega, fun nm => ?_⟩
  unfold Nm
  rw [begun_fs]
  exact q.names nm
theorem NamesAt.ren (q : NamesAt p h n) (hup : upK PF.name p.fs) {a b : Nat} (ha : a < 6) (hb : b < 6) (hh : h a = true) : NamesAt (renP p (nmR a) (nmR b)) (setB (setB h a false) b true) (n + 1) := by
  obtain ⟨a1, a2, a3, a4⟩ := ren_rest p (nmR a) (nmR b)
  obtain ⟨b1, b2, b3⟩ := begun_zero q.dead q.stops
  have ht := ren_total (a := nmR a) (b := nmR b) hup
  have hE := (q.renE ha hb).2 hh
  have q1 := q.ops; have q2 := q.tot; have q3 := q.len; have q4 := q.ops0
  refine ⟨by rw [a1, begun_room, q.room], by rw [a3, b2], by rw [a4, b3], by rw [a2, b1]; omega, by rw [a2, b1]; omega, by omega, by omega, fun nm => ?_⟩
  rw [Nm_ren hE, q.names]
  constructor
  · rintro (rfl | ⟨h0, j, h1, h2, rfl⟩)
    · exact ⟨b, hb, by simp [setB], rfl⟩
    · refine ⟨j, h1, ?_, rfl⟩
      unfold setB
      split
      · rfl
      · rw [if_neg (fun e => h0 (by rw [e]))]; exact h2
  · rintro ⟨j, h1, h2, rfl⟩
    unfold setB at h2
    by_cases he : j = b
    · subst he; exact .inl rfl
    · rw [if_neg he] at h2
      by_cases ha2 : j = a
      · rw [if_pos ha2] at h2; cases h2
      · rw [if_neg ha2] at h2; exact .inr ⟨fun e => ha2 (nmR_inj h1 ha e), j, h1, h2, rfl⟩
theorem NamesAt.crash (q : NamesAt p h n) (picks : List Int) : NamesAt (crashP p picks) h n := by
  have q1 := q.ops; have q2 := q.tot; have q3 := q.len; have q4 := q.ops0
  have ht := crashL_total picks 0 p.fs
  refine ⟨q.room, rfl, rfl, q4, q1, by show total (crashL picks 0 p.fs) ≤ n; omega, ?_, fun nm => (Nm_crash picks).trans (q.names nm)⟩
  show (crashL picks 0 p.fs).length ≤ n
  have e : ((crashL picks 0 p.fs).map PF.name).length = (p.fs.map PF.name).length := by rw [crashL_names]
  simp only [List.length_map] at e
  omega
theorem NamesAt.list (q : NamesAt p h n) (hup : upK PF.name p.fs) : listE p = 0 ∧ listB p = nmsOf h 6 := by
  have e : p.fs.map PF.name = nmsOf h 6 := up_ext (List.pairwise_map.2 hup) (nmsOf_up h) (fun x => by rw [← Nm_map, q.names, nmsOf_mem])
  unfold listB listE
  rw [q.dead]
  exact ⟨rfl, e⟩
end
end Go.Proofs.Ytmfhfabfhoiegab
