/- Files by names, as plain lists: looking one up, taking one away, laying one in its place; what a disk's calls do to them. -/
import Derived.Test.YtdcpfjlnagigaaaGreatDoorName
import Derived.Maps.Ext
import Derived.Sort.KeysCollected
namespace Go.Proofs.YtdcpfjlnagigaaaGreatDoor
open Go Go.RowKit
section
variable {α β : Type} (k : α → List UInt8)
def lookK (nm : List UInt8) (l : List α) : Option α := l.find? (fun f => k f == nm)
def delK (nm : List UInt8) (l : List α) : List α := l.filter (fun f => !(k f == nm))
def insK (f : α) : List α → List α
  | [] => [f]
  | g :: r => if bytesBefore (k f) (k g) then f :: g :: r else g :: insK f r
abbrev upK (l : List α) : Prop := l.Pairwise (fun f g => bytesBefore (k f) (k g) = true)
variable {k}
theorem before_ne {a b : List UInt8} (h : bytesBefore a b = true) : a ≠ b := fun e => by subst e; rw [WideAt.bytes_irrefl] at h; cases h
theorem look_parts {nm : List UInt8} {l : List α} {f : α} (h : lookK k nm l = some f) : k f = nm ∧ ∃ pre post, l = pre ++ f :: post := by
  have h1 := List.find?_some h
  have h2 := List.mem_of_find?_eq_some h
  exact ⟨by simpa using h1, List.append_of_mem h2⟩
theorem look_none {nm : List UInt8} {l : List α} (h : lookK k nm l = none) : ∀ f ∈ l, k f ≠ nm := by
  intro f hf
  have := List.find?_eq_none.1 h f hf
  simpa using this
theorem look_of_parts {nm : List UInt8} {pre post : List α} {f : α} (hs : upK k (pre ++ f :: post)) (hf : k f = nm) : lookK k nm (pre ++ f :: post) = some f := by
  unfold lookK
  rw [List.find?_append, List.find?_eq_none.2, Option.none_or, List.find?_cons_of_pos (by simp [hf])]
  intro x hx
  have := (List.pairwise_append.1 hs).2.2 x hx f (by simp)
  have := before_ne this
  simp only [beq_iff_eq]
  rw [← hf]; exact this
theorem del_parts {nm : List UInt8} {pre post : List α} {f : α} (hs : upK k (pre ++ f :: post)) (hf : k f = nm) : delK k nm (pre ++ f :: post) = pre ++ post := by
  have h1 := List.pairwise_append.1 hs
  have h2 := List.pairwise_cons.1 h1.2.1
  unfold delK
  rw [List.filter_append, List.filter_cons_of_neg (by simp [hf]), List.filter_eq_self.2, List.filter_eq_self.2]
  · intro x hx
    have := before_ne (h2.1 x hx)
    simp only [Bool.not_eq_true', beq_eq_false_iff_ne]
    rw [← hf]; exact fun e => this e.symm
  · intro x hx
    have := before_ne (h1.2.2 x hx f (by simp))
    simp only [Bool.not_eq_true', beq_eq_false_iff_ne]
    rw [← hf]; exact this
theorem del_none {nm : List UInt8} {l : List α} (h : lookK k nm l = none) : delK k nm l = l := by
  unfold delK
  rw [List.filter_eq_self]
  intro x hx
  have := look_none h x hx
  simpa using this
theorem ins_parts {f : α} : ∀ {pre post : List α}, (∀ g ∈ pre, bytesBefore (k g) (k f) = true) → (∀ g ∈ post, bytesBefore (k f) (k g) = true) → insK k f (pre ++ post) = pre ++ f :: post
  | [], [], _, _ => rfl
  | [], g :: r, _, h2 => by simp only [List.nil_append, insK]; rw [if_pos (h2 g (by simp))]
  | g :: r, post, h1, h2 => by
    have hg := h1 g (by simp)
    have hn : bytesBefore (k f) (k g) = false := by
      cases hb : bytesBefore (k f) (k g) with
      | false => rfl
      | true => have := WideShapes.bytes_trans _ _ _ hg hb; rw [WideAt.bytes_irrefl] at this; cases this
    simp only [List.cons_append, insK]
    rw [if_neg (by simp [hn]), ins_parts (fun x hx => h1 x (by simp [hx])) h2]
theorem put_parts {nm : List UInt8} {pre post : List α} {f f' : α} (hs : upK k (pre ++ f :: post)) (hf : k f = nm) (hf' : k f' = nm) : insK k f' (delK k nm (pre ++ f :: post)) = pre ++ f' :: post := by
  have h1 := List.pairwise_append.1 hs
  have h2 := List.pairwise_cons.1 h1.2.1
  rw [del_parts hs hf, ins_parts]
  · intro g hg; rw [hf', ← hf]; exact h1.2.2 g hg f (by simp)
  · intro g hg; rw [hf', ← hf]; exact h2.1 g hg
theorem ins_split (f : α) : ∀ {l : List α}, upK k l → (∀ g ∈ l, k g ≠ k f) → ∃ pre post, l = pre ++ post ∧ insK k f l = pre ++ f :: post ∧ (∀ g ∈ pre, bytesBefore (k g) (k f) = true) ∧ (∀ g ∈ post, bytesBefore (k f) (k g) = true)
  | [], _, _ => ⟨[], [], rfl, rfl, by simp, by simp⟩
  | g :: r, hs, hn => by
    have hc := List.pairwise_cons.1 hs
    cases hb : bytesBefore (k f) (k g) with
    | true =>
      refine ⟨[], g :: r, rfl, by simp [insK, hb], by simp, fun x hx => ?_⟩
      rcases List.mem_cons.1 hx with rfl | hx
      · exact hb
      · exact WideShapes.bytes_trans _ _ _ hb (hc.1 x hx)
    | false =>
      obtain ⟨pre, post, e1, e2, e3, e4⟩ := ins_split f hc.2 (fun x hx => hn x (by simp [hx]))
      refine ⟨g :: pre, post, by rw [e1]; rfl, by simp [insK, hb, e2], fun x hx => ?_, e4⟩
      rcases List.mem_cons.1 hx with rfl | hx
      · rcases WideAt.bytes_total (k f) (k x) (fun e => hn x (by simp) e.symm) with h | h
        · rw [hb] at h; cases h
        · exact h
      · exact e3 x hx
theorem up_del {nm : List UInt8} {l : List α} (hs : upK k l) : upK k (delK k nm l) := List.Pairwise.filter _ hs
theorem up_mid {pre post : List α} {f : α} (hs : upK k (pre ++ post)) (h1 : ∀ g ∈ pre, bytesBefore (k g) (k f) = true) (h2 : ∀ g ∈ post, bytesBefore (k f) (k g) = true) : upK k (pre ++ f :: post) := by
  have h := List.pairwise_append.1 hs
  refine List.pairwise_append.2 ⟨h.1, List.pairwise_cons.2 ⟨h2, h.2.1⟩, fun a ha b hb => ?_⟩
  rcases List.mem_cons.1 hb with rfl | hb
  · exact h1 a ha
  · exact h.2.2 a ha b hb
theorem up_ins {f : α} {l : List α} (hs : upK k l) (hn : ∀ g ∈ l, k g ≠ k f) : upK k (insK k f l) := by
  obtain ⟨pre, post, rfl, e2, e3, e4⟩ := ins_split f hs hn
  rw [e2]; exact up_mid hs e3 e4
theorem mem_del {nm : List UInt8} {l : List α} {g : α} (h : g ∈ delK k nm l) : g ∈ l ∧ k g ≠ nm := by
  have := List.mem_filter.1 h
  exact ⟨this.1, by simpa using this.2⟩
theorem del_ne {nm : List UInt8} {l : List α} : ∀ g ∈ delK k nm l, k g ≠ nm := fun _ hg => (mem_del hg).2
theorem up_put {nm : List UInt8} {f : α} {l : List α} (hs : upK k l) (hf : k f = nm) : upK k (insK k f (delK k nm l)) := up_ins (up_del hs) (fun g hg => by rw [hf]; exact del_ne g hg)
theorem ins_perm (f : α) : ∀ l : List α, (insK k f l).Perm (f :: l)
  | [] => List.Perm.refl _
  | g :: r => by
    simp only [insK]
    split
    · exact List.Perm.refl _
    · exact ((ins_perm f r).cons g).trans (List.Perm.swap f g r)
variable {j : β → List UInt8} {q : α → β}
theorem map_look (h : ∀ f, j (q f) = k f) (nm : List UInt8) (l : List α) : lookK j nm (l.map q) = (lookK k nm l).map q := by
  unfold lookK; rw [List.find?_map]; congr 2; funext f; simp [h]
theorem map_del (h : ∀ f, j (q f) = k f) (nm : List UInt8) (l : List α) : (delK k nm l).map q = delK j nm (l.map q) := by
  unfold delK; rw [List.filter_map]; congr 2; funext f; simp [h]
theorem map_ins (h : ∀ f, j (q f) = k f) (f : α) : ∀ l : List α, (insK k f l).map q = insK j (q f) (l.map q)
  | [] => rfl
  | g :: r => by
    simp only [insK, List.map_cons, h]
    split
    · rfl
    · rw [List.map_cons, map_ins h f r]
end

/-- A file: its name, its bytes, how many of them are synced. -/
structure PF where
  name : List UInt8
  xs : List Int
  sy : Nat
def total (fs : List PF) : Nat := (fs.map (fun f => f.xs.length)).sum
/-- What a disk is. -/
structure PS where
  fs : List PF
  room : Int
  ops : Int
  stops : Int
  dead : Bool
def PS.stopped (p : PS) : Bool := p.dead || decide (p.stops = 1)
def PS.begun (p : PS) : PS := if p.stopped then { p with dead := true } else { p with stops := if 0 < p.stops then p.stops - 1 else p.stops, ops := p.ops + 1 }
abbrev PS.look (p : PS) (nm : List UInt8) : Option PF := lookK PF.name nm p.fs
/-- What a name that was handed in leads to: an error. -/
def PS.fault (p : PS) (nm : List UInt8) : Int := if okName nm then (if (p.look nm).isSome then 0 else 2) else 1
def oldF (p : PS) (nm : List UInt8) : PF := (p.look nm).getD ⟨nm, [], 0⟩
def putP (p : PS) (f : PF) : PS := { p with fs := insK PF.name f (delK PF.name f.name p.fs) }
def appE (p : PS) (nm : List UInt8) (n : Nat) : Int := if p.stopped then 13 else if okName nm then (if (n : Int) ≤ p.room - total p.fs then 0 else 14) else 1
def appP (p : PS) (nm : List UInt8) (ys : List Int) : PS :=
  if appE p nm ys.length = 0 then putP p.begun ⟨nm, (oldF p nm).xs ++ ys, (oldF p nm).sy⟩ else p.begun
def opE (p : PS) (nm : List UInt8) : Int := if p.stopped then 13 else p.fault nm
def syncP (p : PS) (nm : List UInt8) : PS := if opE p nm = 0 then putP p.begun ⟨nm, (oldF p nm).xs, (oldF p nm).xs.length⟩ else p.begun
def remP (p : PS) (nm : List UInt8) : PS := if opE p nm = 0 then { p.begun with fs := delK PF.name nm p.fs } else p.begun
def renE (p : PS) (a b : List UInt8) : Int := if p.stopped then 13 else if okName b then p.fault a else 1
def renP (p : PS) (a b : List UInt8) : PS := if renE p a b = 0 then putP { p.begun with fs := delK PF.name a p.fs } ⟨b, (oldF p a).xs, (oldF p a).sy⟩ else p.begun
def readE (p : PS) (nm : List UInt8) : Int := if p.dead then 13 else p.fault nm
def readB (p : PS) (nm : List UInt8) : List Int := if readE p nm = 0 then (oldF p nm).xs else []
/-- How many bytes stay of n that a crash may take. -/
def stay (pick : Int) (n : Nat) : Nat := (pick % ((n : Int) + 1)).toNat
theorem stay_le (pick : Int) (n : Nat) : stay pick n ≤ n := by
  unfold stay
  have := Int.emod_lt_of_pos pick (b := (n : Int) + 1) (by omega)
  have := Int.emod_nonneg pick (b := (n : Int) + 1) (by omega)
  omega
def PF.lost (f : PF) (pick : Int) : PF := ⟨f.name, f.xs.take (f.sy + stay pick (f.xs.length - f.sy)), f.sy + stay pick (f.xs.length - f.sy)⟩
/-- What a crash leaves of files, the picks from the n-th on. -/
def crashL (picks : List Int) : Nat → List PF → List PF
  | _, [] => []
  | n, f :: r => if f.xs.length = f.sy then f :: crashL picks n r else f.lost (picks.getD n 0) :: crashL picks (n + 1) r
def crashN : Nat → List PF → Nat
  | n, [] => n
  | n, f :: r => if f.xs.length = f.sy then crashN n r else crashN (n + 1) r
def crashP (p : PS) (picks : List Int) : PS := ⟨crashL picks 0 p.fs, p.room, p.ops, 0, false⟩
end Go.Proofs.YtdcpfjlnagigaaaGreatDoor
