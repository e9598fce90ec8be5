/- Leases by ids, as plain lists: looking one up, taking one away, laying one in its place; what a book's calls do to them. -/
import Derived.Test.YtiffigjfjdplhaaRW
import Derived.Test.YtiffigjfjdplhaaProg
import Derived.Maps.OwnSet
import Derived.Maps.Ext
namespace Go.Proofs.Ytiffigjfjdplhaa
open Go Go.RowKit
structure Ls where
  id : Int
  ttl : Int
  til : Int
def lookL (n : Int) (l : List Ls) : Option Ls := l.find? (fun f => f.id == n)
def delL (n : Int) (l : List Ls) : List Ls := l.filter (fun f => !(f.id == n))
def insL (f : Ls) : List Ls → List Ls
  | [] => [f]
  | g :: r => if f.id < g.id then f :: g :: r else g :: insL f r
abbrev upL (l : List Ls) : Prop := l.Pairwise (fun f g => f.id < g.id)
theorem look_parts {n : Int} {l : List Ls} {f : Ls} (h : lookL n l = some f) : f.id = n ∧ ∃ pre post, l = pre ++ f :: post := by
  have h1 := List.find?_some h
  have h2 := List.mem_of_find?_eq_some h
  exact ⟨by simpa using h1, List.append_of_mem h2⟩
theorem look_none {n : Int} {l : List Ls} (h : lookL n l = none) : ∀ f ∈ l, f.id ≠ n := by
  intro f hf
  have := List.find?_eq_none.1 h f hf
  simpa using this
theorem look_isSome {n : Int} {l : List Ls} : (lookL n l).isSome = true ↔ ∃ f ∈ l, f.id = n := by
  unfold lookL
  rw [List.find?_isSome]
  simp
theorem up_inj {l : List Ls} (h : upL l) {f g : Ls} (hf : f ∈ l) (hg : g ∈ l) (e : f.id = g.id) : f = g := by
  induction l with
  | nil => cases hf
  | cons a r ih =>
    obtain ⟨h1, h2⟩ := List.pairwise_cons.1 h
    rcases List.mem_cons.1 hf with rfl | hf'
    · rcases List.mem_cons.1 hg with rfl | hg'
      · rfl
      · have := h1 g hg'; omega
    · rcases List.mem_cons.1 hg with rfl | hg'
      · have := h1 f hf'; omega
      · exact ih h2 hf' hg'
theorem look_mem {l : List Ls} (h : upL l) {f : Ls} (hf : f ∈ l) : lookL f.id l = some f := by
  cases e : lookL f.id l with
  | none => exact absurd rfl (look_none e f hf)
  | some g =>
    have := List.mem_of_find?_eq_some e
    rw [up_inj h this hf (look_parts e).1]
theorem ins_perm (f : Ls) : ∀ l : List Ls, (insL f l).Perm (f :: l)
  | [] => .refl _
  | g :: r => by
    unfold insL
    split
    · exact .refl _
    · exact ((ins_perm f r).cons g).trans (.swap f g r)
theorem mem_ins {f g : Ls} {l : List Ls} : g ∈ insL f l ↔ g = f ∨ g ∈ l := by rw [(ins_perm f l).mem_iff, List.mem_cons]
theorem length_ins (f : Ls) (l : List Ls) : (insL f l).length = l.length + 1 := by rw [(ins_perm f l).length_eq, List.length_cons]
theorem mem_del {n : Int} {l : List Ls} {f : Ls} : f ∈ delL n l ↔ f ∈ l ∧ f.id ≠ n := by simp [delL]
theorem up_del {n : Int} {l : List Ls} (h : upL l) : upL (delL n l) := List.Pairwise.filter _ h
theorem up_ins {f : Ls} : ∀ {l : List Ls}, upL l → (∀ g ∈ l, g.id ≠ f.id) → upL (insL f l)
  | [], _, _ => List.pairwise_singleton _ _
  | g :: r, h, hn => by
    obtain ⟨h1, h2⟩ := List.pairwise_cons.1 h
    unfold insL
    split
    · rename_i hlt
      refine List.pairwise_cons.2 ⟨fun x hx => ?_, h⟩
      rcases List.mem_cons.1 hx with rfl | hx
      · exact hlt
      · have := h1 x hx; omega
    · rename_i hlt
      have hne := hn g (by simp)
      refine List.pairwise_cons.2 ⟨fun x hx => ?_, up_ins h2 (fun y hy => hn y (by simp [hy]))⟩
      rcases mem_ins.1 hx with rfl | hx
      · omega
      · exact h1 x hx
theorem up_put {f : Ls} {l : List Ls} (h : upL l) : upL (insL f (delL f.id l)) := up_ins (up_del h) (fun _ hg => (mem_del.1 hg).2)
theorem del_none {n : Int} {l : List Ls} (h : lookL n l = none) : delL n l = l := by
  unfold delL
  rw [List.filter_eq_self]
  intro x hx
  have := look_none h x hx
  simpa using this
theorem length_del {n : Int} {l : List Ls} {f : Ls} (hu : upL l) (h : lookL n l = some f) : (delL n l).length + 1 = l.length := by
  obtain ⟨hf, pre, post, rfl⟩ := look_parts h
  have h1 := List.pairwise_append.1 hu
  have h2 := List.pairwise_cons.1 h1.2.1
  unfold delL
  rw [List.filter_append, List.filter_cons_of_neg (by simp [hf]), List.filter_eq_self.2, List.filter_eq_self.2]
  · simp; omega
  · intro x hx
    have := h2.1 x hx
    simp; omega
  · intro x hx
    have := h1.2.2 x hx f (by simp)
    simp; omega
/-- Bounds of what a lease is. -/
structure Ls.Ok (l : Ls) : Prop where
  a : 1 ≤ l.id
  b : l.id ≤ 2147483647
  c : 1 ≤ l.ttl
  d : l.ttl ≤ 2147483647
  e : 0 ≤ l.til
  f : l.til ≤ 2199023255552
def numB (n : Int) : Bool := decide (1 ≤ n ∧ n ≤ 2147483647)
def nowB (n : Int) : Bool := decide (0 ≤ n ∧ n ≤ 1099511627776)
def argB (id ttl now : Int) : Bool := numB id && numB ttl && nowB now
def grantE (L : List Ls) (id ttl now : Int) : Int := if argB id ttl now = false then 1 else if (lookL id L).isSome then 7 else if 1024 ≤ L.length then 4 else 0
def grantL (L : List Ls) (id ttl now : Int) : List Ls := if grantE L id ttl now = 0 then insL ⟨id, ttl, now + ttl⟩ L else L
def renewE (L : List Ls) (id now : Int) : Int := if nowB now = false then 1 else if (lookL id L).isSome then 0 else 2
def renewL (L : List Ls) (id now : Int) : List Ls := if nowB now = false then L else match lookL id L with
  | none => L
  | some l => insL ⟨id, l.ttl, now + l.ttl⟩ (delL id L)
def revokeE (L : List Ls) (id : Int) : Int := if (lookL id L).isSome then 0 else 2
def revokeL (L : List Ls) (id : Int) : List Ls := delL id L
def overL (L : List Ls) (now : Int) : List Int := (L.filter (fun l => decide (l.til ≤ now))).map Ls.id
end Go.Proofs.Ytiffigjfjdplhaa
