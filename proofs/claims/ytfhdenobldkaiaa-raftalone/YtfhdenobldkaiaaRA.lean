/- A node with one voter, in memory: its cells; calls that only read it. -/
import Derived.Test.YtfhdenobldkaiaaRW
import Derived.Deep.QuietTactic
import Derived.BigQuiet
import Derived.Deep.RegionWith
import Derived.Deep.RegionHeldLaw
import Derived.Deep.CutRange
import Derived.Handy
import Derived.Lib.SliceRun
namespace Go.Proofs.Ytfhdenobldkaiaa
open Go Go.RowKit
abbrev ptr (d : Nat) : Value := .pointer (some ⟨d, 0, none⟩)
abbrev ptrT (d : Nat) : Value := .pointer (some ⟨d, 7, none⟩)
abbrev iv (n : Int) : Value := .int .i64 n
structure Nd where
  id : Int
  term : Int
  vote : Int
  commit : Int
  tt : Int
  tv : Int
  tc : Int
  ents : Value
  first : Value
  voters : Value
  old : Int
  applied : Int
  draw : Int
  role : Value
  reads : Value
def Nd.row (a : Nd) : Array Value := #[iv a.id, iv a.term, iv a.vote, iv a.commit, iv a.tt, iv a.tv, iv a.tc, iv 0, iv 0, .slice none 0 0, .slice none 0 0, a.ents, a.first, a.voters, iv a.old, iv a.applied, iv a.draw, a.role, .bool false, .slice none 0 0, a.reads]
/-- A node lies at d. -/
def Nod (w : World) (d : Nat) (a : Nd) : Prop := w.heap[d]? = some (.cells a.row 62 (0, 0))
theorem Nod.cell {w : World} {d : Nat} {a : Nd} (h : Nod w d a) (j : Nat) {u : Value} (hu : a.row[j]? = some u) : w.cell? ⟨d, j, none⟩ = some u := by
  rw [cell_of_row w d j _ _ _ h]
  exact hu
theorem Nod.free {w : World} {d : Nat} {a : Nd} (h : Nod w d a) (j : Nat) : w.frozen? ⟨d, j, none⟩ = false := frozen_of_row _ _ _ _ _ h
theorem Nod.lt {w : World} {d : Nat} {a : Nd} (h : Nod w d a) : d < w.heap.size := (Array.getElem?_eq_some_iff.1 h).1
theorem Nod.upd {w w' : World} {d : Nat} {a : Nd} {S : Nat → Prop} (h : Nod w d a) (hu : Upd w w' S) (hS : ¬ S d) : Nod w' d a := (hu.block d h.lt hS).trans h
theorem Nod.below {w w' : World} {d : Nat} {a : Nd} (h : Nod w d a) {B : Nat} (hb : Below B w w') (hB : d < B) : Nod w' d a := (hb.block d hB).trans h
theorem Nod.set {w : World} {d : Nat} {a b : Nd} (h : Nod w d a) (j : Nat) (u : Value) (hu : a.row.set! j u = b.row) : Nod (w.setCell ⟨d, j, none⟩ u) d b := by
  have := heap_setCell_row (j := j) h u
  rw [hu] at this
  exact this
/-- A row of one voter. -/
def One (w : World) (v : Value) (id : Int) : Prop := ∃ g c, v = .slice (some ⟨g, 0, none⟩) 1 c ∧ 1 ≤ c ∧ g < w.heap.size ∧ w.cell? ⟨g, 0, none⟩ = some (iv id)
theorem One.upd {w w' : World} {v : Value} {id : Int} {S : Nat → Prop} (h : One w v id) (hu : Upd w w' S) (hS : ∀ k, v.ownBlock = some k → ¬ S k) : One w' v id := by
  obtain ⟨g, c, rfl, h1, h2, h3⟩ := h
  exact ⟨g, c, rfl, h1, Nat.lt_of_lt_of_le h2 hu.size, (hu.cell (p := ⟨g, 0, none⟩) h2 (hS g rfl)).trans h3⟩
theorem One.below {w w' : World} {v : Value} {id : Int} (h : One w v id) (hb : Below w.heap.size w w') : One w' v id := h.upd (S := fun _ => False) (Upd.ofBelow hb) (fun _ _ h => h)
theorem One.of {w : World} {B : Nat} {v : Value} {id : Int} (h : w.ownsRow B 3 1 v 1 [iv id]) : One w v id := by
  rcases h.2 with ⟨_, h0⟩ | ⟨g, cap, cur, rfl, hg, hh, h1, h2, h3, h4⟩
  · cases h0
  · have := h.cells (g := g) rfl 0 (iv id) rfl
    rw [Addr.add_lit] at this
    exact ⟨g, cap, rfl, h1, (Array.getElem?_eq_some_iff.1 hh).1, this⟩
theorem isId_yes (n : Int) (w : World) (h : 0 ≤ n ∧ n < 1073741824) : Calls Try.prog 12 #[iv n] w fun e w' => e = .returned (.bool true) ∧ w' = w := by
  obtain ⟨h0, h1⟩ := h
  go_enter Try.func12, Try.ntmps12
  go_wp2
  go_ret
  exact ⟨rfl, rfl⟩
theorem voters_one {w : World} {v : Value} {id : Int} (h : One w v id) (hid : 0 ≤ id ∧ id < 1073741824) : Calls Try.prog 13 #[v] w fun e w' => e = .returned (.bool true) ∧ w' = w := by
  obtain ⟨g, c, rfl, h1, _, hc⟩ := h
  have hy := isId_yes id w hid
  go_enter Try.func13, Try.ntmps13
  go_wp2
  go_loopg [3, 4, 7] 2 (fun kx s3 s4 s7 wq => ∃ i : Nat, s7 = .int .i64 i ∧ kx + i = 2 ∧ i ≤ 1 ∧ wq = w)
  case atStart => exact ⟨0, rfl, rfl, by omega, rfl⟩
  case round =>
    obtain ⟨i, rfl, hk, hi, hwr⟩ := hrel
    obtain rfl := hwr.symm
    by_cases h0 : i = 0
    · subst h0
      go_wp2_with (go_at_call 12; refine hy.mono ?_; rintro e w1 ⟨rfl, hw1⟩; obtain rfl := hw1.symm)
      go_roundg 1
      case measure => omega
      case rel => exact ⟨1, rfl, by omega, by omega, rfl⟩
    · obtain rfl : i = 1 := by omega
      go_wp2
      go_ret
      exact ⟨rfl, rfl⟩
theorem hard_yes (t v c : Int) (w : World) (h1 : 0 ≤ t ∧ t ≤ 4611686018427387904) (h2 : -1 ≤ v) (h3 : 0 ≤ c) : Calls Try.prog 14 #[.agg #[iv t, iv v, iv c]] w fun e w' => e = .returned (.bool true) ∧ Below w.heap.size w w' := by
  obtain ⟨a1, a2⟩ := h1
  go_enter Try.func14, Try.ntmps14
  go_wp2
  go_ret
  exact ⟨rfl, (Below.refl _ _).alloc (Nat.le_refl _) _⟩
theorem meta_zero (w : World) : Calls Try.prog 15 #[.agg #[iv 0, iv 0, .slice none 0 0]] w fun e w' => e = .returned (.bool true) ∧ Below w.heap.size w w' := by
  go_enter Try.func15, Try.ntmps15
  go_wp2
  go_ret
  exact ⟨rfl, (Below.refl _ _).alloc (Nat.le_refl _) _⟩
theorem order_nil (a b c : Int) (w : World) : Calls Try.prog 16 #[iv a, iv b, iv c, .slice none 0 0] w fun e w' => e = .returned (.bool true) ∧ w' = w := by
  go_enter Try.func16, Try.ntmps16
  go_wp2
  go_loopg [0, 1, 13] 1 (fun kx s0 s1 s13 wq => s13 = iv 0 ∧ kx = 1 ∧ wq = w)
  case atStart => exact ⟨rfl, rfl, rfl⟩
  case round =>
    obtain ⟨rfl, rfl, hwr⟩ := hrel
    obtain rfl := hwr.symm
    go_wp2
    go_ret
    exact ⟨rfl, rfl⟩
end Go.Proofs.Ytfhdenobldkaiaa
