/- Calls that come in. -/
import Derived.Test.YtilginghgigiiaaU0
namespace Go.Proofs.Ytilginghgigiiaa
open Go Go.RowKit
/-- A call as the statements hand it in. -/
structure Cl where
  kind : Int
  rev : Int
  key : ByteArray
  hi : ByteArray
  del : Bool
def noCl : Cl := ⟨0, 0, ByteArray.empty, ByteArray.empty, false⟩
structure HasC (w : World) (b o : Nat) (c : Cl) : Prop where
  c0 : w.cell? ⟨b, o, none⟩ = some (.int .i64 c.kind)
  c1 : w.cell? ⟨b, o + 1, none⟩ = some (.int .i64 c.rev)
  c2 : w.cell? ⟨b, o + 2, none⟩ = some (.string c.key)
  c3 : w.cell? ⟨b, o + 3, none⟩ = some (.string c.hi)
  c4 : w.cell? ⟨b, o + 4, none⟩ = some (.bool c.del)
  rb : -9223372036854775808 ≤ c.rev ∧ c.rev ≤ 9223372036854775807
  kl : c.key.size ≤ 140737488355328
  hl : c.hi.size ≤ 140737488355328
def SeesC (w : World) (v : Value) (cs : List Cl) : Prop :=
  (cs = [] ∧ ∃ ao cap, v = .slice ao 0 cap) ∨
  ∃ b off cap, v = .slice (some ⟨b, off, none⟩) cs.length cap ∧ 0 < cs.length ∧ b < w.heap.size ∧ ∀ i, i < cs.length → HasC w b (off + i * 5) (cs.getD i noCl)
theorem SeesC.form {w : World} {v : Value} {zs : List Cl} (h : SeesC w v zs) : ∃ ao cap, v = .slice ao zs.length cap := by
  rcases h with ⟨rfl, ao, cap, rfl⟩ | ⟨b, off, cap, rfl, _⟩ <;> exact ⟨_, _, rfl⟩
theorem HasC.below {w w' : World} {b o : Nat} {c : Cl} {B : Nat} (h : HasC w b o c) (hl : b < B) (hb : Below B w w') : HasC w' b o c :=
  ⟨(hb.cell (p := ⟨b, _, none⟩) hl).trans h.c0, (hb.cell (p := ⟨b, _, none⟩) hl).trans h.c1, (hb.cell (p := ⟨b, _, none⟩) hl).trans h.c2, (hb.cell (p := ⟨b, _, none⟩) hl).trans h.c3, (hb.cell (p := ⟨b, _, none⟩) hl).trans h.c4, h.rb, h.kl, h.hl⟩
theorem SeesC.at {w : World} {a : Option Addr} {cap : Nat} {cs : List Cl} (h : SeesC w (.slice a cs.length cap) cs) {j : Nat} (hj : j < cs.length) :
    ∃ b off, a = some ⟨b, off, none⟩ ∧ b < w.heap.size ∧ HasC w b (off + j * 5) (cs.getD j noCl) := by
  rcases h with ⟨h, _⟩ | ⟨b, off, c, he, _, hb, hc⟩
  · subst h; simp at hj
  · cases he; exact ⟨b, off, rfl, hb, hc j hj⟩
end Go.Proofs.Ytilginghgigiiaa
