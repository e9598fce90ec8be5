/- Calls of a disk, as the statements hand them in: slices of them that are seen in memory. -/
import Derived.Test.YtmfhfabfhoiegaaMore
import Derived.Deep.LoopGhost
namespace Go.Proofs.Ytmfhfabfhoiegaa
open Go Go.RowKit
/-- A call: its kind, its number, its texts, its bytes and its picks, with the slices that they are seen through. -/
structure Cl where
  kind : Int
  n : Int
  a : ByteArray
  b : ByteArray
  data : List Int
  picks : List Int
  dv : Value
  pv : Value
def noCl : Cl := ⟨0, 0, ByteArray.empty, ByteArray.empty, [], [], .slice none 0 0, .slice none 0 0⟩
structure HasC (w : World) (b o : Nat) (c : Cl) : Prop where
  c0 : w.cell? ⟨b, o, none⟩ = some (.int .i64 c.kind)
  c1 : w.cell? ⟨b, o + 1, none⟩ = some (.int .i64 c.n)
  c2 : w.cell? ⟨b, o + 2, none⟩ = some (.string c.a)
  c3 : w.cell? ⟨b, o + 3, none⟩ = some (.string c.b)
  c4 : w.cell? ⟨b, o + 4, none⟩ = some c.dv
  c5 : w.cell? ⟨b, o + 5, none⟩ = some c.pv
  data : Sees w c.dv c.data
  bytes : isB c.data
  picks : SeesI w c.pv c.picks
  nb : -9223372036854775808 ≤ c.n ∧ c.n ≤ 9223372036854775807
  al : c.a.size ≤ 140737488355328
  bl : c.b.size ≤ 140737488355328
  dl : c.data.length ≤ 140737488355328
  pl : c.picks.length ≤ 140737488355328
def SeesC (w : World) (v : Value) (cs : List Cl) : Prop :=
  (cs = [] ∧ ∃ ao cap, v = .slice ao 0 cap) ∨
  ∃ b off cap, v = .slice (some ⟨b, off, none⟩) cs.length cap ∧ 0 < cs.length ∧ b < w.heap.size ∧ ∀ i, i < cs.length → HasC w b (off + i * 6) (cs.getD i noCl)
theorem SeesC.form {w : World} {v : Value} {zs : List Cl} (h : SeesC w v zs) : ∃ ao cap, v = .slice ao zs.length cap := by
  rcases h with ⟨rfl, ao, cap, rfl⟩ | ⟨b, off, cap, rfl, _⟩ <;> exact ⟨_, _, rfl⟩
theorem HasC.below {w w' : World} {b o : Nat} {c : Cl} (h : HasC w b o c) (hl : b < w.heap.size) (hb : Below w.heap.size w w') : HasC w' b o c :=
  ⟨(hb.cell (p := ⟨b, _, none⟩) hl).trans h.c0, (hb.cell (p := ⟨b, _, none⟩) hl).trans h.c1, (hb.cell (p := ⟨b, _, none⟩) hl).trans h.c2, (hb.cell (p := ⟨b, _, none⟩) hl).trans h.c3, (hb.cell (p := ⟨b, _, none⟩) hl).trans h.c4, (hb.cell (p := ⟨b, _, none⟩) hl).trans h.c5,
   h.data.below hb, h.bytes, h.picks.below hb, h.nb, h.al, h.bl, h.dl, h.pl⟩
theorem SeesC.at {w : World} {a : Option Addr} {cap : Nat} {cs : List Cl} (h : SeesC w (.slice a cs.length cap) cs) {j : Nat} (hj : j < cs.length) :
    ∃ b off, a = some ⟨b, off, none⟩ ∧ b < w.heap.size ∧ HasC w b (off + j * 6) (cs.getD j noCl) := by
  rcases h with ⟨h, _⟩ | ⟨b, off, c, he, _, hb, hc⟩
  · subst h; simp at hj
  · cases he; exact ⟨b, off, rfl, hb, hc j hj⟩
end Go.Proofs.Ytmfhfabfhoiegaa
