/- Pieces that came in; 'few' of them; what a writer is given. -/
import Derived.Test.YtamgoknoapcnjaaDoorRefUnframe
import Derived.Deep.LoopGhost
namespace Go.Proofs.YtamgoknoapcnjaaDoor
open Go Go.RowKit
/-- A piece: its kind, its number, its text. -/
abbrev Pc := Int × Int × ByteArray
def noPc : Pc := (0, 0, ByteArray.empty)
/-- A slice value through which pieces are seen. -/
def SeesP (w : World) (v : Value) (ps : List Pc) : Prop :=
  (ps = [] ∧ ∃ ao cap, v = .slice ao 0 cap) ∨
  ∃ b off cap, v = .slice (some ⟨b, off, none⟩) ps.length cap ∧ 0 < ps.length ∧ b < w.heap.size ∧ ∀ i, i < ps.length →
    w.cell? ⟨b, off + i * 3, none⟩ = some (.int .i64 (ps.getD i noPc).1) ∧ w.cell? ⟨b, off + i * 3 + 1, none⟩ = some (.int .i64 (ps.getD i noPc).2.1) ∧ w.cell? ⟨b, off + i * 3 + 2, none⟩ = some (.string (ps.getD i noPc).2.2) ∧
    (-9223372036854775808 ≤ (ps.getD i noPc).2.1 ∧ (ps.getD i noPc).2.1 ≤ 9223372036854775807) ∧ (ps.getD i noPc).2.2.size ≤ maxLen
theorem SeesP.form {w : World} {v : Value} {zs : List Pc} (h : SeesP w v zs) : ∃ ao cap, v = .slice ao zs.length cap := by
  rcases h with ⟨rfl, ao, cap, rfl⟩ | ⟨b, off, cap, rfl, _⟩ <;> exact ⟨_, _, rfl⟩
theorem SeesP.below {w w' : World} {v : Value} {ps : List Pc} (h : SeesP w v ps) (hb : Below w.heap.size w w') : SeesP w' v ps := by
  rcases h with h | ⟨b, off, cap, rfl, h0, hl, hc⟩
  · exact .inl h
  · refine .inr ⟨b, off, cap, rfl, h0, Nat.lt_of_lt_of_le hl hb.size, fun i hi => ?_⟩
    obtain ⟨c1, c2, c3, c4⟩ := hc i hi
    exact ⟨(hb.cell (p := ⟨b, _, none⟩) hl).trans c1, (hb.cell (p := ⟨b, _, none⟩) hl).trans c2, (hb.cell (p := ⟨b, _, none⟩) hl).trans c3, c4⟩
theorem SeesP.at {w : World} {a : Option Addr} {cap : Nat} {ps : List Pc} (h : SeesP w (.slice a ps.length cap) ps) {j : Nat} (hj : j < ps.length) :
    ∃ b off, a = some ⟨b, off, none⟩ ∧ b < w.heap.size ∧ w.cell? ⟨b, off + j * 3, none⟩ = some (.int .i64 (ps.getD j noPc).1) ∧ w.cell? ⟨b, off + j * 3 + 1, none⟩ = some (.int .i64 (ps.getD j noPc).2.1) ∧ w.cell? ⟨b, off + j * 3 + 2, none⟩ = some (.string (ps.getD j noPc).2.2) ∧
      (-9223372036854775808 ≤ (ps.getD j noPc).2.1 ∧ (ps.getD j noPc).2.1 ≤ 9223372036854775807) ∧ (ps.getD j noPc).2.2.size ≤ maxLen := by
  rcases h with ⟨h, _⟩ | ⟨b, off, c, he, _, hb, hc⟩
  · subst h; simp at hj
  · cases he; exact ⟨b, off, rfl, hb, hc j hj⟩
theorem ret_bool {a b : Bool} (h : a = b) : Ending.returned (.bool a) = .returned (.bool b) := by rw [h]
/-- The pieces are few. -/
def fewB (ps : List Pc) : Bool := ps.all (fun p => decide (p.2.2.size ≤ 500)) && decide (ps.length ≤ 40)

/-- A piece's bytes. -/
def pcB (p : Pc) : List Int :=
  if p.1.tmod 4 = 0 then (be (IntKind.u64.wrap p.2.1)).drop 7 else if p.1.tmod 4 = 1 then (be (IntKind.u64.wrap p.2.1)).drop 4 else if p.1.tmod 4 = 2 then (be (IntKind.u64.wrap p.2.1)).drop 0
  else (be (IntKind.u64.wrap p.2.2.size)).drop 4 ++ strB p.2.2
def encB (ps : List Pc) : List Int := ps.flatMap pcB
theorem encB_snoc (ps : List Pc) (p : Pc) : encB (ps ++ [p]) = encB ps ++ pcB p := by simp [encB]
theorem pcB_len {p : Pc} (h : p.2.2.size ≤ 500) : (pcB p).length ≤ 504 := by
  unfold pcB; split
  · simp [be_len]
  · split
    · simp [be_len]
    · split
      · simp [be_len]
      · simp [be_len, strB_len]; omega
theorem encB_len : ∀ (ps : List Pc), (∀ p ∈ ps, p.2.2.size ≤ 500) → (encB ps).length ≤ 504 * ps.length
  | [], _ => by simp [encB]
  | p :: ps, h => by
    have h1 := encB_len ps (fun q hq => h q (by simp [hq]))
    have h2 := pcB_len (h p (by simp))
    have e : encB (p :: ps) = pcB p ++ encB ps := by simp [encB]
    rw [e, List.length_append, List.length_cons]
    omega
theorem fewB_sizes {ps : List Pc} (h : fewB ps = true) : (∀ p ∈ ps, p.2.2.size ≤ 500) ∧ ps.length ≤ 40 := by
  simp only [fewB, Bool.and_eq_true, List.all_eq_true, decide_eq_true_eq] at h
  exact h

theorem pcB_0 {k n : Int} {t : ByteArray} (h : (k.tmod 4 == 0) = true) : pcB (k, n, t) = (be (IntKind.u64.wrap n)).drop 7 := by
  unfold pcB; rw [if_pos (by simpa using h)]
theorem pcB_1 {k n : Int} {t : ByteArray} (h0 : (k.tmod 4 == 0) = false) (h : (k.tmod 4 == 1) = true) : pcB (k, n, t) = (be (IntKind.u64.wrap n)).drop 4 := by
  unfold pcB; rw [if_neg (by simpa using h0), if_pos (by simpa using h)]
theorem pcB_2 {k n : Int} {t : ByteArray} (h0 : (k.tmod 4 == 0) = false) (h1 : (k.tmod 4 == 1) = false) (h : (k.tmod 4 == 2) = true) : pcB (k, n, t) = (be (IntKind.u64.wrap n)).drop 0 := by
  unfold pcB; rw [if_neg (by simpa using h0), if_neg (by simpa using h1), if_pos (by simpa using h)]
theorem pcB_3 {k n : Int} {t : ByteArray} (h0 : (k.tmod 4 == 0) = false) (h1 : (k.tmod 4 == 1) = false) (h : (k.tmod 4 == 2) = false) : pcB (k, n, t) = (be (IntKind.u64.wrap t.size)).drop 4 ++ strB t := by
  unfold pcB; rw [if_neg (by simpa using h0), if_neg (by simpa using h1), if_neg (by simpa using h)]

end Go.Proofs.YtamgoknoapcnjaaDoor
