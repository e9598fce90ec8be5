/- Messages: as data, their bytes, and in memory. -/
import Derived.Test.YtamgoknoapcnjaaDoorNW
namespace Go.Proofs.YtamgoknoapcnjaaDoor
open Go Go.RowKit
def isI (n : Int) : Prop := -9223372036854775808 ≤ n ∧ n ≤ 9223372036854775807
abbrev iv (n : Int) : Value := .int .i64 n
abbrev ptr (d : Nat) : Value := .pointer (some ⟨d, 0, none⟩)
abbrev b8 (n : Int) : List Int := (be (IntKind.u64.wrap n)).drop 0
abbrev b1 (n : Int) : List Int := (be (IntKind.u64.wrap n)).drop 7
abbrev btx (d : List Int) : List Int := (be (IntKind.u64.wrap (d.length : Nat))).drop 4 ++ d
structure Ent where
  i : Int
  t : Int
  k : Int
  d : List Int
structure Md where
  kind : Int
  src : Int
  dst : Int
  term : Int
  index : Int
  lt : Int
  es : List Ent
  commit : Int
  seq : Int
  ok : Bool
  mat : Int
  mi : Int
  mt : Int
  vs : List Int
  data : List Int
def flagI (b : Bool) : Int := if b then 1 else 0
def intsB (l : List Int) : List Int := l.flatMap fun n => b8 n
def entB (e : Ent) : List Int := b8 e.i ++ (b8 e.t ++ (b1 e.k ++ btx e.d))
def entsB (l : List Ent) : List Int := l.flatMap entB
def msgB (m : Md) : List Int :=
  b1 m.kind ++ (intsB [m.src, m.dst, m.term, m.index, m.lt] ++ (b1 (m.es.length : Nat) ++ (entsB m.es ++ (intsB [m.commit, m.seq] ++ (b1 (flagI m.ok) ++ (intsB [m.mat, m.mi, m.mt] ++ (b1 (m.vs.length : Nat) ++ (intsB m.vs ++ btx m.data))))))))
theorem b8_len (n : Int) : (b8 n).length = 8 := rfl
theorem b1_len (n : Int) : (b1 n).length = 1 := rfl
theorem btx_len (d : List Int) : (btx d).length = d.length + 4 := by simp [btx, be]
theorem intsB_len (l : List Int) : (intsB l).length = 8 * l.length := by
  induction l with
  | nil => rfl
  | cons a l ih => simp only [intsB, List.flatMap_cons, List.length_append, List.length_cons] at ih ⊢; rw [ih]; simp [be]; omega
theorem intsB_snoc (l : List Int) (n : Int) : intsB (l ++ [n]) = intsB l ++ b8 n := by simp [intsB]
theorem entsB_snoc (l : List Ent) (e : Ent) : entsB (l ++ [e]) = entsB l ++ entB e := by simp [entsB]
theorem entB_len (e : Ent) : (entB e).length = e.d.length + 21 := by simp [entB, be]; omega
/-- How many bytes a message's entries have. -/
def entsN (l : List Ent) : Nat := (l.map fun e => e.d.length).sum
theorem entsB_len (l : List Ent) : (entsB l).length = 21 * l.length + entsN l := by
  induction l with
  | nil => rfl
  | cons a l ih => simp only [entsB, entsN, List.flatMap_cons, List.length_append, List.length_cons, List.map_cons, List.sum_cons] at ih ⊢; rw [ih, entB_len]; omega
theorem entsN_take (l : List Ent) (j : Nat) : entsN (l.take j) ≤ entsN l := by
  induction l generalizing j with
  | nil => simp [entsN]
  | cons a l ih =>
    cases j with
    | zero => simp [entsN]
    | succ j => have := ih j; simp only [entsN, List.take_succ_cons, List.map_cons, List.sum_cons] at this ⊢; omega
theorem entsN_mem {l : List Ent} {j : Nat} {e : Ent} (h : l[j]? = some e) : e.d.length ≤ entsN l := by
  induction l generalizing j with
  | nil => simp at h
  | cons a l ih =>
    cases j with
    | zero => simp at h; subst h; simp [entsN]
    | succ j => have := ih (j := j) (by simpa using h); simp only [entsN, List.map_cons, List.sum_cons] at this ⊢; omega
theorem msgB_len (m : Md) : (msgB m).length = 88 + 21 * m.es.length + entsN m.es + 8 * m.vs.length + m.data.length := by
  have h1 := entsB_len m.es
  have h2 := intsB_len m.vs
  have h3 := btx_len m.data
  simp only [msgB, List.length_append, intsB_len, b1_len, List.length_cons, List.length_nil, h1, h3]
  omega
/-- A message that has bytes: of a kind, not too many entries or voters, no entry whose kind is no byte. -/
structure Fit (m : Md) : Prop where
  es : m.es.length ≤ 255
  vs : m.vs.length ≤ 255
  sum : entsN m.es + m.data.length ≤ 30000
structure EOk (e : Ent) : Prop where
  i : isI e.i
  t : isI e.t
  k : isI e.k
  d : isB e.d
structure MOk (m : Md) : Prop where
  n : ∀ x ∈ [m.kind, m.src, m.dst, m.term, m.index, m.lt, m.commit, m.seq, m.mat, m.mi, m.mt], isI x
  es : ∀ e ∈ m.es, EOk e
  vs : ∀ x ∈ m.vs, isI x
  d : isB m.data
/-! ### In memory -/
/-- Bytes that can be read; their block is one of Z. -/
structure Bs (Z : Nat → Prop) (w : World) (v : Value) (zs : List Int) : Prop where
  s : Sees w v zs
  z : ∀ k, v.ownBlock = some k → 0 < zs.length → Z k
theorem Bs.upd {Z S : Nat → Prop} {w w' : World} {v : Value} {zs : List Int} (h : Bs Z w v zs) (hu : Upd w w' S) (hS : ∀ k, Z k → k < w.heap.size → ¬ S k) : Bs Z w' v zs := by
  refine ⟨?_, h.z⟩
  rcases h.s with h' | ⟨b, off, cap, rfl, h0, h1, h2, hc⟩
  · exact .inl h'
  · refine .inr ⟨b, off, cap, rfl, h0, h1, h2, fun i hi => ?_⟩
    have hh := hc i hi
    have hl := World.block_lt_of_cell? _ _ hh
    exact (hu.cell (p := ⟨b, off + i, none⟩) hl (hS b (h.z b rfl h0) hl)).trans hh
theorem Bs.below {Z : Nat → Prop} {w w' : World} {v : Value} {zs : List Int} (h : Bs Z w v zs) (hb : Below w.heap.size w w') : Bs Z w' v zs := h.upd (S := fun _ => False) (Upd.ofBelow hb) (fun _ _ _ h => h)
theorem Bs.mono {Z Z' : Nat → Prop} {w : World} {v : Value} {zs : List Int} (h : Bs Z w v zs) (hz : ∀ k, Z k → Z' k) : Bs Z' w v zs := ⟨h.s, fun k h1 h2 => hz k (h.z k h1 h2)⟩
theorem Bs.slice {Z : Nat → Prop} {w : World} {v : Value} {zs : List Int} (h : Bs Z w v zs) : ∃ p c, v = .slice p zs.length c := by
  rcases h.s with ⟨rfl, ao, cap, rfl, _⟩ | ⟨b, off, cap, rfl, _⟩ <;> exact ⟨_, _, rfl⟩
theorem Bs.nil (Z : Nat → Prop) (w : World) : Bs Z w (.slice none 0 0) [] := ⟨.inl ⟨rfl, none, 0, rfl, fun _ => rfl, by decide⟩, fun k h => by simp [Value.ownBlock] at h⟩
/-- Numbers that can be read. -/
def Is (Z : Nat → Prop) (w : World) (v : Value) (l : List Int) : Prop :=
  ∃ p c, v = .slice p l.length c ∧ l.length ≤ c ∧ c ≤ maxLen ∧ ∀ i x, l[i]? = some x → ∃ g o, p = some ⟨g, o, none⟩ ∧ Z g ∧ w.cell? ⟨g, o + i, none⟩ = some (iv x)
theorem Is.upd {Z S : Nat → Prop} {w w' : World} {v : Value} {l : List Int} (h : Is Z w v l) (hu : Upd w w' S) (hS : ∀ k, Z k → k < w.heap.size → ¬ S k) : Is Z w' v l := by
  obtain ⟨p, c, rfl, hlc, hcm, hh⟩ := h
  refine ⟨p, c, rfl, hlc, hcm, fun i x hi => ?_⟩
  obtain ⟨g, o, e, hz, hc⟩ := hh i x hi
  have hl := World.block_lt_of_cell? _ _ hc
  exact ⟨g, o, e, hz, (hu.cell (p := ⟨g, o + i, none⟩) hl (hS g hz hl)).trans hc⟩
theorem Is.below {Z : Nat → Prop} {w w' : World} {v : Value} {l : List Int} (h : Is Z w v l) (hb : Below w.heap.size w w') : Is Z w' v l := h.upd (S := fun _ => False) (Upd.ofBelow hb) (fun _ _ _ h => h)
theorem Is.mono {Z Z' : Nat → Prop} {w : World} {v : Value} {l : List Int} (h : Is Z w v l) (hz : ∀ k, Z k → Z' k) : Is Z' w v l := by
  obtain ⟨p, c, rfl, hlc, hcm, hh⟩ := h
  exact ⟨p, c, rfl, hlc, hcm, fun i x hi => by obtain ⟨g, o, e, h1, h2⟩ := hh i x hi; exact ⟨g, o, e, hz g h1, h2⟩⟩
theorem Is.nil (Z : Nat → Prop) (w : World) : Is Z w (.slice none 0 0) [] := ⟨none, 0, rfl, Nat.le_refl _, by decide, fun i x hi => by simp at hi⟩
theorem Is.lit (w : World) (l : List Int) (hl : l.length ≤ maxLen) : Is (fun k => k = w.heap.size) (w.alloc (.cells (l.map iv).toArray 3)) (.slice (some ⟨w.heap.size, 0, none⟩) l.length l.length) l := by
  refine ⟨_, _, rfl, Nat.le_refl _, hl, fun i x hi => ⟨_, 0, rfl, rfl, ?_⟩⟩
  rw [cell_of_row _ _ _ _ _ _ (row_alloc w _ 3)]
  simp [hi]
/-- An entry in memory. -/
structure HasE (Z : Nat → Prop) (w : World) (g o : Nat) (e : Ent) : Prop where
  c0 : w.cell? ⟨g, o, none⟩ = some (iv e.i)
  c1 : w.cell? ⟨g, o + 1, none⟩ = some (iv e.t)
  c2 : w.cell? ⟨g, o + 2, none⟩ = some (iv e.k)
  c3 : ∃ v, w.cell? ⟨g, o + 3, none⟩ = some v ∧ Bs Z w v e.d
theorem HasE.upd {Z S : Nat → Prop} {w w' : World} {g o : Nat} {e : Ent} (h : HasE Z w g o e) (hu : Upd w w' S) (hg : Z g) (hS : ∀ k, Z k → k < w.heap.size → ¬ S k) : HasE Z w' g o e := by
  have hl := World.block_lt_of_cell? _ _ h.c0
  have hn := hS g hg hl
  obtain ⟨v, h3, hb⟩ := h.c3
  exact ⟨(hu.cell (p := ⟨g, o, none⟩) hl hn).trans h.c0, (hu.cell (p := ⟨g, o + 1, none⟩) hl hn).trans h.c1, (hu.cell (p := ⟨g, o + 2, none⟩) hl hn).trans h.c2, v, (hu.cell (p := ⟨g, o + 3, none⟩) hl hn).trans h3, hb.upd hu hS⟩
/-- Entries that can be read. -/
def Es (Z : Nat → Prop) (w : World) (v : Value) (l : List Ent) : Prop :=
  ∃ p c, v = .slice p l.length c ∧ l.length ≤ c ∧ c ≤ maxLen ∧ ∀ i e, l[i]? = some e → ∃ g o, p = some ⟨g, o, none⟩ ∧ Z g ∧ HasE Z w g (o + i * 4) e
theorem Es.upd {Z S : Nat → Prop} {w w' : World} {v : Value} {l : List Ent} (h : Es Z w v l) (hu : Upd w w' S) (hS : ∀ k, Z k → k < w.heap.size → ¬ S k) : Es Z w' v l := by
  obtain ⟨p, c, rfl, hlc, hcm, hh⟩ := h
  refine ⟨p, c, rfl, hlc, hcm, fun i x hi => ?_⟩
  obtain ⟨g, o, e, hz, hc⟩ := hh i x hi
  exact ⟨g, o, e, hz, hc.upd hu hz hS⟩
theorem Es.below {Z : Nat → Prop} {w w' : World} {v : Value} {l : List Ent} (h : Es Z w v l) (hb : Below w.heap.size w w') : Es Z w' v l := h.upd (S := fun _ => False) (Upd.ofBelow hb) (fun _ _ _ h => h)
theorem Es.mono {Z Z' : Nat → Prop} {w : World} {v : Value} {l : List Ent} (h : Es Z w v l) (hz : ∀ k, Z k → Z' k) : Es Z' w v l := by
  obtain ⟨p, c, rfl, hlc, hcm, hh⟩ := h
  refine ⟨p, c, rfl, hlc, hcm, fun i x hi => ?_⟩
  obtain ⟨g, o, e, h1, h2⟩ := hh i x hi
  obtain ⟨v, h3, hb⟩ := h2.c3
  exact ⟨g, o, e, hz g h1, h2.c0, h2.c1, h2.c2, v, h3, hb.mono hz⟩
theorem Es.nil (Z : Nat → Prop) (w : World) : Es Z w (.slice none 0 0) [] := ⟨none, 0, rfl, Nat.le_refl _, by decide, fun i x hi => by simp at hi⟩
/-- A message's cells. -/
def mrow (m : Md) (ve vv vd : Value) : Array Value := #[iv m.kind, iv m.src, iv m.dst, iv m.term, iv m.index, iv m.lt, ve, iv m.commit, iv m.seq, .bool m.ok, iv m.mat, iv m.mi, iv m.mt, vv, vd]
/-- A message as a value: its slices can be read, their blocks are of Z. -/
structure Ms (Z : Nat → Prop) (w : World) (ve vv vd : Value) (m : Md) : Prop where
  e : Es Z w ve m.es
  v : Is Z w vv m.vs
  d : Bs Z w vd m.data
theorem Ms.upd {Z S : Nat → Prop} {w w' : World} {ve vv vd : Value} {m : Md} (h : Ms Z w ve vv vd m) (hu : Upd w w' S) (hS : ∀ k, Z k → k < w.heap.size → ¬ S k) : Ms Z w' ve vv vd m := ⟨h.e.upd hu hS, h.v.upd hu hS, h.d.upd hu hS⟩
theorem Ms.below {Z : Nat → Prop} {w w' : World} {ve vv vd : Value} {m : Md} (h : Ms Z w ve vv vd m) (hb : Below w.heap.size w w') : Ms Z w' ve vv vd m := ⟨h.e.below hb, h.v.below hb, h.d.below hb⟩
theorem Ms.mono {Z Z' : Nat → Prop} {w : World} {ve vv vd : Value} {m : Md} (h : Ms Z w ve vv vd m) (hz : ∀ k, Z k → Z' k) : Ms Z' w ve vv vd m := ⟨h.e.mono hz, h.v.mono hz, h.d.mono hz⟩
/-- A struct in a box. -/
def Bx (d : Nat) (row : Array Value) (T : Nat) (W : World) : Prop := W.heap[d]? = some (.cells row T (0, 0))
theorem Bx.cell {d T : Nat} {row : Array Value} {W : World} (h : Bx d row T W) (j : Nat) : W.cell? ⟨d, j, none⟩ = row[j]? := cell_of_row _ _ _ _ _ _ h
theorem Bx.lt {d T : Nat} {row : Array Value} {W : World} (h : Bx d row T W) : d < W.heap.size := (Array.getElem?_eq_some_iff.1 h).1
theorem Bx.free {d T : Nat} {row : Array Value} {W : World} (h : Bx d row T W) (j : Nat) : W.frozen? ⟨d, j, none⟩ = false := frozen_of_row _ _ _ _ _ h
theorem Bx.upd {d T : Nat} {row : Array Value} {w w' : World} {S : Nat → Prop} (h : Bx d row T w) (hu : Upd w w' S) (hS : ¬ S d) : Bx d row T w' := (hu.block d h.lt hS).trans h
theorem Bx.below {d T : Nat} {row : Array Value} {w w' : World} (h : Bx d row T w) (hb : Below w.heap.size w w') : Bx d row T w' := (hb.block d h.lt).trans h
theorem Bx.set {d T : Nat} {row row' : Array Value} {W : World} (h : Bx d row T W) (j : Nat) (u : Value) (hu : row.set! j u = row') : Bx d row' T (W.setCell ⟨d, j, none⟩ u) := by
  rw [← hu]; exact heap_setCell_row h u
end Go.Proofs.YtamgoknoapcnjaaDoor
