/- The law's own list of messages. -/
import Derived.Test.YtamgoknoapcnjaaDoorNPJ
import Derived.Test.YtamgoknoapcnjaaDoorNSA
namespace Go.Proofs.YtamgoknoapcnjaaDoor
open Go Go.RowKit
/-- A message with the values of its slices. -/
structure Mv where
  m : Md
  e : Value
  v : Value
  d : Value
def mvC (x : Mv) : List Value := (mrow x.m x.e x.v x.d).toList
def mvsC (L : List Mv) : List Value := L.flatMap mvC
/-- Its slices can be read; their blocks are of Z. -/
def MvOk (Z : Nat → Prop) (w : World) (x : Mv) : Prop := Ms Z w x.e x.v x.d x.m
theorem mvC_len (x : Mv) : (mvC x).length = 15 := rfl
theorem mvsC_len (L : List Mv) : (mvsC L).length = L.length * 15 := by
  induction L with
  | nil => rfl
  | cons a L ih => simp only [mvsC, List.flatMap_cons, List.length_append, List.length_cons] at ih ⊢; rw [ih, mvC_len]; omega
theorem mvsC_append (L K : List Mv) : mvsC (L ++ K) = mvsC L ++ mvsC K := by simp [mvsC]
theorem mvC_cell {Z : Nat → Prop} {w : World} {x : Mv} (h : MvOk Z w x) {u : Value} (hu : u ∈ mvC x) : u.oneCell' = true := by
  obtain ⟨pe, ce, h1, -, -, -⟩ := h.e
  obtain ⟨pv, cv, h2, -, -, -⟩ := h.v
  obtain ⟨pd, cd, h3⟩ := h.d.slice
  unfold mvC at hu
  rw [h1, h2, h3] at hu
  simp [mrow] at hu
  rcases hu with rfl | rfl | rfl | rfl | rfl | rfl | rfl | rfl | rfl | rfl | rfl | rfl | rfl | rfl | rfl <;> rfl
theorem mvsC_cell {Z : Nat → Prop} {w : World} {L : List Mv} (h : ∀ x ∈ L, MvOk Z w x) {u : Value} (hu : u ∈ mvsC L) : u.oneCell' = true := by
  obtain ⟨x, hx, h'⟩ := List.mem_flatMap.1 hu
  exact mvC_cell (h x hx) h'
theorem mvsC_take (L : List Mv) {k : Nat} (hk : k ≤ L.length) : mvsC L = mvsC (L.take k) ++ mvsC (L.drop k) ∧ (mvsC (L.take k)).length = k * 15 := by
  refine ⟨by rw [← mvsC_append, List.take_append_drop], ?_⟩
  rw [mvsC_len, List.length_take]
  congr 1
  omega
/-- The cells of one message among others. -/
theorem mvsC_at (L : List Mv) {k : Nat} {x : Mv} (hk : L[k]? = some x) {j : Nat} {u : Value} (hj : (mvC x)[j]? = some u) : (mvsC L)[k * 15 + j]? = some u := by
  have hkl := (List.getElem?_eq_some_iff.1 hk).1
  obtain ⟨e1, e2⟩ := mvsC_take L (k := k) (by omega)
  rw [e1, List.getElem?_append_right (by omega), e2, Nat.add_sub_cancel_left]
  have hd : L.drop k = x :: L.drop (k + 1) := by
    rw [List.drop_eq_getElem_cons hkl]
    congr 1
    rw [List.getElem?_eq_getElem hkl] at hk
    exact Option.some.inj hk
  rw [hd]
  show ((mvC x) ++ mvsC (L.drop (k + 1)))[j]? = some u
  rw [List.getElem?_append_left (List.getElem?_eq_some_iff.1 hj).1]
  exact hj
theorem info28 : (Tryd.prog.info? 28).map (fun i => (i.zero, i.size, i.bytes)) = some (some (.agg zrow), 15, 168) := by kernel_rfl
section
variable {W0 : World} {B : Nat} {p : Option Addr} {c : Nat} {L : List Mv}
/-- The first k messages of the law's list. -/
theorem mv_take (h : W0.ownsRow B 28 15 (.slice p L.length c) L.length (mvsC L)) (hu : ∀ u ∈ mvsC L, u.oneCell' = true) {k : Nat} (hk : k ≤ L.length) :
    ∀ W, Below W0.heap.size W0 W → Src Tryd.prog 15 47 (.slice p k c) k (mvsC (L.take k)) W := by
  intro W hb
  obtain ⟨e1, e2⟩ := mvsC_take L hk
  rcases h.2 with ⟨e, h0⟩ | ⟨g, cap, cur, e, hbg, hh, h1, h2, h3, h4⟩
  · simp only [Value.slice.injEq] at e
    obtain ⟨rfl, _, rfl⟩ := e
    have : k = 0 := by omega
    subst this
    exact Src.ofNil _ Tryd.underlying47 0
  · cases e
    refine Src.ofSlice _ Tryd.underlying47 ⟨g, 0, none⟩ k c _ e2 (fun j u hj => ?_) (fun u hu' => hu u (by rw [e1]; exact List.mem_append_left _ hu'))
    have hlt := (List.getElem?_eq_some_iff.1 hj).1
    have := h.cells (g := g) rfl j u (by rw [e1, List.getElem?_append_left hlt]; exact hj)
    rw [Addr.add_lit, Nat.zero_add] at this ⊢
    exact (hb.cell (p := ⟨g, j, none⟩) (World.block_lt_of_cell? _ _ this)).trans this
/-- The law's list from its k-th message on. -/
theorem mv_drop (h : W0.ownsRow B 28 15 (.slice p L.length c) L.length (mvsC L)) (hu : ∀ u ∈ mvsC L, u.oneCell' = true) {k : Nat} (hk : k ≤ L.length) (hc : L.length ≤ c) :
    ∃ p', (∀ W, (Instr.sliceAt 47 (.slice p L.length c) (some (.int .i64 k)) none none).run Tryd.prog W = .ok (.slice p' (L.length - k) (c - k)) W) ∧ ∀ W, Below W0.heap.size W0 W → Src Tryd.prog 15 47 (.slice p' (L.length - k) (c - k)) (L.length - k) (mvsC (L.drop k)) W := by
  obtain ⟨e1, e2⟩ := mvsC_take L hk
  have size28 : ∀ W, (sizeOf 28).run Tryd.prog W = .ok 15 W := fun W => by kernel_rfl
  refine ⟨if c = k then p else p.map (·.add (k * 15)), fun W => ?_, fun W hb => ?_⟩
  · simp [Instr.sliceAt, Instr.slice, Instr.sliceBounds, Instr.sliceBound, run_underlying Tryd.underlying47, asIntOf, hk]
  · rcases h.2 with ⟨e, h0⟩ | ⟨g, cap, cur, e, hbg, hh, h1, h2, h3, h4⟩
    · simp only [Value.slice.injEq] at e
      obtain ⟨rfl, _, rfl⟩ := e
      have hk0 : k = 0 := by omega
      have hL : L = [] := List.eq_nil_of_length_eq_zero h0
      subst hk0 hL
      exact Src.ofNil _ Tryd.underlying47 0
    · cases e
      by_cases hck : c = k
      · rw [if_pos hck]
        have e0 : L.length - k = 0 := by omega
        rw [e0, List.drop_eq_nil_of_le (by omega)]
        exact Src.ofSlice _ Tryd.underlying47 ⟨g, 0, none⟩ 0 _ [] rfl (fun j u hj => by simp at hj) (fun u hu => by cases hu)
      · rw [if_neg hck]
        show Src Tryd.prog 15 47 (.slice (some ((⟨g, 0, none⟩ : Addr).add (k * 15))) (L.length - k) (c - k)) _ _ _
        rw [Addr.add_lit, Nat.zero_add]
        refine Src.ofSlice _ Tryd.underlying47 ⟨g, k * 15, none⟩ _ _ _ (by rw [mvsC_len, List.length_drop]) (fun j u hj => ?_) (fun u hu' => hu u (by rw [e1]; exact List.mem_append_right _ hu'))
        have := h.cells (g := g) rfl (k * 15 + j) u (by rw [e1, List.getElem?_append_right (by omega), e2, Nat.add_sub_cancel_left]; exact hj)
        rw [Addr.add_lit, Nat.zero_add] at this
        rw [Addr.add_lit]
        exact (hb.cell (p := ⟨g, k * 15 + j, none⟩) (World.block_lt_of_cell? _ _ this)).trans this
theorem mv_cut (h : W0.ownsRow B 28 15 (.slice p L.length c) L.length (mvsC L)) {k : Nat} (hk : k ≤ L.length) (hc : L.length ≤ c) : ∀ W, (Instr.sliceAt 47 (.slice p L.length c) none (some (.int .i64 k)) none).run Tryd.prog W = .ok (.slice p k c) W := by
  intro W
  have h4 : (k : Int) ≤ (c : Int) := by omega
  have h5 : k ≤ c := by omega
  have size28 : ∀ W, (sizeOf 28).run Tryd.prog W = .ok 15 W := fun W => by kernel_rfl
  rcases h.2 with ⟨e, h0⟩ | ⟨g, cap, cur, e, _⟩
  · simp only [Value.slice.injEq] at e
    obtain ⟨rfl, _, rfl⟩ := e
    have : k = 0 := by omega
    subst this
    simp [Instr.sliceAt, Instr.slice, Instr.sliceBounds, Instr.sliceBound, run_underlying Tryd.underlying47, asIntOf, size28]
  · cases e
    simp [Instr.sliceAt, Instr.slice, Instr.sliceBounds, Instr.sliceBound, run_underlying Tryd.underlying47, asIntOf, h5, size28, Addr.add_lit]
end
end Go.Proofs.YtamgoknoapcnjaaDoor
