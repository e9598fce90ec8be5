/- Marks in memory; an item's last mark. -/
import Derived.Test.YtilginghgigiiaaE2
import Derived.Test.YtilginghgigiiaaBB
namespace Go.Proofs.Ytilginghgigiiaa
open Go Go.RowKit

abbrev Mk := Int × Bool
def mkC (m : Mk) : List Value := [.int .i64 m.1, .bool m.2]
def mksC (ms : List Mk) : List Value := ms.flatMap mkC
theorem mksC_len (ms : List Mk) : (mksC ms).length = ms.length * 2 := by
  induction ms with
  | nil => rfl
  | cons a l ih => simp only [mksC, List.flatMap_cons, List.length_append, List.length_cons] at ih ⊢; simp [mkC] at ih ⊢; omega
theorem mksC_append (a b : List Mk) : mksC (a ++ b) = mksC a ++ mksC b := by simp [mksC]
theorem mksC_get : ∀ (ms : List Mk) (j : Nat) (m : Mk), ms[j]? = some m → (mksC ms)[j * 2]? = some (.int .i64 m.1) ∧ (mksC ms)[j * 2 + 1]? = some (.bool m.2)
  | [], j, it, h => by simp at h
  | a :: l, 0, it, h => by simp at h; subst h; simp [mksC, mkC]
  | a :: l, j + 1, it, h => by
    have ih := mksC_get l j it (by simpa using h)
    rw [show (j + 1) * 2 = j * 2 + 1 + 1 by omega]
    simp only [mksC, List.flatMap_cons, mkC, List.cons_append, List.nil_append, List.getElem?_cons_succ] at ih ⊢
    exact ih
theorem mksC_drop : ∀ (ms : List Mk) (i : Nat), (mksC ms).drop (i * 2) = mksC (ms.drop i)
  | ms, 0 => by simp
  | [], i + 1 => by simp [mksC]
  | a :: l, i + 1 => by
    have ih := mksC_drop l i
    rw [show (i + 1) * 2 = i * 2 + 1 + 1 by omega]
    simp only [mksC, List.flatMap_cons, mkC, List.cons_append, List.nil_append, List.drop_succ_cons] at ih ⊢
    rw [ih]
theorem mksC_mem (ms : List Mk) : ∀ u ∈ mksC ms, u.oneCell' = true := by
  intro u hu
  simp only [mksC, List.mem_flatMap] at hu
  obtain ⟨m, _, hu⟩ := hu
  simp only [mkC, List.mem_cons, List.not_mem_nil, or_false] at hu
  rcases hu with rfl | rfl <;> rfl
/-- Marks that lie in memory. -/
abbrev Mks (w : World) (v : Value) (ms : List Mk) : Prop := w.ownsRow 0 35 2 v ms.length (mksC ms)
theorem Mks.cell {w : World} {g c : Nat} {ms : List Mk} (h : Mks w (.slice (some ⟨g, 0, none⟩) ms.length c) ms) {j : Nat} {m : Mk} (hj : ms[j]? = some m) : w.cell? ⟨g, j * 2, none⟩ = some (.int .i64 m.1) ∧ w.cell? ⟨g, j * 2 + 1, none⟩ = some (.bool m.2) := by
  obtain ⟨h1, h2⟩ := mksC_get ms j m hj
  have hc := h.cells (g := g) rfl
  have a1 := hc _ _ h1
  have a2 := hc _ _ h2
  simp only [Addr.add_lit, Nat.zero_add] at a1 a2
  exact ⟨a1, a2⟩

set_option maxHeartbeats 1000000 in
theorem last_nil (w : World) : Calls Try.prog 24 #[.pointer none] w fun e w' => e = .returned (.agg #[.int .i64 0, .bool true]) ∧ Below w.heap.size w w' := by
  go_enter Try.func24, Try.ntmps24
  go_wp2
  refine bodyPost_ret (v := .agg #[.int .i64 0, .bool true]) (by simp [results, Try.results24, go_sem]) rfl ⟨rfl, ?_⟩
  exact (Below.refl _ _).alloc (Nat.le_refl _) _
set_option maxHeartbeats 1000000 in
theorem last_any (w : World) (g i mg c : Nat) (ms : List Mk) (m : Mk) (hc : w.cell? ⟨g, i * 2 + 1, none⟩ = some (.slice (some ⟨mg, 0, none⟩) ms.length c)) (hM : Mks w (.slice (some ⟨mg, 0, none⟩) ms.length c) ms) (hm : ms[ms.length - 1]? = some m) (hn : ms.length ≤ 1000000) :
    Calls Try.prog 24 #[.pointer (some ⟨g, i * 2, none⟩)] w fun e w' => e = .returned (.agg #[.int .i64 m.1, .bool m.2]) ∧ Below w.heap.size w w' := by
  have hl := (List.getElem?_eq_some_iff.1 hm).1
  obtain ⟨c1, c2⟩ := Mks.cell hM hm
  have hgl : g < w.heap.size := World.block_lt_of_cell? _ _ hc
  have hml : mg < w.heap.size := World.block_lt_of_cell? _ _ c1
  clear hM hm
  obtain ⟨r, d⟩ := m
  dsimp only at c1 c2
  have hba : ∀ o, Below w.heap.size w (w.alloc o) := fun o => (Below.refl _ w).alloc (Nat.le_refl _) o
  have hc' : ∀ o, (w.alloc o).cell? ⟨g, i * 2 + 1, none⟩ = some (.slice (some ⟨mg, 0, none⟩) ms.length c) := fun o => ((hba o).cell (p := ⟨g, i * 2 + 1, none⟩) hgl).trans hc
  have c1' : ∀ o, (w.alloc o).cell? ⟨mg, (ms.length - 1) * 2, none⟩ = some (.int .i64 r) := fun o => ((hba o).cell (p := ⟨mg, (ms.length - 1) * 2, none⟩) hml).trans c1
  have c2' : ∀ o, (w.alloc o).cell? ⟨mg, (ms.length - 1) * 2 + 1, none⟩ = some (.bool d) := fun o => ((hba o).cell (p := ⟨mg, (ms.length - 1) * 2 + 1, none⟩) hml).trans c2
  have hx1 : IntKind.i64.wrap ((ms.length : Int) - 1) = ((ms.length - 1 : Nat) : Int) := by rw [IntKind.wrap_i64]; omega
  have hx2 : (0 : Int) ≤ ((ms.length - 1 : Nat) : Int) := by omega
  have hx3 : ((ms.length - 1 : Nat) : Int) < (ms.length : Int) := by omega
  go_enter Try.func24, Try.ntmps24
  go_wp2
  go_region
  all_goals
    go_wp2
    refine bodyPost_ret (v := .agg #[.int .i64 r, .bool d]) (by simp [results, Try.results24, go_sem]) rfl ⟨rfl, ?_⟩
    first | exact ((Below.refl _ _).alloc (Nat.le_refl _) _).drew | trace_state
end Go.Proofs.Ytilginghgigiiaa
