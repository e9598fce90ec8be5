/- CronFields: its memory. -/
import Derived.Test.YtdojpnhjnhecmaaDoorF0
import Derived.Test.YtdojpnhjnhecmaaDoorW200
namespace Go.Proofs.YtdojpnhjnhecmaaDoor
open Go Go.RowKit
theorem zero180 : Tryd.zeroCells51 = Array.replicate 180 (.bool false) := by kernel_rfl
/-- The lists, the bounds, what was seen, the fields' texts. -/
structure CF (v0 v1 v2 : Value) (R : Nat) (w W : World) (h : Nat → Bool) (p0 p1 p2 : ByteArray) : Prop where
  bel : Below w.heap.size w W
  ge : w.heap.size ≤ R
  rr : W.heap[R]? = some (.cells #[v0, v1, v2] 48 (0, 0))
  mm : W.heap[R + 1]? = some (.cells #[.int .i64 60, .int .i64 24, .int .i64 12] 3 (0, 0))
  hh : ∃ cs : Array Value, W.heap[R + 2]? = some (.cells cs 51 (0, 0)) ∧ cs.size = 180 ∧ ∀ j, j < 180 → cs[j]? = some (.bool (h j))
  pp : W.heap[R + 3]? = some (.cells #[.string p0, .string p1, .string p2] 52 (0, 0))
section
variable {v0 v1 v2 : Value} {R : Nat} {w W W' : World} {h h' : Nat → Bool} {p0 p1 p2 : ByteArray}
theorem CF.lt (c : CF v0 v1 v2 R w W h p0 p1 p2) : R + 3 < W.heap.size := lt_of_row c.pp
theorem CF.below (c : CF v0 v1 v2 R w W h p0 p1 p2) (hb : Below W.heap.size W W') : CF v0 v1 v2 R w W' h p0 p1 p2 := by
  have hl := c.lt
  obtain ⟨cs, g1, g2, g3⟩ := c.hh
  exact ⟨c.bel.trans (hb.mono c.bel.size), c.ge, (hb.block _ (by omega)).trans c.rr, (hb.block _ (by omega)).trans c.mm, ⟨cs, (hb.block _ (by omega)).trans g1, g2, g3⟩, (hb.block _ (by omega)).trans c.pp⟩
theorem CF.congr (c : CF v0 v1 v2 R w W h p0 p1 p2) (e : ∀ j, j < 180 → h j = h' j) : CF v0 v1 v2 R w W h' p0 p1 p2 := by
  obtain ⟨cs, g1, g2, g3⟩ := c.hh
  exact ⟨c.bel, c.ge, c.rr, c.mm, ⟨cs, g1, g2, fun j hj => by rw [g3 j hj, e j hj]⟩, c.pp⟩
theorem CF.cellH (c : CF v0 v1 v2 R w W h p0 p1 p2) {j : Nat} (hj : j < 180) : W.cell? ⟨R + 2, j, none⟩ = some (.bool (h j)) := by
  obtain ⟨cs, g1, g2, g3⟩ := c.hh
  exact (cell_of_row _ _ _ _ _ _ g1).trans (g3 j hj)
theorem CF.freeH (c : CF v0 v1 v2 R w W h p0 p1 p2) (j : Nat) : W.frozen? ⟨R + 2, j, none⟩ = false := by
  obtain ⟨cs, g1, g2, g3⟩ := c.hh
  exact frozen_of_row _ _ _ _ _ g1
theorem CF.setH (c : CF v0 v1 v2 R w W h p0 p1 p2) (j0 : Nat) : CF v0 v1 v2 R w (W.setCell ⟨R + 2, j0, none⟩ (.bool true)) (fun j => decide (j = j0) || h j) p0 p1 p2 := by
  have hg := c.ge
  obtain ⟨cs, g1, g2, g3⟩ := c.hh
  refine ⟨c.bel.setCell (by show w.heap.size ≤ R + 2; omega) _, c.ge, ?_, ?_, ⟨cs.setIfInBounds j0 (.bool true), heap_setCell_row g1 _ _, by simpa using g2, fun j hj => ?_⟩, ?_⟩
  · rw [heap_setCell_other _ _ (by show R + 2 ≠ R; omega)]; exact c.rr
  · rw [heap_setCell_other _ _ (by show R + 2 ≠ R + 1; omega)]; exact c.mm
  · by_cases e : j = j0
    · subst e
      rw [Array.getElem?_setIfInBounds_self]
      simp [g2, hj]
    · rw [Array.getElem?_setIfInBounds_ne (by omega), g3 j hj]
      simp [e]
  · rw [heap_setCell_other _ _ (by show R + 2 ≠ R + 3; omega)]; exact c.pp
theorem CF.setP0 (c : CF v0 v1 v2 R w W h p0 p1 p2) (b : ByteArray) : CF v0 v1 v2 R w (W.setCell ⟨R + 3, 0, none⟩ (.string b)) h b p1 p2 := by
  have hg := c.ge
  obtain ⟨cs, g1, g2, g3⟩ := c.hh
  refine ⟨c.bel.setCell (by show w.heap.size ≤ R + 3; omega) _, c.ge, ?_, ?_, ⟨cs, ?_, g2, g3⟩, heap_setCell_row c.pp 0 (.string b)⟩
  · rw [heap_setCell_other _ _ (by show R + 3 ≠ R; omega)]; exact c.rr
  · rw [heap_setCell_other _ _ (by show R + 3 ≠ R + 1; omega)]; exact c.mm
  · rw [heap_setCell_other _ _ (by show R + 3 ≠ R + 2; omega)]; exact g1
theorem CF.setP1 (c : CF v0 v1 v2 R w W h p0 p1 p2) (b : ByteArray) : CF v0 v1 v2 R w (W.setCell ⟨R + 3, 1, none⟩ (.string b)) h p0 b p2 := by
  have hg := c.ge
  obtain ⟨cs, g1, g2, g3⟩ := c.hh
  refine ⟨c.bel.setCell (by show w.heap.size ≤ R + 3; omega) _, c.ge, ?_, ?_, ⟨cs, ?_, g2, g3⟩, heap_setCell_row c.pp 1 (.string b)⟩
  · rw [heap_setCell_other _ _ (by show R + 3 ≠ R; omega)]; exact c.rr
  · rw [heap_setCell_other _ _ (by show R + 3 ≠ R + 1; omega)]; exact c.mm
  · rw [heap_setCell_other _ _ (by show R + 3 ≠ R + 2; omega)]; exact g1
theorem CF.setP2 (c : CF v0 v1 v2 R w W h p0 p1 p2) (b : ByteArray) : CF v0 v1 v2 R w (W.setCell ⟨R + 3, 2, none⟩ (.string b)) h p0 p1 b := by
  have hg := c.ge
  obtain ⟨cs, g1, g2, g3⟩ := c.hh
  refine ⟨c.bel.setCell (by show w.heap.size ≤ R + 3; omega) _, c.ge, ?_, ?_, ⟨cs, ?_, g2, g3⟩, heap_setCell_row c.pp 2 (.string b)⟩
  · rw [heap_setCell_other _ _ (by show R + 3 ≠ R; omega)]; exact c.rr
  · rw [heap_setCell_other _ _ (by show R + 3 ≠ R + 1; omega)]; exact c.mm
  · rw [heap_setCell_other _ _ (by show R + 3 ≠ R + 2; omega)]; exact g1
end
theorem CF.start (v0 v1 v2 : Value) {w w1 : World} (hb : Below w.heap.size w w1) : CF v0 v1 v2 w1.heap.size w ((((w1.alloc (.cells #[v0, v1, v2] 48)).alloc (.cells #[.int .i64 60, .int .i64 24, .int .i64 12] 3)).alloc (.cells Tryd.zeroCells51 51)).alloc (.cells #[.string ⟨#[]⟩, .string ⟨#[]⟩, .string ⟨#[]⟩] 52)) (fun _ => false) ⟨#[]⟩ ⟨#[]⟩ ⟨#[]⟩ := by
  have hs := hb.size
  have e1 : (w1.alloc (.cells #[v0, v1, v2] 48)).heap.size = w1.heap.size + 1 := by simp
  have e2 : ((w1.alloc (.cells #[v0, v1, v2] 48)).alloc (.cells #[.int .i64 60, .int .i64 24, .int .i64 12] 3)).heap.size = w1.heap.size + 2 := by simp
  have e3 : (((w1.alloc (.cells #[v0, v1, v2] 48)).alloc (.cells #[.int .i64 60, .int .i64 24, .int .i64 12] 3)).alloc (.cells Tryd.zeroCells51 51)).heap.size = w1.heap.size + 3 := by simp
  refine ⟨(((hb.alloc hs _).alloc (by rw [e1]; omega) _).alloc (by rw [e2]; omega) _).alloc (by rw [e3]; omega) _, hs, ?_, ?_, ⟨Tryd.zeroCells51, ?_, by rw [zero180]; simp, fun j hj => by rw [zero180]; simp [hj]⟩, ?_⟩
  · rw [heap_alloc_old _ _ (by rw [e3]; omega), heap_alloc_old _ _ (by rw [e2]; omega), heap_alloc_old _ _ (by rw [e1]; omega)]; exact heap_alloc_new w1 _
  · rw [heap_alloc_old _ _ (by rw [e3]; omega), heap_alloc_old _ _ (by rw [e2]; omega)]
    have := heap_alloc_new (w1.alloc (.cells #[v0, v1, v2] 48)) (.cells #[.int .i64 60, .int .i64 24, .int .i64 12] 3)
    rwa [e1] at this
  · rw [heap_alloc_old _ _ (by rw [e3]; omega)]
    have := heap_alloc_new ((w1.alloc (.cells #[v0, v1, v2] 48)).alloc (.cells #[.int .i64 60, .int .i64 24, .int .i64 12] 3)) (.cells Tryd.zeroCells51 51)
    rwa [e2] at this
  · have := heap_alloc_new (((w1.alloc (.cells #[v0, v1, v2] 48)).alloc (.cells #[.int .i64 60, .int .i64 24, .int .i64 12] 3)).alloc (.cells Tryd.zeroCells51 51)) (.cells #[.string ⟨#[]⟩, .string ⟨#[]⟩, .string ⟨#[]⟩] 52)
    rwa [e3] at this
/-- A field's text so far. -/
def partB (l : List Nat) : ByteArray := ⟨((partN l).map UInt8.ofNat).toArray⟩
theorem partN_snoc (l : List Nat) (n : Nat) (hl : l ≠ []) : partN (l ++ [n]) = partN l ++ 44 :: dd n := by
  induction l with
  | nil => exact absurd rfl hl
  | cons m r ih =>
    cases r with
    | nil => rfl
    | cons k r =>
      show dd m ++ 44 :: partN ((k :: r) ++ [n]) = dd m ++ 44 :: partN (k :: r) ++ 44 :: dd n
      rw [ih (by simp)]; simp
theorem partN_len (l : List Nat) : (partN l).length ≤ 3 * l.length := by
  induction l with
  | nil => simp [partN]
  | cons m r ih =>
    cases r with
    | nil => simp [partN, dd]
    | cons k r =>
      show (dd m ++ 44 :: partN (k :: r)).length ≤ _
      simp only [List.length_append, List.length_cons, dd, List.length_nil] at ih ⊢
      omega
theorem partB_size (l : List Nat) : (partB l).size ≤ 3 * l.length := by
  show ((partN l).map UInt8.ofNat).toArray.size ≤ _
  simpa using partN_len l
theorem partB_one (n : Nat) : partB [n] = ⟨[byteN (48 + n / 10), byteN (48 + n % 10)].toArray⟩ := rfl
theorem partB_snoc (l : List Nat) (n : Nat) (hl : l ≠ []) : partB l ++ ⟨#[44]⟩ ++ ⟨[byteN (48 + n / 10), byteN (48 + n % 10)].toArray⟩ = partB (l ++ [n]) := by
  apply ByteArray.ext
  simp [ByteArray.data_append, partB, partN_snoc l n hl, dd, byteN]
theorem partB_nums (l : List Nat) (h : ∀ n ∈ l, n < 100) : numsOf (partB l) = partN l := by
  have key : ∀ c ∈ partN l, c < 256 := by
    induction l with
    | nil => intro c hc; simp [partN] at hc
    | cons m r ih =>
      have hm := h m (by simp)
      have hd : ∀ c ∈ dd m, c < 256 := fun c hc => by simp [dd] at hc; omega
      cases r with
      | nil => exact hd
      | cons k r =>
        intro c hc
        rcases List.mem_append.1 hc with hc | hc
        · exact hd c hc
        · rcases List.mem_cons.1 hc with rfl | hc
          · decide
          · exact ih (fun n hn => h n (by simp [hn])) c hc
  show (((partN l).map UInt8.ofNat).toArray.toList).map (·.toNat) = _
  rw [List.toList_toArray, List.map_map]
  conv => rhs; rw [← List.map_id (partN l)]
  apply List.map_congr_left
  intro c hc
  have := key c hc
  simp; omega
end Go.Proofs.YtdojpnhjnhecmaaDoor
