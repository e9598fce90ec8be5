/- The index's own block: its root and its size; add. -/
import Derived.Test.YtilginghgigiiaaE2
namespace Go.Proofs.Ytilginghgigiiaa
open Go Go.RowKit

def Root (w : World) (rp : Option Addr) (L : List Itm) (F : List Nat) : Prop :=
  (rp = none ∧ L = [] ∧ F = []) ∨ ∃ h b its, rp = some ⟨b, 0, none⟩ ∧ Tre w h b its L F ∧ 1 ≤ its.length ∧ its.length ≤ 4
theorem Root.upd {w w' : World} {S : Nat → Prop} (hu : Upd w w' S) {rp : Option Addr} {L : List Itm} {F : List Nat} (h : Root w rp L F) (hS : ∀ k ∈ F, ¬ S k) : Root w' rp L F := by
  rcases h with h | ⟨h, b, its, h1, h2, h3⟩
  · exact .inl h
  · exact .inr ⟨h, b, its, h1, h2.upd hu hS, h3⟩
theorem Root.lt {w : World} {rp : Option Addr} {L : List Itm} {F : List Nat} (h : Root w rp L F) : ∀ k ∈ F, k < w.heap.size := by
  rcases h with ⟨_, _, rfl⟩ | ⟨h, b, its, h1, h2, h3⟩
  · simp
  · exact h2.lt
/-- The index's block. -/
abbrev xrow (w : World) (x : Nat) (rp : Option Addr) (n : Int) : Prop := w.heap[x]? = some (.cells #[.pointer rp, .int .i64 n] 59 (0, 0))
theorem xrow.c0 {w : World} {x : Nat} {rp : Option Addr} {n : Int} (h : xrow w x rp n) : w.cell? ⟨x, 0, none⟩ = some (.pointer rp) := by simp [World.cell?, h]
theorem xrow.c1 {w : World} {x : Nat} {rp : Option Addr} {n : Int} (h : xrow w x rp n) : w.cell? ⟨x, 1, none⟩ = some (.int .i64 n) := by simp [World.cell?, h]
theorem xrow.free {w : World} {x : Nat} {rp : Option Addr} {n : Int} (h : xrow w x rp n) (j : Nat) : w.frozen? ⟨x, j, none⟩ = false := by simp [World.frozen?, h]
theorem xrow.lt {w : World} {x : Nat} {rp : Option Addr} {n : Int} (h : xrow w x rp n) : x < w.heap.size := (Array.getElem?_eq_some_iff.1 h).1
theorem xrow.below {w w' : World} {x : Nat} {rp : Option Addr} {n : Int} (h : xrow w x rp n) (hb : Below w.heap.size w w') : xrow w' x rp n := (hb.block x h.lt).trans h
theorem xrow.setRoot {w : World} {x : Nat} {rp : Option Addr} {n : Int} (h : xrow w x rp n) (q : Option Addr) : xrow (w.setCell ⟨x, 0, none⟩ (.pointer q)) x q n := heap_setCell_row h _
theorem xrow.setSize {w : World} {x : Nat} {rp : Option Addr} {n : Int} (h : xrow w x rp n) (m : Int) : xrow (w.setCell ⟨x, 1, none⟩ (.int .i64 m)) x rp m := heap_setCell_row h _
/-- The index's block is stored into: nothing else turns. -/
theorem Step.x {w : World} {x j : Nat} {v : Value} {F : List Nat} (hl : x < w.heap.size) (hn : (x :: F).Nodup) (hF : ∀ k ∈ F, k < w.heap.size) : Step w (w.setCell ⟨x, j, none⟩ v) (x :: F) (x :: F) := by
  refine ⟨((Upd.refl w (fun k => k ∈ x :: F)).setCell (.inr (by simp)) _), hn, fun k hk => .inl hk, fun k hk => ?_⟩
  have hz : (w.setCell ⟨x, j, none⟩ v).heap.size = w.heap.size := by simp [World.setCell]
  rw [hz]
  rcases List.mem_cons.1 hk with rfl | hk
  · exact hl
  · exact hF k hk
theorem Step.cons {w w' : World} {x : Nat} {F F' : List Nat} (h : Step w w' F F') (hn : (x :: F).Nodup) (hl : x < w.heap.size) : Step w w' (x :: F) (x :: F') := by
  have p : ∀ X : List Nat, (X ++ [x]).Perm (x :: X) := fun X => List.perm_append_comm
  exact (h.frame [x] ((p F).nodup_iff.2 hn) (by simpa using hl)).perm (p F) (p F')
theorem Nod.root (w : World) (b : Nat) : Nod ((w.alloc (.cells #[ptr b] 57)).alloc (.cells #[.slice none 0 0, .slice (some ⟨w.heap.size, 0, none⟩) 1 1] 82)) (w.heap.size + 1) (.slice none 0 0) (.slice (some ⟨w.heap.size, 0, none⟩) 1 1) [] [b] := by
  refine ⟨?_, World.ownsRow_nil _ _ _ _, ?_, by simp, by simp [nf, Value.ownBlock]⟩
  · have := row_alloc (w.alloc (.cells #[ptr b] 57)) #[.slice none 0 0, .slice (some ⟨w.heap.size, 0, none⟩) 1 1] 82
    rwa [World.size_alloc] at this
  · refine owns_of_row (cur := #[ptr b]) ?_ (Nat.le_refl _) (by unfold maxLen; omega) rfl rfl rfl
    exact (Below.heap_alloc _ _ w.heap.size (by simp)).trans (row_alloc w _ _)
theorem nf_root (b g : Nat) : nf b (.slice none 0 0) (.slice (some ⟨g, 0, none⟩) 1 1) = [b, g] := by simp [nf, Value.ownBlock]
theorem Tre.ne {w : World} {h b : Nat} {its L : List Itm} {F : List Nat} (ht : Tre w h b its L F) (hL : L ≠ []) (hi : 0 < h → 1 ≤ its.length) : 1 ≤ its.length := by
  cases h with
  | zero =>
    obtain ⟨_, _, _, rfl, _⟩ := ht
    cases L with
    | nil => exact absurd rfl hL
    | cons a l => simp
  | succ h => exact hi (by omega)

/-- A root that has one item too many is split beneath a new one. -/
theorem grow_root {W : World} {h b : Nat} {its L : List Itm} {F : List Nat} (ht : Tre W h b its L F) (hnd : F.Nodup) (h5 : its.length = 5) :
    Calls Try.prog 36 #[ptr (W.heap.size + 1), .int .i64 0] ((W.alloc (.cells #[ptr b] 57)).alloc (.cells #[.slice none 0 0, .slice (some ⟨W.heap.size, 0, none⟩) 1 1] 82)) fun e W2 => e = .returned (.tuple #[]) ∧ ∃ t F', Tre W2 (h + 1) (W.heap.size + 1) [t] L F' ∧ Step W W2 F F' := by
  have hb : Below W.heap.size W ((W.alloc (.cells #[ptr b] 57)).alloc (.cells #[.slice none 0 0, .slice (some ⟨W.heap.size, 0, none⟩) 1 1] 82)) := ((Below.refl _ W).alloc (Nat.le_refl _) _).alloc (by simp) _
  have hlt := ht.lt
  have hnd2 : (ff (W.heap.size + 1) (.slice none 0 0) (.slice (some ⟨W.heap.size, 0, none⟩) 1 1) ([] ++ (⟨b, its, L, F⟩ : KidD) :: [])).Nodup := by
    simp only [ff, nf_root, List.nil_append, List.flatMap_cons, List.flatMap_nil, List.append_nil]
    rw [List.nodup_append]
    refine ⟨by simp, hnd, fun a ha c hc e => ?_⟩
    have := hlt c hc
    simp at ha
    omega
  have := split_tre (W := (W.alloc (.cells #[ptr b] 57)).alloc (.cells #[.slice none 0 0, .slice (some ⟨W.heap.size, 0, none⟩) 1 1] 82)) (h := h) (A := []) (B := []) (k := ⟨b, its, L, F⟩) (C := []) (D := []) (Nod.root W b) rfl rfl (by simp) (ht.below hb) h5 hnd2 (by simp)
  refine this.mono ?_
  rintro e W2 ⟨rfl, t, F', T, hs⟩
  have hw : weave ([] ++ (⟨b, its, L, F⟩ : KidD) :: []) ([] ++ []) = L := by simp [weave, suf]
  rw [hw] at T
  refine ⟨rfl, t, F', T, (Upd.ofBelow hb).trans hs.upd (fun j hj hk => ?_), hs.nd, fun k hk => ?_, hs.lt⟩
  · simp only [ff, nf_root, List.nil_append, List.flatMap_cons, List.flatMap_nil, List.append_nil, List.mem_append, List.mem_cons, List.not_mem_nil, or_false] at hk
    rcases hk with (hk | hk) | hk
    · omega
    · omega
    · exact hk
  · rcases hs.sub k hk with hk | hk
    · simp only [ff, nf_root, List.nil_append, List.flatMap_cons, List.flatMap_nil, List.append_nil, List.mem_append, List.mem_cons, List.not_mem_nil, or_false] at hk
      rcases hk with (hk | hk) | hk
      · exact .inr (by omega)
      · exact .inr (by omega)
      · exact .inl hk
    · simp at hk
      exact .inr (by omega)
end Go.Proofs.Ytilginghgigiiaa
