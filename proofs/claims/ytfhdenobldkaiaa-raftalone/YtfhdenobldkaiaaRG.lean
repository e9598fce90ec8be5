/- An entry behind the log: Insert, Replace, lay, extend. -/
import Derived.Test.YtfhdenobldkaiaaRF
namespace Go.Proofs.Ytfhdenobldkaiaa
open Go Go.RowKit
def entC (i t k : Int) (dv : Value) : List Value := [iv i, iv t, iv k, dv]
/-- One entry, alone in its block. -/
structure Lone (w : World) (x : Nat) (i t k : Int) (dv : Value) : Prop where
  row : w.heap[x]? = some (.cells #[iv i, iv t, iv k, dv] 43 (0, 0))
  sl : ∃ p n c, dv = .slice p n c
theorem Lone.below {w w' : World} {x : Nat} {i t k : Int} {dv : Value} (h : Lone w x i t k dv) (hb : Below w.heap.size w w') : Lone w' x i t k dv := ⟨(hb.block x (Array.getElem?_eq_some_iff.1 h.row).1).trans h.row, h.sl⟩
theorem Lone.src {w : World} {x c : Nat} {i t k : Int} {dv : Value} (h : Lone w x i t k dv) : Src Try.prog 4 36 (.slice (some ⟨x, 0, none⟩) 1 c) 1 (entC i t k dv) w := by
  obtain ⟨p, n, c', rfl⟩ := h.sl
  exact Src.ofSlice _ Try.underlying36 ⟨x, 0, none⟩ 1 c _ rfl (fun j u hj => by
      rw [Addr.add_lit, cell_of_row _ _ _ _ _ _ h.row]
      rcases j with _ | _ | _ | _ | j
      · simpa [entC] using hj
      · simpa [entC] using hj
      · simpa [entC] using hj
      · simpa [entC] using hj
      · simp [entC] at hj) (fun u hu => by
      simp [entC] at hu
      rcases hu with rfl | rfl | rfl | rfl <;> rfl)
/-- What an append to a row leaves. -/
structure App (w w' : World) (v v' : Value) (n : Nat) (xs news : List Value) : Prop where
  own : w'.ownsRow 0 43 4 v' (n + 1) (xs ++ news)
  upd : Upd w w' (fun k => some k = v.ownBlock)
  at_ : v'.ownBlock = v.ownBlock ∨ v'.ownBlock = some w.heap.size
theorem slice_from (p : Option Addr) (n c i : Nat) (hi : i ≤ n) (hc : n ≤ c) (W : World) : (Instr.sliceAt 36 (.slice p n c) (some (iv i)) none none).run Try.prog W = .ok (.slice (if c = i then p else p.map (·.add (i * 4))) (n - i) (c - i)) W := by
  have : i ≤ c := by omega
  simp [Instr.sliceAt, Instr.slice, Instr.sliceBounds, Instr.sliceBound, run_underlying Try.underlying36, asIntOf, hi]
theorem slice_two (p : Option Addr) (n c i j : Nat) (hi : i ≤ j) (hj : j ≤ n) (hc : n ≤ c) (W : World) : (Instr.sliceAt 36 (.slice p n c) (some (iv i)) (some (iv j)) none).run Try.prog W = .ok (.slice (if c = i then p else p.map (·.add (i * 4))) (j - i) (c - i)) W := by
  have h1 : i ≤ c := by omega
  have h2 : j ≤ c := by omega
  simp [Instr.sliceAt, Instr.slice, Instr.sliceBounds, Instr.sliceBound, run_underlying Try.underlying36, asIntOf, hi, h2]
theorem insert_end {w : World} {v : Value} {n x c : Nat} {xs : List Value} {i t k : Int} {dv : Value} (ho : w.ownsRow 0 43 4 v n xs) (hl : Lone w x i t k dv) (hn : n ≤ 1000000) :
    Calls Try.prog 56 #[v, iv n, .slice (some ⟨x, 0, none⟩) 1 c] w fun e w' => ∃ v', e = .returned v' ∧ App w w' v v' n xs (entC i t k dv) := by
  obtain ⟨t9, hti, hz0, hz1, hz2⟩ := info_parts infoE
  have hsrc := hl.src (c := c)
  clear hl
  obtain ⟨p, cv, rfl⟩ := owns_formB0 ho
  have hc : n ≤ cv := by
    rcases ho.2 with ⟨e, h0⟩ | ⟨g, cap, cur, e, hb, _, h1, _⟩
    · cases e; omega
    · cases e; exact h1
  have hsl := slice_from p n cv n (Nat.le_refl _) hc w
  have h0 : (0 : Nat) ≤ w.heap.size := Nat.zero_le _
  have hnn : (n : Int) ≤ (n : Int) := Int.le_refl _
  generalize (if cv = n then p else p.map (·.add (n * 4))) = p0 at hsl
  go_enter Try.func56, Try.ntmps56
  go_wp2_with (at_builtin; refine wpList_appS _ rfl (.tmp 23) (.tmp 24) 36 36 rfl 0 43 t9 _ 4 Try.underlying36 hti hz0 hz1 rfl (by rw [hz2]; decide) _ n xs rfl ho _ rfl 1 _ hsrc (by omega) h0 ?_; intro v' w' q1 q2 q3 q4; obtain ⟨np, nc, hnv⟩ := owns_formB0 q1; subst hnv; have HQ := Hid.mkW (And.intro q1 (And.intro q2 q3)); clear q1 q2 q3 q4)
  go_ret
  exact ⟨_, rfl, HQ.out.1, HQ.out.2.1, HQ.out.2.2⟩
set_option maxRecDepth 100000 in
theorem replace_end {w : World} {v : Value} {n x c : Nat} {xs : List Value} {i t k : Int} {dv : Value} (ho : w.ownsRow 0 43 4 v n xs) (hl : Lone w x i t k dv) (hn : n ≤ 1000000) :
    Calls Try.prog 49 #[v, iv n, iv n, .slice (some ⟨x, 0, none⟩) 1 c] w fun e w' => ∃ v', e = .returned v' ∧ App w w' v v' n xs (entC i t k dv) := by
  have hins := insert_end (c := c) ho hl hn
  obtain ⟨p, cv, rfl⟩ := owns_formB0 ho
  have hc : n ≤ cv := by
    rcases ho.2 with ⟨e, h0⟩ | ⟨g, cap, cur, e, hb, _, h1, _⟩
    · cases e; omega
    · cases e; exact h1
  have hsl := slice_two p n cv n n (Nat.le_refl _) (Nat.le_refl _) hc w
  generalize (if cv = n then p else p.map (·.add (n * 4))) = p0 at hsl
  clear ho hl
  go_enter Try.func49, Try.ntmps49
  go_wp2_with (go_at_call 56; refine hins.mono ?_; rintro e w1 ⟨v', rfl, HA⟩)
  go_ret
  exact ⟨_, rfl, HA⟩
end Go.Proofs.Ytfhdenobldkaiaa
