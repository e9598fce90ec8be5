/- Next, Prev and Matches, the program's and the document's, side by side. -/
import Derived.Test.YtdojpnhjnhecmaaDoorQ4
import Derived.Test.YtdojpnhjnhecmaaDoorS4
import Derived.Test.YtdojpnhjnhecmaaDoorK6e
namespace Go.Proofs.YtdojpnhjnhecmaaDoor
open Go Go.RowKit
theorem least_on (P : Int → Prop) (a : Int) : ∀ n : Nat, (∀ k, a < k → k ≤ a + n → ¬ P k) ∨ ∃ v, a < v ∧ v ≤ a + n ∧ P v ∧ ∀ k, a < k → k < v → ¬ P k := by
  intro n
  induction n with
  | zero => exact .inl fun k h1 h2 => by omega
  | succ n ih =>
    rcases ih with h | ⟨v, h1, h2, h3, h4⟩
    · by_cases hp : P (a + n + 1)
      · exact .inr ⟨a + n + 1, by omega, by omega, hp, fun k k1 k2 => h k k1 (by omega)⟩
      · refine .inl fun k k1 k2 => ?_
        by_cases hk : k = a + n + 1
        · rw [hk]; exact hp
        · exact h k k1 (by omega)
    · exact .inr ⟨v, h1, by omega, h3, h4⟩
theorem last_on (P : Int → Prop) (u : Int) : ∀ n : Nat, (∀ k, u - n < k → k ≤ u → ¬ P k) ∨ ∃ v, u - n < v ∧ v ≤ u ∧ P v ∧ ∀ k, v < k → k ≤ u → ¬ P k := by
  intro n
  induction n with
  | zero => exact .inl fun k h1 h2 => by omega
  | succ n ih =>
    rcases ih with h | ⟨v, h1, h2, h3, h4⟩
    · by_cases hp : P (u - n)
      · exact .inr ⟨u - n, by omega, by omega, hp, fun k k1 k2 => h k (by omega) k2⟩
      · refine .inl fun k k1 k2 => ?_
        by_cases hk : k = u - n
        · rw [hk]; exact hp
        · exact h k (by omega) k2
    · exact .inr ⟨v, by omega, h2, h3, h4⟩
theorem next_exists (e : Exp) (a : Int) : ∃ v c, NextIs e a v c := by
  rcases least_on (Mt e) a 4216320 with h | ⟨v, h1, h2, h3, h4⟩
  · exact ⟨0, 28, .inr ⟨rfl, rfl, fun k k1 k2 => h k k1 (by omega)⟩⟩
  · exact ⟨v, 0, .inl ⟨rfl, h1, by omega, h3, h4⟩⟩
theorem prev_exists (e : Exp) (u a : Int) : ∃ v c, PrevIs e u a v c := by
  rcases last_on (Mt e) u 4216321 with h | ⟨v, h1, h2, h3, h4⟩
  · exact ⟨0, 28, .inr ⟨rfl, rfl, fun k k1 k2 k3 => h k (by omega) k2⟩⟩
  · by_cases hv : a < v
    · exact ⟨v, 0, .inl ⟨rfl, hv, h2, by omega, h3, h4⟩⟩
    · exact ⟨0, 28, .inr ⟨rfl, rfl, fun k k1 k2 k3 => h4 k (by omega) k2⟩⟩
theorem both_next (x : Exp) (hx : x.Ok) (a : Int) (g0 : -9223372036854775808 ≤ a) (g1 : a ≤ 9223372036854775807) : ∃ v c : Int,
    (∀ W, HasT W → Calls Tryd.prog 15 #[expV x, .int .i64 a] W fun r w' => r = .returned (.tuple #[.int .i64 v, .int .i64 c]) ∧ Below W.heap.size W w') ∧
    (∀ W, Calls Tryd.prog 16 #[expV x, .int .i64 a] W fun r w' => r = .returned (.tuple #[.int .i64 v, .int .i64 c]) ∧ Below W.heap.size W w') := by
  by_cases hn : a < -1035593280 ∨ 4223371679 < a
  · exact ⟨0, 1, fun W _ => next_no x a W hn, fun W => rnext_no x a W g0 g1 hn⟩
  · obtain ⟨v, c, hv⟩ := next_exists x a
    refine ⟨v, c, fun W hW => (next_yes x hx a W hW (by omega) (by omega)).mono ?_, fun W => (rnext_yes x hx a W (by omega) (by omega)).mono ?_⟩
    · rintro r w' ⟨⟨v', c', rfl, h⟩, hb⟩
      obtain ⟨rfl, rfl⟩ := h.uniq hv
      exact ⟨rfl, hb⟩
    · rintro r w' ⟨⟨v', c', rfl, h⟩, hb⟩
      obtain ⟨rfl, rfl⟩ := h.uniq hv
      exact ⟨rfl, hb⟩
theorem both_prev (x : Exp) (hx : x.Ok) (u a : Int) (g0 : -9223372036854775808 ≤ u) (g1 : u ≤ 9223372036854775807) (g2 : -9223372036854775808 ≤ a) : ∃ v c : Int,
    (∀ W, HasT W → Calls Tryd.prog 17 #[expV x, .int .i64 u, .int .i64 a] W fun r w' => r = .returned (.tuple #[.int .i64 v, .int .i64 c]) ∧ Below W.heap.size W w') ∧
    (∀ W, Calls Tryd.prog 18 #[expV x, .int .i64 u, .int .i64 a] W fun r w' => r = .returned (.tuple #[.int .i64 v, .int .i64 c]) ∧ Below W.heap.size W w') := by
  by_cases hn : u < -1035593280 ∨ 4223371679 < u
  · exact ⟨0, 1, fun W _ => prev_no x u a W hn, fun W => rprev_no x u a W g0 g1 hn⟩
  · by_cases ha : a < u
    · obtain ⟨v, c, hv⟩ := prev_exists x u a
      refine ⟨v, c, fun W hW => (prev_yes x hx u a W hW (by omega) (by omega) ha g2).mono ?_, fun W => (rprev_yes x hx u a W (by omega) (by omega) ha).mono ?_⟩
      · rintro r w' ⟨⟨v', c', rfl, h⟩, hb⟩
        obtain ⟨rfl, rfl⟩ := h.uniq hv
        exact ⟨rfl, hb⟩
      · rintro r w' ⟨⟨v', c', rfl, h⟩, hb⟩
        obtain ⟨rfl, rfl⟩ := h.uniq hv
        exact ⟨rfl, hb⟩
    · exact ⟨0, 1, fun W hW => prev_not x u a W hW (by omega) (by omega) (by omega), fun W => rprev_not x u a W (by omega) (by omega) (by omega)⟩
theorem both_match (x : Exp) (hx : x.Ok) (a : Int) (g0 : -9223372036854775808 ≤ a) (g1 : a ≤ 9223372036854775807) : ∃ b : Bool,
    (∀ W, HasT W → Calls Tryd.prog 19 #[expV x, .int .i64 a] W fun r w' => r = .returned (.bool b) ∧ Below W.heap.size W w') ∧
    (∀ W, Calls Tryd.prog 20 #[expV x, .int .i64 a] W fun r w' => r = .returned (.bool b) ∧ Below W.heap.size W w') := by
  by_cases hn : a < -1035593280 ∨ 4223371679 < a
  · exact ⟨false, fun W _ => matches_no x a W hn, fun W => rmatches_no x a W g0 g1 hn⟩
  · have key : ∃ b : Bool, (b = true ↔ Mt x a) := by
      by_cases h : Mt x a
      · exact ⟨true, by simp [h]⟩
      · exact ⟨false, by simp [h]⟩
    obtain ⟨b, hb⟩ := key
    have same : ∀ b' : Bool, (b' = true ↔ Mt x a) → b' = b := fun b' h => by rw [Bool.eq_iff_iff, h, hb]
    refine ⟨b, fun W hW => (matches_any x hx a W hW).mono ?_, fun W => (rmatches_at x hx a W (by omega) (by omega)).mono ?_⟩
    · rintro r w' ⟨⟨b', rfl, h⟩, hbl⟩
      obtain rfl := same b' h
      exact ⟨rfl, hbl⟩
    · rintro r w' ⟨⟨b', rfl, h⟩, hbl⟩
      obtain rfl := same b' h
      exact ⟨rfl, hbl⟩
theorem info31 : (Tryd.prog.info? 31).map (·.size) = some 7 := by kernel_rfl
set_option maxHeartbeats 1000000 in
theorem told_any (e : Exp) (w : World) : Calls Tryd.prog 12 #[expV e] w fun r w' => r = .returned (expV e) ∧ Below w.heap.size w w' := by
  unfold expV
  go_enter Tryd.func12, Tryd.ntmps12
  go_wp2
  have hrow := heap_alloc_new (w.alloc (.cells #[.int .u64 e.mi, .int .u64 e.ho, .int .u64 e.da, .int .u64 e.mo, .int .u64 e.wk, .bool e.ad, .bool e.aw] 25)) (.cells #[.int .u64 e.mi, .int .u64 e.ho, .int .u64 e.da, .int .u64 e.mo, .int .u64 e.wk, .bool e.ad, .bool e.aw] 31)
  rw [show (w.alloc (.cells #[.int .u64 e.mi, .int .u64 e.ho, .int .u64 e.da, .int .u64 e.mo, .int .u64 e.wk, .bool e.ad, .bool e.aw] 25)).heap.size = w.heap.size + 1 by simp] at hrow
  refine bodyPost_ret (results_cell1 rfl _ _ (w.heap.size + 1) 31 #[.int .u64 e.mi, .int .u64 e.ho, .int .u64 e.da, .int .u64 e.mo, .int .u64 e.wk, .bool e.ad, .bool e.aw] (0, 0) _ rfl hrow Tryd.underlying31 rfl info31) rfl ?_
  exact ⟨rfl, ((Below.refl _ _).alloc (Nat.le_refl _) _).alloc (by simp) _⟩
end Go.Proofs.YtdojpnhjnhecmaaDoor
