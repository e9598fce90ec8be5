/- An index by what it says: its Trim. -/
import Derived.Test.YteeflkkoifgcbabGreatXQ
import Derived.Test.YteeflkkoifgcbabGreatN4
namespace Go.Proofs.YteeflkkoifgcbabGreat
open Go Go.RowKit

theorem Bd.trim {n : Nat} {D : Dat} (h : Bd n D) (rev : Int) : Bd n (trimD rev D) := by
  unfold trimD
  refine ⟨Nat.le_trans (List.length_filter_le _ _) (by simpa using h.len), fun p hp => ?_, ?_⟩
  · obtain ⟨h1, h2⟩ := List.mem_filter.1 hp
    obtain ⟨q, hq, rfl⟩ := List.mem_map.1 h1
    obtain ⟨q1, q2, q3⟩ := h.ms q hq
    refine ⟨by simp [cutL]; omega, q2.sublist (List.drop_sublist _ _), ?_⟩
    dsimp only at h2 ⊢
    cases hc : cutL rev q.2 with
    | nil => rw [hc] at h2; simp at h2
    | cons a l => simp
  · refine asc_sublist ((List.filter_sublist).map _) ?_
    rw [List.map_map]
    exact h.asc
theorem trim_xd {w : World} {x : Nat} {D : Dat} {F : List Nat} {n : Nat} (H : Xd w x D F) (hB : Bd n D) (hn : n ≤ 1000000) (rev : Int) : Calls Tryz.prog 26 #[ptr x, .int .i64 rev] w fun e w' => e = .returned (.tuple #[]) ∧ ∃ F', Xd w' x (trimD rev D) F' ∧ Step w w' F F' := by
  obtain ⟨R, h1, rfl⟩ := H
  refine (trim_any h1 (fun r hr => by obtain ⟨q1, q2, _⟩ := hB.ms _ (mem_dat hr); dsimp only at q1 q2; exact ⟨q2, by omega⟩) rev (by have := hB.len; rw [dat_len] at this; omega)).mono ?_
  rintro e w' ⟨rfl, R', F', q1, q2, q3⟩
  exact ⟨rfl, F', ⟨R', q1, q2⟩, q3⟩
end Go.Proofs.YteeflkkoifgcbabGreat
