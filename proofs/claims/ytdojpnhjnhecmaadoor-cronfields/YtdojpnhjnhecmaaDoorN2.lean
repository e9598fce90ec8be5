/- Counts of bits that lack. -/
import Derived.Test.YtdojpnhjnhecmaaDoorN1
import Derived.Lib.TrailingZeros
import Derived.Lib.ItoaNum
namespace Go.Proofs.YtdojpnhjnhecmaaDoor
open Go
theorem lackF_of (x n b : Nat) (hx : x < 2 ^ 64) (hn : n < b) (hb : b ≤ 64) : LackF x n b (min (Lib.ctz 64 (x >>> n) : Int) ((b : Int) - n)) := by
  have hy : x >>> n < 2 ^ 64 := by rw [Nat.shiftRight_eq_div_pow]; exact Nat.lt_of_le_of_lt (Nat.div_le_self _ _) hx
  have hbit : ∀ j, (x >>> n).testBit j = x.testBit (n + j) := fun j => by rw [Nat.testBit_shiftRight]
  generalize x >>> n = y at *
  by_cases h0 : y = 0
  · subst h0
    have e : Lib.ctz 64 0 = 64 := rfl
    rw [e, Int.min_eq_right (by omega)]
    refine ⟨by omega, Int.le_refl _, fun j h1 h2 => ?_, .inl rfl⟩
    have := hbit (j.toNat - n)
    rw [show n + (j.toNat - n) = j.toNat by omega] at this
    rw [← this, Nat.zero_testBit]
  · obtain ⟨m, hm, hlt⟩ := Lib.ctzFrom_spec 64 y (by omega) hy
    have e : Lib.ctz 64 y = Lib.ctzFrom 64 y := by rw [Lib.ctz, if_neg h0]
    rw [e]
    generalize Lib.ctzFrom 64 y = c at *
    have ht : ∀ j, y.testBit j = (decide (j ≥ c) && (2 * m + 1).testBit (j - c)) := fun j => by
      conv => lhs; rw [hm]
      exact Nat.testBit_two_pow_mul ..
    have hc : y.testBit c = true := by rw [ht]; simp
    refine ⟨by omega, by omega, fun j h1 h2 => ?_, ?_⟩
    · have := hbit (j.toNat - n)
      rw [show n + (j.toNat - n) = j.toNat by omega] at this
      rw [← this, ht]
      have : ¬ (j.toNat - n ≥ c) := by omega
      simp [this]
    · by_cases hcb : (c : Int) ≤ b - n
      · right
        rw [Int.min_eq_left hcb, show ((n : Int) + c).toNat = n + c by omega, ← hbit c, hc]
      · left
        rw [Int.min_eq_right (by omega)]
theorem lackD_of (x n : Nat) (hn : n ≤ 63) : LackD x n (min (64 - (Lib.bitLen ((x * 2 ^ (63 - n)) % 2 ^ 64) : Int)) ((n : Int) + 1)) := by
  have hbit : ∀ j, j ≤ n → ((x * 2 ^ (63 - n)) % 2 ^ 64).testBit (j + (63 - n)) = x.testBit j := fun j hj => by
    rw [Nat.testBit_mod_two_pow, Nat.mul_comm, Nat.testBit_two_pow_mul]
    have h1 : j + (63 - n) < 64 := by omega
    have h2 : j + (63 - n) ≥ 63 - n := by omega
    simp [h1]
  have hy : (x * 2 ^ (63 - n)) % 2 ^ 64 < 2 ^ 64 := Nat.mod_lt _ (by decide)
  generalize (x * 2 ^ (63 - n)) % 2 ^ 64 = y at *
  by_cases h0 : y = 0
  · subst h0
    have e : Lib.bitLen 0 = 0 := rfl
    rw [e, Int.min_eq_right (by omega)]
    refine ⟨by omega, Int.le_refl _, fun j h1 h2 => ?_, .inl rfl⟩
    rw [← hbit j.toNat (by omega), Nat.zero_testBit]
  · obtain ⟨h1, h2, h3⟩ := Lib.bitLenAux_bounds 64 y hy h0
    have e : Lib.bitLen y = Lib.bitLenAux 64 y := rfl
    rw [e]
    generalize Lib.bitLenAux 64 y = L at *
    have hL : L ≤ 64 := by
      refine Nat.le_of_not_lt fun hlt => ?_
      have : 2 ^ 64 ≤ 2 ^ (L - 1) := Nat.pow_le_pow_right (by decide) (by omega)
      omega
    have hno : ∀ i, L ≤ i → y.testBit i = false := fun i hi => Nat.testBit_lt_two_pow (Nat.lt_of_lt_of_le h3 (Nat.pow_le_pow_right (by decide) hi))
    have hyes : y.testBit (L - 1) = true := by
      rw [Nat.testBit_eq_decide_div_mod_eq]
      have hd : y / 2 ^ (L - 1) = 1 := by
        apply Nat.div_eq_of_lt_le
        · omega
        · rw [show (1 + 1) * 2 ^ (L - 1) = 2 ^ L by rw [show L = L - 1 + 1 by omega, Nat.pow_succ, Nat.add_sub_cancel]; omega]; exact h3
      simp [hd]
    refine ⟨by omega, by omega, fun j h1 h2 => ?_, ?_⟩
    · rw [← hbit j.toNat (by omega)]
      exact hno _ (by omega)
    · by_cases hcb : 64 - (L : Int) ≤ n
      · right
        rw [Int.min_eq_left (by omega)]
        rw [← hbit _ (by omega)]
        rw [show ((n : Int) - (64 - (L : Int))).toNat + (63 - n) = L - 1 by omega]
        exact hyes
      · left
        rw [Int.min_eq_right (by omega)]
end Go.Proofs.YtdojpnhjnhecmaaDoor
