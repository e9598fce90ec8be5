/- What the leaf functions of package cron do: bits, runs of them. -/
import Derived.Test.YtdojpnhjnhecmaaDoorC1
namespace Go.Proofs.YtdojpnhjnhecmaaDoor
open Go Go.RowKit
theorem Hid.mk'' {p : Prop} (h : p) : Hid p := h
theorem bit_and (x n : Nat) (hx : x < 18446744073709551616) : (bits .and .u64 ((x : Int) / 2 ^ n) 1 == 1) = x.testBit n := by
  have e : (x : Int) / 2 ^ n = ((x / 2 ^ n : Nat) : Int) := by simp
  have hlt : x / 2 ^ n < 18446744073709551616 := Nat.lt_of_le_of_lt (Nat.div_le_self _ _) hx
  rw [e, show (1 : Int) = ((1 : Nat) : Int) from rfl, bits_and_u64_nat _ _ hlt (by decide), Nat.and_one_is_mod, Nat.testBit_eq_decide_div_mod_eq]
  rcases Nat.mod_two_eq_zero_or_one (x / 2 ^ n) with h | h <;> rw [h] <;> decide
set_option maxHeartbeats 400000 in
theorem allows_any (x n : Nat) (w : World) (hx : x < 18446744073709551616) (hn : n ≤ 63) : Calls Tryd.prog 44 #[.int .u64 x, .int .i64 n] w fun e w' => e = .returned (.bool (x.testBit n)) ∧ w' = w := by
  have HB := Hid.mk'' (bit_and x n hx)
  go_enter Tryd.func44, Tryd.ntmps44
  go_wp2
  go_ret
  exact ⟨ret_bool HB.out, rfl⟩
theorem allows_int (x : Nat) (n : Int) (w : World) (hx : x < 18446744073709551616) (h0 : 0 ≤ n) (hn : n ≤ 63) : Calls Tryd.prog 44 #[.int .u64 x, .int .i64 n] w fun e w' => e = .returned (.bool (x.testBit n.toNat)) ∧ w' = w := by
  have h := allows_any x n.toNat w hx (by omega)
  rwa [Int.toNat_of_nonneg h0] at h
theorem wrapU {x : Int} (h0 : 0 ≤ x) (h1 : x < 18446744073709551616) : IntKind.u64.wrap x = x := by
  rw [IntKind.wrap_u64]; omega
theorem run_val (a b : Nat) (ha : a ≤ b) (hb : b ≤ 59) : IntKind.u64.wrap (IntKind.u64.wrap (2 ^ (b + 1)) - IntKind.u64.wrap (2 ^ a)) = ((2 ^ (b + 1) - 2 ^ a : Nat) : Int) := by
  have h1 : 2 ^ (b + 1) ≤ 2 ^ 60 := Nat.pow_le_pow_right (by decide) (by omega)
  have h2 : 2 ^ a ≤ 2 ^ (b + 1) := Nat.pow_le_pow_right (by decide) (by omega)
  have e1 : (2 : Int) ^ (b + 1) = ((2 ^ (b + 1) : Nat) : Int) := by simp
  have e2 : (2 : Int) ^ a = ((2 ^ a : Nat) : Int) := by simp
  rw [e1, e2]
  generalize 2 ^ (b + 1) = p at *
  generalize 2 ^ a = q at *
  rw [wrapU (x := (p : Int)) (by omega) (by omega), wrapU (x := (q : Int)) (by omega) (by omega), wrapU (by omega) (by omega)]
  omega
set_option maxHeartbeats 400000 in
theorem run_any (a b : Nat) (w : World) (ha : a ≤ b) (hb : b ≤ 59) : Calls Tryd.prog 59 #[.int .i64 a, .int .i64 b] w fun e w' => e = .returned (.int .u64 ((2 ^ (b + 1) - 2 ^ a : Nat) : Int)) ∧ ∃ n, w' = w.drewN n := by
  have HV := Hid.mk'' (run_val a b ha hb)
  go_enter Tryd.func59, Tryd.ntmps59
  go_wp2
  go_quiet (fail)
  go_wp2
  go_ret
  exact ⟨ret_int HV.out, nq, rfl⟩
end Go.Proofs.YtdojpnhjnhecmaaDoor
