/- Counts of what a field lacks; whether a day may be; hops. -/
import Derived.Test.YtdojpnhjnhecmaaDoorL1
import Derived.Test.YtdojpnhjnhecmaaDoorN2
import Derived.Test.YtdojpnhjnhecmaaDoorK2
namespace Go.Proofs.YtdojpnhjnhecmaaDoor
open Go Go.RowKit
set_option maxHeartbeats 400000 in
theorem lackF_any (x n b : Nat) (w : World) (hT : HasT w) (hx : x < 18446744073709551616) (hn : n < b) (hb : b ≤ 64) :
    Calls Tryd.prog 63 #[.int .u64 x, .int .i64 n, .int .i64 b] w fun e w' => e = .returned (.int .i64 (min (Lib.ctz 64 (x >>> n) : Int) ((b : Int) - n))) ∧ w' = w := by
  have e1 : (x : Int) / 2 ^ n = ((x >>> n : Nat) : Int) := by rw [Nat.shiftRight_eq_div_pow]; simp
  have hy : x >>> n < 18446744073709551616 := by rw [Nat.shiftRight_eq_div_pow]; exact Nat.lt_of_le_of_lt (Nat.div_le_self _ _) hx
  have hz := tz_any (x >>> n) hy w hT
  rw [← e1] at hz
  generalize Lib.ctz 64 (x >>> n) = c at *
  clear e1 hy
  go_enter Tryd.func63, Tryd.ntmps63
  go_wp2_with (go_at_call 73; refine hz.mono ?_; rintro e w1 ⟨rfl, rfl⟩)
  go_ret
  exact ⟨rfl, rfl⟩
theorem shl_val (x n : Nat) : IntKind.u64.wrap ((x : Int) * 2 ^ (63 - n)) = (((x * 2 ^ (63 - n)) % 2 ^ 64 : Nat) : Int) := by
  rw [IntKind.wrap_u64]; simp
set_option maxHeartbeats 400000 in
theorem lackD_any (x n : Nat) (w : World) (hn : n ≤ 63) :
    Calls Tryd.prog 66 #[.int .u64 x, .int .i64 n] w fun e w' => e = .returned (.int .i64 (min (64 - (Lib.bitLen ((x * 2 ^ (63 - n)) % 2 ^ 64) : Int)) ((n : Int) + 1))) ∧ w' = w := by
  have hy : (x * 2 ^ (63 - n)) % 2 ^ 64 < 2 ^ 64 := Nat.mod_lt _ (by decide)
  have hz := lz_any (((x * 2 ^ (63 - n)) % 2 ^ 64 : Nat) : Int) (by omega) (by omega) w
  rw [← shl_val, show (IntKind.u64.wrap ((x : Int) * 2 ^ (63 - n))).toNat = (x * 2 ^ (63 - n)) % 2 ^ 64 by rw [shl_val]; exact Int.toNat_natCast _] at hz
  have hc : Lib.bitLen ((x * 2 ^ (63 - n)) % 2 ^ 64) ≤ 64 := Lib.bitLen_le _ 64 (by decide) hy
  generalize Lib.bitLen ((x * 2 ^ (63 - n)) % 2 ^ 64) = c at *
  clear hy
  go_enter Tryd.func66, Tryd.ntmps66
  go_wp2_with (go_at_call 75; refine hz.mono ?_; rintro e w1 ⟨rfl, rfl⟩)
  go_ret
  exact ⟨rfl, rfl⟩
theorem lackF_int (x : Nat) (n : Int) (b : Nat) (w : World) (hT : HasT w) (hx : x < 18446744073709551616) (h0 : 0 ≤ n) (hn : n < b) (hb : b ≤ 64) :
    Calls Tryd.prog 63 #[.int .u64 x, .int .i64 n, .int .i64 b] w fun e w' => (∃ s, e = .returned (.int .i64 s) ∧ LackF x n b s) ∧ w' = w := by
  have h := lackF_any x n.toNat b w hT hx (by omega) hb
  have hL := lackF_of x n.toNat b hx (by omega) hb
  rw [Int.toNat_of_nonneg h0] at h hL
  exact h.mono fun e w' ⟨he, hw⟩ => ⟨⟨_, he, hL⟩, hw⟩
theorem lackD_int (x : Nat) (n : Int) (w : World) (h0 : 0 ≤ n) (hn : n ≤ 63) :
    Calls Tryd.prog 66 #[.int .u64 x, .int .i64 n] w fun e w' => (∃ s, e = .returned (.int .i64 s) ∧ LackD x n s) ∧ w' = w := by
  have h := lackD_any x n.toNat w (by omega)
  have hL := lackD_of x n.toNat (by omega)
  rw [Int.toNat_of_nonneg h0] at h hL
  exact h.mono fun e w' ⟨he, hw⟩ => ⟨⟨_, he, hL⟩, hw⟩
def expV (e : Exp) : Value := .agg #[.int .u64 e.mi, .int .u64 e.ho, .int .u64 e.da, .int .u64 e.mo, .int .u64 e.wk, .bool e.ad, .bool e.aw]
structure Exp.Ok (e : Exp) : Prop where
  mi : e.mi < 1152921504606846976
  ho : e.ho < 1152921504606846976
  da : e.da < 1152921504606846976
  mo : e.mo < 1152921504606846976
  wk : e.wk < 1152921504606846976
set_option maxHeartbeats 1000000 in
theorem day_any (e : Exp) (he : e.Ok) (y m d h mi wd : Int) (w : World) (hd0 : 0 ≤ d) (hd1 : d ≤ 31) (hw0 : 0 ≤ wd) (hw1 : wd ≤ 6) :
    Calls Tryd.prog 45 #[expV e, dateV y m d h mi wd] w fun r w' => r = .returned (.bool (dayOk e d wd)) ∧ Below w.heap.size w w' := by
  have h1 : ∀ W, Calls Tryd.prog 44 #[.int .u64 e.da, .int .i64 d] W _ := fun W => allows_int e.da d W (by have := he.da; omega) hd0 (by omega)
  have h2 : ∀ W, Calls Tryd.prog 44 #[.int .u64 e.wk, .int .i64 wd] W _ := fun W => allows_int e.wk wd W (by have := he.wk; omega) hw0 (by omega)
  have HD : Hid (dayOk e d wd = if e.ad && e.aw then true else if e.ad then e.wk.testBit wd.toNat else if e.aw then e.da.testBit d.toNat else e.da.testBit d.toNat || e.wk.testBit wd.toNat) := rfl
  clear he
  generalize dayOk e d wd = r at *
  generalize e.da.testBit d.toNat = b1 at *
  generalize e.wk.testBit wd.toNat = b2 at *
  unfold expV
  generalize e.mi = x0 at *
  generalize e.ho = x1 at *
  generalize e.da = x2 at *
  generalize e.mo = x3 at *
  generalize e.wk = x4 at *
  generalize e.ad = a1 at *
  generalize e.aw = a2 at *
  cases a1 <;> cases a2 <;> cases b1 <;>
  · go_enter Tryd.func45, Tryd.ntmps45
    go_wp2_with fail
    go_quiet ((first | (go_at_call 44; with_reducible exact Calls.quiet_of_same (h1 _)) | (go_at_call 44; with_reducible exact Calls.quiet_of_same (h2 _))))
    go_wp2
    go_ret
    exact ⟨ret_bool (by rw [HD.out]; rfl), below_drewN (((Below.refl _ _).alloc (Nat.le_refl _) _).alloc (by simp) _) _⟩
end Go.Proofs.YtdojpnhjnhecmaaDoor
