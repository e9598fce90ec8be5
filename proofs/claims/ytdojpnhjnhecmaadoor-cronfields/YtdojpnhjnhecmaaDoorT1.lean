/- An expression's text: its runs. -/
import Derived.Test.YtdojpnhjnhecmaaDoorL1
import Derived.Test.YtdojpnhjnhecmaaDoorK2
import Derived.Test.YtdojpnhjnhecmaaDoorWR
namespace Go.Proofs.YtdojpnhjnhecmaaDoor
open Go Go.RowKit
/-- The last number of the run that begins at one. -/
def endRun (x : Nat) : Nat → Nat → Nat
  | 0, n => n
  | k + 1, n => if x.testBit (n + 1) then endRun x k (n + 1) else n
def endR (x hi n : Nat) : Nat := endRun x (hi - n) n
theorem endR_step {x hi n : Nat} (h : n < hi) (hb : x.testBit (n + 1) = true) : endR x hi n = endR x hi (n + 1) := by
  unfold endR
  rw [show hi - n = (hi - (n + 1)) + 1 by omega]
  show (if x.testBit (n + 1) then _ else _) = _
  rw [hb]; rfl
theorem endR_stop {x hi n : Nat} (h : ¬ (n < hi ∧ x.testBit (n + 1) = true)) : endR x hi n = n := by
  unfold endR
  cases hk : hi - n with
  | zero => rfl
  | succ k =>
    show (if x.testBit (n + 1) then _ else _) = _
    rw [if_neg (fun hb => h ⟨by omega, hb⟩)]
theorem endRun_bd (x : Nat) : ∀ k n, n ≤ endRun x k n ∧ endRun x k n ≤ n + k := by
  intro k
  induction k with
  | zero => intro n; exact ⟨Nat.le_refl _, Nat.le_refl _⟩
  | succ k ih =>
    intro n
    unfold endRun
    split
    · have := ih (n + 1); omega
    · omega
theorem endR_bd (x : Nat) {hi n : Nat} (h : n ≤ hi) : n ≤ endR x hi n ∧ endR x hi n ≤ hi := by
  have := endRun_bd x (hi - n) n
  unfold endR; omega
def runsP (x hi : Nat) : Nat → Nat → List (Nat × Nat)
  | 0, _ => []
  | k + 1, n => if hi < n then [] else if x.testBit n then (n, endR x hi n) :: runsP x hi k (endR x hi n + 1) else runsP x hi k (n + 1)
theorem runsP_fuel (x hi : Nat) : ∀ k k' n, hi + 1 - n ≤ k → hi + 1 - n ≤ k' → runsP x hi k n = runsP x hi k' n := by
  intro k
  induction k with
  | zero =>
    intro k' n h h'
    cases k' with
    | zero => rfl
    | succ k' => show [] = if hi < n then _ else _; rw [if_pos (by omega)]
  | succ k ih =>
    intro k' n h h'
    cases k' with
    | zero => show (if hi < n then _ else _) = []; rw [if_pos (by omega)]
    | succ k' =>
      show (if hi < n then _ else _) = (if hi < n then _ else _)
      by_cases hn : hi < n
      · rw [if_pos hn, if_pos hn]
      · rw [if_neg hn, if_neg hn]
        have := endR_bd x (hi := hi) (n := n) (by omega)
        split
        · rw [ih k' _ (by omega) (by omega)]
        · exact ih k' _ (by omega) (by omega)
/-- The runs from a number on. -/
def runsR (x hi n : Nat) : List (Nat × Nat) := runsP x hi (hi + 1 - n) n
theorem runsR_over {x hi n : Nat} (h : hi < n) : runsR x hi n = [] := by unfold runsR; rw [show hi + 1 - n = 0 by omega]; rfl
theorem runsR_skip {x hi n : Nat} (h : n ≤ hi) (hb : x.testBit n = false) : runsR x hi n = runsR x hi (n + 1) := by
  unfold runsR
  rw [show hi + 1 - n = (hi + 1 - (n + 1)) + 1 by omega]
  show (if hi < n then _ else if x.testBit n then _ else _) = _
  rw [if_neg (by omega), hb]; rfl
theorem runsR_run {x hi n : Nat} (h : n ≤ hi) (hb : x.testBit n = true) : runsR x hi n = (n, endR x hi n) :: runsR x hi (endR x hi n + 1) := by
  have := endR_bd x h
  unfold runsR
  rw [show hi + 1 - n = (hi - n) + 1 by omega]
  show (if hi < n then _ else if x.testBit n then _ else _) = _
  rw [if_neg (by omega), hb, if_pos rfl, runsP_fuel x hi (hi - n) (hi + 1 - (endR x hi n + 1)) _ (by omega) (by omega)]
def itemB (a : Nat × Nat) : List UInt8 := if a.1 = a.2 then Lib.decDigits a.1 else Lib.decDigits a.1 ++ 45 :: Lib.decDigits a.2
def fieldB (f x : Nat) (star : Bool) : List UInt8 := if star then [42] else Lib.join ((runsR x (hiP f) (loP f)).map itemB) [44]
def textB (e : Exp) : List UInt8 := Lib.join [fieldB 0 e.mi (e.mi == allB 0), fieldB 1 e.ho (e.ho == allB 1), fieldB 2 e.da e.ad, fieldB 3 e.mo (e.mo == allB 3), fieldB 4 e.wk e.aw] [32]
theorem dec_one {n : Nat} (h : n < 10) : Lib.decDigits n = [UInt8.ofNat (48 + n)] := by rw [Lib.decDigits]; simp [h]
theorem dec_two {n : Nat} (h : 10 ≤ n) (h1 : n < 100) : Lib.decDigits n = [UInt8.ofNat (48 + n / 10), UInt8.ofNat (48 + n % 10)] := by
  rw [Lib.decDigits, dif_neg (by omega), dec_one (by omega)]; rfl
theorem dec_len {n : Nat} (h : n < 100) : 1 ≤ (Lib.decDigits n).length ∧ (Lib.decDigits n).length ≤ 2 := by
  by_cases h1 : n < 10
  · rw [dec_one h1]; simp
  · rw [dec_two (by omega) h]; simp
theorem ret_str {a b : ByteArray} (h : a = b) : Ending.returned (.string a) = .returned (.string b) := by rw [h]
set_option maxHeartbeats 400000 in
theorem item_any (a b : Nat) (ha : a < 100) (hb : b < 100) (w : World) : Calls Tryd.prog 58 #[.int .i64 a, .int .i64 b] w fun e w' => e = .returned (.string ⟨(itemB (a, b)).toArray⟩) ∧ w' = w := by
  have h1 := fun W => itoa_any a ha W
  have h2 := fun W => itoa_any b hb W
  have l1 := dec_len ha
  have l2 := dec_len hb
  by_cases he : a = b
  · subst he
    have HI : Hid (itemB (a, a) = Lib.decDigits a) := by show _ = _; simp [itemB]
    generalize Lib.decDigits a = d at *
    go_enter Tryd.func58, Tryd.ntmps58
    go_wp2_with (go_at_call 71; refine (h1 _).mono ?_; rintro e w1 ⟨rfl, rfl⟩)
    go_ret
    exact ⟨ret_str (by rw [HI.out]), rfl⟩
  · have HI : Hid (itemB (a, b) = Lib.decDigits a ++ 45 :: Lib.decDigits b) := by show _ = _; simp [itemB, he]
    have he' : ((a : Int) == (b : Int)) = false := by simp; omega
    generalize Lib.decDigits a = d at *
    generalize Lib.decDigits b = d' at *
    clear he
    have l3 : d.length + 1 ≤ 9223372036854775807 := by omega
    have l4 : d.length + 1 + d'.length ≤ 9223372036854775807 := by omega
    go_enter Tryd.func58, Tryd.ntmps58
    go_wp2_with (go_at_call 71; first | (with_reducible refine (h1 _).mono ?_; rintro e w1 ⟨rfl, rfl⟩) | (with_reducible refine (h2 _).mono ?_; rintro e w2 ⟨rfl, rfl⟩))
    go_ret
    exact ⟨ret_str (by rw [HI.out]; exact ByteArray.ext (by simp [ByteArray.data_append])), rfl⟩
end Go.Proofs.YtdojpnhjnhecmaaDoor
