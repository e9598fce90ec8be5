/- The calendar as numbers: years, months, days; a day has one date alone. -/
import Derived.Test.YtdojpnhjnhecmaaDoorRows
namespace Go.Proofs.YtdojpnhjnhecmaaDoor

def leapP (y : Int) : Bool := decide (y % 4 = 0 ∧ (y % 100 ≠ 0 ∨ y % 400 = 0))
def lp (y : Int) : Int := if y % 4 = 0 ∧ (y % 100 ≠ 0 ∨ y % 400 = 0) then 1 else 0
theorem lp_01 (y : Int) : lp y = 0 ∨ lp y = 1 := by unfold lp; split <;> simp
/-- The days of a month. -/
def mdays (y m : Int) : Int :=
  if m = 1 then 31 else if m = 2 then 28 + lp y else if m = 3 then 31 else if m = 4 then 30 else if m = 5 then 31 else if m = 6 then 30 else if m = 7 then 31
  else if m = 8 then 31 else if m = 9 then 30 else if m = 10 then 31 else if m = 11 then 30 else if m = 12 then 31 else 0
/-- The days of the year ahead of a month. -/
def cum (y m : Int) : Int :=
  if m ≤ 1 then 0 else if m = 2 then 31 else if m = 3 then 59 + lp y else if m = 4 then 90 + lp y else if m = 5 then 120 + lp y else if m = 6 then 151 + lp y else if m = 7 then 181 + lp y
  else if m = 8 then 212 + lp y else if m = 9 then 243 + lp y else if m = 10 then 273 + lp y else if m = 11 then 304 + lp y else if m = 12 then 334 + lp y else 365 + lp y
/-- The days ahead of a year. -/
def bef (y : Int) : Int := 365 * (y - 1) + (y - 1) / 4 - (y - 1) / 100 + (y - 1) / 400

theorem m12 {m : Int} (h1 : 1 ≤ m) (h2 : m ≤ 12) : m = 1 ∨ m = 2 ∨ m = 3 ∨ m = 4 ∨ m = 5 ∨ m = 6 ∨ m = 7 ∨ m = 8 ∨ m = 9 ∨ m = 10 ∨ m = 11 ∨ m = 12 := by omega
theorem cum_one (y : Int) : cum y 1 = 0 := rfl
theorem cum_13 (y : Int) : cum y 13 = 365 + lp y := rfl
theorem cum_succ (y : Int) {m : Int} (h1 : 1 ≤ m) (h2 : m ≤ 12) : cum y (m + 1) = cum y m + mdays y m := by
  have h := lp_01 y
  rcases m12 h1 h2 with rfl | rfl | rfl | rfl | rfl | rfl | rfl | rfl | rfl | rfl | rfl | rfl <;> simp [cum, mdays] <;> omega
theorem mdays_bd (y : Int) {m : Int} (h1 : 1 ≤ m) (h2 : m ≤ 12) : 28 ≤ mdays y m ∧ mdays y m ≤ 31 := by
  have h := lp_01 y
  rcases m12 h1 h2 with rfl | rfl | rfl | rfl | rfl | rfl | rfl | rfl | rfl | rfl | rfl | rfl <;> simp [mdays] <;> omega
theorem mdays_no (y : Int) {m : Int} (h : m < 1 ∨ 12 < m) : mdays y m = 0 := by
  unfold mdays
  repeat rw [if_neg (by omega)]
theorem cum_bd (y : Int) {m : Int} (h1 : 1 ≤ m) (h2 : m ≤ 12) : 0 ≤ cum y m ∧ cum y m ≤ 335 ∧ cum y m + mdays y m ≤ 365 + lp y := by
  have h := lp_01 y
  rcases m12 h1 h2 with rfl | rfl | rfl | rfl | rfl | rfl | rfl | rfl | rfl | rfl | rfl | rfl <;> simp [mdays, cum] <;> omega
theorem cum_lt (y : Int) {m n : Int} (h1 : 1 ≤ m) (h : m < n) (h2 : n ≤ 12) : cum y m + mdays y m ≤ cum y n := by
  have hl := lp_01 y
  rcases m12 h1 (by omega) with rfl | rfl | rfl | rfl | rfl | rfl | rfl | rfl | rfl | rfl | rfl | rfl <;>
  rcases m12 (m := n) (by omega) h2 with rfl | rfl | rfl | rfl | rfl | rfl | rfl | rfl | rfl | rfl | rfl | rfl <;>
  first | (exfalso; omega) | (simp [mdays, cum]; omega) | simp [mdays, cum]
theorem bef_succ (y : Int) : bef (y + 1) = bef y + 365 + lp y := by
  unfold bef lp
  split <;> omega
theorem bef_le {y z : Int} (h : y ≤ z) : bef y ≤ bef z := by unfold bef; omega
theorem bef_400 (y : Int) : bef (y + 400) = bef y + 146097 := by unfold bef; omega
theorem bef_bd {y : Int} (h1 : 1 ≤ y) (h2 : y ≤ 10000) : 0 ≤ bef y ∧ bef y ≤ 3652059 := by unfold bef; omega

/-- A day's date. -/
structure IsDate (day y m d : Int) : Prop where
  y1 : 1 ≤ y
  m1 : 1 ≤ m
  m12 : m ≤ 12
  d1 : 1 ≤ d
  dm : d ≤ mdays y m
  at_ : bef y + cum y m + d - 1 = day
theorem IsDate.year {day y m d : Int} (h : IsDate day y m d) : bef y ≤ day ∧ day < bef (y + 1) := by
  obtain ⟨_, h2, h3, h4, h5, h6⟩ := h
  have := cum_bd y h2 h3
  have := bef_succ y
  omega
theorem IsDate.uniq {day y m d y' m' d' : Int} (h : IsDate day y m d) (h' : IsDate day y' m' d') : y = y' ∧ m = m' ∧ d = d' := by
  have hy := h.year
  have hy' := h'.year
  obtain rfl : y = y' := by
    rcases Int.lt_trichotomy y y' with hlt | he | hlt
    · have := bef_le (y := y + 1) (z := y') (by omega); omega
    · exact he
    · have := bef_le (y := y' + 1) (z := y) (by omega); omega
  obtain rfl : m = m' := by
    rcases Int.lt_trichotomy m m' with hlt | he | hlt
    · have := cum_lt y h.m1 hlt h'.m12
      have := h.at_; have := h'.at_; have := h.dm; have := h'.d1; omega
    · exact he
    · have := cum_lt y h'.m1 hlt h.m12
      have := h.at_; have := h'.at_; have := h'.dm; have := h.d1; omega
  have := h.at_; have := h'.at_
  exact ⟨rfl, rfl, by omega⟩
theorem IsDate.y9999 {day y m d : Int} (h : IsDate day y m d) (hd : day < 3652059) : y ≤ 9999 := by
  have hy := h.year
  refine Int.not_lt.1 fun hlt => ?_
  have := bef_le (y := 10000) (z := y) (by omega)
  have h0 : bef 10000 = 3652059 := rfl
  omega
/-- A date within the years has its day. -/
theorem IsDate.mk' {y m d : Int} (y1 : 1 ≤ y) (m1 : 1 ≤ m) (m12 : m ≤ 12) (d1 : 1 ≤ d) (dm : d ≤ mdays y m) : IsDate (bef y + cum y m + d - 1) y m d := ⟨y1, m1, m12, d1, dm, rfl⟩
theorem IsDate.bd {y m d day : Int} (h : IsDate day y m d) (h9 : y ≤ 9999) : 0 ≤ day ∧ day < 3652059 := by
  have hy := h.year
  have := bef_bd h.y1 (by omega)
  have := bef_bd (y := y + 1) (by have := h.y1; omega) (by omega)
  omega
/-- The next day's date. -/
def nextP (y m d : Int) : Int × Int × Int := if d + 1 ≤ mdays y m then (y, m, d + 1) else if m + 1 = 13 then (y + 1, 1, 1) else (y, m + 1, 1)
theorem IsDate.next {day y m d : Int} (h : IsDate day y m d) : IsDate (day + 1) (nextP y m d).1 (nextP y m d).2.1 (nextP y m d).2.2 := by
  obtain ⟨h1, h2, h3, h4, h5, h6⟩ := h
  unfold nextP
  split
  · exact ⟨h1, h2, h3, by show 1 ≤ d + 1; omega, by show d + 1 ≤ _; omega, by show bef y + cum y m + (d + 1) - 1 = _; omega⟩
  · have hd : d = mdays y m := by omega
    have hs := cum_succ y h2 h3
    split
    · obtain rfl : m = 12 := by omega
      refine ⟨by show 1 ≤ y + 1; omega, by show (1 : Int) ≤ 1; decide, by show (1 : Int) ≤ 12; decide, by show (1 : Int) ≤ 1; decide, by show 1 ≤ mdays (y + 1) 1; simp [mdays], ?_⟩
      show bef (y + 1) + cum (y + 1) 1 + 1 - 1 = _
      have := bef_succ y
      have h13 := cum_13 y
      rw [cum_one]
      have e : (12 : Int) + 1 = 13 := rfl
      rw [e] at hs
      omega
    · have := mdays_bd y (m := m + 1) (by omega) (by omega)
      exact ⟨h1, by show 1 ≤ m + 1; omega, by show m + 1 ≤ 12; omega, by show (1 : Int) ≤ 1; decide, by show 1 ≤ mdays y (m + 1); omega, by show bef y + cum y (m + 1) + 1 - 1 = _; omega⟩

/-- How the spans of years are taken off a day. -/
theorem spans_of (day a b c d : Int) (h0 : 0 ≤ day) (h1 : day < 3652059) (ha : a = min (day / 146097) 24) (hb : b = min ((day - a * 146097) / 36524) 3)
    (hc : c = min ((day - a * 146097 - b * 36524) / 1461) 24) (hd : d = min ((day - a * 146097 - b * 36524 - c * 1461) / 365) 3) :
    1 ≤ 1 + a * 400 + b * 100 + c * 4 + d ∧ bef (1 + a * 400 + b * 100 + c * 4 + d) + (day - a * 146097 - b * 36524 - c * 1461 - d * 365) = day ∧
      0 ≤ day - a * 146097 - b * 36524 - c * 1461 - d * 365 ∧ day - a * 146097 - b * 36524 - c * 1461 - d * 365 < 365 + lp (1 + a * 400 + b * 100 + c * 4 + d) ∧ 1 + a * 400 + b * 100 + c * 4 + d ≤ 10000 := by
  have a1 : 0 ≤ a ∧ a ≤ 24 ∧ 0 ≤ day - a * 146097 ∧ day - a * 146097 < 146097 := by omega
  generalize hr1 : day - a * 146097 = r1 at *
  have b1 : 0 ≤ b ∧ b ≤ 3 ∧ 0 ≤ r1 - b * 36524 ∧ r1 - b * 36524 < 36525 ∧ (b < 3 → r1 - b * 36524 < 36524) := by omega
  generalize hr2 : r1 - b * 36524 = r2 at *
  have c1 : 0 ≤ c ∧ c ≤ 24 ∧ 0 ≤ r2 - c * 1461 ∧ r2 - c * 1461 < 1461 ∧ (c = 24 → b < 3 → r2 - c * 1461 < 1460) := by omega
  generalize hr3 : r2 - c * 1461 = r3 at *
  have d1 : 0 ≤ d ∧ d ≤ 3 ∧ 0 ≤ r3 - d * 365 ∧ r3 - d * 365 < 366 ∧ (d < 3 → r3 - d * 365 < 365) ∧ (c = 24 → b < 3 → r3 - d * 365 < 365) := by omega
  generalize hr4 : r3 - d * 365 = r4 at *
  clear ha hb hc hd
  have q1 : (1 + a * 400 + b * 100 + c * 4 + d - 1) / 4 = a * 100 + b * 25 + c := by omega
  have q2 : (1 + a * 400 + b * 100 + c * 4 + d - 1) / 100 = a * 4 + b := by omega
  have q3 : (1 + a * 400 + b * 100 + c * 4 + d - 1) / 400 = a := by omega
  refine ⟨by omega, ?_, by omega, ?_, by omega⟩
  · unfold bef; rw [q1, q2, q3]; omega
  · unfold lp
    split
    · omega
    · omega
end Go.Proofs.YtdojpnhjnhecmaaDoor
