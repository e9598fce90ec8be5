/- The document's search, day by day, as numbers. -/
import Derived.Test.YtdojpnhjnhecmaaDoorN3
namespace Go.Proofs.YtdojpnhjnhecmaaDoor
open Go
def okT (e : Exp) (r : Int) : Bool := e.ho.testBit (r / 60).toNat && e.mi.testBit (r % 60).toNat
def dayR (e : Exp) (m d wd : Int) : Bool := e.mo.testBit m.toNat && dayOk e d wd
/-- A minute of a day whose first minute's date is known. -/
theorem day_at {b y m d wd r : Int} (hb : (b + 1035593280) % 1440 = 0) (hA : IsAt b y m d 0 0 wd) (h0 : 0 ≤ r) (h1 : r < 1440) : IsAt (b + r) y m d (r / 60) (r % 60) wd := by
  have e : (b + r + 1035593280) / 1440 = (b + 1035593280) / 1440 := by omega
  refine ⟨by rw [e]; exact hA.date, by omega, by omega, by rw [e]; exact hA.wday⟩
theorem day_mt {e : Exp} {b y m d wd r : Int} (hb : (b + 1035593280) % 1440 = 0) (hA : IsAt b y m d 0 0 wd) (h0 : 0 ≤ r) (h1 : r < 1440) (g0 : -1035593280 ≤ b) (g1 : b ≤ 4223371679) : Mt e (b + r) ↔ dayR e m d wd = true ∧ okT e r = true := by
  rw [Mt.iff (by omega) (by omega) (day_at hb hA h0 h1)]
  simp only [okAt, dayR, okT, Bool.and_eq_true]
  constructor
  · rintro ⟨⟨⟨a, b⟩, c⟩, d⟩; exact ⟨⟨c, d⟩, b, a⟩
  · rintro ⟨⟨c, d⟩, b, a⟩; exact ⟨⟨⟨a, b⟩, c⟩, d⟩
/-- A day's first minute has hour and minute nought. -/
theorem midnight {b y m d h mi wd : Int} (hb : (b + 1035593280) % 1440 = 0) (hA : IsAt b y m d h mi wd) : h = 0 ∧ mi = 0 := by
  have := hA.hour; have := hA.minute
  omega
def DayF (e : Exp) (f r : Int) : Prop := (f ≤ r ∧ r < 1440 ∧ okT e r = true ∧ ∀ j, f ≤ j → j < r → okT e j = false) ∨ (r = -1 ∧ ∀ j, f ≤ j → j < 1440 → okT e j = false)
def DayB (e : Exp) (f r : Int) : Prop := (0 ≤ r ∧ r ≤ f ∧ okT e r = true ∧ ∀ j, r < j → j ≤ f → okT e j = false) ∨ (r = -1 ∧ ∀ j, 0 ≤ j → j ≤ f → okT e j = false)
/-- No minute of a day that may not be. -/
theorem day_none {e : Exp} {b y m d wd : Int} (hb : (b + 1035593280) % 1440 = 0) (hA : IsAt b y m d 0 0 wd) (g0 : -1035593280 ≤ b) (g1 : b ≤ 4223371679) (hd : dayR e m d wd = false) {k : Int} (h0 : b ≤ k) (h1 : k < b + 1440) : ¬ Mt e k := by
  have h := day_mt (e := e) hb hA (r := k - b) (by omega) (by omega) g0 g1
  rw [show b + (k - b) = k by omega] at h
  rw [h, hd]; simp
theorem day_no {e : Exp} {b y m d wd : Int} (hb : (b + 1035593280) % 1440 = 0) (hA : IsAt b y m d 0 0 wd) (g0 : -1035593280 ≤ b) (g1 : b ≤ 4223371679) {k : Int} (h0 : b ≤ k) (h1 : k < b + 1440) (ht : okT e (k - b) = false) : ¬ Mt e k := by
  have h := day_mt (e := e) hb hA (r := k - b) (by omega) (by omega) g0 g1
  rw [show b + (k - b) = k by omega] at h
  rw [h, ht]; simp
end Go.Proofs.YtdojpnhjnhecmaaDoor
