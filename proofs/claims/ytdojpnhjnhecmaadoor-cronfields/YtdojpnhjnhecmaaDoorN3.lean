/- What Next and Prev may tell; days that never come, and leap days. -/
import Derived.Test.YtdojpnhjnhecmaaDoorN1
namespace Go.Proofs.YtdojpnhjnhecmaaDoor
/-- What Next may tell; what Prev may. -/
def NextIs (e : Exp) (a v c : Int) : Prop :=
  (c = 0 ∧ a < v ∧ v ≤ a + 4216320 ∧ Mt e v ∧ ∀ k, a < k → k < v → ¬ Mt e k) ∨ (c = 28 ∧ v = 0 ∧ ∀ k, a < k → k ≤ a + 4216320 → ¬ Mt e k)
def PrevIs (e : Exp) (u a v c : Int) : Prop :=
  (c = 0 ∧ a < v ∧ v ≤ u ∧ u - v ≤ 4216320 ∧ Mt e v ∧ ∀ k, v < k → k ≤ u → ¬ Mt e k) ∨ (c = 28 ∧ v = 0 ∧ ∀ k, a < k → k ≤ u → u - k ≤ 4216320 → ¬ Mt e k)
theorem NextIs.uniq {e : Exp} {a v c v' c' : Int} (h : NextIs e a v c) (h' : NextIs e a v' c') : v = v' ∧ c = c' := by
  rcases h with ⟨rfl, h1, h2, h3, h4⟩ | ⟨rfl, rfl, h1⟩ <;> rcases h' with ⟨rfl, g1, g2, g3, g4⟩ | ⟨rfl, rfl, g1⟩
  · rcases Int.lt_trichotomy v v' with hl | he | hl
    · exact absurd h3 (g4 v h1 hl)
    · exact ⟨he, rfl⟩
    · exact absurd g3 (h4 v' g1 hl)
  · exact absurd h3 (g1 v h1 h2)
  · exact absurd g3 (h1 v' g1 g2)
  · exact ⟨rfl, rfl⟩
theorem PrevIs.uniq {e : Exp} {u a v c v' c' : Int} (h : PrevIs e u a v c) (h' : PrevIs e u a v' c') : v = v' ∧ c = c' := by
  rcases h with ⟨rfl, h1, h2, h3, h4, h5⟩ | ⟨rfl, rfl, h1⟩ <;> rcases h' with ⟨rfl, g1, g2, g3, g4, g5⟩ | ⟨rfl, rfl, g1⟩
  · rcases Int.lt_trichotomy v v' with hl | he | hl
    · exact absurd g4 (h5 v' hl g2)
    · exact ⟨he, rfl⟩
    · exact absurd h4 (g5 v hl h2)
  · exact absurd h4 (g1 v h1 h2 h3)
  · exact absurd g4 (h1 v' g1 g2 g3)
  · exact ⟨rfl, rfl⟩
/-- A minute of a date. -/
theorem isAt_mk {y m d h mi : Int} (y1 : 1 ≤ y) (m1 : 1 ≤ m) (m12 : m ≤ 12) (d1 : 1 ≤ d) (dm : d ≤ mdays y m) (h0 : 0 ≤ h) (h1 : h ≤ 23) (i0 : 0 ≤ mi) (i1 : mi ≤ 59) :
    IsAt (-1035593280 + (bef y + cum y m + d - 1) * 1440 + h * 60 + mi) y m d h mi ((bef y + cum y m + d - 1 + 1) % 7) := by
  have e : (-1035593280 + (bef y + cum y m + d - 1) * 1440 + h * 60 + mi + 1035593280) / 1440 = bef y + cum y m + d - 1 := by omega
  refine ⟨?_, by omega, by omega, by rw [e]⟩
  rw [e]
  exact IsDate.mk' y1 m1 m12 d1 dm
def eNever : Exp := ⟨1, 1, 1073741824, 4, 127, false, true⟩
def eLeap : Exp := ⟨1, 1, 536870912, 4, 127, false, true⟩
theorem bit_one {k : Nat} {n : Int} (h0 : 0 ≤ n) (h : (2 ^ k).testBit n.toNat = true) : n = k := by
  rw [Nat.testBit_two_pow] at h
  have := of_decide_eq_true h
  omega
theorem eLeap_ok {m d h mi wd : Int} (hm : 0 ≤ m) (hd : 0 ≤ d) (hh : 0 ≤ h) (hi : 0 ≤ mi) (hk : okAt eLeap m d h mi wd = true) : mi = 0 ∧ h = 0 ∧ m = 2 ∧ d = 29 := by
  simp only [okAt, dayOk, eLeap, Bool.and_eq_true, Bool.false_and, Bool.false_eq_true, if_false, if_true] at hk
  obtain ⟨⟨⟨h1, h2⟩, h3⟩, h4⟩ := hk
  exact ⟨bit_one (k := 0) hi h1, bit_one (k := 0) hh h2, bit_one (k := 2) hm h3, bit_one (k := 29) hd h4⟩
theorem eNever_ok {m d h mi wd : Int} (hm : 0 ≤ m) (hd : 0 ≤ d) (hk : okAt eNever m d h mi wd = true) : m = 2 ∧ d = 30 := by
  simp only [okAt, dayOk, eNever, Bool.and_eq_true, Bool.false_and, Bool.false_eq_true, if_false, if_true] at hk
  obtain ⟨⟨⟨_, _⟩, h3⟩, h4⟩ := hk
  exact ⟨bit_one (k := 2) hm h3, bit_one (k := 30) hd h4⟩
theorem eNever_no (n : Int) : ¬ Mt eNever n := by
  rintro ⟨_, _, y, m, d, h, mi, wd, hA, hk⟩
  have hb := hA.bd
  obtain ⟨rfl, rfl⟩ := eNever_ok (by omega) (by omega) hk
  have := lp_01 y
  have e : mdays y 2 = 28 + lp y := rfl
  omega
theorem eNever_next {a v c : Int} (h : NextIs eNever a v c) : c = 28 := by
  rcases h with ⟨_, _, _, h, _⟩ | ⟨h, _⟩
  · exact absurd h (eNever_no v)
  · exact h
/-- The minute at which a leap year's last of February begins. -/
def feb29 (y : Int) : Int := -1035593280 + (bef y + 59) * 1440
theorem feb29_mt {y : Int} (h1 : 1 ≤ y) (h9 : y ≤ 9999) (hl : lp y = 1) : Mt eLeap (feb29 y) := by
  have hA := isAt_mk (y := y) (m := 2) (d := 29) (h := 0) (mi := 0) h1 (by decide) (by decide) (by decide) (by show 29 ≤ 28 + lp y; omega) (by decide) (by decide) (by decide) (by decide)
  have e : (-1035593280 + (bef y + cum y 2 + 29 - 1) * 1440 + 0 * 60 + 0 : Int) = feb29 y := by show _ = -1035593280 + (bef y + 59) * 1440; have : cum y 2 = 31 := rfl; omega
  rw [e] at hA
  have := bef_bd h1 (by omega : y ≤ 10000)
  have h2 := bef_le (y := y + 1) (z := 10000) (by omega)
  have h3 := bef_succ y
  have h4 : bef 10000 = 3652059 := rfl
  refine ⟨by unfold feb29; omega, by unfold feb29; omega, _, _, _, _, _, _, hA, ?_⟩
  simp [okAt, dayOk, eLeap]
  decide
theorem leap_near (y : Int) : ∃ z, y < z ∧ z ≤ y + 8 ∧ lp z = 1 ∧ bef z ≤ bef y + 2922 ∧ (lp y = 0 → bef z ≤ bef y + 2800) := by
  have hs : ∀ j : Int, lp (y + j) = 1 ∨ ¬ ((y + j) % 4 = 0 ∧ ((y + j) % 100 ≠ 0 ∨ (y + j) % 400 = 0)) := fun j => by
    unfold lp; split <;> simp_all
  have hy : lp y = 1 ∨ lp y = 0 := by unfold lp; split <;> simp
  by_cases h4 : lp (y + (4 - y % 4)) = 1
  · refine ⟨y + (4 - y % 4), by omega, by omega, h4, ?_, ?_⟩
    · unfold bef; omega
    · intro _; unfold bef; omega
  · refine ⟨y + (8 - y % 4), by omega, by omega, ?_, ?_, ?_⟩
    · rcases hs (8 - y % 4) with h | h
      · exact h
      · rcases hs (4 - y % 4) with h' | h'
        · exact absurd h' h4
        · omega
    · rcases hs (4 - y % 4) with h' | h'
      · exact absurd h' h4
      · unfold bef; omega
    · intro h0
      rcases hs (4 - y % 4) with h' | h'
      · exact absurd h' h4
      · have : ¬ (y % 4 = 0) := by
          intro h40
          have : lp y = 0 := h0
          unfold lp at this
          split at this
          · exact absurd this (by decide)
          · omega
        unfold bef; omega
theorem eLeap_comes {n y m d h mi wd : Int} (hA : IsAt n y m d h mi wd) (h9 : y ≤ 9991) : ∃ k, n < k ∧ k ≤ n + 4216320 ∧ Mt eLeap k := by
  have hb := hA.bd
  have hy := hA.date.year
  have hy1 := hA.date.y1
  have hs := bef_succ y
  have hl := lp_01 y
  by_cases hc : lp y = 1 ∧ n < feb29 y
  · exact ⟨feb29 y, hc.2, by unfold feb29; omega, feb29_mt hy1 (by omega) hc.1⟩
  · obtain ⟨z, h1, h2, h3, h4, h5⟩ := leap_near y
    have hz := bef_le (y := y + 1) (z := z) (by omega)
    refine ⟨feb29 z, by unfold feb29; omega, ?_, feb29_mt (by omega) (by omega) h3⟩
    rcases hl with hl | hl
    · have := h5 hl
      unfold feb29; omega
    · have : ¬ n < feb29 y := fun h => hc ⟨hl, h⟩
      unfold feb29 at this ⊢; omega
theorem eLeap_next {n y m d h mi wd v c : Int} (hA : IsAt n y m d h mi wd) (h9 : y ≤ 9991) (h : NextIs eLeap n v c) : c = 0 ∧ Mt eLeap v := by
  obtain ⟨k, h1, h2, h3⟩ := eLeap_comes hA h9
  rcases h with ⟨g1, _, _, g4, _⟩ | ⟨_, _, g⟩
  · exact ⟨g1, g4⟩
  · exact absurd h3 (g k h1 h2)
theorem eLeap_date {n y m d h mi wd : Int} (hM : Mt eLeap n) (hA : IsAt n y m d h mi wd) : m = 2 ∧ d = 29 ∧ lp y = 1 := by
  have hb := hA.bd
  have hk := (Mt.iff hM.1 hM.2.1 hA).1 hM
  obtain ⟨_, _, rfl, rfl⟩ := eLeap_ok (by omega) (by omega) (by omega) (by omega) hk
  have e : mdays y 2 = 28 + lp y := rfl
  have := lp_01 y
  exact ⟨rfl, rfl, by omega⟩
end Go.Proofs.YtdojpnhjnhecmaaDoor
