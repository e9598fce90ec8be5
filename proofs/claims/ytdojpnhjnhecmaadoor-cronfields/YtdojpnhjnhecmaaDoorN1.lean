/- Which minutes match; hops over minutes that do not. -/
import Derived.Test.YtdojpnhjnhecmaaDoorC4
import Derived.Test.YtdojpnhjnhecmaaDoorP1
namespace Go.Proofs.YtdojpnhjnhecmaaDoor
/-- A minute matches. -/
def Mt (e : Exp) (n : Int) : Prop := -1035593280 ≤ n ∧ n ≤ 4223371679 ∧ ∃ y m d h mi wd, IsAt n y m d h mi wd ∧ okAt e m d h mi wd = true
theorem IsAt.uniq' {n y m d h mi wd y' m' d' h' mi' wd' : Int} (a : IsAt n y m d h mi wd) (b : IsAt n y' m' d' h' mi' wd') : y = y' ∧ m = m' ∧ d = d' ∧ h = h' ∧ mi = mi' ∧ wd = wd' := by
  obtain ⟨h1, h2, h3⟩ := a.date.uniq b.date
  exact ⟨h1, h2, h3, a.hour.trans b.hour.symm, a.minute.trans b.minute.symm, a.wday.trans b.wday.symm⟩
theorem Mt.iff {e : Exp} {n y m d h mi wd : Int} (h0 : -1035593280 ≤ n) (h1 : n ≤ 4223371679) (hA : IsAt n y m d h mi wd) : Mt e n ↔ okAt e m d h mi wd = true := by
  constructor
  · rintro ⟨_, _, y', m', d', h', mi', wd', hB, hk⟩
    obtain ⟨rfl, rfl, rfl, rfl, rfl, rfl⟩ := hA.uniq' hB
    exact hk
  · exact fun hk => ⟨h0, h1, y, m, d, h, mi, wd, hA, hk⟩
theorem Mt.no {e : Exp} {n : Int} (h : ∀ y m d h mi wd, IsAt n y m d h mi wd → okAt e m d h mi wd = false) : ¬ Mt e n := by
  rintro ⟨_, _, y, m, d, hh, mi, wd, hB, hk⟩
  rw [h _ _ _ _ _ _ hB] at hk
  exact absurd hk (by simp)
/-- On the same day. -/
theorem IsAt.day {n k y m d h mi wd y' m' d' h' mi' wd' : Int} (a : IsAt n y m d h mi wd) (b : IsAt k y' m' d' h' mi' wd') (hk : (k + 1035593280) / 1440 = (n + 1035593280) / 1440) : y' = y ∧ m' = m ∧ d' = d ∧ wd' = wd := by
  have hb := b.date
  rw [hk] at hb
  obtain ⟨h1, h2, h3⟩ := hb.uniq a.date
  refine ⟨h1, h2, h3, ?_⟩
  rw [a.wday, b.wday, hk]
theorem IsDate.move {day y m d j : Int} (h : IsDate day y m d) (h1 : 1 ≤ d + j) (h2 : d + j ≤ mdays y m) : IsDate (day + j) y m (d + j) :=
  ⟨h.y1, h.m1, h.m12, h1, h2, by have := h.at_; omega⟩
/-- In the same month. -/
theorem IsAt.month {n k y m d h mi wd y' m' d' h' mi' wd' : Int} (a : IsAt n y m d h mi wd) (b : IsAt k y' m' d' h' mi' wd') (h1 : 1 ≤ d + ((k + 1035593280) / 1440 - (n + 1035593280) / 1440)) (h2 : d + ((k + 1035593280) / 1440 - (n + 1035593280) / 1440) ≤ mdays y m) : m' = m := by
  have ha := a.date.move h1 h2
  rw [show (n + 1035593280) / 1440 + ((k + 1035593280) / 1440 - (n + 1035593280) / 1440) = (k + 1035593280) / 1440 by omega] at ha
  exact (b.date.uniq ha).2.1
theorem IsAt.bd {n y m d h mi wd : Int} (a : IsAt n y m d h mi wd) : 1 ≤ m ∧ m ≤ 12 ∧ 1 ≤ d ∧ d ≤ 31 ∧ d ≤ mdays y m ∧ mdays y m ≤ 31 ∧ 0 ≤ h ∧ h ≤ 23 ∧ 0 ≤ mi ∧ mi ≤ 59 ∧ 0 ≤ wd ∧ wd ≤ 6 := by
  have h1 := a.date.m1; have h2 := a.date.m12; have h3 := a.date.d1; have h4 := a.date.dm
  have h5 := mdays_bd y h1 h2
  have := a.hour; have := a.minute; have := a.wday
  refine ⟨h1, h2, h3, by omega, h4, by omega, ?_⟩
  omega
/-- How many numbers from n on, below a bound, are not allowed ahead of one that is. -/
structure LackF (x : Nat) (n : Int) (b s : Int) : Prop where
  ge : 0 ≤ s
  le : s ≤ b - n
  no : ∀ j, n ≤ j → j < n + s → x.testBit j.toNat = false
  yes : s = b - n ∨ x.testBit (n + s).toNat = true
structure LackD (x : Nat) (n : Int) (s : Int) : Prop where
  ge : 0 ≤ s
  le : s ≤ n + 1
  no : ∀ j, n - s < j → j ≤ n → x.testBit j.toNat = false
  yes : s = n + 1 ∨ x.testBit (n - s).toNat = true
theorem okAt_mo {e : Exp} {m d h mi wd : Int} (hm : e.mo.testBit m.toNat = false) : okAt e m d h mi wd = false := by simp [okAt, hm]
theorem okAt_ho {e : Exp} {m d h mi wd : Int} (hm : e.ho.testBit h.toNat = false) : okAt e m d h mi wd = false := by simp [okAt, hm]
theorem okAt_mi {e : Exp} {m d h mi wd : Int} (hm : e.mi.testBit mi.toNat = false) : okAt e m d h mi wd = false := by simp [okAt, hm]
theorem okAt_day {e : Exp} {m d h mi wd : Int} (hm : dayOk e d wd = false) : okAt e m d h mi wd = false := by simp [okAt, hm]
/-- A hop on. -/
structure HopF (e : Exp) (n s : Int) (ok : Bool) : Prop where
  ge : 0 ≤ s
  le : s ≤ 50000
  zero : s = 0 → ok = true
  pos : 0 < s → ∀ k, n ≤ k → k < n + s → ¬ Mt e k
theorem hop_month {e : Exp} {n y m d h mi wd : Int} (hA : IsAt n y m d h mi wd) (hm : e.mo.testBit m.toNat = false) : HopF e n ((mdays y m - d) * 1440 + (1440 - h * 60 - mi)) (okAt e m d h mi wd) := by
  have hb := hA.bd
  have h1 := hA.hour; have h2 := hA.minute
  refine ⟨by omega, by omega, fun h0 => by omega, fun _ k hk1 hk2 => Mt.no fun y' m' d' h' mi' wd' hB => ?_⟩
  have := hA.month hB (by omega) (by omega)
  subst this
  exact okAt_mo hm
theorem hop_day {e : Exp} {n y m d h mi wd : Int} (hA : IsAt n y m d h mi wd) (hm : dayOk e d wd = false) : HopF e n (1440 - h * 60 - mi) (okAt e m d h mi wd) := by
  have hb := hA.bd
  have h1 := hA.hour; have h2 := hA.minute
  refine ⟨by omega, by omega, fun h0 => by omega, fun _ k hk1 hk2 => Mt.no fun y' m' d' h' mi' wd' hB => ?_⟩
  obtain ⟨rfl, rfl, rfl, rfl⟩ := hA.day hB (by omega)
  exact okAt_day hm
theorem hop_hour {e : Exp} {n y m d h mi wd s : Int} (hA : IsAt n y m d h mi wd) (hs : LackF e.ho h 24 s) (h0 : 0 < s) : HopF e n (s * 60 - mi) (okAt e m d h mi wd) := by
  have hb := hA.bd
  have h1 := hA.hour; have h2 := hA.minute
  have := hs.le
  refine ⟨by omega, by omega, fun h0 => by omega, fun _ k hk1 hk2 => Mt.no fun y' m' d' h' mi' wd' hB => ?_⟩
  refine okAt_ho (hs.no h' ?_ ?_)
  · rw [hB.hour]; omega
  · rw [hB.hour]; omega
theorem hop_min {e : Exp} {n y m d h mi wd s : Int} (hA : IsAt n y m d h mi wd) (hm : e.mo.testBit m.toNat = true) (hd : dayOk e d wd = true) (hh : LackF e.ho h 24 0) (hs : LackF e.mi mi 60 s) : HopF e n s (okAt e m d h mi wd) := by
  have hb := hA.bd
  have h1 := hA.hour; have h2 := hA.minute
  have := hs.le
  have := hs.ge
  refine ⟨by omega, by omega, ?_, fun _ k hk1 hk2 => Mt.no fun y' m' d' h' mi' wd' hB => ?_⟩
  · rintro rfl
    have e1 : e.ho.testBit h.toNat = true := by
      rcases hh.yes with h' | h'
      · omega
      · simpa using h'
    have e2 : e.mi.testBit mi.toNat = true := by
      rcases hs.yes with h' | h'
      · omega
      · simpa using h'
    simp [okAt, hm, hd, e1, e2]
  · refine okAt_mi (hs.no mi' ?_ ?_)
    · rw [hB.minute]; omega
    · rw [hB.minute]; omega
/-- A hop back. -/
structure HopB (e : Exp) (n s : Int) (ok : Bool) : Prop where
  le : s ≤ 0
  ge : -50000 ≤ s
  zero : s = 0 → ok = true
  neg : s < 0 → ∀ k, n + s < k → k ≤ n → ¬ Mt e k
theorem back_month {e : Exp} {n y m d h mi wd : Int} (hA : IsAt n y m d h mi wd) (hm : e.mo.testBit m.toNat = false) : HopB e n (-(d - 1) * 1440 - (h * 60 + mi + 1)) (okAt e m d h mi wd) := by
  have hb := hA.bd
  have h1 := hA.hour; have h2 := hA.minute
  refine ⟨by omega, by omega, fun h0 => by omega, fun _ k hk1 hk2 => Mt.no fun y' m' d' h' mi' wd' hB => ?_⟩
  have := hA.month hB (by omega) (by omega)
  subst this
  exact okAt_mo hm
theorem back_day {e : Exp} {n y m d h mi wd : Int} (hA : IsAt n y m d h mi wd) (hm : dayOk e d wd = false) : HopB e n (-(h * 60 + mi + 1)) (okAt e m d h mi wd) := by
  have hb := hA.bd
  have h1 := hA.hour; have h2 := hA.minute
  refine ⟨by omega, by omega, fun h0 => by omega, fun _ k hk1 hk2 => Mt.no fun y' m' d' h' mi' wd' hB => ?_⟩
  obtain ⟨rfl, rfl, rfl, rfl⟩ := hA.day hB (by omega)
  exact okAt_day hm
theorem back_hour {e : Exp} {n y m d h mi wd s : Int} (hA : IsAt n y m d h mi wd) (hs : LackD e.ho h s) (h0 : 0 < s) : HopB e n (-(s - 1) * 60 - mi - 1) (okAt e m d h mi wd) := by
  have hb := hA.bd
  have h1 := hA.hour; have h2 := hA.minute
  have := hs.le
  refine ⟨by omega, by omega, fun h0 => by omega, fun _ k hk1 hk2 => Mt.no fun y' m' d' h' mi' wd' hB => ?_⟩
  refine okAt_ho (hs.no h' ?_ ?_)
  · rw [hB.hour]; omega
  · rw [hB.hour]; omega
theorem back_min {e : Exp} {n y m d h mi wd s : Int} (hA : IsAt n y m d h mi wd) (hm : e.mo.testBit m.toNat = true) (hd : dayOk e d wd = true) (hh : LackD e.ho h 0) (hs : LackD e.mi mi s) : HopB e n (-s) (okAt e m d h mi wd) := by
  have hb := hA.bd
  have h1 := hA.hour; have h2 := hA.minute
  have := hs.le
  have := hs.ge
  refine ⟨by omega, by omega, ?_, fun _ k hk1 hk2 => Mt.no fun y' m' d' h' mi' wd' hB => ?_⟩
  · intro h0
    obtain rfl : s = 0 := by omega
    have e1 : e.ho.testBit h.toNat = true := by
      rcases hh.yes with h' | h'
      · omega
      · simpa using h'
    have e2 : e.mi.testBit mi.toNat = true := by
      rcases hs.yes with h' | h'
      · omega
      · simpa using h'
    simp [okAt, hm, hd, e1, e2]
  · refine okAt_mi (hs.no mi' ?_ ?_)
    · rw [hB.minute]; omega
    · rw [hB.minute]; omega
end Go.Proofs.YtdojpnhjnhecmaaDoor
