/- The chapter's example, as numbers and bytes. -/
import Derived.Test.YtdojpnhjnhecmaaDoorN3
import Derived.Test.YtdojpnhjnhecmaaDoorT2
import Derived.Test.YtdojpnhjnhecmaaDoorS1
namespace Go.Proofs.YtdojpnhjnhecmaaDoor
open Go
theorem parse_leap : parseL [48, 32, 48, 32, 50, 57, 32, 50, 32, 42] = some eLeap := by kernel_rfl
theorem parse_never : parseL [48, 32, 48, 32, 51, 48, 32, 50, 32, 42] = some eNever := by kernel_rfl
def eAll : Exp := ⟨1152921504606846975, 16777215, 4294967294, 8190, 127, true, true⟩
theorem parse_stars : parseL [42, 32, 42, 32, 42, 32, 42, 32, 42] = some eAll := by kernel_rfl
theorem field_dec (f x : Nat) (l : List (Nat × Nat)) (h : runsR x (hiP f) (loP f) = l) : fieldB f x false = Lib.join (l.map itemB) [44] := by unfold fieldB; rw [h]; rfl
theorem item_one (a : Nat) : itemB (a, a) = Lib.decDigits a := by simp [itemB]
theorem text_leap : textB eLeap = [48, 32, 48, 32, 50, 57, 32, 50, 32, 42] := by
  unfold textB
  rw [show (eLeap.mi == allB 0) = false by decide, show (eLeap.ho == allB 1) = false by decide, show (eLeap.mo == allB 3) = false by decide, show eLeap.ad = false from rfl, show eLeap.aw = true from rfl,
    field_dec 0 eLeap.mi [(0, 0)] (by decide +kernel), field_dec 1 eLeap.ho [(0, 0)] (by decide +kernel), field_dec 2 eLeap.da [(29, 29)] (by decide +kernel), field_dec 3 eLeap.mo [(2, 2)] (by decide +kernel)]
  simp only [List.map_cons, List.map_nil, item_one, dec_one (n := 0) (by decide), dec_one (n := 2) (by decide), dec_two (n := 29) (by decide) (by decide), Lib.join_one]
  rfl
theorem eLeap_oks : eLeap.Ok := ⟨by decide, by decide, by decide, by decide, by decide⟩
theorem eNever_oks : eNever.Ok := ⟨by decide, by decide, by decide, by decide, by decide⟩
theorem eAll_oks : eAll.Ok := ⟨by decide, by decide, by decide, by decide, by decide⟩
theorem eLeap_is {k : Int} (h : Mt eLeap k) : ∃ y, lp y = 1 ∧ k = feb29 y := by
  obtain ⟨h0, h1, y, m, d, hh, mi, wd, hA, hk⟩ := h
  have hb := hA.bd
  obtain ⟨rfl, rfl, rfl, rfl⟩ := eLeap_ok (by omega) (by omega) (by omega) (by omega) hk
  have e : mdays y 2 = 28 + lp y := rfl
  have := lp_01 y
  refine ⟨y, by omega, ?_⟩
  have h2 := hA.date.at_
  have h3 := hA.hour
  have h4 := hA.minute
  have h5 : cum y 2 = 31 := rfl
  unfold feb29
  omega
theorem known_next : NextIs eLeap 66356640 70561440 0 := by
  have e1 : feb29 2104 = 70561440 := by decide
  refine .inl ⟨rfl, by decide, by decide, by rw [← e1]; exact feb29_mt (by decide) (by decide) (by decide), fun k h1 h2 hM => ?_⟩
  obtain ⟨y, hy, rfl⟩ := eLeap_is hM
  have hl : 2096 < y := by
    refine Int.not_le.1 fun hle => ?_
    have := bef_le hle
    have e2 : bef 2096 = 765183 := by decide
    unfold feb29 at h1; omega
  have hr : y < 2104 := by
    refine Int.not_le.1 fun hle => ?_
    have := bef_le hle
    have e2 : bef 2104 = 768104 := by decide
    unfold feb29 at h2; omega
  rcases (by omega : y = 2097 ∨ y = 2098 ∨ y = 2099 ∨ y = 2100 ∨ y = 2101 ∨ y = 2102 ∨ y = 2103) with rfl | rfl | rfl | rfl | rfl | rfl | rfl <;> revert hy <;> decide
end Go.Proofs.YtdojpnhjnhecmaaDoor
