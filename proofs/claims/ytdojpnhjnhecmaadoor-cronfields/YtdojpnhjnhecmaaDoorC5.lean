/- The chapter's example; of a minute whose date is known. -/
import Derived.Test.YtdojpnhjnhecmaaDoorC4
namespace Go.Proofs.YtdojpnhjnhecmaaDoor
open Go Go.RowKit
theorem IsAt.uniq {n y m d h mi wd y' m' d' h' mi' wd' : Int} (a : IsAt n y m d h mi wd) (b : IsAt n y' m' d' h' mi' wd') : y = y' ∧ m = m' ∧ d = d' ∧ h = h' ∧ mi = mi' ∧ wd = wd' := by
  obtain ⟨h1, h2, h3⟩ := a.date.uniq b.date
  exact ⟨h1, h2, h3, a.hour.trans b.hour.symm, a.minute.trans b.minute.symm, a.wday.trans b.wday.symm⟩
theorem of_at {n y m d h mi wd : Int} (hA : IsAt n y m d h mi wd) (w : World) (hT : HasT w) (h0 : -1035593280 ≤ n) (h1 : n ≤ 4223371679) :
    Calls Tryd.prog 23 #[.int .i64 n] w fun e w' => e = .returned (.tuple #[dateV y m d h mi wd, .int .i64 0]) ∧ Below w.heap.size w w' := by
  refine (of_yes n w hT h0 h1).mono ?_
  rintro e w' ⟨⟨y', m', d', h', mi', wd', rfl, hB⟩, hb⟩
  obtain ⟨rfl, rfl, rfl, rfl, rfl, rfl⟩ := hA.uniq hB
  exact ⟨rfl, hb⟩
theorem at0 : IsAt 0 1970 1 1 0 0 4 := ⟨⟨by decide, by decide, by decide, by decide, by decide, by decide⟩, by decide, by decide, by decide⟩
theorem at1 : IsAt (-1) 1969 12 31 23 59 3 := ⟨⟨by decide, by decide, by decide, by decide, by decide, by decide⟩, by decide, by decide, by decide⟩
end Go.Proofs.YtdojpnhjnhecmaaDoor
