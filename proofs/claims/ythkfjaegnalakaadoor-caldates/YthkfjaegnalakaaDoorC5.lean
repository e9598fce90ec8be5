/- The chapter's example; of a minute whose date is known. -/
import Derived.Test.YthkfjaegnalakaaDoorC4
namespace Go.Proofs.YthkfjaegnalakaaDoor
open Go Go.RowKit
theorem IsAt.uniq {n y m d h mi wd y' m' d' h' mi' wd' : Int} (a : IsAt n y m d h mi wd) (b : IsAt n y' m' d' h' mi' wd') : y = y' ∧ m = m' ∧ d = d' ∧ h = h' ∧ mi = mi' ∧ wd = wd' := by
  obtain ⟨h1, h2, h3⟩ := a.date.uniq b.date
  exact ⟨h1, h2, h3, a.hour.trans b.hour.symm, a.minute.trans b.minute.symm, a.wday.trans b.wday.symm⟩
theorem of_at {n y m d h mi wd : Int} (hA : IsAt n y m d h mi wd) (w : World) (hT : HasT w) (h0 : -1035593280 ≤ n) (h1 : n ≤ 4223371679) :
    Calls Tryd.prog 9 #[.int .i64 n] w fun e w' => e = .returned (.tuple #[dateV y m d h mi wd, .int .i64 0]) ∧ Below w.heap.size w w' := by
  refine (of_yes n w hT h0 h1).mono ?_
  rintro e w' ⟨⟨y', m', d', h', mi', wd', rfl, hB⟩, hb⟩
  obtain ⟨rfl, rfl, rfl, rfl, rfl, rfl⟩ := hA.uniq hB
  exact ⟨rfl, hb⟩
theorem at0 : IsAt 0 1970 1 1 0 0 4 := ⟨⟨by decide, by decide, by decide, by decide, by decide, by decide⟩, by decide, by decide, by decide⟩
theorem at1 : IsAt (-1) 1969 12 31 23 59 3 := ⟨⟨by decide, by decide, by decide, by decide, by decide, by decide⟩, by decide, by decide, by decide⟩
set_option maxHeartbeats 1000000 in
theorem known_any (w : World) (hT : HasT w) : Calls Tryd.prog 8 #[] w fun e w' => e = .returned (.bool true) ∧ Below w.heap.size w w' := by
  have h1 := of_at at0 w hT (by decide) (by decide)
  have h2 := fun W (hW : Below w.heap.size w W) => of_at at1 W (hT.below hW) (by decide) (by decide)
  have H2 := Hid.mk' h2
  clear h2
  go_enter Tryd.func8, Tryd.ntmps8
  go_wp2_with fail
  refine h1.mono ?_
  rintro e w1 ⟨rfl, hb1⟩
  have h2 := fun o => H2.out (w1.alloc o) (hb1.alloc hb1.size o)
  have HB1 := Hid.mk' hb1
  have hs1 := hb1.size
  clear h1 H2 hb1
  go_wp2_with fail
  refine (h2 _).mono ?_
  rintro e w2 ⟨rfl, hb2⟩
  have hs2 := hb2.size
  have HB2 : Hid (Below w.heap.size w w2) := (HB1.out.alloc hs1 _).trans (hb2.mono (by simp; omega))
  have hrow := (hb2.block w1.heap.size (by simp)).trans (heap_alloc_new w1 _)
  have k0 : w2.cell? ⟨w1.heap.size, 0, none⟩ = some (.int .i64 1970) := (cell_of_row _ _ _ _ _ _ hrow).trans rfl
  have k1 : w2.cell? ⟨w1.heap.size, 1, none⟩ = some (.int .i64 1) := (cell_of_row _ _ _ _ _ _ hrow).trans rfl
  have k2 : w2.cell? ⟨w1.heap.size, 2, none⟩ = some (.int .i64 1) := (cell_of_row _ _ _ _ _ _ hrow).trans rfl
  have k3 : w2.cell? ⟨w1.heap.size, 3, none⟩ = some (.int .i64 0) := (cell_of_row _ _ _ _ _ _ hrow).trans rfl
  have k4 : w2.cell? ⟨w1.heap.size, 4, none⟩ = some (.int .i64 0) := (cell_of_row _ _ _ _ _ _ hrow).trans rfl
  have k5 : w2.cell? ⟨w1.heap.size, 5, none⟩ = some (.int .i64 4) := (cell_of_row _ _ _ _ _ _ hrow).trans rfl
  have hlt : w1.heap.size < w2.heap.size := by simp at hs2; omega
  clear hrow h2 hb2 hs2
  go_wp2
  go_ret
  exact ⟨rfl, HB2.out.alloc HB2.out.size _⟩
end Go.Proofs.YthkfjaegnalakaaDoor
