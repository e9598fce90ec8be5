/- Two rows of the same entries are told to be the same: SameEntries. -/
import Derived.Test.YtecnlfalpfbobaaGreatDoorWL7
import Derived.BigQuiet
namespace Go.Proofs.YtecnlfalpfbobaaGreatDoor
open Go Go.RowKit
set_option maxRecDepth 100000 in
set_option maxHeartbeats 4000000 in
theorem same_any (v u : Value) (xs ys : List Ev) (w : World) (hx : SeesE w v xs) (hy : SeesE w u ys) (he : xs.map Ev.e = ys.map Ev.e) (hn : xs.length ≤ 100000) :
    Calls Tryz.prog 37 #[v, u] w fun e w' => e = .returned (.bool true) ∧ Below w.heap.size w w' := by
  obtain ⟨ao, cp, rfl, hcm⟩ := hx.form
  obtain ⟨bo, bp, rfl, hbm⟩ := hy.form
  have hlen : ys.length = xs.length := by have := congrArg List.length he; simpa using this.symm
  have HX := Hid.mk' hx
  have HY := Hid.mk' hy
  have HE := Hid.mk' he
  obtain ⟨n, hnn⟩ : ∃ n, n = xs.length := ⟨_, rfl⟩
  have HN := Hid.mk' hnn
  have HNY : Hid (n = ys.length) := hnn.trans hlen.symm
  rw [hlen, ← hnn]
  rw [← hnn] at hn
  clear hx hy hnn hlen he
  go_enter Tryz.func37, Tryz.ntmps37
  go_wp2
  go_loopg [5] n (fun kx s5 wr => ∃ k : Nat, s5 = .int .i64 k ∧ k ≤ n ∧ n - k ≤ kx ∧ Hid (Below w.heap.size w wr))
  case atStart => exact ⟨0, rfl, Nat.zero_le _, by omega, Hid.mk' (Below.refl _ _)⟩
  case round =>
    obtain ⟨k, rfl, hk, hkx, HB⟩ := hrel
    by_cases hlt : k < n
    · have hkr : k < xs.length := by rw [← HN.out]; exact hlt
      have hky : k < ys.length := by rw [← HNY.out]; exact hlt
      have hX2 := HX.out.below HB.out
      have hY2 := HY.out.below HB.out
      obtain ⟨g, off, rfl, e0, e1, e2, e3⟩ := hX2.at_ k hkr
      obtain ⟨g', off', rfl, f0, f1, f2, f3⟩ := hY2.at_ k hky
      have hxo := (hX2.ok _ (List.getElem_mem hkr)).1.sees
      have hyo := (hY2.ok _ (List.getElem_mem hky)).1.sees
      have hxy : ys[k].e = xs[k].e := by
        have h1 : (xs.map Ev.e)[k]? = (ys.map Ev.e)[k]? := by rw [HE.out]
        simp only [List.getElem?_map, List.getElem?_eq_getElem hkr, List.getElem?_eq_getElem hky, Option.map_some, Option.some.injEq] at h1
        exact h1.symm
      rw [hxy] at f0 f1 f2 hyo
      have q1 := fun j => conv_sees (hxo.below (below_drewN (Below.refl _ wr) j))
      have q2 := fun j => conv_sees (hyo.below (below_drewN (Below.refl _ wr) j))
      obtain ⟨xo, xc, hxv⟩ := hxo.form
      obtain ⟨yo, yc, hyv⟩ := hyo.form
      rw [hxv] at e3 q1
      rw [hyv] at f3 q2
      generalize xs[k].e = x at *
      generalize strOfNums x.d = S at *
      generalize x.d.length = m at *
      clear hX2 hY2 hxo hyo hxy hxv hyv hkr hky
      have hdl : decide ((k : Int) < (n : Int)) = true := by rw [decide_eq_true_eq]; omega
      go_wp2_with fail
      go_quiet (fail)
      go_wp2_with fail
      go_roundg (n - (k + 1))
      case measure => omega
      case rel => exact ⟨k + 1, rfl, by omega, by omega, Hid.mk' (below_drewN HB.out _)⟩
    · obtain rfl : k = n := by omega
      go_wp2
      go_ret
      exact ⟨rfl, HB.out⟩
end Go.Proofs.YtecnlfalpfbobaaGreatDoor
