/- What refuseEntries says of entries that a log takes. -/
import Derived.Test.YtecnlfalpfbobaaGreatDoorWC9
namespace Go.Proofs.YtecnlfalpfbobaaGreatDoor
open Go Go.RowKit
/-- Entries that a log takes. -/
structure Takes (s : Sm) (xs : List Ev) : Prop where
  each : ∀ x ∈ xs, 1 ≤ x.e.i ∧ x.e.i ≤ 9223372036854775807 ∧ 0 ≤ x.e.t ∧ 0 ≤ x.e.k ∧ x.e.k ≤ 2 ∧ x.e.d.length ≤ 65536
  first : ∀ (h : 0 < xs.length), xs[0].e.i - 1 ≤ s.last ∧ s.mi < xs[0].e.i
  next : ∀ j (h : j + 1 < xs.length), xs[j + 1].e.i - 1 = xs[j].e.i
set_option maxRecDepth 100000 in
set_option maxHeartbeats 4000000 in
theorem refuseEntries_ok (B l : Nat) (s : Sm) (ev v : Value) (xs : List Ev) (w : World) (hm : Smem B w l 1 s ev) (hx : SeesE w v xs) (ht : Takes s xs) (hn : xs.length ≤ 100000) :
    Calls Tryz.prog 90 #[ptr l, v] w fun e w' => e = .returned (.int .i64 0) ∧ Below w.heap.size w w' := by
  obtain ⟨ao, cp, rfl, hcm⟩ := hx.form
  have HX := Hid.mk' hx
  have HT := Hid.mk' ht
  have HM := Hid.mk' hm
  have hla := last_any B l 1 s ev w hm
  obtain ⟨n, hnn⟩ : ∃ n, n = xs.length := ⟨_, rfl⟩
  have HN := Hid.mk' hnn
  rw [← hnn] at hn ⊢
  clear hx ht hm hnn
  go_enter Tryz.func90, Tryz.ntmps90
  go_wp2_with (go_at_call 125; refine hla.mono ?_; rintro e w1 ⟨rfl, q, hq⟩; have HB1 : Hid (Below w.heap.size w w1) := (by rw [hq]; exact below_drewN (Below.refl _ _) q); clear hq)
  obtain ⟨L, hL⟩ : ∃ L, L = s.last := ⟨_, rfl⟩
  rw [← hL]
  have HLL := Hid.mk' hL
  clear hL hla
  go_loopg [14] n (fun kx s14 wr => ∃ k : Nat, s14 = .int .i64 k ∧ k ≤ n ∧ n - k ≤ kx ∧ Hid (Below w.heap.size w wr))
  case atStart => exact ⟨0, rfl, Nat.zero_le _, by omega, HB1⟩
  case round =>
    obtain ⟨k, rfl, hk, hkx, HB⟩ := hrel
    by_cases hlt : k < n
    · have hkr : k < xs.length := by rw [← HN.out]; exact hlt
      have hX2 := HX.out.below HB.out
      obtain ⟨g, off, rfl, e0, e1, e2, e3⟩ := hX2.at_ k hkr
      have hxo := hX2.ok _ (List.getElem_mem hkr)
      obtain ⟨xo, xc, hxv⟩ := hxo.1.sees.form
      obtain ⟨t1, t2, t3, t4, t5, t6⟩ := HT.out.each _ (List.getElem_mem hkr)
      have c3 := (HM.out.below HB.out).cells.c3
      simp only [Nat.reduceAdd] at c3
      rw [hxv] at e3
      have hwr : Hid (∀ o, Below w.heap.size w (wr.alloc o)) := fun o => HB.out.alloc HB.out.size o
      have hml := (HM.out.below HB.out).cells.lt
      have c3a : ∀ o1, (wr.alloc o1).cell? ⟨l, 4, none⟩ = some (.int .i64 s.mi) := fun o1 => (((Below.refl _ wr).alloc (Nat.le_refl _) o1).cell (p := ⟨l, 4, none⟩) hml).trans c3
      cases k with
      | zero =>
        obtain ⟨f1, f2⟩ := HT.out.first hkr
        rw [← HLL.out] at f1
        have hg1 : decide (xs[0].e.i < 1) = false := by rw [decide_eq_false_iff_not]; omega
        have hg2 : decide (xs[0].e.t < 0) = false := by rw [decide_eq_false_iff_not]; omega
        have hg3 : decide (xs[0].e.k < 0) = false := by rw [decide_eq_false_iff_not]; omega
        have hg4 : decide (2 < xs[0].e.k) = false := by rw [decide_eq_false_iff_not]; omega
        have hg5 : decide ((65536 : Int) < (xs[0].e.d.length : Nat)) = false := by rw [decide_eq_false_iff_not]; omega
        have hg6 : decide (65536 < xs[0].e.d.length) = false := by rw [decide_eq_false_iff_not]; omega
        have hg7 : decide (L < xs[0].e.i - 1) = false := by rw [decide_eq_false_iff_not]; omega
        have hg8 : decide (xs[0].e.i ≤ s.mi) = false := by rw [decide_eq_false_iff_not]; omega
        simp only [Nat.zero_mul, Nat.add_zero] at e0 e1 e2 e3
        generalize xs[0] = x at *
        clear hxo hxv hX2 hkr f1 f2
        go_wp2_with fail
        go_quiet (fail)
        go_wp2_with fail
        go_quiet (fail)
        go_wp2_with fail
        go_roundg (n - 1)
        case measure => omega
        case rel => exact ⟨1, rfl, by omega, by omega, Hid.mk' (below_drewN (hwr.out _) _)⟩
      | succ j =>
        have hj : j < xs.length := by omega
        have hnx := HT.out.next j hkr
        obtain ⟨g', off', eg, d0, _, _, _⟩ := hX2.at_ j hj
        simp only [Option.some.injEq, Addr.mk.injEq, and_true] at eg
        obtain ⟨rfl, rfl⟩ := eg
        have hg1 : decide (xs[j + 1].e.i < 1) = false := by rw [decide_eq_false_iff_not]; omega
        have hg2 : decide (xs[j + 1].e.t < 0) = false := by rw [decide_eq_false_iff_not]; omega
        have hg3 : decide (xs[j + 1].e.k < 0) = false := by rw [decide_eq_false_iff_not]; omega
        have hg4 : decide (2 < xs[j + 1].e.k) = false := by rw [decide_eq_false_iff_not]; omega
        have hg5 : decide ((65536 : Int) < (xs[j + 1].e.d.length : Nat)) = false := by rw [decide_eq_false_iff_not]; omega
        have hg6 : decide (65536 < xs[j + 1].e.d.length) = false := by rw [decide_eq_false_iff_not]; omega
        have hg7 : (xs[j + 1].e.i - 1 != xs[j].e.i) = false := by rw [bne_eq_false_iff_eq]; exact hnx
        have hz : (((j : Int) + 1) == 0) = false := by rw [beq_eq_false_iff_ne]; omega
        have hz2 : decide (0 < (j : Int) + 1) = true := by rw [decide_eq_true_eq]; omega
        generalize xs[j + 1] = x at *
        generalize xs[j] = y at *
        have hd0 : ∀ o1, (wr.alloc o1).cell? ⟨g, off + j * 4, none⟩ = some (.int .i64 y.e.i) := fun o1 => (((Below.refl _ wr).alloc (Nat.le_refl _) o1).cell (p := ⟨g, off + j * 4, none⟩) (World.block_lt_of_cell? _ _ d0)).trans d0
        clear hxo hxv hX2 hkr hnx
        go_wp2_with fail
        go_quiet (fail)
        go_wp2_with fail
        go_quiet (fail)
        go_wp2_with fail
        go_roundg (n - (j + 1 + 1))
        case measure => omega
        case rel => exact ⟨j + 1 + 1, rfl, by omega, by omega, Hid.mk' (below_drewN (hwr.out _) _)⟩
    · obtain rfl : k = n := by omega
      go_wp2
      go_ret
      exact ⟨rfl, HB.out⟩
end Go.Proofs.YtecnlfalpfbobaaGreatDoor
