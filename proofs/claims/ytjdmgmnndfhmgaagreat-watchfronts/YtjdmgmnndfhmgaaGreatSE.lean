/- SameEvents of two rows that are the same. -/
import Derived.Test.YtjdmgmnndfhmgaaGreatGRX
namespace Go.Proofs.YtjdmgmnndfhmgaaGreat
open Go Go.RowKit
theorem stood35 : Tryz.prog.stoodInHeld 61 = false := by kernel_rfl
theorem stood37 : Tryz.prog.stoodInHeld 63 = false := by kernel_rfl
section
variable (a0 a1 a2 a3 a4 a5 a6 a7 : Value) (w : World)
theorem p35_0 : (part 9 #[a0, a1, a2, a3, a4, a5] 0).run Tryz.prog w = .ok a0 w := by kernel_rfl
theorem p35_1 : (part 9 #[a0, a1, a2, a3, a4, a5] 1).run Tryz.prog w = .ok a1 w := by kernel_rfl
theorem p35_2 : (part 3 #[a0, a1, a2, a3, a4, a5] 2).run Tryz.prog w = .ok a2 w := by kernel_rfl
theorem p35_3 : (part 3 #[a0, a1, a2, a3, a4, a5] 3).run Tryz.prog w = .ok a3 w := by kernel_rfl
theorem p35_4 : (part 3 #[a0, a1, a2, a3, a4, a5] 4).run Tryz.prog w = .ok a4 w := by kernel_rfl
theorem p35_5 : (part 3 #[a0, a1, a2, a3, a4, a5] 5).run Tryz.prog w = .ok a5 w := by kernel_rfl
theorem p37_0 : (part 3 #[a0, a1, a2, a3, a4, a5, a6, a7] 0).run Tryz.prog w = .ok a0 w := by kernel_rfl
theorem p37_1 : (part 4 #[a0, a1, a2, a3, a4, a5, a6, a7] 1).run Tryz.prog w = .ok a1 w := by kernel_rfl
theorem p37_2 : (part 61 #[a0, a1, a2, a3, a4, a5, a6, a7] 2).run Tryz.prog w = .ok (.agg #[a2, a3, a4, a5, a6, a7]) w := by kernel_rfl
end
theorem eqBool (n : Nat) (a : Bool) (w : World) : (Op.equalIn (n + 1) 4 (.bool a) (.bool a)).run Tryz.prog w = .ok true w := by
  unfold Op.equalIn
  simp [run_underlying Tryz.underlying4]
theorem eq35 (k : KVd) (w : World) : (Op.equalIn (9998 + 1) 61 (encKV k) (encKV k)).run Tryz.prog w = .ok true w := by
  obtain ⟨a, b, c, d, e, f⟩ := k
  have s1 := eqStr 9997 a a w
  have s2 := eqStr 9997 b b w
  have b1 : (a == a) = true := (MapKept.bytes_beq a a).2 rfl
  have b2 : (b == b) = true := (MapKept.bytes_beq b b).2 rfl
  rw [b1] at s1
  rw [b2] at s2
  have i1 := eqInt 9997 c c w
  have i2 := eqInt 9997 d d w
  have i3 := eqInt 9997 e e w
  have i4 := eqInt 9997 f f w
  unfold Op.equalIn
  dsimp only [encKV]
  simp only [Sem.run_bind, run_underlying Tryz.underlying61, Result.andThen, run_program, stood35]
  simp [p35_0, p35_1, p35_2, p35_3, p35_4, p35_5, s1, s2, i1, i2, i3, i4, Result.andThen]
theorem eq37 (r : Int) (d : Bool) (k : KVd) (w : World) : (Op.equal 63 (.agg (evC r d k)) (.agg (evC r d k))).run Tryz.prog w = .ok true w := by
  show (Op.equalIn (9999 + 1) 63 _ _).run Tryz.prog w = _
  have i1 := eqInt 9998 r r w
  have b1 := eqBool 9998 d w
  have k1 := eq35 k w
  simp only [encKV] at k1
  unfold Op.equalIn
  dsimp only [evC]
  simp only [Sem.run_bind, run_underlying Tryz.underlying63, Result.andThen, run_program, stood37]
  simp [p37_0, p37_1, p37_2, i1, b1, k1, Result.andThen]
set_option maxRecDepth 100000 in
set_option maxHeartbeats 1000000 in
/-- Two rows of the same changes are the same. -/
theorem same_evs {w : World} {va vb : Value} {l : List Evd} (ha : EVs w va l) (hb : EVs w vb l) (hl : l.length ≤ 1000000) : Calls Tryz.prog 25 #[va, vb] w fun e w' => e = .returned (.bool true) ∧ Below w.heap.size w w' := by
  obtain ⟨pa, ca, rfl, hca, hA⟩ := ha
  obtain ⟨pb, cb, rfl, hcb, hB⟩ := hb
  have HA := Hid.mkW hA
  have HB := Hid.mkW hB
  clear hA hB
  go_enter Tryz.func25, Tryz.ntmps25
  go_wp2
  go_loopg [5] (l.length + 1) (fun kx s5 wr => ∃ i : Nat, s5 = .int .i64 i ∧ kx + i = l.length + 1 ∧ i ≤ l.length ∧ Hid (Below w.heap.size w wr))
  case atStart => exact ⟨0, rfl, rfl, Nat.zero_le _, Below.refl _ _⟩
  case round =>
    obtain ⟨i, rfl, hkx, hi, HM⟩ := hrel
    by_cases hlt : i < l.length
    · obtain ⟨ev, hev⟩ : ∃ ev, l[i]? = some ev := ⟨_, List.getElem?_eq_getElem hlt⟩
      obtain ⟨ga, rfl, la, hca'⟩ := HA.out i ev hev
      obtain ⟨gb, rfl, lb, hcb'⟩ := HB.out i ev hev
      have heq := eq37 ev.1 ev.2.2.isNone (evKV ev.1 ev.2.1 ev.2.2)
      have qa : ∀ t u, t < 8 → (evL ev)[t]? = some u → wr.drew.cell? ⟨ga, i * 8 + t, none⟩ = some u := fun t u ht hu => (HM.out.cell (p := ⟨ga, i * 8 + t, none⟩) la).trans (hca' t u ht hu)
      have qb : ∀ t u, t < 8 → (evL ev)[t]? = some u → wr.drew.cell? ⟨gb, i * 8 + t, none⟩ = some u := fun t u ht hu => (HM.out.cell (p := ⟨gb, i * 8 + t, none⟩) lb).trans (hcb' t u ht hu)
      have c0 := qa 0 _ (by omega) rfl
      have c1 := qa 1 _ (by omega) rfl
      have c2 := qa 2 _ (by omega) rfl
      have c3 := qa 3 _ (by omega) rfl
      have c4 := qa 4 _ (by omega) rfl
      have c5 := qa 5 _ (by omega) rfl
      have c6 := qa 6 _ (by omega) rfl
      have c7 := qa 7 _ (by omega) rfl
      have d0 := qb 0 _ (by omega) rfl
      have d1 := qb 1 _ (by omega) rfl
      have d2 := qb 2 _ (by omega) rfl
      have d3 := qb 3 _ (by omega) rfl
      have d4 := qb 4 _ (by omega) rfl
      have d5 := qb 5 _ (by omega) rfl
      have d6 := qb 6 _ (by omega) rfl
      have d7 := qb 7 _ (by omega) rfl
      clear qa qb hev hca' hcb'
      generalize evKV ev.1 ev.2.1 ev.2.2 = kv at *
      generalize ev.2.2.isNone = dl at *
      generalize ev.1 = r at *
      obtain ⟨xk, xv, xc, xm, xe, xl⟩ := kv
      simp only [Nat.add_zero] at c0 d0
      dsimp only [evC] at heq
      dsimp only at c2 c3 c4 c5 c6 c7 d2 d3 d4 d5 d6 d7
      go_upto_region 6 with fail
      go_region
      all_goals
        go_wp2
        go_roundg (l.length - i)
        case measure => omega
        case rel => exact ⟨i + 1, by congr 1, by omega, by omega, HM.out.drew⟩
    · obtain rfl : i = l.length := by omega
      go_wp2
      go_ret
      exact ⟨rfl, HM.out⟩
end Go.Proofs.YtjdmgmnndfhmgaaGreat
