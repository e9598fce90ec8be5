/- Two lists of keys that are the same are told to be; so are two replies. -/
import Derived.Test.YtcghaepjklmggaaFK
namespace Go.Proofs.Ytcghaepjklmggaa
open Go Go.RowKit
theorem eqInt (n : Nat) (a b : Int) (w : World) : (Op.equalIn (n + 1) 3 (.int .i64 a) (.int .i64 b)).run Try.prog w = .ok (a == b) w := by
  unfold Op.equalIn
  simp [run_underlying Try.underlying3, Result.andThen]
theorem eqStr (n : Nat) (a b : ByteArray) (w : World) : (Op.equalIn (n + 1) 9 (.string a) (.string b)).run Try.prog w = .ok (a == b) w := by
  unfold Op.equalIn
  simp [run_underlying Try.underlying9, Result.andThen]
theorem stood68 : Try.prog.stoodInHeld 68 = false := by kernel_rfl
section
variable (a0 a1 a2 a3 a4 a5 : Value) (w : World)
theorem p68_0 : (part 9 #[a0, a1, a2, a3, a4, a5] 0).run Try.prog w = .ok a0 w := by kernel_rfl
theorem p68_1 : (part 9 #[a0, a1, a2, a3, a4, a5] 1).run Try.prog w = .ok a1 w := by kernel_rfl
theorem p68_2 : (part 3 #[a0, a1, a2, a3, a4, a5] 2).run Try.prog w = .ok a2 w := by kernel_rfl
theorem p68_3 : (part 3 #[a0, a1, a2, a3, a4, a5] 3).run Try.prog w = .ok a3 w := by kernel_rfl
theorem p68_4 : (part 3 #[a0, a1, a2, a3, a4, a5] 4).run Try.prog w = .ok a4 w := by kernel_rfl
theorem p68_5 : (part 3 #[a0, a1, a2, a3, a4, a5] 5).run Try.prog w = .ok a5 w := by kernel_rfl
end
theorem eq68 (k : KVd) (w : World) : (Op.equal 68 (encKV k) (encKV k)).run Try.prog w = .ok true w := by
  obtain ⟨a, b, c, d, e, f⟩ := k
  show (Op.equalIn (9999 + 1) 68 _ _).run Try.prog w = _
  have s1 := eqStr 9998 a a w
  have s2 := eqStr 9998 b b w
  have b1 : (a == a) = true := (MapKept.bytes_beq a a).2 rfl
  have b2 : (b == b) = true := (MapKept.bytes_beq b b).2 rfl
  rw [b1] at s1
  rw [b2] at s2
  have i1 := eqInt 9998 c c w
  have i2 := eqInt 9998 d d w
  have i3 := eqInt 9998 e e w
  have i4 := eqInt 9998 f f w
  unfold Op.equalIn
  dsimp only [encKV]
  simp only [Sem.run_bind, run_underlying Try.underlying68, Result.andThen, run_program, stood68]
  simp [p68_0, p68_1, p68_2, p68_3, p68_4, p68_5, s1, s2, i1, i2, i3, i4, Result.andThen]
set_option maxRecDepth 100000 in
set_option maxHeartbeats 1000000 in
/-- Two rows of the same keys are the same. -/
theorem same_kvs {Za Zb : Nat → Prop} {w : World} {va vb : Value} {l : List KVd} (ha : KVs Za w va l) (hb : KVs Zb w vb l) (hl : l.length ≤ 2199023255552) : Calls Try.prog 17 #[va, vb] w fun e w' => e = .returned (.bool true) ∧ Below w.heap.size w w' := by
  obtain ⟨pa, ca, rfl, hA⟩ := ha
  obtain ⟨pb, cb, rfl, hB⟩ := hb
  have HA := Hid.mk'' hA
  have HB := Hid.mk'' hB
  clear hA hB
  go_enter Try.func17, Try.ntmps17
  go_wp2
  go_loopg [5] (l.length + 1) (fun kx s5 wr => ∃ i : Nat, s5 = .int .i64 i ∧ kx + i = l.length + 1 ∧ i ≤ l.length ∧ Hid (Below w.heap.size w wr))
  case atStart => exact ⟨0, rfl, rfl, Nat.zero_le _, Below.refl _ _⟩
  case round =>
    obtain ⟨i, rfl, hkx, hi, HM⟩ := hrel
    by_cases hlt : i < l.length
    · obtain ⟨kv, hkv⟩ : ∃ kv, l[i]? = some kv := ⟨_, List.getElem?_eq_getElem hlt⟩
      obtain ⟨ga, oa, rfl, _, la, a0, a1, a2, a3, a4, a5, _, _⟩ := HA.out i kv hkv
      obtain ⟨gb, ob, rfl, _, lb, b0, b1, b2, b3, b4, b5, _, _⟩ := HB.out i kv hkv
      have heq := eq68 kv
      obtain ⟨kk, kvv, kcr, kmo, kve, kle⟩ := kv
      dsimp only [encKV] at *
      have qa : ∀ t, wr.drew.cell? ⟨ga, t, none⟩ = w.cell? ⟨ga, t, none⟩ := fun t => HM.out.cell (p := ⟨ga, t, none⟩) la
      have qb : ∀ t, wr.drew.cell? ⟨gb, t, none⟩ = w.cell? ⟨gb, t, none⟩ := fun t => HM.out.cell (p := ⟨gb, t, none⟩) lb
      have c0 := (qa _).trans a0
      have c1 := (qa _).trans a1
      have c2 := (qa _).trans a2
      have c3 := (qa _).trans a3
      have c4 := (qa _).trans a4
      have c5 := (qa _).trans a5
      have d0 := (qb _).trans b0
      have d1 := (qb _).trans b1
      have d2 := (qb _).trans b2
      have d3 := (qb _).trans b3
      have d4 := (qb _).trans b4
      have d5 := (qb _).trans b5
      clear a0 a1 a2 a3 a4 a5 b0 b1 b2 b3 b4 b5 qa qb hkv
      go_upto_region 6 with fail
      go_region
      all_goals
        go_wp2
        go_roundg (l.length - i)
        case measure => omega
        case rel => exact ⟨i + 1, by congr 1, by omega, by omega, HM.out.drew⟩
    · obtain rfl : i = l.length := by omega
      go_wp2
      go_ret
      exact ⟨rfl, HM.out⟩
set_option maxRecDepth 100000 in
set_option maxHeartbeats 2000000 in
/-- Two replies that are the same. -/
theorem same_rep {Za Zb : Nat → Prop} {w : World} {r : Rp} {va vb : Value} {rs : List Rs} (ha : RSs Za w va rs) (hb : RSs Zb w vb rs) (hl : rs.length ≤ 5) : Calls Try.prog 10 #[repV r va, repV r vb] w fun e w' => e = .returned (.bool true) ∧ Below w.heap.size w w' := by
  obtain ⟨W0, hW0⟩ : ∃ W0, W0 = (w.alloc (.cells #[.int .i64 r.err, .int .i64 r.rev, .bool r.thn, va, .int .i64 r.tim] 33)).alloc (.cells #[.int .i64 r.err, .int .i64 r.rev, .bool r.thn, vb, .int .i64 r.tim] 33) := ⟨_, rfl⟩
  have hb0 : Below w.heap.size w W0 := by rw [hW0]; exact ((Below.refl _ _).alloc (Nat.le_refl _) _).alloc (by simp) _
  have k0 : W0.heap[w.heap.size]? = some (.cells #[.int .i64 r.err, .int .i64 r.rev, .bool r.thn, va, .int .i64 r.tim] 33 (0, 0)) := by
    rw [hW0]
    have := heap_alloc_new w (.cells #[.int .i64 r.err, .int .i64 r.rev, .bool r.thn, va, .int .i64 r.tim] 33)
    rw [← this]
    exact Below.heap_alloc _ _ _ (by simp)
  have k1 : W0.heap[w.heap.size + 1]? = some (.cells #[.int .i64 r.err, .int .i64 r.rev, .bool r.thn, vb, .int .i64 r.tim] 33 (0, 0)) := by
    rw [hW0]
    have := heap_alloc_new (w.alloc (.cells #[.int .i64 r.err, .int .i64 r.rev, .bool r.thn, va, .int .i64 r.tim] 33)) (.cells #[.int .i64 r.err, .int .i64 r.rev, .bool r.thn, vb, .int .i64 r.tim] 33)
    simpa using this
  have hA0 := ha.below hb0
  have hB0 := hb.below hb0
  obtain ⟨pa, ca, rfl, _⟩ := ha
  obtain ⟨pb, cb, rfl, _⟩ := hb
  obtain ⟨_, _, ea, hA⟩ := hA0
  obtain ⟨_, _, eb, hB⟩ := hB0
  simp only [Value.slice.injEq, true_and] at ea eb
  obtain ⟨rfl, rfl⟩ := ea
  obtain ⟨rfl, rfl⟩ := eb
  go_enter Try.func10, Try.ntmps10
  go_upto_region 1 with fail
  rw [← hW0]
  obtain ⟨bx, hbx⟩ : ∃ bx, bx = w.heap.size := ⟨_, rfl⟩
  rw [← hbx] at k0 k1 ⊢
  have x0 : W0.cell? ⟨bx, 0, none⟩ = some (.int .i64 r.err) := cell_of_row _ _ _ _ _ _ k0
  have x1 : W0.cell? ⟨bx, 1, none⟩ = some (.int .i64 r.rev) := cell_of_row _ _ _ _ _ _ k0
  have x2 : W0.cell? ⟨bx, 2, none⟩ = some (.bool r.thn) := cell_of_row _ _ _ _ _ _ k0
  have x3 : W0.cell? ⟨bx, 3, none⟩ = some (.slice pa rs.length ca) := cell_of_row _ _ _ _ _ _ k0
  have x4 : W0.cell? ⟨bx, 4, none⟩ = some (.int .i64 r.tim) := cell_of_row _ _ _ _ _ _ k0
  have y0 : W0.cell? ⟨bx + 1, 0, none⟩ = some (.int .i64 r.err) := cell_of_row _ _ _ _ _ _ k1
  have y1 : W0.cell? ⟨bx + 1, 1, none⟩ = some (.int .i64 r.rev) := cell_of_row _ _ _ _ _ _ k1
  have y2 : W0.cell? ⟨bx + 1, 2, none⟩ = some (.bool r.thn) := cell_of_row _ _ _ _ _ _ k1
  have y3 : W0.cell? ⟨bx + 1, 3, none⟩ = some (.slice pb rs.length cb) := cell_of_row _ _ _ _ _ _ k1
  have y4 : W0.cell? ⟨bx + 1, 4, none⟩ = some (.int .i64 r.tim) := cell_of_row _ _ _ _ _ _ k1
  have n0 : (r.err != r.err) = false := by simp
  have n1 : (r.rev != r.rev) = false := by simp
  have n2 : (r.thn != r.thn) = false := by simp
  have n3 : (r.tim != r.tim) = false := by simp
  have hbl : bx < W0.heap.size := (Array.getElem?_eq_some_iff.1 k0).1
  have hbl1 : bx + 1 < W0.heap.size := (Array.getElem?_eq_some_iff.1 k1).1
  have HB0 := Hid.mk'' hb0
  have HA := Hid.mk'' hA
  have HB := Hid.mk'' hB
  clear hW0 hb0 hbx k0 k1 hA hB
  go_wp2
  go_loopg [5] (rs.length + 1) (fun kx s5 wq => ∃ i : Nat, s5 = .int .i64 i ∧ kx + i = rs.length + 1 ∧ i ≤ rs.length ∧ Hid (Below W0.heap.size W0 wq))
  case atStart => exact ⟨0, rfl, rfl, Nat.zero_le _, Below.refl _ _⟩
  case round =>
    obtain ⟨i, rfl, hkx, hi, HM⟩ := hrel
    have ax := (HM.out.cell (p := ⟨bx, 3, none⟩) hbl).trans x3
    have ay := (HM.out.cell (p := ⟨bx + 1, 3, none⟩) hbl1).trans y3
    by_cases hlt : i < rs.length
    · obtain ⟨rr, hrr⟩ : ∃ rr, rs[i]? = some rr := ⟨_, List.getElem?_eq_getElem hlt⟩
      obtain ⟨ga, oa, rfl, _, la, a0, ⟨ua, a1, a2⟩, a3⟩ := HA.out i rr hrr
      obtain ⟨gb, ob, rfl, _, lb, b0, ⟨ub, b1, b2⟩, b3⟩ := HB.out i rr hrr
      have c0 := (HM.out.cell (p := ⟨ga, _, none⟩) la).trans a0
      have c1 := (HM.out.cell (p := ⟨ga, _, none⟩) la).trans a1
      have d0 := (HM.out.cell (p := ⟨gb, _, none⟩) lb).trans b0
      have d1 := (HM.out.cell (p := ⟨gb, _, none⟩) lb).trans b1
      have hdd : Below wr.heap.size wr wr.drew := ⟨rfl, rfl, rfl, Nat.le_refl _, fun _ _ => rfl⟩
      have hcall := same_kvs ((a2.below HM.out).below hdd) ((b2.below HM.out).below hdd) a3
      have HCALL := Hid.mk'' hcall
      obtain ⟨uap, uac, rfl, _⟩ := a2
      obtain ⟨ubp, ubc, rfl, _⟩ := b2
      have nn : (rr.n != rr.n) = false := by simp
      have HBW : Hid (∀ w5, Below wr.drew.heap.size wr.drew w5 → Below W0.heap.size W0 w5) := fun w5 h5 => HM.out.trans ((hdd.trans h5).mono HM.out.size)
      have lax : bx < wr.heap.size := World.block_lt_of_cell? _ _ ax
      have lay : bx + 1 < wr.heap.size := World.block_lt_of_cell? _ _ ay
      have lac : ga < wr.heap.size := World.block_lt_of_cell? _ _ c0
      have lad : gb < wr.heap.size := World.block_lt_of_cell? _ _ d0
      clear hcall a0 a1 a3 b0 b1 b3 hrr hdd x0 x1 x2 x3 x4 y0 y1 y2 y3 y4 n0 n1 n2 n3
      go_upto_region 6 with fail
      go_region_held_law (fun W => W.cell? ⟨bx, 3, none⟩ = some (.slice (some ⟨ga, oa, none⟩) rs.length ca) ∧ W.cell? ⟨bx + 1, 3, none⟩ = some (.slice (some ⟨gb, ob, none⟩) rs.length cb) ∧ W.cell? ⟨ga, oa + i * 2, none⟩ = some (.int .i64 rr.n) ∧ W.cell? ⟨gb, ob + i * 2, none⟩ = some (.int .i64 rr.n) ∧ W.cell? ⟨ga, oa + i * 2 + 1, none⟩ = some (.slice uap rr.kvs.length uac) ∧ W.cell? ⟨gb, ob + i * 2 + 1, none⟩ = some (.slice ubp rr.kvs.length ubc)) (first | with_reducible assumption | exact ⟨ax, ay, c0, d0, c1, d1⟩ | exact ⟨e0, e1, e2, e3, e4, e5⟩)
        (first
          | (go_at_call 17; with_reducible refine HCALL.out.mono ?_; rintro e w5 ⟨rfl, bel5⟩
             have e0 := (bel5.cell (p := ⟨bx, 3, none⟩) lax).trans ax
             have e1 := (bel5.cell (p := ⟨bx + 1, 3, none⟩) lay).trans ay
             have e2 := (bel5.cell (p := ⟨ga, oa + i * 2, none⟩) lac).trans c0
             have e3 := (bel5.cell (p := ⟨gb, ob + i * 2, none⟩) lad).trans d0
             have e4 := (bel5.cell (p := ⟨ga, oa + i * 2 + 1, none⟩) lac).trans c1
             have e5 := (bel5.cell (p := ⟨gb, ob + i * 2 + 1, none⟩) lad).trans d1
             have HB5 := Hid.mk'' (HBW.out w5 bel5)
             clear bel5))
      go_wp2
      go_roundg (rs.length - i)
      case measure => omega
      case rel => exact ⟨i + 1, by congr 1, by omega, by omega, HB5.out⟩
    · obtain rfl : i = rs.length := by omega
      go_wp2
      go_ret
      exact ⟨rfl, HB0.out.trans (HM.out.mono HB0.out.size)⟩
end Go.Proofs.Ytcghaepjklmggaa
