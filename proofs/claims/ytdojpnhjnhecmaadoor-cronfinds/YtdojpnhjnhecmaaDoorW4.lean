/- CronFinds, walked. -/
import Derived.Test.YtdojpnhjnhecmaaDoorQ5
import Derived.Test.YtdojpnhjnhecmaaDoorW1
import Derived.Deep.RegionHeldLaw
namespace Go.Proofs.YtdojpnhjnhecmaaDoor
open Go Go.RowKit
/-- The program's expression and the document's, in their boxes. -/
structure TW (x : Exp) (E T : Nat) (w W : World) : Prop where
  ew : EW x E w W
  row : W.heap[T]? = some (.cells #[.int .u64 x.mi, .int .u64 x.ho, .int .u64 x.da, .int .u64 x.mo, .int .u64 x.wk, .bool x.ad, .bool x.aw] 31 (0, 0))
theorem TW.below {x : Exp} {E T : Nat} {w W W' : World} (h : TW x E T w W) (hb : Below W.heap.size W W') : TW x E T w W' := ⟨h.ew.below hb, (hb.block T (lt_of_row h.row)).trans h.row⟩
theorem TW.drew {x : Exp} {E T : Nat} {w W : World} (h : TW x E T w W) : TW x E T w W.drew := h.below (Below.refl _ _).drew
theorem TW.cells {x : Exp} {E T : Nat} {w W : World} (h : TW x E T w W) : (W.cell? ⟨E, 0, none⟩ = some (.int .u64 x.mi) ∧ W.cell? ⟨E, 1, none⟩ = some (.int .u64 x.ho) ∧ W.cell? ⟨E, 2, none⟩ = some (.int .u64 x.da) ∧ W.cell? ⟨E, 3, none⟩ = some (.int .u64 x.mo) ∧ W.cell? ⟨E, 4, none⟩ = some (.int .u64 x.wk) ∧ W.cell? ⟨E, 5, none⟩ = some (.bool x.ad) ∧ W.cell? ⟨E, 6, none⟩ = some (.bool x.aw) ∧ W.cell? ⟨T, 0, none⟩ = some (.int .u64 x.mi) ∧ W.cell? ⟨T, 1, none⟩ = some (.int .u64 x.ho) ∧ W.cell? ⟨T, 2, none⟩ = some (.int .u64 x.da) ∧ W.cell? ⟨T, 3, none⟩ = some (.int .u64 x.mo) ∧ W.cell? ⟨T, 4, none⟩ = some (.int .u64 x.wk) ∧ W.cell? ⟨T, 5, none⟩ = some (.bool x.ad) ∧ W.cell? ⟨T, 6, none⟩ = some (.bool x.aw) ∧ Hid (TW x E T w W)) := by
  obtain ⟨k0, k1, k2, k3, k4, k5, k6⟩ := h.ew.cells
  exact ⟨k0, k1, k2, k3, k4, k5, k6, cell_of_row _ _ _ _ _ _ h.row, cell_of_row _ _ _ _ _ _ h.row, cell_of_row _ _ _ _ _ _ h.row, cell_of_row _ _ _ _ _ _ h.row, cell_of_row _ _ _ _ _ _ h.row, cell_of_row _ _ _ _ _ _ h.row, cell_of_row _ _ _ _ _ _ h.row, h⟩
theorem eq5 (W : World) : (Op.equalIn 9999 29 (.agg #[.int .u64 0, .int .u64 0, .int .u64 0, .int .u64 0, .int .u64 0]) (.agg #[.int .u64 0, .int .u64 0, .int .u64 0, .int .u64 0, .int .u64 0])).run Tryd.prog W = .ok true W := by kernel_rfl
set_option maxRecDepth 100000 in
set_option maxHeartbeats 4000000 in
theorem finds_walk (s : ByteArray) (x1 x2 x3 : Int) (w : World) (hT : HasT w) (hsz : s.size ≤ 9223372036854775807) (b1 : -9223372036854775808 ≤ x1 ∧ x1 ≤ 9223372036854775807) (b2 : -9223372036854775808 ≤ x2 ∧ x2 ≤ 9223372036854775807) (b3 : -9223372036854775808 ≤ x3 ∧ x3 ≤ 9223372036854775807) :
    Calls Tryd.prog 4 #[.string s, .int .i64 x1, .int .i64 x2, .int .i64 x3] w fun e w' => e = .returned (.bool true) ∧ Below w.heap.size w w' := by
  have hkn := known_any w hT
  have HT : Hid (∀ w3, Below w.heap.size w w3 → HasT w3) := fun w3 h => hT.below h
  clear hT
  by_cases hl : 100 < s.size
  · have hp : ∀ W, Calls Tryd.prog 10 #[.string s] W _ := fun W => parse_long s W hl hsz
    have hl' : (100 : Int) < (s.size : Int) := by omega
    clear hl hsz
    go_enter Tryd.func4, Tryd.ntmps4
    go_wp2_with fail
    refine hkn.mono ?_
    rintro e w1 ⟨rfl, hb⟩
    have HB1 := Hid.mk'' hb
    clear hkn hb
    go_wp2_with fail
    refine (hp _).mono ?_
    rintro e w2 ⟨rfl, hb2⟩
    have HB2 : Hid (Below w.heap.size w w2) := HB1.out.trans (hb2.mono HB1.out.size)
    clear hp hb2
    go_wp2_with fail
    go_ret
    exact ⟨rfl, HB2.out.alloc HB2.out.size _⟩
  cases hx : parseL (numsOf s) with
  | none =>
    have HP : Hid (∀ W, HasT W → Calls Tryd.prog 10 #[.string s] W _) := fun W hW => parse_no s hx (by omega) W hW
    have hl' : ¬ (100 : Int) < (s.size : Int) := by omega
    have htd : ∀ W, Calls Tryd.prog 12 #[exp0] W _ := fun W => told_any ⟨0, 0, 0, 0, 0, false, false⟩ W
    unfold expV at htd
    clear hl hsz hx
    go_enter Tryd.func4, Tryd.ntmps4
    go_wp2_with fail
    refine hkn.mono ?_
    rintro e w1 ⟨rfl, hb⟩
    have HB1 := Hid.mk'' hb
    have hp := HP.out w1 (HT.out _ hb)
    clear hkn hb HP
    go_wp2_with fail
    refine hp.mono ?_
    rintro e w2 ⟨rfl, hb2⟩
    have HB2 : Hid (Below w.heap.size w w2) := HB1.out.trans (hb2.mono HB1.out.size)
    clear hp hb2
    go_wp2_with fail
    refine (htd _).mono ?_
    rintro e w3 ⟨rfl, hb3⟩
    have HB3 : Hid (Below w.heap.size w w3) := (HB2.out.alloc HB2.out.size _).trans (hb3.mono (by have := HB2.out.size; simp; omega))
    clear hb3 htd
    have heq := eq5 w3
    go_wp2
    go_ret
    exact ⟨rfl, HB3.out⟩
  | some x =>
  have HX := Hid.mk'' (parse_okE hx)
  have HP : Hid (∀ W, HasT W → Calls Tryd.prog 10 #[.string s] W _) := fun W hW => parse_yes s x hx (by omega) W hW
  have htd := fun W => told_any x W
  unfold expV at htd
  clear hl hsz hx
  go_enter Tryd.func4, Tryd.ntmps4
  go_wp2_with fail
  refine hkn.mono ?_
  rintro e w1 ⟨rfl, hb⟩
  have HB1 := Hid.mk'' hb
  have hp := HP.out w1 (HT.out _ hb)
  clear hkn hb HP
  unfold expV at hp
  go_wp2_with fail
  refine hp.mono ?_
  rintro e w2 ⟨rfl, hb2⟩
  have hb2' : Below w.heap.size w w2 := HB1.out.trans (hb2.mono HB1.out.size)
  have HE := Hid.mk'' (EW.start (x := x) hb2' (HT.out _ hb2'))
  obtain ⟨V, hV⟩ : ∃ V, V = w2.alloc (.cells #[.int .u64 x.mi, .int .u64 x.ho, .int .u64 x.da, .int .u64 x.mo, .int .u64 x.wk, .bool x.ad, .bool x.aw] 25) := ⟨_, rfl⟩
  rw [← hV] at HE
  clear hp hb2 hb2' HB1
  go_upto_region 4 with (fail)
  rw [← hV]
  clear hV
  generalize w2.heap.size = E at *
  obtain ⟨k0, k1, k2, k3, k4, k5, k6⟩ := HE.out.cells
  go_wp2_with fail
  refine (htd _).mono ?_
  rintro e w4 ⟨rfl, hb4⟩
  have HE4 := Hid.mk'' (HE.out.below hb4)
  have HT4 : Hid (TW x E w4.heap.size w (w4.alloc (.cells #[.int .u64 x.mi, .int .u64 x.ho, .int .u64 x.da, .int .u64 x.mo, .int .u64 x.wk, .bool x.ad, .bool x.aw] 31))) := ⟨HE4.out.below ((Below.refl _ _).alloc (Nat.le_refl _) _), heap_alloc_new w4 _⟩
  obtain ⟨V4, hV⟩ : ∃ V, V = w4.alloc (.cells #[.int .u64 x.mi, .int .u64 x.ho, .int .u64 x.da, .int .u64 x.mo, .int .u64 x.wk, .bool x.ad, .bool x.aw] 31) := ⟨_, rfl⟩
  rw [← hV] at HT4
  clear htd hb4 HE HE4 k0 k1 k2 k3 k4 k5 k6
  go_upto_region 7 with (fail)
  rw [← hV]
  clear hV
  generalize w4.heap.size = T at *
  go_wp2_with fail
  go_loopw [1, 2, 3, 12] (fun ra ru rf ri W => ∃ (k : Nat) (a u f : Int), ri = .int .i64 k ∧ ra = .int .i64 a ∧ ru = .int .i64 u ∧ rf = .int .i64 f ∧ k ≤ 2 ∧ (-9223372036854775808 ≤ a ∧ a ≤ 9223372036854775807) ∧ (-9223372036854775808 ≤ u ∧ u ≤ 9223372036854775807) ∧ (-9223372036854775808 ≤ f ∧ f ≤ 9223372036854775807) ∧ Hid (TW x E T w W)) (fun _ _ _ ri _ => 2 - (intOf ri).toNat)
  case atStart => exact ⟨0, x1, x2, x3, rfl, rfl, rfl, rfl, by decide, b1, b2, b3, HT4⟩
  case round =>
    obtain ⟨k, a, u, f, rfl, rfl, rfl, rfl, hk, ba, bu, bf, HTW⟩ := hrel
    clear HT4 b1 b2 b3
    by_cases hk2 : k < 2
    · obtain ⟨v, c, n1, n2⟩ := both_next x HX.out a ba.1 ba.2
      obtain ⟨v', c', p1, p2⟩ := both_prev x HX.out u f bu.1 bu.2 bf.1
      obtain ⟨bm, m1, m2⟩ := both_match x HX.out a ba.1 ba.2
      have hmf := fun W => minF_any a W
      have hmu := fun W => minF_any u W
      have bma := minF_bd a
      have bmu := minF_bd u
      have hwf := fun W => within_any f 600000 W (by decide) (by decide)
      have bwf := withinF_bd f 600000 (by decide)
      generalize minF a = a' at *
      generalize minF u = u' at *
      generalize withinF f 600000 = q at *
      have N1 := Hid.mk'' n1
      have P1 := Hid.mk'' p1
      have M1 : Hid (∀ W, (W.cell? ⟨E, 0, none⟩ = some (.int .u64 x.mi) ∧ W.cell? ⟨E, 1, none⟩ = some (.int .u64 x.ho) ∧ W.cell? ⟨E, 2, none⟩ = some (.int .u64 x.da) ∧ W.cell? ⟨E, 3, none⟩ = some (.int .u64 x.mo) ∧ W.cell? ⟨E, 4, none⟩ = some (.int .u64 x.wk) ∧ W.cell? ⟨E, 5, none⟩ = some (.bool x.ad) ∧ W.cell? ⟨E, 6, none⟩ = some (.bool x.aw) ∧ W.cell? ⟨T, 0, none⟩ = some (.int .u64 x.mi) ∧ W.cell? ⟨T, 1, none⟩ = some (.int .u64 x.ho) ∧ W.cell? ⟨T, 2, none⟩ = some (.int .u64 x.da) ∧ W.cell? ⟨T, 3, none⟩ = some (.int .u64 x.mo) ∧ W.cell? ⟨T, 4, none⟩ = some (.int .u64 x.wk) ∧ W.cell? ⟨T, 5, none⟩ = some (.bool x.ad) ∧ W.cell? ⟨T, 6, none⟩ = some (.bool x.aw) ∧ Hid (TW x E T w W)) → Calls Tryd.prog 19 #[expV x, .int .i64 a] W fun r W' => r = .returned (.bool bm) ∧ (W'.cell? ⟨E, 0, none⟩ = some (.int .u64 x.mi) ∧ W'.cell? ⟨E, 1, none⟩ = some (.int .u64 x.ho) ∧ W'.cell? ⟨E, 2, none⟩ = some (.int .u64 x.da) ∧ W'.cell? ⟨E, 3, none⟩ = some (.int .u64 x.mo) ∧ W'.cell? ⟨E, 4, none⟩ = some (.int .u64 x.wk) ∧ W'.cell? ⟨E, 5, none⟩ = some (.bool x.ad) ∧ W'.cell? ⟨E, 6, none⟩ = some (.bool x.aw) ∧ W'.cell? ⟨T, 0, none⟩ = some (.int .u64 x.mi) ∧ W'.cell? ⟨T, 1, none⟩ = some (.int .u64 x.ho) ∧ W'.cell? ⟨T, 2, none⟩ = some (.int .u64 x.da) ∧ W'.cell? ⟨T, 3, none⟩ = some (.int .u64 x.mo) ∧ W'.cell? ⟨T, 4, none⟩ = some (.int .u64 x.wk) ∧ W'.cell? ⟨T, 5, none⟩ = some (.bool x.ad) ∧ W'.cell? ⟨T, 6, none⟩ = some (.bool x.aw) ∧ Hid (TW x E T w W'))) := fun W h => by
        have hTW := h.2.2.2.2.2.2.2.2.2.2.2.2.2.2.out
        exact (m1 W hTW.ew.tab).mono fun r W' h' => ⟨h'.1, (hTW.below h'.2).cells⟩
      have M2 : Hid (∀ W, (W.cell? ⟨E, 0, none⟩ = some (.int .u64 x.mi) ∧ W.cell? ⟨E, 1, none⟩ = some (.int .u64 x.ho) ∧ W.cell? ⟨E, 2, none⟩ = some (.int .u64 x.da) ∧ W.cell? ⟨E, 3, none⟩ = some (.int .u64 x.mo) ∧ W.cell? ⟨E, 4, none⟩ = some (.int .u64 x.wk) ∧ W.cell? ⟨E, 5, none⟩ = some (.bool x.ad) ∧ W.cell? ⟨E, 6, none⟩ = some (.bool x.aw) ∧ W.cell? ⟨T, 0, none⟩ = some (.int .u64 x.mi) ∧ W.cell? ⟨T, 1, none⟩ = some (.int .u64 x.ho) ∧ W.cell? ⟨T, 2, none⟩ = some (.int .u64 x.da) ∧ W.cell? ⟨T, 3, none⟩ = some (.int .u64 x.mo) ∧ W.cell? ⟨T, 4, none⟩ = some (.int .u64 x.wk) ∧ W.cell? ⟨T, 5, none⟩ = some (.bool x.ad) ∧ W.cell? ⟨T, 6, none⟩ = some (.bool x.aw) ∧ Hid (TW x E T w W)) → Calls Tryd.prog 20 #[expV x, .int .i64 a] W fun r W' => r = .returned (.bool bm) ∧ (W'.cell? ⟨E, 0, none⟩ = some (.int .u64 x.mi) ∧ W'.cell? ⟨E, 1, none⟩ = some (.int .u64 x.ho) ∧ W'.cell? ⟨E, 2, none⟩ = some (.int .u64 x.da) ∧ W'.cell? ⟨E, 3, none⟩ = some (.int .u64 x.mo) ∧ W'.cell? ⟨E, 4, none⟩ = some (.int .u64 x.wk) ∧ W'.cell? ⟨E, 5, none⟩ = some (.bool x.ad) ∧ W'.cell? ⟨E, 6, none⟩ = some (.bool x.aw) ∧ W'.cell? ⟨T, 0, none⟩ = some (.int .u64 x.mi) ∧ W'.cell? ⟨T, 1, none⟩ = some (.int .u64 x.ho) ∧ W'.cell? ⟨T, 2, none⟩ = some (.int .u64 x.da) ∧ W'.cell? ⟨T, 3, none⟩ = some (.int .u64 x.mo) ∧ W'.cell? ⟨T, 4, none⟩ = some (.int .u64 x.wk) ∧ W'.cell? ⟨T, 5, none⟩ = some (.bool x.ad) ∧ W'.cell? ⟨T, 6, none⟩ = some (.bool x.aw) ∧ Hid (TW x E T w W'))) := fun W h => by
        have hTW := h.2.2.2.2.2.2.2.2.2.2.2.2.2.2.out
        exact (m2 W).mono fun r W' h' => ⟨h'.1, (hTW.below h'.2).cells⟩
      clear n1 p1 m1 m2
      obtain ⟨k0, k1, k2, k3, k4, k5, k6, t0, t1, t2, t3, t4, t5, t6, _⟩ := HTW.out.cells
      have nn := N1.out wr HTW.out.ew.tab
      unfold expV at nn n2 p2
      go_wp2_with fail
      refine nn.mono ?_
      rintro e w5 ⟨rfl, hb5⟩
      have H5 := Hid.mk'' (HTW.out.below hb5)
      clear nn hb5 HTW k0 k1 k2 k3 k4 k5 k6 t0 t1 t2 t3 t4 t5 t6
      obtain ⟨k0, k1, k2, k3, k4, k5, k6, t0, t1, t2, t3, t4, t5, t6, _⟩ := H5.out.cells
      go_wp2_with fail
      refine (n2 _).mono ?_
      rintro e w6 ⟨rfl, hb6⟩
      have H6 := Hid.mk'' (H5.out.below hb6)
      have pp := P1.out w6 H6.out.ew.tab
      clear n2 hb6 H5 k0 k1 k2 k3 k4 k5 k6 t0 t1 t2 t3 t4 t5 t6
      obtain ⟨k0, k1, k2, k3, k4, k5, k6, t0, t1, t2, t3, t4, t5, t6, _⟩ := H6.out.cells
      unfold expV at pp
      go_wp2_with fail
      refine pp.mono ?_
      rintro e w7 ⟨rfl, hb7⟩
      have H7 := Hid.mk'' (H6.out.below hb7)
      clear pp hb7 H6 k0 k1 k2 k3 k4 k5 k6 t0 t1 t2 t3 t4 t5 t6
      obtain ⟨k0, k1, k2, k3, k4, k5, k6, t0, t1, t2, t3, t4, t5, t6, _⟩ := H7.out.cells
      go_wp2_with fail
      refine (p2 _).mono ?_
      rintro e w8 ⟨rfl, hb8⟩
      have H8 := Hid.mk'' (H7.out.below hb8)
      clear p2 hb8 H7 k0 k1 k2 k3 k4 k5 k6 t0 t1 t2 t3 t4 t5 t6
      have hS0 := H8.out.drew.cells
      have m1 := M1.out
      have m2 := M2.out
      unfold expV at m1 m2
      clear M1 M2 N1 P1
      go_wp2_with fail
      go_region_held_law (fun w' => (w'.cell? ⟨E, 0, none⟩ = some (.int .u64 x.mi) ∧ w'.cell? ⟨E, 1, none⟩ = some (.int .u64 x.ho) ∧ w'.cell? ⟨E, 2, none⟩ = some (.int .u64 x.da) ∧ w'.cell? ⟨E, 3, none⟩ = some (.int .u64 x.mo) ∧ w'.cell? ⟨E, 4, none⟩ = some (.int .u64 x.wk) ∧ w'.cell? ⟨E, 5, none⟩ = some (.bool x.ad) ∧ w'.cell? ⟨E, 6, none⟩ = some (.bool x.aw) ∧ w'.cell? ⟨T, 0, none⟩ = some (.int .u64 x.mi) ∧ w'.cell? ⟨T, 1, none⟩ = some (.int .u64 x.ho) ∧ w'.cell? ⟨T, 2, none⟩ = some (.int .u64 x.da) ∧ w'.cell? ⟨T, 3, none⟩ = some (.int .u64 x.mo) ∧ w'.cell? ⟨T, 4, none⟩ = some (.int .u64 x.wk) ∧ w'.cell? ⟨T, 5, none⟩ = some (.bool x.ad) ∧ w'.cell? ⟨T, 6, none⟩ = some (.bool x.aw) ∧ Hid (TW x E T w w'))) (first | assumption | (show _ ∧ _; assumption)) (first | (go_at_call 19; with_reducible refine (m1 _ (by assumption)).mono ?_; rintro r w9 ⟨rfl, hS9⟩) | (go_at_call 20; with_reducible refine (m2 _ (by assumption)).mono ?_; rintro r w10 ⟨rfl, hS10⟩))
      all_goals
        have H10 := hS10.2.2.2.2.2.2.2.2.2.2.2.2.2.2
        clear hS9 hS10 hS0 m1 m2
        go_wp2_with (first | (go_at_call 21; first | (with_reducible refine (hmf _).mono ?_; rintro e w11 ⟨rfl, rfl⟩) | (with_reducible refine (hmu _).mono ?_; rintro e w11 ⟨rfl, rfl⟩)) | (go_at_call 22; refine (hwf _).mono ?_; rintro e w12 ⟨rfl, rfl⟩))
        go_roundw
        case rel => exact ⟨k + 1, a', u', u' - 1 - q, rfl, rfl, rfl, rfl, by omega, by omega, by omega, by omega, H10⟩
        case measure => simp [intOf]; omega
    · go_wp2_with fail
      go_ret
      exact ⟨rfl, HTW.out.ew.bel⟩
end Go.Proofs.YtdojpnhjnhecmaaDoor
