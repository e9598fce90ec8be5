/- The document's expressions: has, day, Matches, inDay, inDayBack. -/
import Derived.Test.YtdojpnhjnhecmaaDoorQ0
import Derived.Test.YtdojpnhjnhecmaaDoorS2
import Derived.Test.YtdojpnhjnhecmaaDoorR1
namespace Go.Proofs.YtdojpnhjnhecmaaDoor
open Go Go.RowKit
def fldN (e : Exp) (f : Nat) : Nat := if f = 0 then e.mi else if f = 1 then e.ho else if f = 2 then e.da else if f = 3 then e.mo else e.wk
theorem has_any (e : Exp) (he : e.Ok) (f : Nat) (hf : f < 5) (n : Int) (h0 : 0 ≤ n) (h1 : n ≤ 63) (w : World) :
    Calls Tryd.prog 46 #[expV e, .int .i64 f, .int .i64 n] w fun r w' => r = .returned (.bool ((fldN e f).testBit n.toNat)) ∧ Below w.heap.size w w' := by
  obtain ⟨k, rfl⟩ : ∃ k : Nat, n = k := ⟨n.toNat, by omega⟩
  have hx : fldN e f < 18446744073709551616 := by
    have := he.mi; have := he.ho; have := he.da; have := he.mo; have := he.wk
    unfold fldN
    repeat (first | omega | split)
  have HB := Hid.mk'' (bit_and (fldN e f) k hx)
  rw [Int.toNat_natCast]
  clear he hx
  unfold expV
  rcases f5 hf with rfl | rfl | rfl | rfl | rfl
  all_goals
    go_enter Tryd.func46, Tryd.ntmps46
    go_wp2
    go_ret
    exact ⟨ret_bool HB.out, (Below.refl _ _).alloc (Nat.le_refl _) _⟩
theorem has0 (e : Exp) (he : e.Ok) (n : Int) (h0 : 0 ≤ n) (h1 : n ≤ 63) (w : World) : Calls Tryd.prog 46 #[expV e, .int .i64 0, .int .i64 n] w fun r w' => r = .returned (.bool (e.mi.testBit n.toNat)) ∧ Below w.heap.size w w' := has_any e he 0 (by decide) n h0 h1 w
theorem has1 (e : Exp) (he : e.Ok) (n : Int) (h0 : 0 ≤ n) (h1 : n ≤ 63) (w : World) : Calls Tryd.prog 46 #[expV e, .int .i64 1, .int .i64 n] w fun r w' => r = .returned (.bool (e.ho.testBit n.toNat)) ∧ Below w.heap.size w w' := has_any e he 1 (by decide) n h0 h1 w
theorem has2 (e : Exp) (he : e.Ok) (n : Int) (h0 : 0 ≤ n) (h1 : n ≤ 63) (w : World) : Calls Tryd.prog 46 #[expV e, .int .i64 2, .int .i64 n] w fun r w' => r = .returned (.bool (e.da.testBit n.toNat)) ∧ Below w.heap.size w w' := has_any e he 2 (by decide) n h0 h1 w
theorem has3 (e : Exp) (he : e.Ok) (n : Int) (h0 : 0 ≤ n) (h1 : n ≤ 63) (w : World) : Calls Tryd.prog 46 #[expV e, .int .i64 3, .int .i64 n] w fun r w' => r = .returned (.bool (e.mo.testBit n.toNat)) ∧ Below w.heap.size w w' := has_any e he 3 (by decide) n h0 h1 w
theorem has4 (e : Exp) (he : e.Ok) (n : Int) (h0 : 0 ≤ n) (h1 : n ≤ 63) (w : World) : Calls Tryd.prog 46 #[expV e, .int .i64 4, .int .i64 n] w fun r w' => r = .returned (.bool (e.wk.testBit n.toNat)) ∧ Below w.heap.size w w' := has_any e he 4 (by decide) n h0 h1 w
/-- The document's expression in a box. -/
structure RW (x : Exp) (E : Nat) (w W : World) : Prop where
  row : W.heap[E]? = some (.cells #[.int .u64 x.mi, .int .u64 x.ho, .int .u64 x.da, .int .u64 x.mo, .int .u64 x.wk, .bool x.ad, .bool x.aw] 31 (0, 0))
  bel : Below w.heap.size w W
theorem RW.lt {x : Exp} {E : Nat} {w W : World} (h : RW x E w W) : E < W.heap.size := (Array.getElem?_eq_some_iff.1 h.row).1
theorem RW.below {x : Exp} {E : Nat} {w W W' : World} (h : RW x E w W) (hb : Below W.heap.size W W') : RW x E w W' := ⟨(hb.block E h.lt).trans h.row, h.bel.trans (hb.mono h.bel.size)⟩
theorem RW.start {x : Exp} {w : World} : RW x w.heap.size w (w.alloc (.cells #[.int .u64 x.mi, .int .u64 x.ho, .int .u64 x.da, .int .u64 x.mo, .int .u64 x.wk, .bool x.ad, .bool x.aw] 31)) := ⟨heap_alloc_new w _, (Below.refl _ _).alloc (Nat.le_refl _) _⟩
theorem RW.cells {x : Exp} {E : Nat} {w W : World} (h : RW x E w W) : W.cell? ⟨E, 0, none⟩ = some (.int .u64 x.mi) ∧ W.cell? ⟨E, 1, none⟩ = some (.int .u64 x.ho) ∧ W.cell? ⟨E, 2, none⟩ = some (.int .u64 x.da) ∧ W.cell? ⟨E, 3, none⟩ = some (.int .u64 x.mo) ∧ W.cell? ⟨E, 4, none⟩ = some (.int .u64 x.wk) ∧ W.cell? ⟨E, 5, none⟩ = some (.bool x.ad) ∧ W.cell? ⟨E, 6, none⟩ = some (.bool x.aw) :=
  ⟨cell_of_row _ _ _ _ _ _ h.row, cell_of_row _ _ _ _ _ _ h.row, cell_of_row _ _ _ _ _ _ h.row, cell_of_row _ _ _ _ _ _ h.row, cell_of_row _ _ _ _ _ _ h.row, cell_of_row _ _ _ _ _ _ h.row, cell_of_row _ _ _ _ _ _ h.row⟩
set_option maxHeartbeats 1000000 in
theorem rday_any (e : Exp) (he : e.Ok) (m d wd : Int) (m0 : 0 ≤ m) (m1 : m ≤ 12) (d0 : 0 ≤ d) (d1 : d ≤ 31) (w0 : 0 ≤ wd) (w1 : wd ≤ 6) (w : World) :
    Calls Tryd.prog 39 #[expV e, .int .i64 m, .int .i64 d, .int .i64 wd] w fun r w' => r = .returned (.bool (dayR e m d wd)) ∧ Below w.heap.size w w' := by
  have a3 := fun W => has3 e he m m0 (by omega) W
  have a2 := fun W => has2 e he d d0 (by omega) W
  have a4 := fun W => has4 e he wd w0 (by omega) W
  have HD : Hid (dayR e m d wd = (e.mo.testBit m.toNat && dayOk e d wd)) := rfl
  have HO : Hid (dayOk e d wd = if e.ad && e.aw then true else if e.ad then e.wk.testBit wd.toNat else if e.aw then e.da.testBit d.toNat else e.da.testBit d.toNat || e.wk.testBit wd.toNat) := rfl
  have HS := Hid.mk'' (RW.start (x := e) (w := w))
  clear he
  generalize dayR e m d wd = r at *
  generalize dayOk e d wd = o at *
  generalize e.mo.testBit m.toNat = b3 at *
  generalize e.da.testBit d.toNat = b2 at *
  generalize e.wk.testBit wd.toNat = b4 at *
  unfold expV at *
  obtain ⟨V, hV⟩ : ∃ V, V = w.alloc (.cells #[.int .u64 e.mi, .int .u64 e.ho, .int .u64 e.da, .int .u64 e.mo, .int .u64 e.wk, .bool e.ad, .bool e.aw] 31) := ⟨_, rfl⟩
  rw [← hV] at HS
  go_enter Tryd.func39, Tryd.ntmps39
  go_upto_region 1 with (fail)
  rw [← hV]
  clear hV
  generalize hEE : w.heap.size = E at *
  obtain ⟨k0, k1, k2, k3, k4, k5, k6⟩ := HS.out.cells
  have HEE := Hid.mk'' hEE
  clear hEE
  go_wp2_with fail
  refine (a3 _).mono ?_
  rintro e' w1 ⟨rfl, hb1⟩
  have HS1 := Hid.mk'' (HS.out.below hb1)
  clear hb1 HS k0 k1 k2 k3 k4 k5 k6 a3
  obtain ⟨k0, k1, k2, k3, k4, k5, k6⟩ := HS1.out.cells
  cases b3 with
  | false =>
    go_wp2_with fail
    go_ret
    exact ⟨ret_bool (by rw [HD.out]; rfl), HS1.out.bel⟩
  | true =>
    cases ha : e.ad <;> cases hw : e.aw
    all_goals
      rw [ha, hw] at a2 a4 HO
      rw [ha] at k5
      rw [hw] at k6
    · cases b2 with
      | true =>
        go_wp2_with fail
        refine (a2 _).mono ?_
        rintro e' w2 ⟨rfl, hb2⟩
        have HS2 := Hid.mk'' (HS1.out.below hb2)
        clear hb2 HS1 k0 k1 k2 k3 k4 k5 k6 a2
        go_wp2_with fail
        go_ret
        exact ⟨ret_bool (by rw [HD.out, HO.out]; rfl), HS2.out.bel⟩
      | false =>
        go_wp2_with fail
        refine (a2 _).mono ?_
        rintro e' w2 ⟨rfl, hb2⟩
        have HS2 := Hid.mk'' (HS1.out.below hb2)
        clear hb2 HS1 k0 k1 k2 k3 k4 k5 k6 a2
        obtain ⟨k0, k1, k2, k3, k4, k5, k6⟩ := HS2.out.cells
        rw [ha] at k5
        rw [hw] at k6
        go_wp2_with fail
        refine (a4 _).mono ?_
        rintro e' w3 ⟨rfl, hb3⟩
        have HS3 := Hid.mk'' (HS2.out.below hb3)
        clear hb3 HS2 k0 k1 k2 k3 k4 k5 k6 a4
        go_wp2_with fail
        go_ret
        exact ⟨ret_bool (by rw [HD.out, HO.out]; simp), HS3.out.bel⟩
    · go_wp2_with fail
      refine (a2 _).mono ?_
      rintro e' w2 ⟨rfl, hb2⟩
      have HS2 := Hid.mk'' (HS1.out.below hb2)
      clear hb2 HS1 k0 k1 k2 k3 k4 k5 k6 a2
      go_wp2_with fail
      go_ret
      exact ⟨ret_bool (by rw [HD.out, HO.out]; simp), HS2.out.bel⟩
    · go_wp2_with fail
      refine (a4 _).mono ?_
      rintro e' w2 ⟨rfl, hb2⟩
      have HS2 := Hid.mk'' (HS1.out.below hb2)
      clear hb2 HS1 k0 k1 k2 k3 k4 k5 k6 a4
      go_wp2_with fail
      go_ret
      exact ⟨ret_bool (by rw [HD.out, HO.out]; simp), HS2.out.bel⟩
    · go_wp2_with fail
      go_ret
      exact ⟨ret_bool (by rw [HD.out, HO.out]; rfl), HS1.out.bel⟩
set_option maxHeartbeats 1000000 in
theorem rmatches_no (e : Exp) (n : Int) (w : World) (g0 : -9223372036854775808 ≤ n) (g1 : n ≤ 9223372036854775807) (hn : n < -1035593280 ∨ 4223371679 < n) : Calls Tryd.prog 20 #[expV e, .int .i64 n] w fun r w' => r = .returned (.bool false) ∧ Below w.heap.size w w' := by
  have hof : ∀ o, Calls Tryd.prog 38 #[.int .i64 n] (w.alloc o) _ := fun o => rof_no n (w.alloc o) g0 g1 hn
  clear hn g0 g1
  unfold expV
  go_enter Tryd.func20, Tryd.ntmps20
  go_wp2_with fail
  refine (hof _).mono ?_
  rintro e' w2 ⟨rfl, hb⟩
  have HB : Hid (Below w.heap.size w w2) := ((Below.refl _ _).alloc (Nat.le_refl _) _).trans (hb.mono (by simp))
  clear hb hof
  go_wp2_with fail
  go_ret
  exact ⟨rfl, HB.out.alloc HB.out.size _⟩
set_option maxHeartbeats 1000000 in
theorem rmatches_at (e : Exp) (he : e.Ok) (n : Int) (w : World) (h0 : -1035593280 ≤ n) (h1 : n ≤ 4223371679) :
    Calls Tryd.prog 20 #[expV e, .int .i64 n] w fun r w' => (∃ b, r = .returned (.bool b) ∧ (b = true ↔ Mt e n)) ∧ Below w.heap.size w w' := by
  have hof : ∀ o, Calls Tryd.prog 38 #[.int .i64 n] (w.alloc o) _ := fun o => rof_yes n (w.alloc o) h0 h1
  have HK : Hid (∀ y m d h mi wd, IsAt n y m d h mi wd → (Mt e n ↔ okAt e m d h mi wd = true)) := fun y m d h mi wd hA => Mt.iff h0 h1 hA
  have HE := Hid.mk'' he
  clear he
  unfold expV at *
  go_enter Tryd.func20, Tryd.ntmps20
  go_wp2_with fail
  refine (hof _).mono ?_
  rintro e' w2 ⟨⟨y, m, d, h, mi, wd, rfl, hA⟩, hb⟩
  obtain ⟨r1, hz, hB⟩ := one_box hb
  have HS : Hid (RW e w.heap.size w w2) := ⟨r1, hB⟩
  obtain ⟨m1, m2, d1, d2, d3, d4, q1, q2, q3, q4, q5, q6⟩ := hA.bd
  have HM := Hid.mk'' (HK.out _ _ _ _ _ _ hA)
  have a0 := fun W => has0 e HE.out mi (by omega) (by omega) W
  have a1 := fun W => has1 e HE.out h (by omega) (by omega) W
  have a2 := fun W => rday_any e HE.out m d wd (by omega) (by omega) (by omega) (by omega) (by omega) (by omega) W
  have HO : Hid (okAt e m d h mi wd = (e.mi.testBit mi.toNat && e.ho.testBit h.toNat && dayR e m d wd)) := by show _ = _; simp [okAt, dayR, Bool.and_assoc]
  clear hof hb r1 hB hA HK d3 d4
  generalize okAt e m d h mi wd = ok at *
  generalize e.mi.testBit mi.toNat = b0 at *
  generalize e.ho.testBit h.toNat = b1 at *
  generalize dayR e m d wd = b2 at *
  unfold expV at a0 a1 a2
  obtain ⟨V, hV⟩ : ∃ V, V = w2.alloc (.cells #[.int .i64 y, .int .i64 m, .int .i64 d, .int .i64 h, .int .i64 mi, .int .i64 wd] 55) := ⟨_, rfl⟩
  go_upto_region 2 with (fail)
  rw [← hV]
  have HSV : Hid (RW e w.heap.size w V) := by show RW _ _ _ _; rw [hV]; exact HS.out.below ((Below.refl _ _).alloc (Nat.le_refl _) _)
  have HDV : Hid (V.heap[w2.heap.size]? = some (.cells #[.int .i64 y, .int .i64 m, .int .i64 d, .int .i64 h, .int .i64 mi, .int .i64 wd] 55 (0, 0))) := by show _ = _; rw [hV]; exact heap_alloc_new w2 _
  clear hV HS
  have hdl := lt_of_row HDV.out
  obtain ⟨k0, k1, k2, k3, k4, k5, k6⟩ := HSV.out.cells
  have j4 : V.cell? ⟨w2.heap.size, 4, none⟩ = some (.int .i64 mi) := cell_of_row _ _ _ _ _ _ HDV.out
  go_wp2_with fail
  refine (a0 _).mono ?_
  rintro e' w3 ⟨rfl, hb3⟩
  have HS3 := Hid.mk'' (HSV.out.below hb3)
  have HD3 : Hid (w3.heap[w2.heap.size]? = _) := (hb3.block _ hdl).trans HDV.out
  clear hb3 HSV HDV hdl k0 k1 k2 k3 k4 k5 k6 j4 a0
  cases b0 with
  | false =>
    go_wp2_with fail
    go_ret
    exact ⟨⟨false, rfl, by rw [HM.out, HO.out]; simp⟩, HS3.out.bel⟩
  | true =>
  have hdl := lt_of_row HD3.out
  obtain ⟨k0, k1, k2, k3, k4, k5, k6⟩ := HS3.out.cells
  have j3 : w3.cell? ⟨w2.heap.size, 3, none⟩ = some (.int .i64 h) := cell_of_row _ _ _ _ _ _ HD3.out
  go_wp2_with fail
  refine (a1 _).mono ?_
  rintro e' w4 ⟨rfl, hb4⟩
  have HS4 := Hid.mk'' (HS3.out.below hb4)
  have HD4 : Hid (w4.heap[w2.heap.size]? = _) := (hb4.block _ hdl).trans HD3.out
  clear hb4 HS3 HD3 hdl k0 k1 k2 k3 k4 k5 k6 j3 a1
  cases b1 with
  | false =>
    go_wp2_with fail
    go_ret
    exact ⟨⟨false, rfl, by rw [HM.out, HO.out]; simp⟩, HS4.out.bel⟩
  | true =>
  obtain ⟨k0, k1, k2, k3, k4, k5, k6⟩ := HS4.out.cells
  have j1 : w4.cell? ⟨w2.heap.size, 1, none⟩ = some (.int .i64 m) := cell_of_row _ _ _ _ _ _ HD4.out
  have j2 : w4.cell? ⟨w2.heap.size, 2, none⟩ = some (.int .i64 d) := cell_of_row _ _ _ _ _ _ HD4.out
  have j5 : w4.cell? ⟨w2.heap.size, 5, none⟩ = some (.int .i64 wd) := cell_of_row _ _ _ _ _ _ HD4.out
  go_wp2_with fail
  refine (a2 _).mono ?_
  rintro e' w5 ⟨rfl, hb5⟩
  have HS5 := Hid.mk'' (HS4.out.below hb5)
  clear hb5 HS4 HD4 k0 k1 k2 k3 k4 k5 k6 j1 j2 j5 a2
  go_wp2_with fail
  go_ret
  exact ⟨⟨b2, ret_bool (by simp), by rw [HM.out, HO.out]; simp⟩, HS5.out.bel⟩
end Go.Proofs.YtdojpnhjnhecmaaDoor
