/- A date's day: dayOf; whether it is a date: fits. -/
import Derived.Test.YtdojpnhjnhecmaaDoorC2
namespace Go.Proofs.YtdojpnhjnhecmaaDoor
open Go Go.RowKit
abbrev dateV (y m d h mi wd : Int) : Value := .agg #[.int .i64 y, .int .i64 m, .int .i64 d, .int .i64 h, .int .i64 mi, .int .i64 wd]
def fitsB (y m d h mi : Int) : Bool := inB y 1 9999 && inB m 1 12 && inB d 1 (mdays y m) && inB h 0 23 && inB mi 0 59

set_option maxHeartbeats 1000000 in
theorem fits_any (y m d h mi wd : Int) (w : World) (hT : HasT w) : Calls Tryd.prog 48 #[dateV y m d h mi wd] w fun e w' => e = .returned (.bool (fitsB y m d h mi)) ∧ Below w.heap.size w w' := by
  have HT := Hid.mk' hT
  have a1 : ∀ W, Calls Tryd.prog 67 #[.int .i64 y, .int .i64 1, .int .i64 9999] W fun e w' => e = .returned (.bool (inB y 1 9999)) ∧ w' = W := fun W => inside_any _ _ _ W
  have a2 : ∀ W, Calls Tryd.prog 67 #[.int .i64 m, .int .i64 1, .int .i64 12] W fun e w' => e = .returned (.bool (inB m 1 12)) ∧ w' = W := fun W => inside_any _ _ _ W
  have a3 : ∀ W, Calls Tryd.prog 67 #[.int .i64 d, .int .i64 1, .int .i64 (mdays y m)] W fun e w' => e = .returned (.bool (inB d 1 (mdays y m))) ∧ w' = W := fun W => inside_any _ _ _ W
  have a4 : ∀ W, Calls Tryd.prog 67 #[.int .i64 h, .int .i64 0, .int .i64 23] W fun e w' => e = .returned (.bool (inB h 0 23)) ∧ w' = W := fun W => inside_any _ _ _ W
  have a5 : ∀ W, Calls Tryd.prog 67 #[.int .i64 mi, .int .i64 0, .int .i64 59] W fun e w' => e = .returned (.bool (inB mi 0 59)) ∧ w' = W := fun W => inside_any _ _ _ W
  unfold fitsB
  generalize inB y 1 9999 = b1 at *
  generalize inB m 1 12 = b2 at *
  generalize inB d 1 (mdays y m) = b3 at *
  generalize inB h 0 23 = b4 at *
  generalize inB mi 0 59 = b5 at *
  clear hT
  cases b1 with
  | false =>
    go_enter Tryd.func48, Tryd.ntmps48
    go_wp2
    go_quiet (first | with_reducible exact Calls.quiet_of_same (a1 _))
    go_wp2
    go_ret
    exact ⟨rfl, below_drewN ((Below.refl _ _).alloc (Nat.le_refl _) _) _⟩
  | true =>
    cases b2 with
    | false =>
      go_enter Tryd.func48, Tryd.ntmps48
      go_wp2
      go_quiet (first | with_reducible exact Calls.quiet_of_same (a1 _) | with_reducible exact Calls.quiet_of_same (a2 _))
      go_wp2
      go_ret
      exact ⟨rfl, below_drewN ((Below.refl _ _).alloc (Nat.le_refl _) _) _⟩
    | true =>
      cases b3 with
      | false =>
        go_enter Tryd.func48, Tryd.ntmps48
        go_wp2
        go_quiet (first | with_reducible exact Calls.quiet_of_same (a1 _) | with_reducible exact Calls.quiet_of_same (a2 _) | with_reducible exact Calls.quiet_of_same (a3 _) | with_reducible exact Calls.quiet_of_same (days_any y m _ (HT.out.below (below_drewN ((Below.refl _ _).alloc (Nat.le_refl _) _) _))) | with_reducible exact Calls.quiet_of_same (days_any y m _ (HT.out.below ((Below.refl _ _).alloc (Nat.le_refl _) _))))
        go_wp2
        go_ret
        exact ⟨rfl, below_drewN ((Below.refl _ _).alloc (Nat.le_refl _) _) _⟩
      | true =>
        cases b4 with
        | false =>
          go_enter Tryd.func48, Tryd.ntmps48
          go_wp2
          go_quiet (first | with_reducible exact Calls.quiet_of_same (a1 _) | with_reducible exact Calls.quiet_of_same (a2 _) | with_reducible exact Calls.quiet_of_same (a3 _) | with_reducible exact Calls.quiet_of_same (a4 _) | with_reducible exact Calls.quiet_of_same (days_any y m _ (HT.out.below (below_drewN ((Below.refl _ _).alloc (Nat.le_refl _) _) _))) | with_reducible exact Calls.quiet_of_same (days_any y m _ (HT.out.below ((Below.refl _ _).alloc (Nat.le_refl _) _))))
          go_wp2
          go_ret
          exact ⟨rfl, below_drewN ((Below.refl _ _).alloc (Nat.le_refl _) _) _⟩
        | true =>
          cases b5 with
          | false =>
            go_enter Tryd.func48, Tryd.ntmps48
            go_wp2
            go_quiet (first | with_reducible exact Calls.quiet_of_same (a1 _) | with_reducible exact Calls.quiet_of_same (a2 _) | with_reducible exact Calls.quiet_of_same (a3 _) | with_reducible exact Calls.quiet_of_same (a4 _) | with_reducible exact Calls.quiet_of_same (a5 _) | with_reducible exact Calls.quiet_of_same (days_any y m _ (HT.out.below (below_drewN ((Below.refl _ _).alloc (Nat.le_refl _) _) _))) | with_reducible exact Calls.quiet_of_same (days_any y m _ (HT.out.below ((Below.refl _ _).alloc (Nat.le_refl _) _))))
            go_wp2
            go_ret
            exact ⟨rfl, below_drewN ((Below.refl _ _).alloc (Nat.le_refl _) _) _⟩
          | true =>
            go_enter Tryd.func48, Tryd.ntmps48
            go_wp2
            go_quiet (first | with_reducible exact Calls.quiet_of_same (a1 _) | with_reducible exact Calls.quiet_of_same (a2 _) | with_reducible exact Calls.quiet_of_same (a3 _) | with_reducible exact Calls.quiet_of_same (a4 _) | with_reducible exact Calls.quiet_of_same (a5 _) | with_reducible exact Calls.quiet_of_same (days_any y m _ (HT.out.below (below_drewN ((Below.refl _ _).alloc (Nat.le_refl _) _) _))) | with_reducible exact Calls.quiet_of_same (days_any y m _ (HT.out.below ((Below.refl _ _).alloc (Nat.le_refl _) _))))
            go_wp2
            go_ret
            exact ⟨rfl, below_drewN ((Below.refl _ _).alloc (Nat.le_refl _) _) _⟩

/-- What is left of the years, and how many days are counted, behind so many spans. -/
def yrs (n : Int) : Nat → Int
  | 0 => n
  | 1 => n % 400
  | 2 => n % 400 % 100
  | 3 => n % 400 % 100 % 4
  | _ => n % 400 % 100 % 4 % 1
def dys (n d : Int) : Nat → Int
  | 0 => d
  | 1 => d + n / 400 * 146097
  | 2 => d + n / 400 * 146097 + n % 400 / 100 * 36524
  | 3 => d + n / 400 * 146097 + n % 400 / 100 * 36524 + n % 400 % 100 / 4 * 1461
  | _ => d + n / 400 * 146097 + n % 400 / 100 * 36524 + n % 400 % 100 / 4 * 1461 + n % 400 % 100 % 4 / 1 * 365
theorem dys_bd (n d : Int) (j : Nat) (h0 : 0 ≤ n) (h1 : n < 9999) (hd0 : 0 ≤ d) (hd1 : d ≤ 31) : 0 ≤ yrs n j ∧ yrs n j < 9999 ∧ 0 ≤ dys n d j ∧ dys n d j ≤ 4000000 := by
  match j with
  | 0 => exact ⟨h0, h1, hd0, by show d ≤ _; omega⟩
  | 1 => show 0 ≤ n % 400 ∧ n % 400 < 9999 ∧ 0 ≤ d + n / 400 * 146097 ∧ d + n / 400 * 146097 ≤ 4000000; omega
  | 2 => show 0 ≤ n % 400 % 100 ∧ n % 400 % 100 < 9999 ∧ 0 ≤ d + n / 400 * 146097 + n % 400 / 100 * 36524 ∧ d + n / 400 * 146097 + n % 400 / 100 * 36524 ≤ 4000000; omega
  | 3 => show 0 ≤ n % 400 % 100 % 4 ∧ n % 400 % 100 % 4 < 9999 ∧ 0 ≤ d + n / 400 * 146097 + n % 400 / 100 * 36524 + n % 400 % 100 / 4 * 1461 ∧ d + n / 400 * 146097 + n % 400 / 100 * 36524 + n % 400 % 100 / 4 * 1461 ≤ 4000000; omega
  | _ + 4 => show 0 ≤ n % 400 % 100 % 4 % 1 ∧ n % 400 % 100 % 4 % 1 < 9999 ∧ 0 ≤ d + n / 400 * 146097 + n % 400 / 100 * 36524 + n % 400 % 100 / 4 * 1461 + n % 400 % 100 % 4 / 1 * 365 ∧ d + n / 400 * 146097 + n % 400 / 100 * 36524 + n % 400 % 100 / 4 * 1461 + n % 400 % 100 % 4 / 1 * 365 ≤ 4000000; omega
theorem dys_end (y d : Int) : dys (y - 1) d 4 = bef y + d := by
  show d + (y - 1) / 400 * 146097 + (y - 1) % 400 / 100 * 36524 + (y - 1) % 400 % 100 / 4 * 1461 + (y - 1) % 400 % 100 % 4 / 1 * 365 = _
  unfold bef
  generalize y - 1 = n at *
  rw [Int.ediv_one]
  have q1 : n / 4 = n / 400 * 100 + n % 400 / 100 * 25 + n % 400 % 100 / 4 := by omega
  have q2 : n / 100 = n / 400 * 4 + n % 400 / 100 := by omega
  rw [q1, q2]
  omega

set_option maxHeartbeats 1000000 in
theorem dayOf_any (y m d h mi wd : Int) (w : World) (hT : HasT w) (hy1 : 1 ≤ y) (hy2 : y ≤ 9999) (hm1 : 1 ≤ m) (hm2 : m ≤ 12) (hd1 : 1 ≤ d) (hd2 : d ≤ 31) :
    Calls Tryd.prog 49 #[dateV y m d h mi wd] w fun e w' => e = .returned (.int .i64 (bef y + cum y m + d - 1)) ∧ Below w.heap.size w w' := by
  have hT1 := fun o : Obj => hT.below ((Below.refl w.heap.size w).alloc (Nat.le_refl _) o)
  have c0 : ∀ o : Obj, (w.alloc o).cell? ⟨1, 0, none⟩ = some (.int .i64 400) := fun o => (hT1 o).sp 0 (by decide)
  have c1 : ∀ o : Obj, (w.alloc o).cell? ⟨1, 1, none⟩ = some (.int .i64 146097) := fun o => (hT1 o).sp 1 (by decide)
  have c2 : ∀ o : Obj, (w.alloc o).cell? ⟨1, 2, none⟩ = some (.int .i64 24) := fun o => (hT1 o).sp 2 (by decide)
  have c3 : ∀ o : Obj, (w.alloc o).cell? ⟨1, 3, none⟩ = some (.int .i64 100) := fun o => (hT1 o).sp 3 (by decide)
  have c4 : ∀ o : Obj, (w.alloc o).cell? ⟨1, 4, none⟩ = some (.int .i64 36524) := fun o => (hT1 o).sp 4 (by decide)
  have c5 : ∀ o : Obj, (w.alloc o).cell? ⟨1, 5, none⟩ = some (.int .i64 3) := fun o => (hT1 o).sp 5 (by decide)
  have c6 : ∀ o : Obj, (w.alloc o).cell? ⟨1, 6, none⟩ = some (.int .i64 4) := fun o => (hT1 o).sp 6 (by decide)
  have c7 : ∀ o : Obj, (w.alloc o).cell? ⟨1, 7, none⟩ = some (.int .i64 1461) := fun o => (hT1 o).sp 7 (by decide)
  have c8 : ∀ o : Obj, (w.alloc o).cell? ⟨1, 8, none⟩ = some (.int .i64 24) := fun o => (hT1 o).sp 8 (by decide)
  have c9 : ∀ o : Obj, (w.alloc o).cell? ⟨1, 9, none⟩ = some (.int .i64 1) := fun o => (hT1 o).sp 9 (by decide)
  have c10 : ∀ o : Obj, (w.alloc o).cell? ⟨1, 10, none⟩ = some (.int .i64 365) := fun o => (hT1 o).sp 10 (by decide)
  have c11 : ∀ o : Obj, (w.alloc o).cell? ⟨1, 11, none⟩ = some (.int .i64 3) := fun o => (hT1 o).sp 11 (by decide)
  have HT := Hid.mk' hT
  clear hT hT1
  go_enter Tryd.func49, Tryd.ntmps49
  go_wp2
  have HR0 := Hid.mk' (heap_alloc_new w (.cells #[.int .i64 y, .int .i64 m, .int .i64 d, .int .i64 h, .int .i64 mi, .int .i64 wd] 55))
  have HB0 : Hid (Below w.heap.size w (w.alloc (.cells #[.int .i64 y, .int .i64 m, .int .i64 d, .int .i64 h, .int .i64 mi, .int .i64 wd] 55))) := (Below.refl _ _).alloc (Nat.le_refl _) _
  generalize (w.alloc (.cells #[.int .i64 y, .int .i64 m, .int .i64 d, .int .i64 h, .int .i64 mi, .int .i64 wd] 55)) = w1 at HR0 HB0 ⊢
  clear c0 c1 c2 c3 c4 c5 c6 c7 c8 c9 c10 c11
  generalize hQ : w.heap.size = Q at *
  have HQ := Hid.mk' hQ
  clear hQ
  have hn0 : 0 ≤ y - 1 := by omega
  have hn1 : y - 1 < 9999 := by omega
  have he0 : 0 ≤ d - 1 := by omega
  have he1 : d - 1 ≤ 31 := by omega
  generalize hN : y - 1 = n at *
  generalize hE : d - 1 = e0 at *
  have HN := Hid.mk' hN
  have HE := Hid.mk' hE
  clear hN hE
  go_loopg [3, 4, 15] 4 (fun kx s3 s4 s15 wr => ∃ j : Nat, s15 = .int .i64 j ∧ j ≤ 4 ∧ 4 - j ≤ kx ∧ s3 = .int .i64 (dys n e0 j) ∧ s4 = .int .i64 (yrs n j) ∧ Hid (wr.heap[Q]? = some (.cells #[.int .i64 y, .int .i64 m, .int .i64 d, .int .i64 h, .int .i64 mi, .int .i64 wd] 55)) ∧ Hid (Below Q w wr))
  case atStart => exact ⟨0, rfl, by decide, by decide, rfl, rfl, HR0, HB0⟩
  case round =>
    obtain ⟨j, rfl, hj, hkx, rfl, rfl, HC, HB⟩ := hrel
    rcases (by omega : j = 0 ∨ j = 1 ∨ j = 2 ∨ j = 3 ∨ j = 4) with rfl | rfl | rfl | rfl | rfl
    · have hb := dys_bd n e0 0 hn0 hn1 he0 he1
      have HX : Hid (dys n e0 1 = dys n e0 0 + yrs n 0 / 400 * 146097) := rfl
      have HY : Hid (yrs n 1 = yrs n 0 % 400) := rfl
      generalize yrs n 0 = Y at *
      generalize dys n e0 0 = X at *
      obtain ⟨hY0, hY1, hX0, hX1⟩ := hb
      have hq : Y.tdiv 400 = Y / 400 := Int.tdiv_eq_ediv_of_nonneg hY0
      have hr : Y.tmod 400 = Y % 400 := Int.tmod_eq_emod_of_nonneg hY0
      have hq0 : 0 ≤ Y / 400 ∧ Y / 400 ≤ 24 := by omega
      have hix := idx0 wr
      generalize Y / 400 = q at *
      generalize Y % 400 = r at *
      go_wp2
      go_quiet (fail)
      go_wp2
      go_roundg (4 - 1)
      case measure => omega
      case rel =>
        have hlt : Q < wr.heap.size := lt_of_row HC.out
        exact ⟨1, rfl, by omega, by omega, val_eq HX.out.symm, val_eq HY.out.symm, Hid.mk' ((heap_alloc_old wr _ hlt).trans HC.out), Hid.mk' (below_drewN (HB.out.alloc (Nat.le_of_lt hlt) _) nq)⟩
    · have hb := dys_bd n e0 1 hn0 hn1 he0 he1
      have HX : Hid (dys n e0 2 = dys n e0 1 + yrs n 1 / 100 * 36524) := rfl
      have HY : Hid (yrs n 2 = yrs n 1 % 100) := rfl
      generalize yrs n 1 = Y at *
      generalize dys n e0 1 = X at *
      obtain ⟨hY0, hY1, hX0, hX1⟩ := hb
      have hq : Y.tdiv 100 = Y / 100 := Int.tdiv_eq_ediv_of_nonneg hY0
      have hr : Y.tmod 100 = Y % 100 := Int.tmod_eq_emod_of_nonneg hY0
      have hq0 : 0 ≤ Y / 100 ∧ Y / 100 ≤ 99 := by omega
      have hix := idx1 wr
      generalize Y / 100 = q at *
      generalize Y % 100 = r at *
      go_wp2
      go_quiet (fail)
      go_wp2
      go_roundg (4 - 2)
      case measure => omega
      case rel =>
        have hlt : Q < wr.heap.size := lt_of_row HC.out
        exact ⟨2, rfl, by omega, by omega, val_eq HX.out.symm, val_eq HY.out.symm, Hid.mk' ((heap_alloc_old wr _ hlt).trans HC.out), Hid.mk' (below_drewN (HB.out.alloc (Nat.le_of_lt hlt) _) nq)⟩
    · have hb := dys_bd n e0 2 hn0 hn1 he0 he1
      have HX : Hid (dys n e0 3 = dys n e0 2 + yrs n 2 / 4 * 1461) := rfl
      have HY : Hid (yrs n 3 = yrs n 2 % 4) := rfl
      generalize yrs n 2 = Y at *
      generalize dys n e0 2 = X at *
      obtain ⟨hY0, hY1, hX0, hX1⟩ := hb
      have hq : Y.tdiv 4 = Y / 4 := Int.tdiv_eq_ediv_of_nonneg hY0
      have hr : Y.tmod 4 = Y % 4 := Int.tmod_eq_emod_of_nonneg hY0
      have hq0 : 0 ≤ Y / 4 ∧ Y / 4 ≤ 2499 := by omega
      have hix := idx2 wr
      generalize Y / 4 = q at *
      generalize Y % 4 = r at *
      go_wp2
      go_quiet (fail)
      go_wp2
      go_roundg (4 - 3)
      case measure => omega
      case rel =>
        have hlt : Q < wr.heap.size := lt_of_row HC.out
        exact ⟨3, rfl, by omega, by omega, val_eq HX.out.symm, val_eq HY.out.symm, Hid.mk' ((heap_alloc_old wr _ hlt).trans HC.out), Hid.mk' (below_drewN (HB.out.alloc (Nat.le_of_lt hlt) _) nq)⟩
    · have hb := dys_bd n e0 3 hn0 hn1 he0 he1
      have HX : Hid (dys n e0 4 = dys n e0 3 + yrs n 3 / 1 * 365) := rfl
      have HY : Hid (yrs n 4 = yrs n 3 % 1) := rfl
      generalize yrs n 3 = Y at *
      generalize dys n e0 3 = X at *
      obtain ⟨hY0, hY1, hX0, hX1⟩ := hb
      have hq : Y.tdiv 1 = Y / 1 := Int.tdiv_eq_ediv_of_nonneg hY0
      have hr : Y.tmod 1 = Y % 1 := Int.tmod_eq_emod_of_nonneg hY0
      have hq0 : 0 ≤ Y / 1 ∧ Y / 1 ≤ 9999 := by omega
      have hix := idx3 wr
      generalize Y / 1 = q at *
      generalize Y % 1 = r at *
      go_wp2
      go_quiet (fail)
      go_wp2
      go_roundg (4 - 4)
      case measure => omega
      case rel =>
        have hlt : Q < wr.heap.size := lt_of_row HC.out
        exact ⟨4, rfl, by omega, by omega, val_eq HX.out.symm, val_eq HY.out.symm, Hid.mk' ((heap_alloc_old wr _ hlt).trans HC.out), Hid.mk' (below_drewN (HB.out.alloc (Nat.le_of_lt hlt) _) nq)⟩
    · have hend := dys_end y e0
      have hb := (dys_bd n e0 4 hn0 hn1 he0 he1).2.2
      rw [HN.out] at hend
      generalize dys n e0 4 = X at *
      have HEN := Hid.mk' hend
      clear hend
      obtain ⟨W0, hW0⟩ : ∃ W0, W0 = wr := ⟨_, rfl⟩
      rw [← hW0] at HC HB ⊢
      clear hW0 wr
      go_wp2
      go_loopg [3, 7] 12 (fun kx s3 s7 wr => ∃ k : Int, 1 ≤ k ∧ k ≤ m ∧ (m - k).toNat ≤ kx ∧ s7 = .int .i64 k ∧ s3 = .int .i64 (X + cum y k) ∧ wr = W0)
      case atStart => exact ⟨1, by decide, by omega, by omega, rfl, by rw [cum_one, Int.add_zero], rfl⟩
      case round =>
        obtain ⟨k, hk1, hk2, hkx2, rfl, rfl, rfl⟩ := hrel
        obtain ⟨hb0, hb1⟩ := hb
        have hT2 := HT.out.below (HQ.out ▸ HB.out)
        have hcb := cum_bd y hk1 (by omega)
        have hmb := mdays_bd y hk1 (by omega)
        have HS := Hid.mk' (cum_succ y hk1 (by omega))
        have hdays := days_any y k wr hT2
        have k0 : wr.cell? ⟨Q, 0, none⟩ = some (.int .i64 y) := (cell_of_row _ _ _ _ _ _ HC.out).trans rfl
        have k1 : wr.cell? ⟨Q, 1, none⟩ = some (.int .i64 m) := (cell_of_row _ _ _ _ _ _ HC.out).trans rfl
        obtain ⟨hcb0, hcb1, hcb2⟩ := hcb
        clear hT2 hcb2
        by_cases hlt : k < m
        · go_wp2_with (go_at_call 62; refine hdays.mono ?_; rintro e w' ⟨rfl, rfl⟩)
          go_roundg (m - (k + 1)).toNat
          case measure => omega
          case rel => exact ⟨k + 1, by omega, by omega, by omega, rfl, val_eq (by rw [HS.out]; omega), rfl⟩
        · obtain rfl : k = m := by omega
          clear hdays
          go_wp2
          go_ret
          refine ⟨ret_int ?_, by rw [HQ.out]; exact HB.out⟩
          have h1 := HEN.out; have h2 := HE.out; omega
end Go.Proofs.YtdojpnhjnhecmaaDoor
