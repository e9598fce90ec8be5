/- A rune is taken. -/
import Derived.Test.YtdojpnhjnhecmaaDoorK4
namespace Go.Proofs.YtdojpnhjnhecmaaDoor
open Go Go.RowKit
set_option maxHeartbeats 1000000 in
theorem take_blank (c : Int) (hc : c = 32 ∨ c = 9) (p : PSt) (B : Nat) (w : World) (hT : HasT w) (hI : InP w B p) (hB : 4 ≤ B) (hp : p.Ok) :
    Calls Tryd.prog 25 #[.pointer (some ⟨B, 0, none⟩), .int .i32 c] w fun e w' => Took (p.take c.toNat) B w e w' := by
  rw [p.take_blank (c := c.toNat) (by omega)]
  have k11 : w.cell? ⟨B, 11, none⟩ = some (.bool p.op) := hI.cell 11
  cases ho : p.op with
  | false =>
    rw [ho] at k11
    simp only [Bool.false_eq_true, if_false]
    have HI := Hid.mk'' hI
    clear hT hp hI
    rcases hc with rfl | rfl
    all_goals
      go_enter Tryd.func25, Tryd.ntmps25
      go_wp2_with fail
      go_ret
      exact ⟨⟨rfl, HI.out⟩, Only.refl _ _⟩
  | true =>
    rw [ho] at k11
    have hf : p.f < 5 := by
      have := hp.f
      have : p.f ≠ 5 := fun e => by rw [hp.op e] at ho; exact absurd ho (by simp)
      omega
    have hend := endF_took p B w hT hI hB hp hf
    simp only [if_true]
    generalize p.endF = o at *
    clear hT hp hI
    rcases hc with rfl | rfl
    all_goals
      go_enter Tryd.func25, Tryd.ntmps25
      go_wp2_with fail
      cases o with
      | none =>
        refine hend.mono ?_
        rintro e w1 hK
        obtain ⟨rfl, hO⟩ := hK
        have HO := Hid.mk'' hO
        clear hO hend
        go_wp2_with fail
        go_ret
        exact ⟨rfl, HO.out⟩
      | some q =>
        refine hend.mono ?_
        rintro e w1 hK
        obtain ⟨⟨rfl, hI1⟩, hO⟩ := hK
        have HO := Hid.mk'' hO
        have HI1 := Hid.mk'' hI1
        clear hO hend hI1
        go_wp2_with fail
        go_ret
        exact ⟨⟨rfl, HI1.out⟩, HO.out⟩
theorem neB {a b : Int} (h : a ≠ b) : (a == b) = false := by simpa using h
set_option maxHeartbeats 1000000 in
theorem take_full (c : Int) (_h0 : 0 ≤ c) (h1 : c ≠ 32) (h2 : c ≠ 9) (p : PSt) (B : Nat) (w : World) (hI : InP w B p) (hf : p.f = 5) :
    Calls Tryd.prog 25 #[.pointer (some ⟨B, 0, none⟩), .int .i32 c] w fun e w' => Took (p.take c.toNat) B w e w' := by
  rw [show p.take c.toNat = none by unfold PSt.take; rw [if_neg (by omega), if_pos hf]]
  have k10 : w.cell? ⟨B, 10, none⟩ = some (.int .i64 5) := (hI.cell 10).trans (by rw [show (5 : Int) = (p.f : Int) by omega]; rfl)
  have e1 := neB h1
  have e2 := neB h2
  clear hI
  go_enter Tryd.func25, Tryd.ntmps25
  go_wp2_with fail
  go_ret
  exact ⟨rfl, Only.refl _ _⟩
/-- A parser that has read something of a field: its cells. -/
theorem InP.opened {w : World} {B : Nat} {p : PSt} (h : InP w B p) : InP (w.setCell ⟨B, 11, none⟩ (.bool true)) B p.opened := by
  refine (row_set h 11 (.bool true)).trans ?_
  simp [cellsP, PSt.opened]
set_option maxHeartbeats 1000000 in
theorem take_star0 (p : PSt) (B : Nat) (w : World) (hI : InP w B p) (hf : p.f = 0) :
    Calls Tryd.prog 25 #[.pointer (some ⟨B, 0, none⟩), .int .i32 42] w fun e w' => Took (p.take 42) B w e w' := by
  rw [show p.take 42 = if p.op then none else some { p with op := true, st := up p.st p.f true } by unfold PSt.take; rw [if_neg (by omega), if_neg (by omega), if_pos rfl]]
  have k10 : w.cell? ⟨B, 10, none⟩ = some (.int .i64 0) := (hI.cell 10).trans (by rw [show (0 : Int) = (p.f : Int) by omega]; rfl)
  have k11 : w.cell? ⟨B, 11, none⟩ = some (.bool p.op) := hI.cell 11
  have ks : w.cell? ⟨B, 5, none⟩ = some (.bool (p.st 0)) := hI.cell 5
  have f11 := frozen_of_row w B 11 _ 66 hI
  have fs := frozen_of_row w B 5 _ 66 hI
  have HI := Hid.mk'' hI
  clear hI
  have HE : Hid (((cellsP p).setIfInBounds 11 (.bool true)).setIfInBounds 5 (.bool true) = cellsP { p with op := true, st := up p.st p.f true }) := by
    show _ = _
    simp [cellsP, up, hf]
  have HQ : Hid (p.op = true ∨ p.op = false) := by show _ ∨ _; cases p.op <;> simp
  cases ho : p.op with
  | true =>
    rw [ho] at k11
    simp only [if_true]
    go_enter Tryd.func25, Tryd.ntmps25
    go_wp2_with fail
    go_region
    all_goals
      go_wp2
      go_ret
      exact ⟨rfl, (((Only.refl _ _).setCell 11 _).trans (Only.drewN _ _)).setCell 5 _⟩
  | false =>
    rw [ho] at k11
    simp only [Bool.false_eq_true, if_false]
    go_enter Tryd.func25, Tryd.ntmps25
    go_wp2_with fail
    go_region
    all_goals
      go_wp2
      go_ret
      refine ⟨⟨rfl, ?_⟩, (((Only.refl _ _).setCell 11 _).trans (Only.drewN _ _)).setCell 5 _⟩
      refine (row_set (row_set HI.out 11 (.bool true)) 5 (.bool true)).trans ?_
      rw [HE.out]
set_option maxHeartbeats 1000000 in
theorem take_star1 (p : PSt) (B : Nat) (w : World) (hI : InP w B p) (hf : p.f = 1) :
    Calls Tryd.prog 25 #[.pointer (some ⟨B, 0, none⟩), .int .i32 42] w fun e w' => Took (p.take 42) B w e w' := by
  rw [show p.take 42 = if p.op then none else some { p with op := true, st := up p.st p.f true } by unfold PSt.take; rw [if_neg (by omega), if_neg (by omega), if_pos rfl]]
  have k10 : w.cell? ⟨B, 10, none⟩ = some (.int .i64 1) := (hI.cell 10).trans (by rw [show (1 : Int) = (p.f : Int) by omega]; rfl)
  have k11 : w.cell? ⟨B, 11, none⟩ = some (.bool p.op) := hI.cell 11
  have ks : w.cell? ⟨B, 6, none⟩ = some (.bool (p.st 1)) := hI.cell 6
  have f11 := frozen_of_row w B 11 _ 66 hI
  have fs := frozen_of_row w B 6 _ 66 hI
  have HI := Hid.mk'' hI
  clear hI
  have HE : Hid (((cellsP p).setIfInBounds 11 (.bool true)).setIfInBounds 6 (.bool true) = cellsP { p with op := true, st := up p.st p.f true }) := by
    show _ = _
    simp [cellsP, up, hf]
  have HQ : Hid (p.op = true ∨ p.op = false) := by show _ ∨ _; cases p.op <;> simp
  cases ho : p.op with
  | true =>
    rw [ho] at k11
    simp only [if_true]
    go_enter Tryd.func25, Tryd.ntmps25
    go_wp2_with fail
    go_region
    all_goals
      go_wp2
      go_ret
      exact ⟨rfl, (((Only.refl _ _).setCell 11 _).trans (Only.drewN _ _)).setCell 6 _⟩
  | false =>
    rw [ho] at k11
    simp only [Bool.false_eq_true, if_false]
    go_enter Tryd.func25, Tryd.ntmps25
    go_wp2_with fail
    go_region
    all_goals
      go_wp2
      go_ret
      refine ⟨⟨rfl, ?_⟩, (((Only.refl _ _).setCell 11 _).trans (Only.drewN _ _)).setCell 6 _⟩
      refine (row_set (row_set HI.out 11 (.bool true)) 6 (.bool true)).trans ?_
      rw [HE.out]
set_option maxHeartbeats 1000000 in
theorem take_star2 (p : PSt) (B : Nat) (w : World) (hI : InP w B p) (hf : p.f = 2) :
    Calls Tryd.prog 25 #[.pointer (some ⟨B, 0, none⟩), .int .i32 42] w fun e w' => Took (p.take 42) B w e w' := by
  rw [show p.take 42 = if p.op then none else some { p with op := true, st := up p.st p.f true } by unfold PSt.take; rw [if_neg (by omega), if_neg (by omega), if_pos rfl]]
  have k10 : w.cell? ⟨B, 10, none⟩ = some (.int .i64 2) := (hI.cell 10).trans (by rw [show (2 : Int) = (p.f : Int) by omega]; rfl)
  have k11 : w.cell? ⟨B, 11, none⟩ = some (.bool p.op) := hI.cell 11
  have ks : w.cell? ⟨B, 7, none⟩ = some (.bool (p.st 2)) := hI.cell 7
  have f11 := frozen_of_row w B 11 _ 66 hI
  have fs := frozen_of_row w B 7 _ 66 hI
  have HI := Hid.mk'' hI
  clear hI
  have HE : Hid (((cellsP p).setIfInBounds 11 (.bool true)).setIfInBounds 7 (.bool true) = cellsP { p with op := true, st := up p.st p.f true }) := by
    show _ = _
    simp [cellsP, up, hf]
  have HQ : Hid (p.op = true ∨ p.op = false) := by show _ ∨ _; cases p.op <;> simp
  cases ho : p.op with
  | true =>
    rw [ho] at k11
    simp only [if_true]
    go_enter Tryd.func25, Tryd.ntmps25
    go_wp2_with fail
    go_region
    all_goals
      go_wp2
      go_ret
      exact ⟨rfl, (((Only.refl _ _).setCell 11 _).trans (Only.drewN _ _)).setCell 7 _⟩
  | false =>
    rw [ho] at k11
    simp only [Bool.false_eq_true, if_false]
    go_enter Tryd.func25, Tryd.ntmps25
    go_wp2_with fail
    go_region
    all_goals
      go_wp2
      go_ret
      refine ⟨⟨rfl, ?_⟩, (((Only.refl _ _).setCell 11 _).trans (Only.drewN _ _)).setCell 7 _⟩
      refine (row_set (row_set HI.out 11 (.bool true)) 7 (.bool true)).trans ?_
      rw [HE.out]
set_option maxHeartbeats 1000000 in
theorem take_star3 (p : PSt) (B : Nat) (w : World) (hI : InP w B p) (hf : p.f = 3) :
    Calls Tryd.prog 25 #[.pointer (some ⟨B, 0, none⟩), .int .i32 42] w fun e w' => Took (p.take 42) B w e w' := by
  rw [show p.take 42 = if p.op then none else some { p with op := true, st := up p.st p.f true } by unfold PSt.take; rw [if_neg (by omega), if_neg (by omega), if_pos rfl]]
  have k10 : w.cell? ⟨B, 10, none⟩ = some (.int .i64 3) := (hI.cell 10).trans (by rw [show (3 : Int) = (p.f : Int) by omega]; rfl)
  have k11 : w.cell? ⟨B, 11, none⟩ = some (.bool p.op) := hI.cell 11
  have ks : w.cell? ⟨B, 8, none⟩ = some (.bool (p.st 3)) := hI.cell 8
  have f11 := frozen_of_row w B 11 _ 66 hI
  have fs := frozen_of_row w B 8 _ 66 hI
  have HI := Hid.mk'' hI
  clear hI
  have HE : Hid (((cellsP p).setIfInBounds 11 (.bool true)).setIfInBounds 8 (.bool true) = cellsP { p with op := true, st := up p.st p.f true }) := by
    show _ = _
    simp [cellsP, up, hf]
  have HQ : Hid (p.op = true ∨ p.op = false) := by show _ ∨ _; cases p.op <;> simp
  cases ho : p.op with
  | true =>
    rw [ho] at k11
    simp only [if_true]
    go_enter Tryd.func25, Tryd.ntmps25
    go_wp2_with fail
    go_region
    all_goals
      go_wp2
      go_ret
      exact ⟨rfl, (((Only.refl _ _).setCell 11 _).trans (Only.drewN _ _)).setCell 8 _⟩
  | false =>
    rw [ho] at k11
    simp only [Bool.false_eq_true, if_false]
    go_enter Tryd.func25, Tryd.ntmps25
    go_wp2_with fail
    go_region
    all_goals
      go_wp2
      go_ret
      refine ⟨⟨rfl, ?_⟩, (((Only.refl _ _).setCell 11 _).trans (Only.drewN _ _)).setCell 8 _⟩
      refine (row_set (row_set HI.out 11 (.bool true)) 8 (.bool true)).trans ?_
      rw [HE.out]
set_option maxHeartbeats 1000000 in
theorem take_star4 (p : PSt) (B : Nat) (w : World) (hI : InP w B p) (hf : p.f = 4) :
    Calls Tryd.prog 25 #[.pointer (some ⟨B, 0, none⟩), .int .i32 42] w fun e w' => Took (p.take 42) B w e w' := by
  rw [show p.take 42 = if p.op then none else some { p with op := true, st := up p.st p.f true } by unfold PSt.take; rw [if_neg (by omega), if_neg (by omega), if_pos rfl]]
  have k10 : w.cell? ⟨B, 10, none⟩ = some (.int .i64 4) := (hI.cell 10).trans (by rw [show (4 : Int) = (p.f : Int) by omega]; rfl)
  have k11 : w.cell? ⟨B, 11, none⟩ = some (.bool p.op) := hI.cell 11
  have ks : w.cell? ⟨B, 9, none⟩ = some (.bool (p.st 4)) := hI.cell 9
  have f11 := frozen_of_row w B 11 _ 66 hI
  have fs := frozen_of_row w B 9 _ 66 hI
  have HI := Hid.mk'' hI
  clear hI
  have HE : Hid (((cellsP p).setIfInBounds 11 (.bool true)).setIfInBounds 9 (.bool true) = cellsP { p with op := true, st := up p.st p.f true }) := by
    show _ = _
    simp [cellsP, up, hf]
  have HQ : Hid (p.op = true ∨ p.op = false) := by show _ ∨ _; cases p.op <;> simp
  cases ho : p.op with
  | true =>
    rw [ho] at k11
    simp only [if_true]
    go_enter Tryd.func25, Tryd.ntmps25
    go_wp2_with fail
    go_region
    all_goals
      go_wp2
      go_ret
      exact ⟨rfl, (((Only.refl _ _).setCell 11 _).trans (Only.drewN _ _)).setCell 9 _⟩
  | false =>
    rw [ho] at k11
    simp only [Bool.false_eq_true, if_false]
    go_enter Tryd.func25, Tryd.ntmps25
    go_wp2_with fail
    go_region
    all_goals
      go_wp2
      go_ret
      refine ⟨⟨rfl, ?_⟩, (((Only.refl _ _).setCell 11 _).trans (Only.drewN _ _)).setCell 9 _⟩
      refine (row_set (row_set HI.out 11 (.bool true)) 9 (.bool true)).trans ?_
      rw [HE.out]
end Go.Proofs.YtdojpnhjnhecmaaDoor
