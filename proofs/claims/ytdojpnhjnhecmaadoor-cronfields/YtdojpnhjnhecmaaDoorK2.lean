/- A parser in memory; its items. -/
import Derived.Test.YtdojpnhjnhecmaaDoorK1
import Derived.Test.YtdojpnhjnhecmaaDoorP1
import Derived.OwnWalk
namespace Go.Proofs.YtdojpnhjnhecmaaDoor
open Go Go.RowKit
/-- As before but for one block, and new ones. -/
structure Only (B : Nat) (w w' : World) : Prop where
  os : w'.os = w.os
  tape : w'.tape = w.tape
  output : w'.output = w.output
  size : w.heap.size ≤ w'.heap.size
  block : ∀ k, k < w.heap.size → k ≠ B → w'.heap[k]? = w.heap[k]?
theorem Only.refl (B : Nat) (w : World) : Only B w w := ⟨rfl, rfl, rfl, Nat.le_refl _, fun _ _ _ => rfl⟩
theorem Only.trans {B : Nat} {a b c : World} (h : Only B a b) (k : Only B b c) : Only B a c :=
  ⟨k.os.trans h.os, k.tape.trans h.tape, k.output.trans h.output, Nat.le_trans h.size k.size, fun i hi hn => (k.block i (Nat.lt_of_lt_of_le hi h.size) hn).trans (h.block i hi hn)⟩
theorem Only.drewN {B : Nat} (w : World) (n : Nat) : Only B w (w.drewN n) := ⟨rfl, rfl, rfl, Nat.le_refl _, fun _ _ _ => rfl⟩
theorem Only.drew {B : Nat} {w w' : World} (h : Only B w w') : Only B w w'.drew := ⟨h.os, h.tape, h.output, h.size, h.block⟩
theorem Only.setCell {B : Nat} {a w : World} (h : Only B a w) (j : Nat) (u : Value) : Only B a (w.setCell ⟨B, j, none⟩ u) := by
  refine ⟨h.os, h.tape, h.output, ?_, fun k hk hn => ?_⟩
  · have : (w.setCell ⟨B, j, none⟩ u).heap.size = w.heap.size := by simp [World.setCell]
    rw [this]; exact h.size
  · rw [← h.block k hk hn]
    unfold World.setCell
    rw [Array.getElem?_modify, if_neg (by simpa using Ne.symm hn)]
theorem Only.ofBelow {B : Nat} {w w' : World} (h : Below w.heap.size w w') : Only B w w' := ⟨h.os, h.tape, h.output, h.size, fun k hk _ => h.block k hk⟩
theorem Only.alloc {B : Nat} {w w' : World} (h : Only B w w') (o : Obj) : Only B w (w'.alloc o) := h.trans (Only.ofBelow ((Below.refl _ _).alloc (Nat.le_refl _) o))
theorem Only.below {B : Nat} {w w' : World} (h : Only B w w') {C : Nat} (hC : C ≤ w.heap.size) (hB : C ≤ B) : Below C w w' := ⟨h.os, h.tape, h.output, h.size, fun k hk => h.block k (by omega) (by omega)⟩
theorem HasT.only {B : Nat} {w w' : World} (hT : HasT w) (h : Only B w w') (hB : 4 ≤ B) : HasT w' :=
  hT.keep fun b j v hb hv => by
    rw [← hv]
    exact World.cell?_of_block (w := w) (h.block b (World.block_lt_of_cell? _ _ hv) (by omega))
def cellsP (p : PSt) : Array Value := #[.int .u64 (p.al 0), .int .u64 (p.al 1), .int .u64 (p.al 2), .int .u64 (p.al 3), .int .u64 (p.al 4), .bool (p.st 0), .bool (p.st 1), .bool (p.st 2), .bool (p.st 3), .bool (p.st 4), .int .i64 p.f, .bool p.op, .int .i64 p.dg, .int .i64 p.nm, .bool p.rg, .int .i64 p.fs]
def InP (w : World) (B : Nat) (p : PSt) : Prop := w.heap[B]? = some (.cells (cellsP p) 66 (0, 0))
def wholeB (p : PSt) : Bool := decide (0 < p.dg) && decide (p.first ≤ p.nm)
theorem InP.cell {w : World} {B : Nat} {p : PSt} (hI : InP w B p) (j : Nat) : w.cell? ⟨B, j, none⟩ = (cellsP p)[j]? := cell_of_row _ _ _ _ _ _ hI
theorem ret_tup3 {a b c a' b' c' : Value} (h1 : a = a') (h2 : b = b') (h3 : c = c') : Ending.returned (.tuple #[a, b, c]) = .returned (.tuple #[a', b', c']) := by rw [h1, h2, h3]
set_option maxHeartbeats 400000 in
theorem numbers_any (p : PSt) (B : Nat) (w : World) (hI : InP w B p) :
    Calls Tryd.prog 68 #[.pointer (some ⟨B, 12, none⟩)] w fun e w' => e = .returned (.tuple #[.int .i64 p.first, .int .i64 p.nm, .bool (wholeB p)]) ∧ ∃ n, w' = w.drewN n := by
  have k12 : w.cell? ⟨B, 12, none⟩ = some (.int .i64 p.dg) := hI.cell 12
  have k13 : w.cell? ⟨B, 13, none⟩ = some (.int .i64 p.nm) := hI.cell 13
  have k14 : w.cell? ⟨B, 14, none⟩ = some (.bool p.rg) := hI.cell 14
  have k15 : w.cell? ⟨B, 15, none⟩ = some (.int .i64 p.fs) := hI.cell 15
  have HW : Hid (wholeB p = (decide (0 < p.dg) && decide (p.first ≤ p.nm))) := rfl
  have HF : Hid (p.first = if p.rg then p.fs else p.nm) := rfl
  clear hI
  generalize p.dg = dg at *
  generalize p.nm = nm at *
  generalize p.fs = fs at *
  generalize p.rg = rg at *
  generalize wholeB p = wb at *
  generalize p.first = fi at *
  cases rg with
  | false =>
    by_cases hd : 0 < dg
    · have e1 : decide ((0 : Int) < (dg : Int)) = true := by simpa using hd
      have HB : Hid (wb = true ∧ fi = nm) := by
        have h1 : fi = nm := HF.out
        exact ⟨by rw [HW.out, h1]; simpa using hd, h1⟩
      clear HW HF
      go_enter Tryd.func68, Tryd.ntmps68
      go_wp2
      go_quiet (fail)
      go_wp2
      go_ret3
      exact ⟨ret_tup3 (by rw [HB.out.2]; rfl) rfl (by rw [HB.out.1]; rfl), nq, rfl⟩
    · have hd0 : dg = 0 := by omega
      subst hd0
      have HB : Hid (wb = false ∧ fi = nm) := ⟨by rw [HW.out]; simp, HF.out⟩
      clear HW HF hd
      go_enter Tryd.func68, Tryd.ntmps68
      go_wp2
      go_quiet (fail)
      go_wp2
      go_ret3
      exact ⟨ret_tup3 (by rw [HB.out.2]; rfl) rfl (by rw [HB.out.1]; rfl), nq, rfl⟩
  | true =>
    by_cases hd : 0 < dg
    · by_cases hn : fs ≤ nm
      · have e1 : decide ((0 : Int) < (dg : Int)) = true := by simpa using hd
        have HB : Hid (wb = true ∧ fi = fs) := by
          have h1 : fi = fs := HF.out
          exact ⟨by rw [HW.out, h1]; simp [hn, hd], h1⟩
        clear HW HF
        go_enter Tryd.func68, Tryd.ntmps68
        go_wp2
        go_quiet (fail)
        go_wp2
        go_ret3
        exact ⟨ret_tup3 (by rw [HB.out.2]; rfl) rfl (by rw [HB.out.1]; rfl), nq, rfl⟩
      · have e1 : decide ((0 : Int) < (dg : Int)) = true := by simpa using hd
        have HB : Hid (wb = false ∧ fi = fs) := by
          have h1 : fi = fs := HF.out
          exact ⟨by rw [HW.out, h1]; simp; omega, h1⟩
        clear HW HF
        go_enter Tryd.func68, Tryd.ntmps68
        go_wp2
        go_quiet (fail)
        go_wp2
        go_ret3
        exact ⟨ret_tup3 (by rw [HB.out.2]; rfl) rfl (by rw [HB.out.1]; rfl), nq, rfl⟩
    · have hd0 : dg = 0 := by omega
      subst hd0
      have HB : Hid (wb = false ∧ fi = fs) := ⟨by rw [HW.out]; simp, HF.out⟩
      clear HW HF hd
      go_enter Tryd.func68, Tryd.ntmps68
      go_wp2
      go_quiet (fail)
      go_wp2
      go_ret3
      exact ⟨ret_tup3 (by rw [HB.out.2]; rfl) rfl (by rw [HB.out.1]; rfl), nq, rfl⟩
theorem row_set {w : World} {B : Nat} {cs : Array Value} (h : w.heap[B]? = some (.cells cs 66 (0, 0))) (k : Nat) (u : Value) : (w.setCell ⟨B, k, none⟩ u).heap[B]? = some (.cells (cs.setIfInBounds k u) 66 (0, 0)) := by
  have hlt : B < w.heap.size := (Array.getElem?_eq_some_iff.1 h).1
  have hv : w.heap[B] = .cells cs 66 (0, 0) := (Array.getElem?_eq_some_iff.1 h).2
  unfold World.setCell
  rw [Array.getElem?_eq_getElem (by simpa using hlt), Array.getElem_modify]
  simp [hv]
set_option maxHeartbeats 400000 in
theorem digit_any (p : PSt) (n B : Nat) (w : World) (hI : InP w B p) (h1 : p.nm < 1000) (h2 : p.dg < 1000) (h3 : n ≤ 9) :
    Calls Tryd.prog 53 #[.pointer (some ⟨B, 12, none⟩), .int .i64 n] w fun e w' => e = .returned (.bool (decide (p.dg + 1 ≤ 2))) ∧ InP w' B { p with nm := p.nm * 10 + n, dg := p.dg + 1 } ∧ Only B w w' := by
  have k12 : w.cell? ⟨B, 12, none⟩ = some (.int .i64 p.dg) := hI.cell 12
  have k13 : w.cell? ⟨B, 13, none⟩ = some (.int .i64 p.nm) := hI.cell 13
  have f12 := frozen_of_row w B 12 _ 66 hI
  have f13 := frozen_of_row w B 13 _ 66 hI
  have HI := Hid.mk'' hI
  have HE : Hid ((((cellsP p).setIfInBounds 13 (.int .i64 (p.nm * 10 + n))).setIfInBounds 12 (.int .i64 (p.dg + 1))) = cellsP { p with nm := p.nm * 10 + n, dg := p.dg + 1 }) := by
    show _ = _
    simp [cellsP]
  clear hI
  go_enter Tryd.func53, Tryd.ntmps53
  go_wp2
  go_ret
  refine ⟨?_, ?_, ?_⟩
  · refine ret_bool ?_
    rw [decide_eq_decide]
    omega
  · have := row_set (row_set HI.out 13 (.int .i64 (p.nm * 10 + n))) 12 (.int .i64 (p.dg + 1))
    rw [HE.out] at this
    exact this
  · exact ((Only.refl _ _).setCell 13 _).setCell 12 _
set_option maxHeartbeats 400000 in
theorem dash_yes (p : PSt) (B : Nat) (w : World) (hI : InP w B p) (hd : (p.rg || p.dg == 0) = false) :
    Calls Tryd.prog 52 #[.pointer (some ⟨B, 12, none⟩)] w fun e w' => e = .returned (.bool true) ∧ InP w' B { p with dg := 0, nm := 0, rg := true, fs := p.nm } ∧ Only B w w' := by
  have k12 : w.cell? ⟨B, 12, none⟩ = some (.int .i64 p.dg) := hI.cell 12
  have k13 : w.cell? ⟨B, 13, none⟩ = some (.int .i64 p.nm) := hI.cell 13
  have k14 : w.cell? ⟨B, 14, none⟩ = some (.bool p.rg) := hI.cell 14
  have k15 : w.cell? ⟨B, 15, none⟩ = some (.int .i64 p.fs) := hI.cell 15
  have f12 := frozen_of_row w B 12 _ 66 hI
  have f13 := frozen_of_row w B 13 _ 66 hI
  have f14 := frozen_of_row w B 14 _ 66 hI
  have f15 := frozen_of_row w B 15 _ 66 hI
  have HI := Hid.mk'' hI
  have HE : Hid (((((cellsP p).setIfInBounds 12 (.int .i64 0)).setIfInBounds 13 (.int .i64 0)).setIfInBounds 14 (.bool true)).setIfInBounds 15 (.int .i64 p.nm) = cellsP { p with dg := 0, nm := 0, rg := true, fs := p.nm }) := by
    show _ = _
    simp [cellsP]
  clear hI
  obtain ⟨h1, h2⟩ := Bool.or_eq_false_iff.1 hd
  clear hd
  have e2 : ((p.dg : Int) == 0) = false := by simp at h2 ⊢; omega
  clear h2
  go_enter Tryd.func52, Tryd.ntmps52
  go_wp2
  go_ret
  refine ⟨rfl, ?_, ?_⟩
  · have := row_set (row_set (row_set (row_set HI.out 12 (.int .i64 0)) 13 (.int .i64 0)) 14 (.bool true)) 15 (.int .i64 p.nm)
    rw [HE.out] at this
    exact this
  · exact ((((Only.refl _ _).setCell 12 _).setCell 13 _).setCell 14 _).setCell 15 _
set_option maxHeartbeats 400000 in
theorem dash_no (p : PSt) (B : Nat) (w : World) (hI : InP w B p) (hd : (p.rg || p.dg == 0) = true) :
    Calls Tryd.prog 52 #[.pointer (some ⟨B, 12, none⟩)] w fun e w' => e = .returned (.bool false) ∧ Only B w w' := by
  have k12 : w.cell? ⟨B, 12, none⟩ = some (.int .i64 p.dg) := hI.cell 12
  have k13 : w.cell? ⟨B, 13, none⟩ = some (.int .i64 p.nm) := hI.cell 13
  have k14 : w.cell? ⟨B, 14, none⟩ = some (.bool p.rg) := hI.cell 14
  clear hI
  cases hr : p.rg with
  | true =>
    rw [hr] at k14
    clear hd
    go_enter Tryd.func52, Tryd.ntmps52
    go_wp2
    go_ret
    exact ⟨rfl, Only.refl _ _⟩
  | false =>
    rw [hr] at k14 hd
    have e2 : ((p.dg : Int) == 0) = true := by simp at hd ⊢; omega
    clear hd hr
    go_enter Tryd.func52, Tryd.ntmps52
    go_wp2
    go_ret
    exact ⟨rfl, Only.refl _ _⟩
theorem below_drewN {B : Nat} {w w' : World} (h : Below B w w') (n : Nat) : Below B w (w'.drewN n) := ⟨h.os, h.tape, h.output, h.size, h.block⟩
theorem f5 {f : Nat} (h : f < 5) : f = 0 ∨ f = 1 ∨ f = 2 ∨ f = 3 ∨ f = 4 := by omega
set_option maxHeartbeats 400000 in
theorem all_any (f : Nat) (hf : f < 5) (w : World) (hT : HasT w) : Calls Tryd.prog 31 #[.int .i64 f] w fun e w' => e = .returned (.int .u64 (allB f)) ∧ Below w.heap.size w w' := by
  have c0 := hT.bd 0 (by decide)
  have c1 := hT.bd 1 (by decide)
  have c2 := hT.bd 2 (by decide)
  have c3 := hT.bd 3 (by decide)
  have c4 := hT.bd 4 (by decide)
  have c5 := hT.bd 5 (by decide)
  have c6 := hT.bd 6 (by decide)
  have c7 := hT.bd 7 (by decide)
  have c8 := hT.bd 8 (by decide)
  have c9 := hT.bd 9 (by decide)
  have hsz := hT.size
  clear hT
  rcases f5 hf with rfl | rfl | rfl | rfl | rfl
  · have hr := fun W => run_any 0 59 W (by decide) (by decide)
    go_enter Tryd.func31, Tryd.ntmps31
    go_wp2_with (go_at_call 59; refine (hr _).mono ?_; rintro e w1 ⟨rfl, n, rfl⟩)
    go_ret
    exact ⟨rfl, below_drewN ((Below.refl _ _).alloc (Nat.le_refl _) _) n⟩
  · have hr := fun W => run_any 0 23 W (by decide) (by decide)
    go_enter Tryd.func31, Tryd.ntmps31
    go_wp2_with (go_at_call 59; refine (hr _).mono ?_; rintro e w1 ⟨rfl, n, rfl⟩)
    go_ret
    exact ⟨rfl, below_drewN ((Below.refl _ _).alloc (Nat.le_refl _) _) n⟩
  · have hr := fun W => run_any 1 31 W (by decide) (by decide)
    go_enter Tryd.func31, Tryd.ntmps31
    go_wp2_with (go_at_call 59; refine (hr _).mono ?_; rintro e w1 ⟨rfl, n, rfl⟩)
    go_ret
    exact ⟨rfl, below_drewN ((Below.refl _ _).alloc (Nat.le_refl _) _) n⟩
  · have hr := fun W => run_any 1 12 W (by decide) (by decide)
    go_enter Tryd.func31, Tryd.ntmps31
    go_wp2_with (go_at_call 59; refine (hr _).mono ?_; rintro e w1 ⟨rfl, n, rfl⟩)
    go_ret
    exact ⟨rfl, below_drewN ((Below.refl _ _).alloc (Nat.le_refl _) _) n⟩
  · have hr := fun W => run_any 0 6 W (by decide) (by decide)
    go_enter Tryd.func31, Tryd.ntmps31
    go_wp2_with (go_at_call 59; refine (hr _).mono ?_; rintro e w1 ⟨rfl, n, rfl⟩)
    go_ret
    exact ⟨rfl, below_drewN ((Below.refl _ _).alloc (Nat.le_refl _) _) n⟩
end Go.Proofs.YtdojpnhjnhecmaaDoor
