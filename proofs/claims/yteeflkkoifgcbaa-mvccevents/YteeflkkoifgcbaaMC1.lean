/- Small calls of a store and of a write: Rev, isOpen, isKey, rev. -/
import Derived.Test.YteeflkkoifgcbaaMS
import Derived.BigQuiet
import Derived.LaidEql
namespace Go.Proofs.Yteeflkkoifgcbaa
open Go Go.RowKit

theorem St.cells {n : Nat} {w : World} {s : Nat} {S : Sto} {g : Sg} {o : Value} (h : St n w s S g o) : w.cell? ⟨s, 0, none⟩ = some (.int .i64 S.rev) ∧ w.cell? ⟨s, 1, none⟩ = some (.int .i64 S.past) ∧ w.cell? ⟨s, 2, none⟩ = some (ptr g.x) ∧ w.cell? ⟨s, 3, none⟩ = some (.map (some g.bc)) ∧ w.cell? ⟨s, 4, none⟩ = some (.map (some g.bl)) ∧ w.cell? ⟨s, 5, none⟩ = some (.map (some g.bt)) ∧ w.cell? ⟨s, 6, none⟩ = some o :=
  ⟨cell_of_row _ _ _ _ _ _ h.blk, cell_of_row _ _ _ _ _ _ h.blk, cell_of_row _ _ _ _ _ _ h.blk, cell_of_row _ _ _ _ _ _ h.blk, cell_of_row _ _ _ _ _ _ h.blk, cell_of_row _ _ _ _ _ _ h.blk, cell_of_row _ _ _ _ _ _ h.blk⟩
theorem Wm.cells {w : World} {b s : Nat} {W : Wri} {h : Wg} (H : Wm w b s W h) : w.cell? ⟨b, 0, none⟩ = some (ptr s) ∧ w.cell? ⟨b, 1, none⟩ = some h.v ∧ w.cell? ⟨b, 2, none⟩ = some (.map (some h.bw)) ∧ w.cell? ⟨b, 3, none⟩ = some (.int .i64 W.count) :=
  ⟨cell_of_row _ _ _ _ _ _ H.blk, cell_of_row _ _ _ _ _ _ H.blk, cell_of_row _ _ _ _ _ _ H.blk, cell_of_row _ _ _ _ _ _ H.blk⟩
set_option maxHeartbeats 400000 in
theorem rev_st {n : Nat} {w : World} {s : Nat} {S : Sto} {g : Sg} {o : Value} (h : St n w s S g o) : Calls Try.prog 13 #[ptr s] w fun e w' => e = .returned (.int .i64 S.rev) ∧ w' = w := by
  obtain ⟨c0, -⟩ := h.cells
  clear h
  go_enter Try.func13, Try.ntmps13
  go_wp2
  go_ret
  exact ⟨rfl, rfl⟩
theorem ptr_eqIn (n b : Nat) (W : World) : (Op.equalIn (n + 1) 30 (ptr b) (ptr b)).run Try.prog W = .ok true W := by
  unfold Op.equalIn
  have hs : (Go.sizeOf 68).run Try.prog W = .ok 4 W := by kernel_rfl
  simp [run_underlying Try.underlying30, Result.andThen, hs, run_sameAddr_same]
theorem ptr_eq (b : Nat) (W : World) : (binOp BinOp.eql 30 (ptr b) (ptr b)).run Try.prog W = .ok (.bool true) W := by
  have := ptr_eqIn 9999 b W
  simp only [Nat.reduceAdd] at this
  simp [binOp, Op.equal, Op.maxDepth, this, Result.andThen]
set_option maxRecDepth 100000 in
set_option maxHeartbeats 400000 in
theorem open_st {n : Nat} {w : World} {s b : Nat} {S : Sto} {W : Wri} {g : Sg} {h : Wg} (H : Ow n w s b S W g h) : Calls Try.prog 21 #[ptr b] w fun e w' => e = .returned (.bool true) ∧ w' = w := by
  obtain ⟨c0, -⟩ := H.wr.cells
  obtain ⟨-, -, -, -, -, -, d6⟩ := H.st.cells
  clear H
  have hpe := ptr_eq b
  go_enter Try.func21, Try.ntmps21
  go_wp2
  go_ret
  exact ⟨rfl, rfl⟩
set_option maxHeartbeats 400000 in
theorem iskey_any (k : ByteArray) (w : World) (hk : k.size ≤ 9223372036854775807) : Calls Try.prog 22 #[.string k] w fun e w' => e = .returned (.bool (decide (0 < k.size ∧ k.size ≤ 100))) ∧ w' = w := by
  by_cases h0 : 0 < k.size
  · by_cases h1 : k.size ≤ 100
    · rw [decide_eq_true ⟨h0, h1⟩]
      go_enter Try.func22, Try.ntmps22
      go_wp2
      go_ret
      exact ⟨ret_bool (a := decide ((k.size : Int) ≤ 100)) (decide_eq_true (by omega)), rfl⟩
    · rw [decide_eq_false (fun h => h1 h.2)]
      go_enter Try.func22, Try.ntmps22
      go_wp2
      go_ret
      exact ⟨ret_bool (a := decide ((k.size : Int) ≤ 100)) (decide_eq_false (by omega)), rfl⟩
  · rw [decide_eq_false (fun h => h0 h.1)]
    go_enter Try.func22, Try.ntmps22
    go_wp2
    go_ret
    exact ⟨rfl, rfl⟩
set_option maxHeartbeats 400000 in
theorem wrev_st {n : Nat} {w : World} {s b : Nat} {S : Sto} {W : Wri} {g : Sg} {h : Wg} (H : Ow n w s b S W g h) (hr : S.rev ≤ 1000000) : Calls Try.prog 24 #[ptr b] w fun e w' => e = .returned (.int .i64 ((S.rev : Int) + 1)) ∧ w' = w := by
  obtain ⟨c0, -⟩ := H.wr.cells
  obtain ⟨d0, -⟩ := H.st.cells
  clear H
  go_enter Try.func24, Try.ntmps24
  go_wp2
  go_ret
  exact ⟨rfl, rfl⟩
end Go.Proofs.Yteeflkkoifgcbaa
