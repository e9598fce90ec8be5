/- Small calls of a store and of a write: Rev, isOpen, isKey, rev. · Boxes of six cells (a key as it was put), and results that lie in them. -/
import Derived.Test.YteeflkkoifgcbabMS
import Derived.BigQuiet
import Derived.LaidEql
namespace Go.Proofs.Yteeflkkoifgcbab
open Go Go.RowKit

theorem St.cells {n : Nat} {w : World} {s : Nat} {S : Sto} {g : Sg} {o : Value} (h : St n w s S g o) : w.cell? ⟨s, 0, none⟩ = some (.int .i64 S.rev) ∧ w.cell? ⟨s, 1, none⟩ = some (.int .i64 S.past) ∧ w.cell? ⟨s, 2, none⟩ = some (ptr g.x) ∧ w.cell? ⟨s, 3, none⟩ = some (.map (some g.bc)) ∧ w.cell? ⟨s, 4, none⟩ = some (.map (some g.bl)) ∧ w.cell? ⟨s, 5, none⟩ = some (.map (some g.bt)) ∧ w.cell? ⟨s, 6, none⟩ = some o :=
  ⟨cell_of_row _ _ _ _ _ _ h.blk, cell_of_row _ _ _ _ _ _ h.blk, cell_of_row _ _ _ _ _ _ h.blk, cell_of_row _ _ _ _ _ _ h.blk, cell_of_row _ _ _ _ _ _ h.blk, cell_of_row _ _ _ _ _ _ h.blk, cell_of_row _ _ _ _ _ _ h.blk⟩
theorem Wm.cells {w : World} {b s : Nat} {W : Wri} {h : Wg} (H : Wm w b s W h) : w.cell? ⟨b, 0, none⟩ = some (ptr s) ∧ w.cell? ⟨b, 1, none⟩ = some h.v ∧ w.cell? ⟨b, 2, none⟩ = some (.map (some h.bw)) ∧ w.cell? ⟨b, 3, none⟩ = some (.int .i64 W.count) :=
  ⟨cell_of_row _ _ _ _ _ _ H.blk, cell_of_row _ _ _ _ _ _ H.blk, cell_of_row _ _ _ _ _ _ H.blk, cell_of_row _ _ _ _ _ _ H.blk⟩
set_option maxHeartbeats 400000 in
theorem rev_st {n : Nat} {w : World} {s : Nat} {S : Sto} {g : Sg} {o : Value} (h : St n w s S g o) : Calls Try.prog 11 #[ptr s] w fun e w' => e = .returned (.int .i64 S.rev) ∧ w' = w := by
  obtain ⟨c0, -⟩ := h.cells
  clear h
  go_enter Try.func11, Try.ntmps11
  go_wp2
  go_ret
  exact ⟨rfl, rfl⟩
theorem ptr_eqIn (n b : Nat) (W : World) : (Op.equalIn (n + 1) 26 (ptr b) (ptr b)).run Try.prog W = .ok true W := by
  unfold Op.equalIn
  have hs : (Go.sizeOf 48).run Try.prog W = .ok 4 W := by kernel_rfl
  simp [run_underlying Try.underlying26, Result.andThen, hs, run_sameAddr_same]
theorem ptr_eq (b : Nat) (W : World) : (binOp BinOp.eql 26 (ptr b) (ptr b)).run Try.prog W = .ok (.bool true) W := by
  have := ptr_eqIn 9999 b W
  simp only [Nat.reduceAdd] at this
  simp [binOp, Op.equal, Op.maxDepth, this, Result.andThen]
set_option maxRecDepth 100000 in
set_option maxHeartbeats 400000 in
theorem open_st {n : Nat} {w : World} {s b : Nat} {S : Sto} {W : Wri} {g : Sg} {h : Wg} (H : Ow n w s b S W g h) : Calls Try.prog 14 #[ptr b] w fun e w' => e = .returned (.bool true) ∧ w' = w := by
  obtain ⟨c0, -⟩ := H.wr.cells
  obtain ⟨-, -, -, -, -, -, d6⟩ := H.st.cells
  clear H
  have hpe := ptr_eq b
  go_enter Try.func14, Try.ntmps14
  go_wp2
  go_ret
  exact ⟨rfl, rfl⟩
set_option maxHeartbeats 400000 in
theorem iskey_any (k : ByteArray) (w : World) (hk : k.size ≤ 9223372036854775807) : Calls Try.prog 15 #[.string k] w fun e w' => e = .returned (.bool (decide (0 < k.size ∧ k.size ≤ 100))) ∧ w' = w := by
  by_cases h0 : 0 < k.size
  · by_cases h1 : k.size ≤ 100
    · rw [decide_eq_true ⟨h0, h1⟩]
      go_enter Try.func15, Try.ntmps15
      go_wp2
      go_ret
      exact ⟨ret_bool (a := decide ((k.size : Int) ≤ 100)) (decide_eq_true (by omega)), rfl⟩
    · rw [decide_eq_false (fun h => h1 h.2)]
      go_enter Try.func15, Try.ntmps15
      go_wp2
      go_ret
      exact ⟨ret_bool (a := decide ((k.size : Int) ≤ 100)) (decide_eq_false (by omega)), rfl⟩
  · rw [decide_eq_false (fun h => h0 h.1)]
    go_enter Try.func15, Try.ntmps15
    go_wp2
    go_ret
    exact ⟨rfl, rfl⟩
set_option maxHeartbeats 400000 in
theorem wrev_st {n : Nat} {w : World} {s b : Nat} {S : Sto} {W : Wri} {g : Sg} {h : Wg} (H : Ow n w s b S W g h) (hr : S.rev ≤ 1000000) : Calls Try.prog 17 #[ptr b] w fun e w' => e = .returned (.int .i64 ((S.rev : Int) + 1)) ∧ w' = w := by
  obtain ⟨c0, -⟩ := H.wr.cells
  obtain ⟨d0, -⟩ := H.st.cells
  clear H
  go_enter Try.func17, Try.ntmps17
  go_wp2
  go_ret
  exact ⟨rfl, rfl⟩
end Go.Proofs.Yteeflkkoifgcbab
namespace Go.Proofs.Yteeflkkoifgcbab
open Go Go.RowKit

theorem results_ct {P : Program} {fn : Func} {u q : Tmp} {ty : TypeId} (h : fn.results = #[.cell u ty, .tmp q]) (tmps : Array Value) (w : World) (g : Nat) (t : TypeId) (cs : Array Value) (fr : Nat × Nat) (d : TypeDesc)
    (hp : tmps.getD u undef = .pointer (some ⟨g, 0, none⟩)) (hg : w.heap[g]? = some (.cells cs t fr))
    (hu : P.underlying ty = some d) (hd : (match d with | .struct _ | .array _ _ => true | _ => false) = true) (hi : (P.info? ty).map (·.size) = some cs.size) :
    (results fn tmps).run P w = .ok (.tuple #[.agg cs, tmps.getD q undef]) w := by
  have hp' : tmps[u]?.getD undef = .pointer (some ⟨g, 0, none⟩) := by simpa using hp
  simp [results, h, hp', asAddr, run_loadVar_row w g t ty cs fr d hg hu hd hi]
theorem size56 : (Try.prog.info? 36).map (·.size) = some 6 := by kernel_rfl
theorem size76 : (Try.prog.info? 56).map (·.size) = some 6 := by kernel_rfl
section
variable {W : World} {gb t : Nat} {a0 a1 a2 a3 a4 a5 : Value} (h : W.heap[gb]? = some (.cells #[a0, a1, a2, a3, a4, a5] t (0, 0)))
include h
theorem box6 : (W.cell? ⟨gb, 0, none⟩ = some a0 ∧ W.cell? ⟨gb, 1, none⟩ = some a1 ∧ W.cell? ⟨gb, 2, none⟩ = some a2 ∧ W.cell? ⟨gb, 3, none⟩ = some a3 ∧ W.cell? ⟨gb, 4, none⟩ = some a4 ∧ W.cell? ⟨gb, 5, none⟩ = some a5) ∧
    W.frozen? ⟨gb, 0, none⟩ = false ∧ W.frozen? ⟨gb, 1, none⟩ = false ∧ W.frozen? ⟨gb, 2, none⟩ = false ∧ W.frozen? ⟨gb, 3, none⟩ = false ∧ W.frozen? ⟨gb, 4, none⟩ = false ∧ W.frozen? ⟨gb, 5, none⟩ = false :=
  ⟨⟨cell_of_row _ _ _ _ _ _ h, cell_of_row _ _ _ _ _ _ h, cell_of_row _ _ _ _ _ _ h, cell_of_row _ _ _ _ _ _ h, cell_of_row _ _ _ _ _ _ h, cell_of_row _ _ _ _ _ _ h⟩, frozen_of_row _ _ _ _ _ h, frozen_of_row _ _ _ _ _ h, frozen_of_row _ _ _ _ _ h, frozen_of_row _ _ _ _ _ h, frozen_of_row _ _ _ _ _ h, frozen_of_row _ _ _ _ _ h⟩
theorem set6 (v0 v1 v2 v3 v4 v5 : Value) : ((((((W.setCell ⟨gb, 0, none⟩ v0).setCell ⟨gb, 1, none⟩ v1).setCell ⟨gb, 2, none⟩ v2).setCell ⟨gb, 3, none⟩ v3).setCell ⟨gb, 4, none⟩ v4).setCell ⟨gb, 5, none⟩ v5).heap[gb]? = some (.cells #[v0, v1, v2, v3, v4, v5] t (0, 0)) :=
  heap_setCell_row (heap_setCell_row (heap_setCell_row (heap_setCell_row (heap_setCell_row (heap_setCell_row h v0) v1) v2) v3) v4) v5
end
theorem below6 {B : Nat} {w W : World} (h : Below B w W) {gb : Nat} (hg : B ≤ gb) (v0 v1 v2 v3 v4 v5 : Value) : Below B w ((((((W.setCell ⟨gb, 0, none⟩ v0).setCell ⟨gb, 1, none⟩ v1).setCell ⟨gb, 2, none⟩ v2).setCell ⟨gb, 3, none⟩ v3).setCell ⟨gb, 4, none⟩ v4).setCell ⟨gb, 5, none⟩ v5) :=
  (((((h.setCell hg _).setCell hg _).setCell hg _).setCell hg _).setCell hg _).setCell hg _
theorem cell6 {W : World} {k i gb : Nat} {v : Value} (h : W.cell? ⟨k, i, none⟩ = some v) (hne : ¬ k = gb) (v0 v1 v2 v3 v4 v5 : Value) : ((((((W.setCell ⟨gb, 0, none⟩ v0).setCell ⟨gb, 1, none⟩ v1).setCell ⟨gb, 2, none⟩ v2).setCell ⟨gb, 3, none⟩ v3).setCell ⟨gb, 4, none⟩ v4).setCell ⟨gb, 5, none⟩ v5).cell? ⟨k, i, none⟩ = some v := by
  have hn : ∀ j, (⟨k, i, none⟩ : Addr) ≠ ⟨gb, j, none⟩ := fun j e => hne (by cases e; rfl)
  rw [World.cell?_setCell_other _ _ _ _ (by first | exact hn _ | exact (hn _).symm), World.cell?_setCell_other _ _ _ _ (by first | exact hn _ | exact (hn _).symm), World.cell?_setCell_other _ _ _ _ (by first | exact hn _ | exact (hn _).symm), World.cell?_setCell_other _ _ _ _ (by first | exact hn _ | exact (hn _).symm), World.cell?_setCell_other _ _ _ _ (by first | exact hn _ | exact (hn _).symm), World.cell?_setCell_other _ _ _ _ (by first | exact hn _ | exact (hn _).symm)]
  exact h
theorem ta_must (x : Value) (W : World) : (Instr.typeAssert (.iface 56 x) 51 56 false).run Try.prog W = .ok x W := by kernel_rfl
theorem ta_yes (x : Value) (W : World) : (Instr.typeAssert (.iface 56 x) 51 56 true).run Try.prog W = .ok (.tuple #[x, .bool true]) W := by kernel_rfl
theorem ta_no (x : Value) (W : World) : (Instr.typeAssert (.iface 63 x) 51 56 true).run Try.prog W = .ok (.tuple #[.agg #[.string ⟨#[]⟩, .string ⟨#[]⟩, .int .i64 0, .int .i64 0, .int .i64 0, .int .i64 0], .bool false]) W := by kernel_rfl
end Go.Proofs.Yteeflkkoifgcbab
