/- What a parser has read, as an expression. -/
import Derived.Test.YtdojpnhjnhecmaaDoorK5
import Derived.Test.YtdojpnhjnhecmaaDoorS1
namespace Go.Proofs.YtdojpnhjnhecmaaDoor
open Go Go.RowKit
theorem results_cell1 {P : Program} {fn : Func} {u : Tmp} {ty : TypeId} (h : fn.results = #[.cell u ty]) (tmps : Array Value) (w : World) (g : Nat) (t : TypeId) (cs : Array Value) (fr : Nat × Nat) (d : TypeDesc)
    (hp : tmps.getD u undef = .pointer (some ⟨g, 0, none⟩)) (hg : w.heap[g]? = some (.cells cs t fr))
    (hu : P.underlying ty = some d) (hd : (match d with | .struct _ | .array _ _ => true | _ => false) = true) (hi : (P.info? ty).map (·.size) = some cs.size) :
    (results fn tmps).run P w = .ok (.agg cs) w := by
  have hp' : tmps[u]?.getD undef = .pointer (some ⟨g, 0, none⟩) := by simpa using hp
  simp [results, h, hp', asAddr, run_loadVar_row w g t ty cs fr d hg hu hd hi]
theorem info25 : (Tryd.prog.info? 25).map (·.size) = some 7 := by kernel_rfl
abbrev exp0 : Value := .agg #[.int .u64 0, .int .u64 0, .int .u64 0, .int .u64 0, .int .u64 0, .bool false, .bool false]
set_option maxHeartbeats 1000000 in
theorem expr_any (p : PSt) (B : Nat) (w : World) (hI : InP w B p) : Calls Tryd.prog 26 #[.pointer (some ⟨B, 0, none⟩)] w fun e w' => e = .returned (expV p.exp) ∧ Below w.heap.size w w' := by
  have hlt := hI.lt
  have k0 : w.cell? ⟨B, 0, none⟩ = some (.int .u64 (p.al 0)) := hI.cell 0
  have k1 : w.cell? ⟨B, 1, none⟩ = some (.int .u64 (p.al 1)) := hI.cell 1
  have k2 : w.cell? ⟨B, 2, none⟩ = some (.int .u64 (p.al 2)) := hI.cell 2
  have k3 : w.cell? ⟨B, 3, none⟩ = some (.int .u64 (p.al 3)) := hI.cell 3
  have k4 : w.cell? ⟨B, 4, none⟩ = some (.int .u64 (p.al 4)) := hI.cell 4
  have k7 : w.cell? ⟨B, 7, none⟩ = some (.bool (p.st 2)) := hI.cell 7
  have k9 : w.cell? ⟨B, 9, none⟩ = some (.bool (p.st 4)) := hI.cell 9
  clear hI
  go_enter Tryd.func26, Tryd.ntmps26
  go_wp2_with fail
  go_region
  all_goals
    go_wp2
    refine bodyPost_ret (results_cell1 rfl _ _ w.heap.size 25 #[.int .u64 (p.al 0), .int .u64 (p.al 1), .int .u64 (p.al 2), .int .u64 (p.al 3), .int .u64 (p.al 4), .bool (p.st 2), .bool (p.st 4)] (0, 0) _ rfl (heap_alloc_new w _) Tryd.underlying25 rfl info25) rfl ?_
    exact ⟨rfl, ((Below.refl _ _).alloc (Nat.le_refl _) _).drew⟩
end Go.Proofs.YtdojpnhjnhecmaaDoor
