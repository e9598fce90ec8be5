/- A change as Since tells it. -/
import Derived.Test.YteeflkkoifgcbabGreatMR3
namespace Go.Proofs.YteeflkkoifgcbabGreat
open Go Go.RowKit

/-- What was done to a key at a revision, as it is told. -/
def evKV (rev : Int) (key : ByteArray) : Option KVd → KVd
  | some kv => kv
  | none => ⟨key, ByteArray.empty, 0, rev, 0, 0⟩
def evC (rev : Int) (del : Bool) (k : KVd) : Array Value := #[.int .i64 rev, .bool del, .string k.key, .string k.value, .int .i64 k.create, .int .i64 k.mod, .int .i64 k.version, .int .i64 k.lease]
def encEv (rev : Int) (key : ByteArray) (c : Option KVd) : Value := .agg (evC rev c.isNone (evKV rev key c))
theorem chF_mem {n : Nat} {w : World} {s : Nat} {S : Sto} {g : Sg} {o : Value} (h : St n w s S g o) {key : ByteArray} {rev : Int} {c : Option KVd} (hc : (rev, c) ∈ S.kh key) : chF S (rev, key) = some (encC key c) := by
  unfold chF
  rw [find_mem (h.hok key).asc hc]
  rfl
theorem results_c1 {P : Program} {fn : Func} {u : Tmp} {ty : TypeId} (h : fn.results = #[.cell u ty]) (tmps : Array Value) (w : World) (g : Nat) (t : TypeId) (cs : Array Value) (fr : Nat × Nat) (d : TypeDesc)
    (hp : tmps.getD u undef = .pointer (some ⟨g, 0, none⟩)) (hg : w.heap[g]? = some (.cells cs t fr))
    (hu : P.underlying ty = some d) (hd : (match d with | .struct _ | .array _ _ => true | _ => false) = true) (hi : (P.info? ty).map (·.size) = some cs.size) :
    (results fn tmps).run P w = .ok (.agg cs) w := by
  have hp' : tmps[u]?.getD undef = .pointer (some ⟨g, 0, none⟩) := by simpa using hp
  simp [results, h, hp', asAddr, run_loadVar_row w g t ty cs fr d hg hu hd hi]
theorem size85 : (Tryz.prog.info? 72).map (·.size) = some 8 := by kernel_rfl
section
variable {W : World} {gb t : Nat} {a0 a1 a2 a3 a4 a5 a6 a7 : Value} (h : W.heap[gb]? = some (.cells #[a0, a1, a2, a3, a4, a5, a6, a7] t (0, 0)))
include h
theorem box8 : (W.cell? ⟨gb, 0, none⟩ = some a0 ∧ W.cell? ⟨gb, 1, none⟩ = some a1 ∧ W.cell? ⟨gb, 2, none⟩ = some a2 ∧ W.cell? ⟨gb, 3, none⟩ = some a3 ∧ W.cell? ⟨gb, 4, none⟩ = some a4 ∧ W.cell? ⟨gb, 5, none⟩ = some a5 ∧ W.cell? ⟨gb, 6, none⟩ = some a6 ∧ W.cell? ⟨gb, 7, none⟩ = some a7) ∧
    W.frozen? ⟨gb, 0, none⟩ = false ∧ W.frozen? ⟨gb, 1, none⟩ = false ∧ W.frozen? ⟨gb, 2, none⟩ = false ∧ W.frozen? ⟨gb, 3, none⟩ = false ∧ W.frozen? ⟨gb, 4, none⟩ = false ∧ W.frozen? ⟨gb, 5, none⟩ = false ∧ W.frozen? ⟨gb, 6, none⟩ = false ∧ W.frozen? ⟨gb, 7, none⟩ = false :=
  ⟨⟨cell_of_row _ _ _ _ _ _ h, cell_of_row _ _ _ _ _ _ h, cell_of_row _ _ _ _ _ _ h, cell_of_row _ _ _ _ _ _ h, cell_of_row _ _ _ _ _ _ h, cell_of_row _ _ _ _ _ _ h, cell_of_row _ _ _ _ _ _ h, cell_of_row _ _ _ _ _ _ h⟩, frozen_of_row _ _ _ _ _ h, frozen_of_row _ _ _ _ _ h, frozen_of_row _ _ _ _ _ h, frozen_of_row _ _ _ _ _ h, frozen_of_row _ _ _ _ _ h, frozen_of_row _ _ _ _ _ h, frozen_of_row _ _ _ _ _ h, frozen_of_row _ _ _ _ _ h⟩
theorem set8 (v0 v1 v2 v3 v4 v5 v6 v7 : Value) : ((((((((W.setCell ⟨gb, 0, none⟩ v0).setCell ⟨gb, 1, none⟩ v1).setCell ⟨gb, 2, none⟩ v2).setCell ⟨gb, 3, none⟩ v3).setCell ⟨gb, 4, none⟩ v4).setCell ⟨gb, 5, none⟩ v5).setCell ⟨gb, 6, none⟩ v6).setCell ⟨gb, 7, none⟩ v7).heap[gb]? = some (.cells #[v0, v1, v2, v3, v4, v5, v6, v7] t (0, 0)) := by
  have e0 : (W.setCell ⟨gb, 0, none⟩ v0).heap[gb]? = some (.cells #[v0, a1, a2, a3, a4, a5, a6, a7] t (0, 0)) := heap_setCell_row h v0
  have e1 : ((W.setCell ⟨gb, 0, none⟩ v0).setCell ⟨gb, 1, none⟩ v1).heap[gb]? = some (.cells #[v0, v1, a2, a3, a4, a5, a6, a7] t (0, 0)) := heap_setCell_row e0 v1
  have e2 : (((W.setCell ⟨gb, 0, none⟩ v0).setCell ⟨gb, 1, none⟩ v1).setCell ⟨gb, 2, none⟩ v2).heap[gb]? = some (.cells #[v0, v1, v2, a3, a4, a5, a6, a7] t (0, 0)) := heap_setCell_row e1 v2
  have e3 : ((((W.setCell ⟨gb, 0, none⟩ v0).setCell ⟨gb, 1, none⟩ v1).setCell ⟨gb, 2, none⟩ v2).setCell ⟨gb, 3, none⟩ v3).heap[gb]? = some (.cells #[v0, v1, v2, v3, a4, a5, a6, a7] t (0, 0)) := heap_setCell_row e2 v3
  have e4 : (((((W.setCell ⟨gb, 0, none⟩ v0).setCell ⟨gb, 1, none⟩ v1).setCell ⟨gb, 2, none⟩ v2).setCell ⟨gb, 3, none⟩ v3).setCell ⟨gb, 4, none⟩ v4).heap[gb]? = some (.cells #[v0, v1, v2, v3, v4, a5, a6, a7] t (0, 0)) := heap_setCell_row e3 v4
  have e5 : ((((((W.setCell ⟨gb, 0, none⟩ v0).setCell ⟨gb, 1, none⟩ v1).setCell ⟨gb, 2, none⟩ v2).setCell ⟨gb, 3, none⟩ v3).setCell ⟨gb, 4, none⟩ v4).setCell ⟨gb, 5, none⟩ v5).heap[gb]? = some (.cells #[v0, v1, v2, v3, v4, v5, a6, a7] t (0, 0)) := heap_setCell_row e4 v5
  have e6 : (((((((W.setCell ⟨gb, 0, none⟩ v0).setCell ⟨gb, 1, none⟩ v1).setCell ⟨gb, 2, none⟩ v2).setCell ⟨gb, 3, none⟩ v3).setCell ⟨gb, 4, none⟩ v4).setCell ⟨gb, 5, none⟩ v5).setCell ⟨gb, 6, none⟩ v6).heap[gb]? = some (.cells #[v0, v1, v2, v3, v4, v5, v6, a7] t (0, 0)) := heap_setCell_row e5 v6
  have e7 : ((((((((W.setCell ⟨gb, 0, none⟩ v0).setCell ⟨gb, 1, none⟩ v1).setCell ⟨gb, 2, none⟩ v2).setCell ⟨gb, 3, none⟩ v3).setCell ⟨gb, 4, none⟩ v4).setCell ⟨gb, 5, none⟩ v5).setCell ⟨gb, 6, none⟩ v6).setCell ⟨gb, 7, none⟩ v7).heap[gb]? = some (.cells #[v0, v1, v2, v3, v4, v5, v6, v7] t (0, 0)) := heap_setCell_row e6 v7
  exact e7
end
theorem below8 {B : Nat} {w W : World} (h : Below B w W) {gb : Nat} (hg : B ≤ gb) (v0 v1 v2 v3 v4 v5 v6 v7 : Value) : Below B w ((((((((W.setCell ⟨gb, 0, none⟩ v0).setCell ⟨gb, 1, none⟩ v1).setCell ⟨gb, 2, none⟩ v2).setCell ⟨gb, 3, none⟩ v3).setCell ⟨gb, 4, none⟩ v4).setCell ⟨gb, 5, none⟩ v5).setCell ⟨gb, 6, none⟩ v6).setCell ⟨gb, 7, none⟩ v7) :=
  (((((((h.setCell hg _).setCell hg _).setCell hg _).setCell hg _).setCell hg _).setCell hg _).setCell hg _).setCell hg _
set_option maxRecDepth 100000 in
set_option maxHeartbeats 400000 in
theorem event_any {n : Nat} {w : World} {s : Nat} {S : Sto} {g : Sg} {o : Value} (h : St n w s S g o) (key : ByteArray) (rev : Int) (c : Option KVd) (hc : (rev, c) ∈ S.kh key) :
    Calls Tryz.prog 31 #[ptr s, .agg #[.int .i64 rev, .string key]] w fun e w' => e = .returned (encEv rev key c) ∧ Below w.heap.size w w' := by
  obtain ⟨V0, hV0⟩ : ∃ V0, V0 = w.alloc (.cells #[.int .i64 rev, .string key] 75) := ⟨_, rfl⟩
  obtain ⟨V, hV⟩ : ∃ V, V = V0.alloc (.cells #[.int .i64 0, .bool false, .string ⟨#[]⟩, .string ⟨#[]⟩, .int .i64 0, .int .i64 0, .int .i64 0, .int .i64 0] 72) := ⟨_, rfl⟩
  have hb0 : Below w.heap.size w V0 := by rw [hV0]; exact (Below.refl _ w).alloc (Nat.le_refl _) _
  have hs0 : V0.heap.size = w.heap.size + 1 := by rw [hV0]; simp
  have hb1 : Below w.heap.size w V := by rw [hV]; exact hb0.alloc (by omega) _
  have hs1 : V.heap.size = w.heap.size + 2 := by rw [hV]; simp [hs0]
  have r0 : V.heap[w.heap.size]? = some (.cells #[.int .i64 rev, .string key] 75 (0, 0)) := by
    rw [hV]; refine (heap_alloc_old V0 _ (by omega)).trans ?_; rw [hV0]; exact row_alloc w _ _
  have r1 : V.heap[w.heap.size + 1]? = some (.cells #[.int .i64 0, .bool false, .string ⟨#[]⟩, .string ⟨#[]⟩, .int .i64 0, .int .i64 0, .int .i64 0, .int .i64 0] 72 (0, 0)) := by
    rw [hV, ← hs0]; exact row_alloc V0 _ _
  have hsl : s < w.heap.size := (Array.getElem?_eq_some_iff.1 h.blk).1
  have HL : Hid (∀ W, Below w.heap.size w W → (Instr.lookup 45 (.map (some g.bc)) (.agg #[.int .i64 rev, .string key]) false).run Tryz.prog W = .ok (encC key c) W ∧ W.cell? ⟨s, 3, none⟩ = some (.map (some g.bc))) := fun W hb => by
    have := (h.below hb).ch.look law60 Tryz.underlying45 (zero71 _) (rev, key) false
    rw [chF_mem h hc] at this
    exact ⟨this, (h.below hb).cells.2.2.2.1⟩
  obtain ⟨ti, xi, kv, hni, hkt, hta⟩ : ∃ ti xi kv, encC key c = .iface ti xi ∧ Hid (c.getD noKV = kv) ∧ ∀ W, (Instr.typeAssert (.iface ti xi) 56 61 true).run Tryz.prog W = .ok (.tuple #[encKV kv, .bool c.isSome]) W := by
    cases c with
    | none => exact ⟨77, _, noKV, rfl, rfl, fun W => ta_no _ W⟩
    | some kv => exact ⟨61, _, kv, rfl, rfl, fun W => ta_yes _ W⟩
  rw [hni] at HL
  obtain ⟨kk, kvv, kcr, kmo, kve, kle⟩ := kv
  dsimp only [encKV] at hta
  have hbd : Below w.heap.size w V.drew := hb1.drew
  obtain ⟨l1, c1⟩ := HL.out _ hbd
  have hbe : Below w.heap.size w (V.alloc (.cells #[.string ⟨#[]⟩, .string ⟨#[]⟩, .int .i64 0, .int .i64 0, .int .i64 0, .int .i64 0] 61)).drew := (hb1.alloc (show w.heap.size ≤ V.heap.size by omega) _).drew
  obtain ⟨l2, c2⟩ := HL.out _ hbe
  have a0 : V.drew.cell? ⟨w.heap.size, 0, none⟩ = some (.int .i64 rev) := cell_of_row _ _ _ _ _ _ r0
  have a1 : V.drew.cell? ⟨w.heap.size, 1, none⟩ = some (.string key) := cell_of_row _ _ _ _ _ _ r0
  have r2 := (heap_alloc_old V (.cells #[.string ⟨#[]⟩, .string ⟨#[]⟩, .int .i64 0, .int .i64 0, .int .i64 0, .int .i64 0] 61) (show w.heap.size < V.heap.size by omega)).trans r0
  have b0 : (V.alloc (.cells #[.string ⟨#[]⟩, .string ⟨#[]⟩, .int .i64 0, .int .i64 0, .int .i64 0, .int .i64 0] 61)).drew.cell? ⟨w.heap.size, 0, none⟩ = some (.int .i64 rev) := cell_of_row _ _ _ _ _ _ r2
  have b1 : (V.alloc (.cells #[.string ⟨#[]⟩, .string ⟨#[]⟩, .int .i64 0, .int .i64 0, .int .i64 0, .int .i64 0] 61)).drew.cell? ⟨w.heap.size, 1, none⟩ = some (.string key) := cell_of_row _ _ _ _ _ _ r2
  have HR0 := Hid.mk'' r0
  have HR1 := Hid.mk'' r1
  have HB1 := Hid.mk'' hb1
  clear h hc hb0 HL hni r0 r1 r2 hb1 hbd hbe
  go_enter Tryz.func31, Tryz.ntmps31
  go_upto_region 1 with fail
  rw [← hV0, ← hV]
  clear hV0 hV hs0
  go_region
  all_goals
    obtain ⟨w2, hw2⟩ : ∃ w2, w2 = (V.alloc (.cells #[.string kk, .string kvv, .int .i64 kcr, .int .i64 kmo, .int .i64 kve, .int .i64 kle] 61)).drew := ⟨_, rfl⟩
    rw [← hw2]
    have q0 : w2.heap[w.heap.size]? = some (.cells #[.int .i64 rev, .string key] 75 (0, 0)) := by rw [hw2]; exact (heap_alloc_old V _ (by omega)).trans HR0.out
    have q1 : w2.heap[w.heap.size + 1]? = some (.cells #[.int .i64 0, .bool false, .string ⟨#[]⟩, .string ⟨#[]⟩, .int .i64 0, .int .i64 0, .int .i64 0, .int .i64 0] 72 (0, 0)) := by rw [hw2]; exact (heap_alloc_old V _ (by omega)).trans HR1.out
    have q2 : w2.heap[w.heap.size + 2]? = some (.cells #[.string kk, .string kvv, .int .i64 kcr, .int .i64 kmo, .int .i64 kve, .int .i64 kle] 61 (0, 0)) := by rw [hw2, ← hs1]; exact row_alloc V _ _
    have HB2 : Hid (Below w.heap.size w w2) := by rw [hw2]; exact (HB1.out.alloc (by omega) _).drew
    have x0 : w2.cell? ⟨w.heap.size, 0, none⟩ = some (.int .i64 rev) := cell_of_row _ _ _ _ _ _ q0
    have x1 : w2.cell? ⟨w.heap.size, 1, none⟩ = some (.string key) := cell_of_row _ _ _ _ _ _ q0
    obtain ⟨⟨k0, k1, k2, k3, k4, k5, k6, k7⟩, f0, f1, f2, f3, f4, f5, f6, f7⟩ := box8 q1
    obtain ⟨⟨y0, y1, y2, y3, y4, y5⟩, -⟩ := box6 q2
    have HQ1 := Hid.mk'' q1
    clear hw2 q0 q1 q2 HR0 HR1 HB1 l1 c1 l2 c2 a0 a1 b0 b1 hta hs1
    cases c with
    | none =>
      simp only [Option.isSome_none]
      go_wp2
      refine bodyPost_ret (results_c1 rfl _ _ (w.heap.size + 1) 72 (evC rev true ⟨key, ByteArray.empty, 0, rev, 0, 0⟩) (0, 0) _ rfl (set8 HQ1.out _ _ _ _ _ _ _ _) Tryz.underlying72 rfl size85) rfl ?_
      exact ⟨rfl, below8 HB2.out (Nat.le_succ _) _ _ _ _ _ _ _ _⟩
    | some kv =>
      simp only [Option.isSome_some]
      go_wp2
      refine bodyPost_ret (results_c1 rfl _ _ (w.heap.size + 1) 72 (evC rev false ⟨kk, kvv, kcr, kmo, kve, kle⟩) (0, 0) _ rfl (set8 HQ1.out _ _ _ _ _ _ _ _) Tryz.underlying72 rfl size85) rfl ?_
      exact ⟨by have e := hkt.out; subst e; rfl, below8 HB2.out (Nat.le_succ _) _ _ _ _ _ _ _ _⟩
end Go.Proofs.YteeflkkoifgcbabGreat
