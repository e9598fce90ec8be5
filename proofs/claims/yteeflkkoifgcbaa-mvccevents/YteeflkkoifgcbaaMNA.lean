/- A change as Since tells it. -/
import Derived.Test.YteeflkkoifgcbaaMR3
import Derived.Test.YteeflkkoifgcbaaMT
import Derived.BigQuiet
namespace Go.Proofs.Yteeflkkoifgcbaa
open Go Go.RowKit

/-- What was done to a key at a revision, as it is told. -/
def evKV (rev : Int) (key : ByteArray) : Option KVd → KVd
  | some kv => kv
  | none => ⟨key, ByteArray.empty, 0, rev, 0, 0⟩
def evC (rev : Int) (del : Bool) (k : KVd) : Array Value := #[.int .i64 rev, .bool del, .string k.key, .string k.value, .int .i64 k.create, .int .i64 k.mod, .int .i64 k.version, .int .i64 k.lease]
def encEv (rev : Int) (key : ByteArray) (c : Option KVd) : Value := .agg (evC rev c.isNone (evKV rev key c))
theorem chF_mem {n : Nat} {w : World} {s : Nat} {S : Sto} {g : Sg} {o : Value} (h : St n w s S g o) {key : ByteArray} {rev : Int} {c : Option KVd} (hc : (rev, c) ∈ S.kh key) : chF S (rev, key) = some (encC key c) := by
  unfold chF
  rw [find_mem (h.hok key).asc hc]
  rfl
theorem results_c1 {P : Program} {fn : Func} {u : Tmp} {ty : TypeId} (h : fn.results = #[.cell u ty]) (tmps : Array Value) (w : World) (g : Nat) (t : TypeId) (cs : Array Value) (fr : Nat × Nat) (d : TypeDesc)
    (hp : tmps.getD u undef = .pointer (some ⟨g, 0, none⟩)) (hg : w.heap[g]? = some (.cells cs t fr))
    (hu : P.underlying ty = some d) (hd : (match d with | .struct _ | .array _ _ => true | _ => false) = true) (hi : (P.info? ty).map (·.size) = some cs.size) :
    (results fn tmps).run P w = .ok (.agg cs) w := by
  have hp' : tmps[u]?.getD undef = .pointer (some ⟨g, 0, none⟩) := by simpa using hp
  simp [results, h, hp', asAddr, run_loadVar_row w g t ty cs fr d hg hu hd hi]
theorem size85 : (Try.prog.info? 85).map (·.size) = some 8 := by kernel_rfl
section
variable {W : World} {gb t : Nat} {a0 a1 a2 a3 a4 a5 a6 a7 : Value} (h : W.heap[gb]? = some (.cells #[a0, a1, a2, a3, a4, a5, a6, a7] t (0, 0)))
include h
theorem box8 : (W.cell? ⟨gb, 0, none⟩ = some a0 ∧ W.cell? ⟨gb, 1, none⟩ = some a1 ∧ W.cell? ⟨gb, 2, none⟩ = some a2 ∧ W.cell? ⟨gb, 3, none⟩ = some a3 ∧ W.cell? ⟨gb, 4, none⟩ = some a4 ∧ W.cell? ⟨gb, 5, none⟩ = some a5 ∧ W.cell? ⟨gb, 6, none⟩ = some a6 ∧ W.cell? ⟨gb, 7, none⟩ = some a7) ∧
    W.frozen? ⟨gb, 0, none⟩ = false ∧ W.frozen? ⟨gb, 1, none⟩ = false ∧ W.frozen? ⟨gb, 2, none⟩ = false ∧ W.frozen? ⟨gb, 3, none⟩ = false ∧ W.frozen? ⟨gb, 4, none⟩ = false ∧ W.frozen? ⟨gb, 5, none⟩ = false ∧ W.frozen? ⟨gb, 6, none⟩ = false ∧ W.frozen? ⟨gb, 7, none⟩ = false :=
  ⟨⟨cell_of_row _ _ _ _ _ _ h, cell_of_row _ _ _ _ _ _ h, cell_of_row _ _ _ _ _ _ h, cell_of_row _ _ _ _ _ _ h, cell_of_row _ _ _ _ _ _ h, cell_of_row _ _ _ _ _ _ h, cell_of_row _ _ _ _ _ _ h, cell_of_row _ _ _ _ _ _ h⟩, frozen_of_row _ _ _ _ _ h, frozen_of_row _ _ _ _ _ h, frozen_of_row _ _ _ _ _ h, frozen_of_row _ _ _ _ _ h, frozen_of_row _ _ _ _ _ h, frozen_of_row _ _ _ _ _ h, frozen_of_row _ _ _ _ _ h, frozen_of_row _ _ _ _ _ h⟩
theorem set8 (v0 v1 v2 v3 v4 v5 v6 v7 : Value) : ((((((((W.setCell ⟨gb, 0, none⟩ v0).setCell ⟨gb, 1, none⟩ v1).setCell ⟨gb, 2, none⟩ v2).setCell ⟨gb, 3, none⟩ v3).setCell ⟨gb, 4, none⟩ v4).setCell ⟨gb, 5, none⟩ v5).setCell ⟨gb, 6, none⟩ v6).setCell ⟨gb, 7, none⟩ v7).heap[gb]? = some (.cells #[v0, v1, v2, v3, v4, v5, v6, v7] t (0, 0)) := by
  have e0 : (W.setCell ⟨gb, 0, none⟩ v0).heap[gb]? = some (.cells #[v0, a1, a2, a3, a4, a5, a6, a7] t (0, 0)) := heap_setCell_row h v0
  have e1 : ((W.setCell ⟨gb, 0, none⟩ v0).setCell ⟨gb, 1, none⟩ v1).heap[gb]? = some (.cells #[v0, v1, a2, a3, a4, a5, a6, a7] t (0, 0)) := heap_setCell_row e0 v1
  have e2 : (((W.setCell ⟨gb, 0, none⟩ v0).setCell ⟨gb, 1, none⟩ v1).setCell ⟨gb, 2, none⟩ v2).heap[gb]? = some (.cells #[v0, v1, v2, a3, a4, a5, a6, a7] t (0, 0)) := heap_setCell_row e1 v2
  have e3 : ((((W.setCell ⟨gb, 0, none⟩ v0).setCell ⟨gb, 1, none⟩ v1).setCell ⟨gb, 2, none⟩ v2).setCell ⟨gb, 3, none⟩ v3).heap[gb]? = some (.cells #[v0, v1, v2, v3, a4, a5, a6, a7] t (0, 0)) := heap_setCell_row e2 v3
  have e4 : (((((W.setCell ⟨gb, 0, none⟩ v0).setCell ⟨gb, 1, none⟩ v1).setCell ⟨gb, 2, none⟩ v2).setCell ⟨gb, 3, none⟩ v3).setCell ⟨gb, 4, none⟩ v4).heap[gb]? = some (.cells #[v0, v1, v2, v3, v4, a5, a6, a7] t (0, 0)) := heap_setCell_row e3 v4
  have e5 : ((((((W.setCell ⟨gb, 0, none⟩ v0).setCell ⟨gb, 1, none⟩ v1).setCell ⟨gb, 2, none⟩ v2).setCell ⟨gb, 3, none⟩ v3).setCell ⟨gb, 4, none⟩ v4).setCell ⟨gb, 5, none⟩ v5).heap[gb]? = some (.cells #[v0, v1, v2, v3, v4, v5, a6, a7] t (0, 0)) := heap_setCell_row e4 v5
  have e6 : (((((((W.setCell ⟨gb, 0, none⟩ v0).setCell ⟨gb, 1, none⟩ v1).setCell ⟨gb, 2, none⟩ v2).setCell ⟨gb, 3, none⟩ v3).setCell ⟨gb, 4, none⟩ v4).setCell ⟨gb, 5, none⟩ v5).setCell ⟨gb, 6, none⟩ v6).heap[gb]? = some (.cells #[v0, v1, v2, v3, v4, v5, v6, a7] t (0, 0)) := heap_setCell_row e5 v6
  have e7 : ((((((((W.setCell ⟨gb, 0, none⟩ v0).setCell ⟨gb, 1, none⟩ v1).setCell ⟨gb, 2, none⟩ v2).setCell ⟨gb, 3, none⟩ v3).setCell ⟨gb, 4, none⟩ v4).setCell ⟨gb, 5, none⟩ v5).setCell ⟨gb, 6, none⟩ v6).setCell ⟨gb, 7, none⟩ v7).heap[gb]? = some (.cells #[v0, v1, v2, v3, v4, v5, v6, v7] t (0, 0)) := heap_setCell_row e6 v7
  exact e7
end
theorem below8 {B : Nat} {w W : World} (h : Below B w W) {gb : Nat} (hg : B ≤ gb) (v0 v1 v2 v3 v4 v5 v6 v7 : Value) : Below B w ((((((((W.setCell ⟨gb, 0, none⟩ v0).setCell ⟨gb, 1, none⟩ v1).setCell ⟨gb, 2, none⟩ v2).setCell ⟨gb, 3, none⟩ v3).setCell ⟨gb, 4, none⟩ v4).setCell ⟨gb, 5, none⟩ v5).setCell ⟨gb, 6, none⟩ v6).setCell ⟨gb, 7, none⟩ v7) :=
  (((((((h.setCell hg _).setCell hg _).setCell hg _).setCell hg _).setCell hg _).setCell hg _).setCell hg _).setCell hg _
set_option maxRecDepth 100000 in
set_option maxHeartbeats 400000 in
theorem event_any {n : Nat} {w : World} {s : Nat} {S : Sto} {g : Sg} {o : Value} (h : St n w s S g o) (key : ByteArray) (rev : Int) (c : Option KVd) (hc : (rev, c) ∈ S.kh key) :
    Calls Try.prog 32 #[ptr s, .agg #[.int .i64 rev, .string key]] w fun e w' => e = .returned (encEv rev key c) ∧ Below w.heap.size w w' := by
  obtain ⟨V0, hV0⟩ : ∃ V0, V0 = w.alloc (.cells #[.int .i64 rev, .string key] 88) := ⟨_, rfl⟩
  obtain ⟨V, hV⟩ : ∃ V, V = V0.alloc (.cells #[.int .i64 0, .bool false, .string ⟨#[]⟩, .string ⟨#[]⟩, .int .i64 0, .int .i64 0, .int .i64 0, .int .i64 0] 85) := ⟨_, rfl⟩
  have hb0 : Below w.heap.size w V0 := by rw [hV0]; exact (Below.refl _ w).alloc (Nat.le_refl _) _
  have hs0 : V0.heap.size = w.heap.size + 1 := by rw [hV0]; simp
  have hb1 : Below w.heap.size w V := by rw [hV]; exact hb0.alloc (by omega) _
  have hs1 : V.heap.size = w.heap.size + 2 := by rw [hV]; simp [hs0]
  have r0 : V.heap[w.heap.size]? = some (.cells #[.int .i64 rev, .string key] 88 (0, 0)) := by
    rw [hV]; refine (heap_alloc_old V0 _ (by omega)).trans ?_; rw [hV0]; exact row_alloc w _ _
  have r1 : V.heap[w.heap.size + 1]? = some (.cells #[.int .i64 0, .bool false, .string ⟨#[]⟩, .string ⟨#[]⟩, .int .i64 0, .int .i64 0, .int .i64 0, .int .i64 0] 85 (0, 0)) := by
    rw [hV, ← hs0]; exact row_alloc V0 _ _
  have hsl : s < w.heap.size := (Array.getElem?_eq_some_iff.1 h.blk).1
  have HL : Hid (∀ W, Below w.heap.size w W → (Instr.lookup 60 (.map (some g.bc)) (.agg #[.int .i64 rev, .string key]) false).run Try.prog W = .ok (encC key c) W ∧ W.cell? ⟨s, 3, none⟩ = some (.map (some g.bc))) := fun W hb => by
    have := (h.below hb).ch.look law60 Try.underlying60 (zero71 _) (rev, key) false
    rw [chF_mem h hc] at this
    exact ⟨this, (h.below hb).cells.2.2.2.1⟩
  obtain ⟨ti, xi, kv, hni, hkt, hta⟩ : ∃ ti xi kv, encC key c = .iface ti xi ∧ Hid (c.getD noKV = kv) ∧ ∀ W, (Instr.typeAssert (.iface ti xi) 71 76 true).run Try.prog W = .ok (.tuple #[encKV kv, .bool c.isSome]) W := by
    cases c with
    | none => exact ⟨79, _, noKV, rfl, rfl, fun W => ta_no _ W⟩
    | some kv => exact ⟨76, _, kv, rfl, rfl, fun W => ta_yes _ W⟩
  rw [hni] at HL
  obtain ⟨kk, kvv, kcr, kmo, kve, kle⟩ := kv
  dsimp only [encKV] at hta
  have hbd : Below w.heap.size w V.drew := hb1.drew
  obtain ⟨l1, c1⟩ := HL.out _ hbd
  have hbe : Below w.heap.size w (V.alloc (.cells #[.string ⟨#[]⟩, .string ⟨#[]⟩, .int .i64 0, .int .i64 0, .int .i64 0, .int .i64 0] 76)).drew := (hb1.alloc (show w.heap.size ≤ V.heap.size by omega) _).drew
  obtain ⟨l2, c2⟩ := HL.out _ hbe
  have a0 : V.drew.cell? ⟨w.heap.size, 0, none⟩ = some (.int .i64 rev) := cell_of_row _ _ _ _ _ _ r0
  have a1 : V.drew.cell? ⟨w.heap.size, 1, none⟩ = some (.string key) := cell_of_row _ _ _ _ _ _ r0
  have r2 := (heap_alloc_old V (.cells #[.string ⟨#[]⟩, .string ⟨#[]⟩, .int .i64 0, .int .i64 0, .int .i64 0, .int .i64 0] 76) (show w.heap.size < V.heap.size by omega)).trans r0
  have b0 : (V.alloc (.cells #[.string ⟨#[]⟩, .string ⟨#[]⟩, .int .i64 0, .int .i64 0, .int .i64 0, .int .i64 0] 76)).drew.cell? ⟨w.heap.size, 0, none⟩ = some (.int .i64 rev) := cell_of_row _ _ _ _ _ _ r2
  have b1 : (V.alloc (.cells #[.string ⟨#[]⟩, .string ⟨#[]⟩, .int .i64 0, .int .i64 0, .int .i64 0, .int .i64 0] 76)).drew.cell? ⟨w.heap.size, 1, none⟩ = some (.string key) := cell_of_row _ _ _ _ _ _ r2
  have HR0 := Hid.mk'' r0
  have HR1 := Hid.mk'' r1
  have HB1 := Hid.mk'' hb1
  clear h hc hb0 HL hni r0 r1 r2 hb1 hbd hbe
  go_enter Try.func32, Try.ntmps32
  go_upto_region 1 with fail
  rw [← hV0, ← hV]
  clear hV0 hV hs0
  go_region
  all_goals
    obtain ⟨w2, hw2⟩ : ∃ w2, w2 = (V.alloc (.cells #[.string kk, .string kvv, .int .i64 kcr, .int .i64 kmo, .int .i64 kve, .int .i64 kle] 76)).drew := ⟨_, rfl⟩
    rw [← hw2]
    have q0 : w2.heap[w.heap.size]? = some (.cells #[.int .i64 rev, .string key] 88 (0, 0)) := by rw [hw2]; exact (heap_alloc_old V _ (by omega)).trans HR0.out
    have q1 : w2.heap[w.heap.size + 1]? = some (.cells #[.int .i64 0, .bool false, .string ⟨#[]⟩, .string ⟨#[]⟩, .int .i64 0, .int .i64 0, .int .i64 0, .int .i64 0] 85 (0, 0)) := by rw [hw2]; exact (heap_alloc_old V _ (by omega)).trans HR1.out
    have q2 : w2.heap[w.heap.size + 2]? = some (.cells #[.string kk, .string kvv, .int .i64 kcr, .int .i64 kmo, .int .i64 kve, .int .i64 kle] 76 (0, 0)) := by rw [hw2, ← hs1]; exact row_alloc V _ _
    have HB2 : Hid (Below w.heap.size w w2) := by rw [hw2]; exact (HB1.out.alloc (by omega) _).drew
    have x0 : w2.cell? ⟨w.heap.size, 0, none⟩ = some (.int .i64 rev) := cell_of_row _ _ _ _ _ _ q0
    have x1 : w2.cell? ⟨w.heap.size, 1, none⟩ = some (.string key) := cell_of_row _ _ _ _ _ _ q0
    obtain ⟨⟨k0, k1, k2, k3, k4, k5, k6, k7⟩, f0, f1, f2, f3, f4, f5, f6, f7⟩ := box8 q1
    obtain ⟨⟨y0, y1, y2, y3, y4, y5⟩, -⟩ := box6 q2
    have HQ1 := Hid.mk'' q1
    clear hw2 q0 q1 q2 HR0 HR1 HB1 l1 c1 l2 c2 a0 a1 b0 b1 hta hs1
    cases c with
    | none =>
      simp only [Option.isSome_none]
      go_wp2
      refine bodyPost_ret (results_c1 rfl _ _ (w.heap.size + 1) 85 (evC rev true ⟨key, ByteArray.empty, 0, rev, 0, 0⟩) (0, 0) _ rfl (set8 HQ1.out _ _ _ _ _ _ _ _) Try.underlying85 rfl size85) rfl ?_
      exact ⟨rfl, below8 HB2.out (Nat.le_succ _) _ _ _ _ _ _ _ _⟩
    | some kv =>
      simp only [Option.isSome_some]
      go_wp2
      refine bodyPost_ret (results_c1 rfl _ _ (w.heap.size + 1) 85 (evC rev false ⟨kk, kvv, kcr, kmo, kve, kle⟩) (0, 0) _ rfl (set8 HQ1.out _ _ _ _ _ _ _ _) Try.underlying85 rfl size85) rfl ?_
      exact ⟨by have e := hkt.out; subst e; rfl, below8 HB2.out (Nat.le_succ _) _ _ _ _ _ _ _ _⟩
end Go.Proofs.Yteeflkkoifgcbaa
/- The changes from a revision on. -/
namespace Go.Proofs.Yteeflkkoifgcbaa
open Go Go.RowKit

/-- A change that is told: its revision, its key, what was done. -/
abbrev Evd := Int × ByteArray × Option KVd
def evL (e : Evd) : List Value := (evC e.1 e.2.2.isNone (evKV e.1 e.2.1 e.2.2)).toList
def evsC (l : List Evd) : List Value := l.flatMap evL
theorem evsC_len (l : List Evd) : (evsC l).length = l.length * 8 := by
  unfold evsC
  rw [List.length_flatMap]
  induction l with
  | nil => rfl
  | cons a l ih => simp only [List.map_cons, List.sum_cons, List.length_cons, ih]; simp [evL, evC]; omega
/-- What was done to a key at a revision. -/
def chgAt (h : Hs) (r : Int) : Option KVd := ((h.find? fun q => decide (q.1 = r)).map (·.2)).getD none
theorem chgAt_mem {h : Hs} {r : Int} {c : Option KVd} (ha : h.Pairwise (fun p q => p.1 < q.1)) (hc : (r, c) ∈ h) : chgAt h r = c := by
  unfold chgAt
  rw [find_mem ha hc]
  rfl
def evAt (S : Sto) (r : Int) : List Evd := (S.lg r).map fun k => (r, k, chgAt (S.kh k) r)
def evN (S : Sto) (rev : Int) (j : Nat) : List Evd := (List.range j).flatMap fun (i : Nat) => evAt S (rev + i)
theorem evN_succ (S : Sto) (rev : Int) (j : Nat) : evN S rev (j + 1) = evN S rev j ++ evAt S (rev + j) := by
  unfold evN
  rw [List.range_succ, List.flatMap_append]
  simp
theorem evN_le (S : Sto) (rev : Int) {i j : Nat} (h : i ≤ j) : (evN S rev i).length ≤ (evN S rev j).length := by
  induction j with
  | zero => obtain rfl : i = 0 := by omega
            exact Nat.le_refl _
  | succ j ih =>
    rcases Nat.lt_or_ge i (j + 1) with hlt | hge
    · rw [evN_succ, List.length_append]
      have := ih (by omega)
      omega
    · obtain rfl : i = j + 1 := by omega
      exact Nat.le_refl _
theorem info85 : (Try.prog.info? 85).map (fun i => (i.zero, i.size, i.bytes)) = some (some (.agg #[.int .i64 0, .bool false, .string ⟨#[]⟩, .string ⟨#[]⟩, .int .i64 0, .int .i64 0, .int .i64 0, .int .i64 0]), 8, 80) := by kernel_rfl
/-- A row of changes that was told. -/
def ER (w wr : World) (v : Value) (l : List Evd) : Prop := wr.ownsRow w.heap.size 85 8 v l.length (evsC l) ∧ Below w.heap.size w wr
/-- The log has each revision that is not compacted. -/
def LgOk (S : Sto) (g : Sg) : Prop := ∀ r : Int, (S.past : Int) < r → r ≤ S.rev → (∃ v, g.lv r = some v) ∧ ∀ k ∈ S.lg r, ∃ c, (r, c) ∈ S.kh k
theorem since_arg (w : World) (s : Nat) (rev : Int) (hr : rev < 1) : Calls Try.prog 17 #[ptr s, .int .i64 rev] w fun e w' => e = .returned (.tuple #[.slice none 0 0, .int .i64 1]) ∧ w' = w := by
  go_enter Try.func17, Try.ntmps17
  go_wp2
  refine bodyPost_ret (results_tmp2 rfl _ _ _) rfl ?_
  exact ⟨rfl, rfl⟩
section
variable {n : Nat} {w : World} {s : Nat} {S : Sto} {g : Sg} {o : Value} (h : St n w s S g o)
include h
theorem since_past (rev : Int) (hr : ¬ rev < 1) (hp : rev ≤ S.past) : Calls Try.prog 17 #[ptr s, .int .i64 rev] w fun e w' => e = .returned (.tuple #[.slice none 0 0, .int .i64 16]) ∧ w' = w := by
  obtain ⟨-, c1, -⟩ := h.cells
  clear h
  go_enter Try.func17, Try.ntmps17
  go_wp2
  refine bodyPost_ret (results_tmp2 rfl _ _ _) rfl ?_
  exact ⟨rfl, rfl⟩
set_option maxRecDepth 100000 in
set_option maxHeartbeats 2000000 in
theorem since_any (rev : Int) (hr : ¬ rev < 1) (hp : ¬ rev ≤ S.past) (hrm : rev ≤ 1000000000) (hS : S.rev ≤ 1000000000) (hl : LgOk S g) (hlen : (evN S rev ((S.rev : Int) + 1 - rev).toNat).length ≤ 1000000) :
    Calls Try.prog 17 #[ptr s, .int .i64 rev] w fun e w' => ∃ p c, e = .returned (.tuple #[.slice p (evN S rev ((S.rev : Int) + 1 - rev).toNat).length c, .int .i64 0]) ∧ ER w w' (.slice p (evN S rev ((S.rev : Int) + 1 - rev).toNat).length c) (evN S rev ((S.rev : Int) + 1 - rev).toNat) := by
  obtain ⟨m, hm⟩ : ∃ m, m = ((S.rev : Int) + 1 - rev).toNat := ⟨_, rfl⟩
  rw [← hm] at hlen ⊢
  have hml : ∀ j : Nat, j < m ↔ rev + j ≤ S.rev := fun j => by omega
  have hmb : (m : Int) ≤ 1000000001 := by omega
  obtain ⟨-, c1, -⟩ := h.cells
  have H := Hid.mk'' h
  have HL := Hid.mk'' hl
  have HML := Hid.mk'' hml
  have HSL : Hid (s < w.heap.size) := (Array.getElem?_eq_some_iff.1 h.blk).1
  clear h hl hml hm
  obtain ⟨t9, hti, hz0, hz1, hz2⟩ := info_parts info85
  go_enter Try.func17, Try.ntmps17
  go_wp2
  go_loopg [6, 7] (m + 1) (fun kx s6 s7 wr => ∃ (j : Nat) (p : Option Addr) (c : Nat), s6 = .slice p (evN S rev j).length c ∧ s7 = .int .i64 (rev + j) ∧ kx + j = m + 1 ∧ j ≤ m ∧ Hid (ER w wr (.slice p (evN S rev j).length c) (evN S rev j)))
  case atStart => exact ⟨0, none, 0, rfl, by simp, rfl, Nat.zero_le _, World.ownsRow_nil _ _ _ _, Below.refl _ _⟩
  case round =>
    obtain ⟨j, p, c, rfl, rfl, hkx, hj, HM⟩ := hrel
    have d0 := (HM.out.2.cell (p := ⟨s, 0, none⟩) HSL.out).trans H.out.cells.1
    by_cases hlt : j < m
    · have hle := (HML.out j).1 hlt
      have hpr : (S.past : Int) < rev + j := by omega
      obtain ⟨⟨v, hv⟩, hks⟩ := HL.out (rev + j) hpr hle
      have hst := H.out.below (HM.out.2.mono (Nat.le_refl _))
      obtain ⟨-, hrow⟩ := H.out.rows _ v hv
      obtain ⟨vp, vc, rfl⟩ := owns_formB0 hrow
      have hlk : (Instr.lookup 61 (.map (some g.bl)) (.int .i64 (rev + j)) false).run Try.prog wr = .ok (.slice vp (S.lg (rev + j)).length vc) wr := by
        have := hst.lg.look law61 Try.underlying61 (zero66 _) (rev + j) false
        rw [hv] at this
        exact this
      obtain ⟨-, -, -, -, d4, -⟩ := hst.cells
      have hsu := evN_succ S rev j
      have hle2 := evN_le S rev (show j + 1 ≤ m by omega)
      rw [hsu, List.length_append] at hle2
      have hal : (evAt S (rev + j)).length = (S.lg (rev + j)).length := by unfold evAt; rw [List.length_map]
      obtain ⟨K, hK⟩ : ∃ K, K = S.lg (rev + j) := ⟨_, rfl⟩
      obtain ⟨A, hA⟩ : ∃ A, A = evAt S (rev + j) := ⟨_, rfl⟩
      obtain ⟨E, hE⟩ : ∃ E, E = evN S rev j := ⟨_, rfl⟩
      obtain ⟨r, hrr⟩ : ∃ r, r = rev + (j : Int) := ⟨_, rfl⟩
      have HAk : Hid (∀ i k, K[i]? = some k → ∃ c, (r, c) ∈ S.kh k ∧ A[i]? = some (r, k, c)) := fun i k hi => by
        rw [hK] at hi
        rw [hrr]
        obtain ⟨c, hc⟩ := hks k (List.mem_of_getElem? hi)
        refine ⟨c, hc, ?_⟩
        rw [hA]
        unfold evAt
        rw [List.getElem?_map, hi, Option.map_some, chgAt_mem (H.out.hok k).asc hc]
      rw [← hK] at hlk hrow hal
      rw [← hA, ← hE] at hsu hle2
      rw [← hA] at hal
      rw [← hE] at HM ⊢
      rw [← hrr] at hlk hle ⊢
      have HROW := Hid.mk'' hrow
      have HSU := Hid.mk'' hsu
      have HRR := Hid.mk'' hrr
      have hrb : 1 ≤ r ∧ r ≤ 2000000000 := by omega
      clear hks hst hrow hv hK hA hE hsu hrr hpr
      have hAm : A.length ≤ 1000000 := by omega
      go_upto_region 10 with fail
      go_loopg [6, 36] (K.length + 1) (fun kx s6 s36 wq => ∃ (i : Nat) (p : Option Addr) (c : Nat), s6 = .slice p (E ++ A.take i).length c ∧ s36 = .int .i64 i ∧ kx + i = K.length + 1 ∧ i ≤ K.length ∧ Hid (ER w wq (.slice p (E ++ A.take i).length c) (E ++ A.take i)))
      case atStart => exact ⟨0, p, c, by simp, rfl, rfl, Nat.zero_le _, by rw [List.take_zero, List.append_nil]; exact HM.out⟩
      case round =>
        obtain ⟨i, p', c', rfl, rfl, hkx2, hi, HM2⟩ := hrel
        by_cases hlt2 : i < K.length
        · obtain ⟨k, hkk⟩ : ∃ k, K[i]? = some k := ⟨_, List.getElem?_eq_getElem hlt2⟩
          obtain ⟨cc, hmem, hAi⟩ := HAk.out i k hkk
          obtain ⟨gg, cg, hvv, hcell⟩ := row_cell HROW.out hkk
          have hgl : gg < w.heap.size := (HROW.out.lt gg (by rw [hvv]; rfl)).2
          have kcell := (HM2.out.2.cell (p := ⟨gg, i, none⟩) hgl).trans hcell
          have hvp : vp = some ⟨gg, 0, none⟩ := by cases hvv; rfl
          subst hvp
          have hcall := event_any (H.out.below HM2.out.2) k r cc hmem
          have htk : A.take (i + 1) = A.take i ++ [(r, k, cc)] := by rw [List.take_add_one, hAi]; rfl
          have hlt3 : (A.take i).length = i := by rw [List.length_take]; omega
          obtain ⟨B, hB⟩ : ∃ B, B = E ++ A.take i := ⟨_, rfl⟩
          have hBl : B.length = E.length + i := by rw [hB, List.length_append, hlt3]
          have hBs : E ++ A.take (i + 1) = B ++ [(r, k, cc)] := by rw [htk, hB, List.append_assoc]
          obtain ⟨x, hx⟩ : ∃ x, x = evKV r k cc := ⟨_, rfl⟩
          obtain ⟨dl, hdl⟩ : ∃ dl, dl = cc.isNone := ⟨_, rfl⟩
          have hel : evL (r, k, cc) = (evC r dl x).toList := by rw [hx, hdl]; rfl
          unfold encEv at hcall
          rw [← hx, ← hdl] at hcall
          rw [← hB] at HM2 ⊢
          obtain ⟨kk, kvv, kcr, kmo, kve, kle⟩ := x
          dsimp only [evC] at hcall hel
          have HX : Hid (∀ w3, Below wr.heap.size wr w3 → Src Try.prog 8 41 (.slice (some ⟨w3.heap.size, 0, none⟩) 1 1) 1 (evL (r, k, cc)) (w3.alloc (.cells #[.int .i64 r, .bool dl, .string kk, .string kvv, .int .i64 kcr, .int .i64 kmo, .int .i64 kve, .int .i64 kle] 85)) ∧ (w3.alloc (.cells #[.int .i64 r, .bool dl, .string kk, .string kvv, .int .i64 kcr, .int .i64 kmo, .int .i64 kve, .int .i64 kle] 85)).ownsRow w.heap.size 85 8 (.slice p' B.length c') B.length (evsC B) ∧ w.heap.size ≤ w3.heap.size ∧ Hid (∀ w', Upd (w3.alloc (.cells #[.int .i64 r, .bool dl, .string kk, .string kvv, .int .i64 kcr, .int .i64 kmo, .int .i64 kve, .int .i64 kle] 85)) w' (fun k => some k = (Value.slice p' B.length c').ownBlock) → Below w.heap.size w w')) := fun w3 hb3 => by
            have hba : Below w3.heap.size w3 (w3.alloc (.cells #[.int .i64 r, .bool dl, .string kk, .string kvv, .int .i64 kcr, .int .i64 kmo, .int .i64 kve, .int .i64 kle] 85)) := (Below.refl _ w3).alloc (Nat.le_refl _) _
            have hwz : w.heap.size ≤ wr.heap.size := HM2.out.2.size
            have hb4 : Below wr.heap.size wr (w3.alloc (.cells #[.int .i64 r, .bool dl, .string kk, .string kvv, .int .i64 kcr, .int .i64 kmo, .int .i64 kve, .int .i64 kle] 85)) := hb3.trans (hba.mono hb3.size)
            have hbw := HM2.out.2.trans (hb4.mono hwz)
            refine ⟨Src.ofSlice _ Try.underlying41 ⟨w3.heap.size, 0, none⟩ 1 1 _ (by rw [hel]; rfl) (fun j u hj => ?_) (fun u hu => ?_), ownsRow_upd HM2.out.1 (Upd.ofBelow (S := fun _ => False) hb4) (fun _ _ h => h), Nat.le_trans hwz hb3.size, fun w' hu => hbw.trans (hu.below hbw.size (fun k hk e => by have := (HM2.out.1.lt k e.symm).1; omega))⟩
            · rw [hel] at hj
              rw [Addr.add_lit, Nat.zero_add, cell_of_row _ _ _ _ _ _ (row_alloc w3 _ 85)]
              simpa using hj
            · rw [hel] at hu
              simp at hu
              rcases hu with rfl | rfl | rfl | rfl | rfl | rfl | rfl | rfl <;> rfl
          have HBS := Hid.mk'' hBs
          have hB3 : B.length ≤ 1000000 := by omega
          clear hBs htk hel hx hdl hB hAi hmem hcell hvv hkk hgl hBl hlt3
          go_wp2_with (first | (go_at_call 32; refine hcall.mono ?_; rintro e w3 ⟨rfl, hb3⟩; obtain ⟨hsrc, hown, hwz, HFIN⟩ := HX.out w3 hb3) | (at_builtin; refine wpList_appS _ rfl (.tmp 40) (.tmp 46) 41 41 rfl w.heap.size 85 t9 _ 8 Try.underlying41 hti hz0 hz1 rfl (by rw [hz2]; decide) _ B.length (evsC B) rfl hown _ rfl 1 (evL (r, k, cc)) hsrc (by omega) (by simp; omega) ?_; intro v' w' q1 q2 q3 q4; obtain ⟨np, nc, hnv⟩ := owns_formB0 q1; subst hnv; clear q3 q4))
          go_roundg (K.length - i)
          case measure => omega
          case rel => exact ⟨i + 1, np, nc, by rw [HBS.out]; simp, by congr 1, by omega, by omega, by rw [HBS.out]; exact ⟨by simpa [evsC] using q1, HFIN.out _ q2⟩⟩
        · obtain rfl : i = K.length := by omega
          have htl : A.take K.length = A := by rw [← hal, List.take_length]
          rw [htl] at HM2 ⊢
          go_wp2
          go_roundg (m - j)
          case measure => omega
          case rel => exact ⟨j + 1, p', c', by rw [HSU.out], by have := HRR.out; congr 1; omega, by omega, by omega, by rw [HSU.out]; exact HM2.out⟩
    · have hle : ¬ rev + j ≤ S.rev := fun e => hlt ((HML.out j).2 e)
      obtain rfl : j = m := by omega
      go_wp2
      refine bodyPost_ret (results_tmp2 rfl _ _ _) rfl ?_
      exact ⟨p, c, rfl, HM.out⟩
end
end Go.Proofs.Yteeflkkoifgcbaa
/- The log behind a Done; the text behind all keys. -/
namespace Go.Proofs.Yteeflkkoifgcbaa
open Go Go.RowKit

theorem LgOk.done {S : Sto} {W : Wri} {g g' : Sg} {h : Wg} (H : LgOk S g) (hnd : W.keys.Nodup) (hlv : g'.lv = doneLv S W g h) : LgOk (doneS S W) g' := by
  by_cases hk : W.keys = []
  · have e1 : doneS S W = S := if_pos hk
    have e2 : g'.lv = g.lv := hlv.trans (if_pos hk)
    rw [e1]
    intro r h1 h2
    rw [e2]
    exact H r h1 h2
  · have e1 : doneS S W = takeS S W W.keys.length := if_neg hk
    have e2 : g'.lv = setF g.lv ((S.rev : Int) + 1) h.v := hlv.trans (if_neg hk)
    obtain ⟨t1, t2, t3⟩ := takeS_rev S W W.keys.length
    rw [e1]
    intro r h1 h2
    rw [t2] at h1
    rw [t1] at h2
    rw [e2, t3]
    have hin : ∀ k, k ∈ W.keys → (takeS S W W.keys.length).kh k = S.kh k ++ [((S.rev : Int) + 1, chG W k)] := fun k hm => by
      unfold takeS
      rw [List.take_length]
      exact layAll_in _ _ hnd hm
    have hout : ∀ k, k ∉ W.keys → (takeS S W W.keys.length).kh k = S.kh k := fun k hm => by
      unfold takeS
      rw [List.take_length]
      exact layAll_not _ _ hm
    by_cases hr : r = (S.rev : Int) + 1
    · subst hr
      refine ⟨⟨h.v, setF_same _ _ _⟩, fun k hm => ?_⟩
      rw [nextS_lg] at hm
      rw [hin k hm]
      exact ⟨chG W k, List.mem_append_right _ (List.mem_singleton.2 rfl)⟩
    · have hr2 : r ≤ S.rev := by
        have : r ≤ ((S.rev + 1 : Nat) : Int) := h2
        omega
      obtain ⟨⟨v, hv⟩, hks⟩ := H r h1 hr2
      refine ⟨⟨v, by rw [setF_other _ _ hr]; exact hv⟩, fun k hm => ?_⟩
      have hm2 : k ∈ S.lg r := by
        have e : (nextS S W.keys).lg r = S.lg r := by simp [nextS, hr]
        rwa [e] at hm
      obtain ⟨c, hc⟩ := hks k hm2
      by_cases hkm : k ∈ W.keys
      · rw [hin k hkm]; exact ⟨c, List.mem_append_left _ hc⟩
      · rw [hout k hkm]; exact ⟨c, hc⟩
/-- Bytes behind all keys. -/
def topN (n : Nat) : ByteArray := ⟨(List.replicate n 255).toArray⟩
theorem topN_succ (n : Nat) : topN n ++ ⟨#[255]⟩ = topN (n + 1) := by
  apply bytes_ext
  simp [topN, ByteArray.data_append, List.replicate_succ']
theorem topN_size (n : Nat) : (topN n).size = n := by show (List.replicate n (255 : UInt8)).toArray.size = n; simp
set_option maxRecDepth 100000 in
theorem top_any (w : World) : Calls Try.prog 16 #[] w fun e w' => e = .returned (.string (topN 101)) ∧ w' = w := by
  go_enter Try.func16, Try.ntmps16
  go_wp2
  go_loopg [1, 2] 101 (fun kx s1 s2 wr => ∃ i : Nat, s1 = .string (topN (i + 1)) ∧ s2 = .int .i64 i ∧ kx + i = 101 ∧ i ≤ 100 ∧ wr = w)
  case atStart => exact ⟨0, rfl, rfl, rfl, by omega, rfl⟩
  case round =>
    obtain ⟨i, rfl, rfl, hkx, hi, rfl⟩ := hrel
    by_cases hlt : i < 100
    · have hts := topN_succ (i + 1)
      have hsz := topN_size (i + 1)
      go_wp2
      go_roundg (100 - i)
      case measure => omega
      case rel => exact ⟨i + 1, rfl, by congr 1, by omega, by omega, rfl⟩
    · obtain rfl : i = 100 := by omega
      go_wp2
      go_ret
      exact ⟨rfl, rfl⟩
end Go.Proofs.Yteeflkkoifgcbaa
/- Rows of keys that are read; SameKVs of two that are the same; the document's find. -/
namespace Go.Proofs.Yteeflkkoifgcbaa
open Go Go.RowKit

theorem stood56 : Try.prog.stoodInHeld 56 = false := by kernel_rfl
section
variable (a0 a1 a2 a3 a4 a5 : Value) (w : World)
theorem p56_0 : (part 9 #[a0, a1, a2, a3, a4, a5] 0).run Try.prog w = .ok a0 w := by kernel_rfl
theorem p56_1 : (part 9 #[a0, a1, a2, a3, a4, a5] 1).run Try.prog w = .ok a1 w := by kernel_rfl
theorem p56_2 : (part 3 #[a0, a1, a2, a3, a4, a5] 2).run Try.prog w = .ok a2 w := by kernel_rfl
theorem p56_3 : (part 3 #[a0, a1, a2, a3, a4, a5] 3).run Try.prog w = .ok a3 w := by kernel_rfl
theorem p56_4 : (part 3 #[a0, a1, a2, a3, a4, a5] 4).run Try.prog w = .ok a4 w := by kernel_rfl
theorem p56_5 : (part 3 #[a0, a1, a2, a3, a4, a5] 5).run Try.prog w = .ok a5 w := by kernel_rfl
end
theorem eq56 (k : KVd) (w : World) : (Op.equal 56 (encKV k) (encKV k)).run Try.prog w = .ok true w := by
  obtain ⟨a, b, c, d, e, f⟩ := k
  show (Op.equalIn (9999 + 1) 56 _ _).run Try.prog w = _
  have s1 := eqStr 9998 a a w
  have s2 := eqStr 9998 b b w
  have b1 : (a == a) = true := (MapKept.bytes_beq a a).2 rfl
  have b2 : (b == b) = true := (MapKept.bytes_beq b b).2 rfl
  rw [b1] at s1
  rw [b2] at s2
  have i1 := eqInt 9998 c c w
  have i2 := eqInt 9998 d d w
  have i3 := eqInt 9998 e e w
  have i4 := eqInt 9998 f f w
  unfold Op.equalIn
  dsimp only [encKV]
  simp only [Sem.run_bind, run_underlying Try.underlying56, Result.andThen, run_program, stood56]
  simp [p56_0, p56_1, p56_2, p56_3, p56_4, p56_5, s1, s2, i1, i2, i3, i4, Result.andThen]
theorem kvsC_at : ∀ {l : List KVd} {i : Nat} {kv : KVd} (_ : l[i]? = some kv) (t : Nat), t < 6 → (kvsC l)[i * 6 + t]? = (kvC kv)[t]?
  | [], i, kv, h, t, ht => by simp at h
  | x :: l, 0, kv, h, t, ht => by
    have e : x = kv := by simpa using h
    subst e
    show (kvC x ++ kvsC l)[0 * 6 + t]? = _
    rw [Nat.zero_mul, Nat.zero_add, List.getElem?_append_left (by show t < 6; exact ht)]
  | x :: l, i + 1, kv, h, t, ht => by
    have h' : l[i]? = some kv := by simpa using h
    show (kvC x ++ kvsC l)[(i + 1) * 6 + t]? = _
    rw [List.getElem?_append_right (by show 6 ≤ _; omega)]
    have e : (i + 1) * 6 + t - (kvC x).length = i * 6 + t := by show (i + 1) * 6 + t - 6 = _; omega
    rw [e]
    exact kvsC_at h' t ht
/-- A row of keys that can be read. -/
def KVs (w : World) (v : Value) (l : List KVd) : Prop := ∃ p c, v = .slice p l.length c ∧ l.length ≤ c ∧ ∀ i kv, l[i]? = some kv → ∃ g, p = some ⟨g, 0, none⟩ ∧ g < w.heap.size ∧ w.cell? ⟨g, i * 6, none⟩ = some (.string kv.key) ∧ w.cell? ⟨g, i * 6 + 1, none⟩ = some (.string kv.value) ∧ w.cell? ⟨g, i * 6 + 2, none⟩ = some (.int .i64 kv.create) ∧ w.cell? ⟨g, i * 6 + 3, none⟩ = some (.int .i64 kv.mod) ∧ w.cell? ⟨g, i * 6 + 4, none⟩ = some (.int .i64 kv.version) ∧ w.cell? ⟨g, i * 6 + 5, none⟩ = some (.int .i64 kv.lease)
theorem KVs.of {w : World} {B : Nat} {v : Value} {l : List KVd} (h : w.ownsRow B 56 6 v l.length (kvsC l)) : KVs w v l := by
  by_cases h0 : l.length = 0
  · obtain ⟨p, c, rfl⟩ := owns_formB0 h
    exact ⟨p, c, rfl, by omega, fun i kv hi => by have := (List.getElem?_eq_some_iff.1 hi).1; omega⟩
  · obtain ⟨g, c, hv, hc, _⟩ := owns_formB h (by omega)
    refine ⟨_, c, hv, hc, fun i kv hi => ?_⟩
    have hb : v.ownBlock = some g := by rw [hv]; rfl
    have hcell : ∀ t u, t < 6 → (kvC kv)[t]? = some u → w.cell? ⟨g, i * 6 + t, none⟩ = some u := fun t u ht hu => by
      have := h.cells (g := g) hb (i * 6 + t) u ((kvsC_at hi t ht).trans hu)
      simpa only [Addr.add_lit, Nat.zero_add] using this
    exact ⟨g, rfl, (h.lt g hb).2, hcell 0 _ (by omega) rfl, hcell 1 _ (by omega) rfl, hcell 2 _ (by omega) rfl, hcell 3 _ (by omega) rfl, hcell 4 _ (by omega) rfl, hcell 5 _ (by omega) rfl⟩
theorem KVs.nil (w : World) : KVs w (.slice none 0 0) [] := ⟨none, 0, rfl, Nat.le_refl _, fun i kv hi => by simp at hi⟩
theorem KVs.below {w w' : World} {v : Value} {l : List KVd} (h : KVs w v l) {B : Nat} (hb : Below B w w') (hB : w.heap.size ≤ B) : KVs w' v l := by
  obtain ⟨p, c, rfl, hc, hh⟩ := h
  refine ⟨p, c, rfl, hc, fun i kv hi => ?_⟩
  obtain ⟨g, h1, h2, h3, h4, h5, h6, h7, h8⟩ := hh i kv hi
  have hq : ∀ t, w'.cell? ⟨g, t, none⟩ = w.cell? ⟨g, t, none⟩ := fun t => hb.cell (p := ⟨g, t, none⟩) (by show g < _; omega)
  exact ⟨g, h1, Nat.lt_of_lt_of_le h2 (by have := hb.size; omega), (hq _).trans h3, (hq _).trans h4, (hq _).trans h5, (hq _).trans h6, (hq _).trans h7, (hq _).trans h8⟩
set_option maxRecDepth 100000 in
set_option maxHeartbeats 1000000 in
/-- Two rows of the same keys are the same. -/
theorem same_kvs {w : World} {va vb : Value} {l : List KVd} (ha : KVs w va l) (hb : KVs w vb l) (hl : l.length ≤ 1000000) : Calls Try.prog 18 #[va, vb] w fun e w' => e = .returned (.bool true) ∧ Below w.heap.size w w' := by
  obtain ⟨pa, ca, rfl, hca, hA⟩ := ha
  obtain ⟨pb, cb, rfl, hcb, hB⟩ := hb
  have HA := Hid.mk'' hA
  have HB := Hid.mk'' hB
  clear hA hB
  go_enter Try.func18, Try.ntmps18
  go_wp2
  go_loopg [5] (l.length + 1) (fun kx s5 wr => ∃ i : Nat, s5 = .int .i64 i ∧ kx + i = l.length + 1 ∧ i ≤ l.length ∧ Hid (Below w.heap.size w wr))
  case atStart => exact ⟨0, rfl, rfl, Nat.zero_le _, Below.refl _ _⟩
  case round =>
    obtain ⟨i, rfl, hkx, hi, HM⟩ := hrel
    by_cases hlt : i < l.length
    · obtain ⟨kv, hkv⟩ : ∃ kv, l[i]? = some kv := ⟨_, List.getElem?_eq_getElem hlt⟩
      obtain ⟨ga, rfl, la, a0, a1, a2, a3, a4, a5⟩ := HA.out i kv hkv
      obtain ⟨gb, rfl, lb, b0, b1, b2, b3, b4, b5⟩ := HB.out i kv hkv
      have heq := eq56 kv
      obtain ⟨kk, kvv, kcr, kmo, kve, kle⟩ := kv
      dsimp only [encKV] at *
      have qa : ∀ t, wr.drew.cell? ⟨ga, t, none⟩ = w.cell? ⟨ga, t, none⟩ := fun t => HM.out.cell (p := ⟨ga, t, none⟩) la
      have qb : ∀ t, wr.drew.cell? ⟨gb, t, none⟩ = w.cell? ⟨gb, t, none⟩ := fun t => HM.out.cell (p := ⟨gb, t, none⟩) lb
      have c0 := (qa _).trans a0
      have c1 := (qa _).trans a1
      have c2 := (qa _).trans a2
      have c3 := (qa _).trans a3
      have c4 := (qa _).trans a4
      have c5 := (qa _).trans a5
      have d0 := (qb _).trans b0
      have d1 := (qb _).trans b1
      have d2 := (qb _).trans b2
      have d3 := (qb _).trans b3
      have d4 := (qb _).trans b4
      have d5 := (qb _).trans b5
      clear a0 a1 a2 a3 a4 a5 b0 b1 b2 b3 b4 b5 qa qb hkv
      go_upto_region 6 with fail
      go_region
      all_goals
        go_wp2
        go_roundg (l.length - i)
        case measure => omega
        case rel => exact ⟨i + 1, by congr 1, by omega, by omega, HM.out.drew⟩
    · obtain rfl : i = l.length := by omega
      go_wp2
      go_ret
      exact ⟨rfl, HM.out⟩
/-- How many keys stand ahead of a key. -/
def cntK (l : List KVd) (key : ByteArray) : Nat := (l.filter fun kv => klt kv.key key).length
theorem cntK_le (l : List KVd) (key : ByteArray) : cntK l key ≤ l.length := List.length_filter_le _ _
theorem cntK_none {x : KVd} {l : List KVd} {key : ByteArray} (ha : Asc ((x :: l).map (·.key))) (hx : klt x.key key = false) : ∀ y ∈ x :: l, klt y.key key = false := fun y hy => by
  rcases List.mem_cons.1 hy with rfl | hy
  · exact hx
  · have h1 : klt x.key y.key = true := ha.1 _ (List.mem_map_of_mem hy)
    cases h : klt y.key key
    · rfl
    · rw [klt_trans h1 h] at hx
      cases hx
/-- In a rising row the keys ahead of a key are its front. -/
theorem cntK_iff : ∀ {l : List KVd} {key : ByteArray}, Asc (l.map (·.key)) → ∀ {i : Nat} {kv : KVd}, l[i]? = some kv → (klt kv.key key = true ↔ i < cntK l key)
  | [], _, _, i, kv, h => by simp at h
  | x :: l, key, ha, i, kv, h => by
    cases hx : klt x.key key
    · have hn := cntK_none ha hx
      have e : cntK (x :: l) key = 0 := by
        unfold cntK
        rw [List.filter_eq_nil_iff.2 (fun y hy => by rw [hn y hy]; decide)]
        rfl
      rw [e, hn kv (List.mem_of_getElem? h)]
      simp
    · have e : cntK (x :: l) key = cntK l key + 1 := by
        unfold cntK
        rw [List.filter_cons_of_pos (p := fun kv : KVd => klt kv.key key) hx]
        rfl
      rw [e]
      match i, h with
      | 0, h =>
        have : x = kv := by simpa using h
        subst this
        rw [hx]
        simp
      | i + 1, h =>
        have := cntK_iff (key := key) ha.2 (show l[i]? = some kv by simpa using h)
        rw [this]
        omega
set_option maxRecDepth 100000 in
set_option maxHeartbeats 1000000 in
theorem find_kvs {w : World} {va : Value} {l : List KVd} (ha : KVs w va l) (hl : l.length ≤ 1000000) (hs : Asc (l.map (·.key))) (key : ByteArray) : Calls Try.prog 38 #[va, .string key] w fun e w' => e = .returned (.int .i64 (cntK l key)) ∧ w' = w := by
  obtain ⟨pa, ca, rfl, hca, hA⟩ := ha
  have HA := Hid.mk'' hA
  have HS := Hid.mk'' hs
  have HC := Hid.mk'' (cntK_le l key)
  clear hA hs
  go_enter Try.func38, Try.ntmps38
  go_wp2
  go_loopg [5, 6] (l.length + 1) (fun kx s5 s6 wr => ∃ a b : Nat, s5 = .int .i64 a ∧ s6 = .int .i64 b ∧ b - a < kx ∧ a ≤ cntK l key ∧ cntK l key ≤ b ∧ b ≤ l.length ∧ wr = w)
  case atStart => exact ⟨0, l.length, rfl, rfl, by omega, Nat.zero_le _, HC.out, Nat.le_refl _, rfl⟩
  case round =>
    obtain ⟨a, b, rfl, rfl, hkx, h1, h2, h3, rfl⟩ := hrel
    by_cases hlt : a < b
    · obtain ⟨m, hm⟩ : ∃ m : Nat, m = (a + b) / 2 := ⟨_, rfl⟩
      have hm1 : a ≤ m ∧ m < b := by omega
      obtain ⟨kv, hkv⟩ : ∃ kv, l[m]? = some kv := ⟨_, List.getElem?_eq_getElem (by omega)⟩
      obtain ⟨g, rfl, la, a0, -⟩ := HA.out m kv hkv
      have hiff := cntK_iff (key := key) HS.out hkv
      go_upto_region 4 with fail
      have em : ((a : Int) + b) / 2 = (m : Int) := by omega
      rw [em]
      have hml : m < l.length := by omega
      have hmb : b - (m + 1) < gk - 1 ∧ m - a < gk - 1 := by omega
      clear em hm HA
      go_wp2
      · have hb := ‹Op.bytesLess kv.key.toList key.toList = true›
        rw [bl_data] at hb
        have := hiff.1 hb
        go_roundg (gk - 1)
        case measure => omega
        case rel => exact ⟨m + 1, b, by congr 1, rfl, hmb.1, this, h2, h3, rfl⟩
      · have hb := ‹Op.bytesLess kv.key.toList key.toList = false›
        rw [bl_data] at hb
        have : ¬ m < cntK l key := fun h => by have e := hiff.2 h; rw [hb] at e; cases e
        go_roundg (gk - 1)
        case measure => omega
        case rel => exact ⟨a, m, rfl, rfl, hmb.2, h1, by omega, by omega, rfl⟩
    · obtain rfl : a = cntK l key := by omega
      go_wp2
      go_ret
      exact ⟨rfl, rfl⟩
end Go.Proofs.Yteeflkkoifgcbaa
/- The document's keys behind a change. -/
namespace Go.Proofs.Yteeflkkoifgcbaa
open Go Go.RowKit

/-- Keys behind a change, as the document does it. -/
def doneL (l : List KVd) (del : Bool) (x : KVd) : List KVd :=
  l.take (cntK l x.key) ++ (if del then [] else [x]) ++ l.drop (if (l[cntK l x.key]?.map (·.key)) = some x.key then cntK l x.key + 1 else cntK l x.key)
theorem kvsC_one {l : List KVd} {u : Value} (hu : u ∈ kvsC l) : u.oneCell' = true := by
  obtain ⟨kv, _, h⟩ := List.mem_flatMap.1 hu
  simp [kvC] at h
  rcases h with rfl | rfl | rfl | rfl | rfl | rfl <;> rfl
theorem kvsC_get {l : List KVd} {j : Nat} {u : Value} (hj : (kvsC l)[j]? = some u) : ∃ kv, l[j / 6]? = some kv ∧ (kvC kv)[j % 6]? = some u := by
  have hlt := (List.getElem?_eq_some_iff.1 hj).1
  rw [kvsC_len] at hlt
  have hlt2 : j / 6 < l.length := by omega
  refine ⟨_, List.getElem?_eq_getElem hlt2, ?_⟩
  have := kvsC_at (List.getElem?_eq_getElem hlt2) (j % 6) (by omega)
  rw [← this, ← hj]
  congr 1
  omega
theorem KVs.get {w : World} {p : Option Addr} {n c : Nat} {l : List KVd} (h : KVs w (.slice p n c) l) {j : Nat} {u : Value} (hj : (kvsC l)[j]? = some u) : ∃ g, p = some ⟨g, 0, none⟩ ∧ w.cell? ⟨g, j, none⟩ = some u := by
  obtain ⟨p', c', e, _, hh⟩ := h
  cases e
  obtain ⟨kv, h1, h2⟩ := kvsC_get hj
  obtain ⟨g, h3, _, a0, a1, a2, a3, a4, a5⟩ := hh _ kv h1
  refine ⟨g, h3, ?_⟩
  have ej : j = j / 6 * 6 + j % 6 := by omega
  have hlt : j % 6 < 6 := by omega
  generalize j / 6 = q at *
  generalize j % 6 = t at *
  subst ej
  match t, hlt, h2 with
  | 0, _, h2 => cases h2; exact a0
  | 1, _, h2 => cases h2; exact a1
  | 2, _, h2 => cases h2; exact a2
  | 3, _, h2 => cases h2; exact a3
  | 4, _, h2 => cases h2; exact a4
  | 5, _, h2 => cases h2; exact a5
theorem kvsC_append (a b : List KVd) : kvsC (a ++ b) = kvsC a ++ kvsC b := by unfold kvsC; rw [List.flatMap_append]
theorem kvsC_take (l : List KVd) {k : Nat} (hk : k ≤ l.length) : kvsC l = kvsC (l.take k) ++ kvsC (l.drop k) ∧ (kvsC (l.take k)).length = k * 6 := by
  refine ⟨by rw [← kvsC_append, List.take_append_drop], ?_⟩
  rw [kvsC_len, List.length_take]
  congr 1
  omega
theorem KVs.srcT {w : World} {p : Option Addr} {n c k : Nat} {l : List KVd} (h : KVs w (.slice p n c) l) (hk : k ≤ l.length) : Src Try.prog 6 40 (.slice p k c) k (kvsC (l.take k)) w := by
  obtain ⟨e1, e2⟩ := kvsC_take l hk
  have hg : ∀ j u, (kvsC (l.take k))[j]? = some u → (kvsC l)[j]? = some u := fun j u hj => by
    rw [e1, List.getElem?_append_left (List.getElem?_eq_some_iff.1 hj).1]
    exact hj
  cases p with
  | none =>
    have h0 : k = 0 := by
      rcases Nat.eq_zero_or_pos k with h0 | h0
      · exact h0
      · obtain ⟨u, hu⟩ : ∃ u, (kvsC (l.take k))[0]? = some u := ⟨_, List.getElem?_eq_getElem (by omega)⟩
        obtain ⟨g, hg', _⟩ := h.get (hg 0 u hu)
        cases hg'
    subst h0
    exact Src.ofNil _ Try.underlying40 c
  | some a =>
    refine Src.ofSlice _ Try.underlying40 a k c _ e2 (fun j u hj => ?_) (fun u hu => kvsC_one hu)
    obtain ⟨g, hg', hc⟩ := h.get (hg j u hj)
    cases hg'
    rw [Addr.add_lit, Nat.zero_add]
    exact hc
theorem KVs.srcD {w : World} {g n c c' k : Nat} {l : List KVd} (h : KVs w (.slice (some ⟨g, 0, none⟩) n c) l) (hk : k ≤ l.length) : Src Try.prog 6 40 (.slice (some ⟨g, k * 6, none⟩) (l.length - k) c') (l.length - k) (kvsC (l.drop k)) w := by
  obtain ⟨e1, e2⟩ := kvsC_take l hk
  refine Src.ofSlice _ Try.underlying40 ⟨g, k * 6, none⟩ _ c' _ (by rw [kvsC_len, List.length_drop]) (fun j u hj => ?_) (fun u hu => kvsC_one hu)
  obtain ⟨g', hg', hc⟩ := h.get (j := k * 6 + j) (u := u) (by rw [e1, List.getElem?_append_right (by omega), e2]; rw [Nat.add_sub_cancel_left]; exact hj)
  cases hg'
  rw [Addr.add_lit]
  exact hc
theorem src_end {l : List KVd} {J : Nat} (h : l.length ≤ J) (p : Option Addr) (c' : Nat) (W : World) : Src Try.prog 6 40 (.slice p (l.length - J) c') (l.length - J) (kvsC (l.drop J)) W := by
  have e1 : l.length - J = 0 := by omega
  rw [e1, List.drop_eq_nil_of_le h]
  cases p with
  | none => exact Src.ofNil _ Try.underlying40 c'
  | some a => exact Src.ofSlice _ Try.underlying40 a 0 c' [] rfl (fun j u hj => by simp at hj) (fun u hu => by cases hu)
theorem doneL_ne {l : List KVd} {x : KVd} {k : Nat} (hk : k = cntK l x.key) (h : ¬ (l[k]?.map (·.key)) = some x.key) (del : Bool) : doneL l del x = l.take k ++ (if del then [] else [x]) ++ l.drop k := by
  unfold doneL
  rw [← hk, if_neg h]
theorem doneL_eq {l : List KVd} {x : KVd} {k : Nat} (hk : k = cntK l x.key) (h : (l[k]?.map (·.key)) = some x.key) (del : Bool) : doneL l del x = l.take k ++ (if del then [] else [x]) ++ l.drop (k + 1) := by
  unfold doneL
  rw [← hk, if_pos h]
set_option maxRecDepth 100000 in
set_option maxHeartbeats 2000000 in
theorem done_kvs {w : World} {va : Value} {l : List KVd} (ha : KVs w va l) (hl : l.length ≤ 1000000) (hs : Asc (l.map (·.key))) (r : Int) (del : Bool) (x : KVd) :
    Calls Try.prog 33 #[va, .agg (evC r del x)] w fun e w' => ∃ v, e = .returned v ∧ KVs w' v (doneL l del x) ∧ Below w.heap.size w w' := by
  obtain ⟨w1, hw1⟩ : ∃ w1, w1 = w.alloc (.cells (evC r del x) 85) := ⟨_, rfl⟩
  have hb1 : Below w.heap.size w w1 := by rw [hw1]; exact (Below.refl _ w).alloc (Nat.le_refl _) _
  have r1 : w1.heap[w.heap.size]? = some (.cells (evC r del x) 85 (0, 0)) := by rw [hw1]; exact row_alloc w _ _
  have ha1 := ha.below hb1 (Nat.le_refl _)
  have hfind := find_kvs ha1 hl hs x.key
  have H0 := Hid.mk'' ha
  obtain ⟨p, c, rfl, hc, -⟩ := ha
  obtain ⟨k, hk⟩ : ∃ k, k = cntK l x.key := ⟨_, rfl⟩
  have hkl : k ≤ l.length := by rw [hk]; exact cntK_le _ _
  rw [← hk] at hfind
  have HA := Hid.mk'' ha1
  clear ha1
  have HB := Hid.mk'' hb1
  have HR := Hid.mk'' r1
  have HK := Hid.mk'' hk
  obtain ⟨xk, xv, xc, xm, xe, xl⟩ := x
  dsimp only [evC] at *
  obtain ⟨⟨k0, k1, k2, k3, k4, k5, k6, k7⟩, -⟩ := box8 r1
  clear hb1 r1 hs hk
  go_enter Try.func33, Try.ntmps33
  go_upto_region 2 with (first | (rw [← hw1]; fail) | (go_at_call 38; rw [← hw1]; refine hfind.mono ?_; rintro e w' ⟨rfl, hw'⟩; obtain rfl := hw'.symm))
  rw [← hw1]
  have HW : Hid (∀ q, Below w.heap.size w (w1.drewN q) ∧ (w1.drewN q).heap[w.heap.size]? = some (.cells #[.int .i64 r, .bool del, .string xk, .string xv, .int .i64 xc, .int .i64 xm, .int .i64 xe, .int .i64 xl] 85 (0, 0))) := fun q => ⟨below_drewQ HB.out q, HR.out⟩
  obtain ⟨t9, hti, hz0, hz1, hz2⟩ := info_parts info56
  by_cases hlt : k < l.length
  · obtain ⟨kv, hkv⟩ : ∃ kv, l[k]? = some kv := ⟨_, List.getElem?_eq_getElem hlt⟩
    obtain ⟨p', c', hpe, -, hh⟩ := HA.out
    cases hpe
    obtain ⟨g, rfl, lg, a0, -⟩ := hh k kv hkv
    by_cases he : kv.key = xk
    · have hne : (kv.key.toList == xk.toList) = true := by rw [beq_data]; exact decide_eq_true he
      have HE := Hid.mk'' he
      clear he
      obtain ⟨J, hJ⟩ : ∃ J, J = k + 1 := ⟨_, rfl⟩
      have HJ := Hid.mk'' hJ
      have hJl : J ≤ l.length := by omega
      have eJ : (k : Int) + 1 = (J : Int) := by omega
      have EJ := Hid.mk'' eJ
      clear hJ eJ
      by_cases hJc : J < c
      · clear hh hw1 hfind k0 k1 k3 k4 k5 k6 k7
        go_quiet (fail)
        obtain ⟨w2, hw2⟩ : ∃ w2, w2 = w1.drewN nq := ⟨_, rfl⟩
        obtain ⟨hB2, hR2⟩ := HW.out nq
        rw [← hw2] at hB2 hR2 ⊢
        have hsz2 := hB2.size
        have hsrcT := (H0.out.below hB2 (Nat.le_refl _)).srcT hkl
        have HB2 := Hid.mk'' hB2
        have HR2 := Hid.mk'' hR2
        clear hw2 hB2 hR2 HW HR HB HA k2 a0 lg
        go_upto_region 5 with (at_builtin; refine wpList_appS _ rfl (.tmp 28) (.tmp 31) 40 40 rfl w.heap.size 56 t9 _ 6 Try.underlying40 hti hz0 hz1 rfl (by rw [hz2]; decide) (.slice none 0 0) 0 [] rfl (World.ownsRow_nil _ _ _ _) _ rfl k (kvsC (l.take k)) hsrcT (by omega) hsz2 ?_; intro v1 w3 q1 q2 q3 q4; obtain ⟨p1, c1, hv1⟩ := owns_formB0 q1; subst hv1; clear q3 q4)
        have hb23 : Below w2.heap.size w2 w3 := q2.below (Nat.le_refl _) (fun j _ e => by cases e)
        have hb3 : Below w.heap.size w w3 := HB2.out.trans (hb23.mono hsz2)
        have hR3 := (hb23.block w.heap.size (Array.getElem?_eq_some_iff.1 HR2.out).1).trans HR2.out
        have q1 : w3.ownsRow w.heap.size 56 6 (.slice p1 k c1) k (kvsC (l.take k)) := by rw [Nat.zero_add, List.nil_append] at q1; exact q1
        obtain ⟨⟨m0, m1, m2, m3, m4, m5, m6, m7⟩, -⟩ := box8 hR3
        have hsz3 := hb3.size
        have HB3 := Hid.mk'' hb3
        have HQ1 := Hid.mk'' q1
        clear q2 hb23 hb3 hR3 HR2 HB2 hsrcT hsz2 q1
        cases del with
        | true =>
          go_upto_region 9 with fail
          rw [EJ.out]
          have HSD : ∀ c', Src Try.prog 6 40 (.slice (some ⟨g, J * 6, none⟩) (l.length - J) c') (l.length - J) (kvsC (l.drop J)) w3 := fun c' => (H0.out.below HB3.out (Nat.le_refl _)).srcD hJl
          have HD : Hid (doneL l true ⟨xk, xv, xc, xm, xe, xl⟩ = l.take k ++ l.drop J) := by show _ = _; rw [doneL_eq (x := ⟨xk, xv, xc, xm, xe, xl⟩) HK.out (by rw [hkv]; simpa using HE.out) true, if_pos rfl, List.append_nil, HJ.out]
          go_wp2_with (at_builtin; refine wpList_appS _ rfl (.tmp 44) (.tmp 47) 40 40 rfl w.heap.size 56 t9 _ 6 Try.underlying40 hti hz0 hz1 rfl (by rw [hz2]; decide) (.slice p1 k c1) k (kvsC (l.take k)) rfl HQ1.out _ rfl (l.length - J) (kvsC (l.drop J)) (HSD _) (by omega) hsz3 ?_; intro v5 w5 s1 s2 s3 s4; clear s3 s4)
          go_ret
          refine ⟨v5, rfl, ?_, ?_⟩
          · refine KVs.of (B := w.heap.size) ?_
            have e : (doneL l true ⟨xk, xv, xc, xm, xe, xl⟩) = l.take k ++ l.drop J := HD.out
            rw [e]
            have el : (l.take k ++ l.drop J).length = k + (l.length - J) := by simp only [List.length_append, List.length_take, List.length_drop]; have := HJ.out; omega
            rw [el]
            have ec : kvsC (l.take k ++ l.drop J) = (kvsC (l.take k)) ++ kvsC (l.drop J) := by simp only [kvsC_append]
            rw [ec]
            exact s1
          · exact (HB3.out).trans (s2.below (HB3.out).size (fun j hj e => by have := ((HQ1.out).lt j e.symm).1; omega))
        | false =>
          have hba : Below w3.heap.size w3 (w3.alloc (.cells #[.string xk, .string xv, .int .i64 xc, .int .i64 xm, .int .i64 xe, .int .i64 xl] 56)) := (Below.refl _ w3).alloc (Nat.le_refl _) _
          have hsrc : Src Try.prog 6 40 (.slice (some ⟨w3.heap.size, 0, none⟩) 1 1) 1 (kvsC [⟨xk, xv, xc, xm, xe, xl⟩]) (w3.alloc (.cells #[.string xk, .string xv, .int .i64 xc, .int .i64 xm, .int .i64 xe, .int .i64 xl] 56)) := Src.ofSlice _ Try.underlying40 ⟨w3.heap.size, 0, none⟩ 1 1 _ rfl (fun j u hj => by
              rw [Addr.add_lit, Nat.zero_add, cell_of_row _ _ _ _ _ _ (row_alloc w3 _ 56)]; simpa [kvsC, kvC] using hj) (fun u hu => kvsC_one hu)
          have hown : (w3.alloc (.cells #[.string xk, .string xv, .int .i64 xc, .int .i64 xm, .int .i64 xe, .int .i64 xl] 56)).ownsRow w.heap.size 56 6 (.slice p1 k c1) k (kvsC (l.take k)) := ownsRow_upd HQ1.out (Upd.ofBelow (S := fun _ => False) hba) (fun _ _ h => h)
          have HF : Hid (∀ w', Upd (w3.alloc (.cells #[.string xk, .string xv, .int .i64 xc, .int .i64 xm, .int .i64 xe, .int .i64 xl] 56)) w' (fun k' => some k' = (Value.slice p1 k c1).ownBlock) → Below w.heap.size w w') := fun w' hu => (HB3.out.trans (hba.mono hsz3)).trans (hu.below (HB3.out.trans (hba.mono hsz3)).size (fun j hj e => by have := (HQ1.out.lt j e.symm).1; omega))
          clear hba
          go_upto_region 9 with (at_builtin; refine wpList_appS _ rfl (.tmp 36) (.tmp 39) 40 40 rfl w.heap.size 56 t9 _ 6 Try.underlying40 hti hz0 hz1 rfl (by rw [hz2]; decide) (.slice p1 k c1) k (kvsC (l.take k)) rfl hown _ rfl 1 (kvsC [⟨xk, xv, xc, xm, xe, xl⟩]) hsrc (by omega) (by simp; omega) ?_; intro v4 w4 r1 r2 r3 r4; obtain ⟨p4, c4, hv4⟩ := owns_formB0 r1; subst hv4; clear r3 r4)
          have HB4 := Hid.mk'' (HF.out _ r2)
          have hsz4 := HB4.out.size
          have HR1 := Hid.mk'' r1
          rw [EJ.out]
          have HSD : ∀ c', Src Try.prog 6 40 (.slice (some ⟨g, J * 6, none⟩) (l.length - J) c') (l.length - J) (kvsC (l.drop J)) w4 := fun c' => (H0.out.below HB4.out (Nat.le_refl _)).srcD hJl
          have HD : Hid (doneL l false ⟨xk, xv, xc, xm, xe, xl⟩ = l.take k ++ [(⟨xk, xv, xc, xm, xe, xl⟩ : KVd)] ++ l.drop J) := by show _ = _; rw [doneL_eq (x := ⟨xk, xv, xc, xm, xe, xl⟩) HK.out (by rw [hkv]; simpa using HE.out) false, HJ.out]; rfl
          clear r1 r2 HF hown hsrc
          go_wp2_with (at_builtin; refine wpList_appS _ rfl (.tmp 44) (.tmp 47) 40 40 rfl w.heap.size 56 t9 _ 6 Try.underlying40 hti hz0 hz1 rfl (by rw [hz2]; decide) (.slice p4 (k + 1) c4) (k + 1) (kvsC (l.take k) ++ kvsC [⟨xk, xv, xc, xm, xe, xl⟩]) rfl HR1.out _ rfl (l.length - J) (kvsC (l.drop J)) (HSD _) (by omega) hsz4 ?_; intro v5 w5 s1 s2 s3 s4; clear s3 s4)
          go_ret
          refine ⟨v5, rfl, ?_, ?_⟩
          · refine KVs.of (B := w.heap.size) ?_
            have e : (doneL l false ⟨xk, xv, xc, xm, xe, xl⟩) = l.take k ++ [(⟨xk, xv, xc, xm, xe, xl⟩ : KVd)] ++ l.drop J := HD.out
            rw [e]
            have el : (l.take k ++ [(⟨xk, xv, xc, xm, xe, xl⟩ : KVd)] ++ l.drop J).length = (k + 1) + (l.length - J) := by simp only [List.length_append, List.length_take, List.length_drop, List.length_singleton]; have := HJ.out; omega
            rw [el]
            have ec : kvsC (l.take k ++ [(⟨xk, xv, xc, xm, xe, xl⟩ : KVd)] ++ l.drop J) = (kvsC (l.take k) ++ kvsC [⟨xk, xv, xc, xm, xe, xl⟩]) ++ kvsC (l.drop J) := by simp only [kvsC_append]
            rw [ec]
            exact s1
          · exact (HB4.out).trans (s2.below (HB4.out).size (fun j hj e => by have := ((HR1.out).lt j e.symm).1; omega))
      · have HJE : Hid (l.length ≤ J) := by show _ ≤ _; omega
        clear hh hw1 hfind k0 k1 k3 k4 k5 k6 k7
        go_quiet (fail)
        obtain ⟨w2, hw2⟩ : ∃ w2, w2 = w1.drewN nq := ⟨_, rfl⟩
        obtain ⟨hB2, hR2⟩ := HW.out nq
        rw [← hw2] at hB2 hR2 ⊢
        have hsz2 := hB2.size
        have hsrcT := (H0.out.below hB2 (Nat.le_refl _)).srcT hkl
        have HB2 := Hid.mk'' hB2
        have HR2 := Hid.mk'' hR2
        clear hw2 hB2 hR2 HW HR HB HA k2 a0 lg
        go_upto_region 5 with (at_builtin; refine wpList_appS _ rfl (.tmp 28) (.tmp 31) 40 40 rfl w.heap.size 56 t9 _ 6 Try.underlying40 hti hz0 hz1 rfl (by rw [hz2]; decide) (.slice none 0 0) 0 [] rfl (World.ownsRow_nil _ _ _ _) _ rfl k (kvsC (l.take k)) hsrcT (by omega) hsz2 ?_; intro v1 w3 q1 q2 q3 q4; obtain ⟨p1, c1, hv1⟩ := owns_formB0 q1; subst hv1; clear q3 q4)
        have hb23 : Below w2.heap.size w2 w3 := q2.below (Nat.le_refl _) (fun j _ e => by cases e)
        have hb3 : Below w.heap.size w w3 := HB2.out.trans (hb23.mono hsz2)
        have hR3 := (hb23.block w.heap.size (Array.getElem?_eq_some_iff.1 HR2.out).1).trans HR2.out
        have q1 : w3.ownsRow w.heap.size 56 6 (.slice p1 k c1) k (kvsC (l.take k)) := by rw [Nat.zero_add, List.nil_append] at q1; exact q1
        obtain ⟨⟨m0, m1, m2, m3, m4, m5, m6, m7⟩, -⟩ := box8 hR3
        have hsz3 := hb3.size
        have HB3 := Hid.mk'' hb3
        have HQ1 := Hid.mk'' q1
        clear q2 hb23 hb3 hR3 HR2 HB2 hsrcT hsz2 q1
        cases del with
        | true =>
          go_upto_region 9 with fail
          rw [EJ.out]
          have HD : Hid (doneL l true ⟨xk, xv, xc, xm, xe, xl⟩ = l.take k ++ l.drop J) := by show _ = _; rw [doneL_eq (x := ⟨xk, xv, xc, xm, xe, xl⟩) HK.out (by rw [hkv]; simpa using HE.out) true, if_pos rfl, List.append_nil, HJ.out]
          go_wp2_with (at_builtin; refine wpList_appS _ rfl (.tmp 44) (.tmp 47) 40 40 rfl w.heap.size 56 t9 _ 6 Try.underlying40 hti hz0 hz1 rfl (by rw [hz2]; decide) (.slice p1 k c1) k (kvsC (l.take k)) rfl HQ1.out _ rfl (l.length - J) (kvsC (l.drop J)) (src_end HJE.out _ _ _) (by omega) hsz3 ?_; intro v5 w5 s1 s2 s3 s4; clear s3 s4)
          go_ret
          refine ⟨v5, rfl, ?_, ?_⟩
          · refine KVs.of (B := w.heap.size) ?_
            have e : (doneL l true ⟨xk, xv, xc, xm, xe, xl⟩) = l.take k ++ l.drop J := HD.out
            rw [e]
            have el : (l.take k ++ l.drop J).length = k + (l.length - J) := by simp only [List.length_append, List.length_take, List.length_drop]; have := HJ.out; omega
            rw [el]
            have ec : kvsC (l.take k ++ l.drop J) = (kvsC (l.take k)) ++ kvsC (l.drop J) := by simp only [kvsC_append]
            rw [ec]
            exact s1
          · exact (HB3.out).trans (s2.below (HB3.out).size (fun j hj e => by have := ((HQ1.out).lt j e.symm).1; omega))
        | false =>
          have hba : Below w3.heap.size w3 (w3.alloc (.cells #[.string xk, .string xv, .int .i64 xc, .int .i64 xm, .int .i64 xe, .int .i64 xl] 56)) := (Below.refl _ w3).alloc (Nat.le_refl _) _
          have hsrc : Src Try.prog 6 40 (.slice (some ⟨w3.heap.size, 0, none⟩) 1 1) 1 (kvsC [⟨xk, xv, xc, xm, xe, xl⟩]) (w3.alloc (.cells #[.string xk, .string xv, .int .i64 xc, .int .i64 xm, .int .i64 xe, .int .i64 xl] 56)) := Src.ofSlice _ Try.underlying40 ⟨w3.heap.size, 0, none⟩ 1 1 _ rfl (fun j u hj => by
              rw [Addr.add_lit, Nat.zero_add, cell_of_row _ _ _ _ _ _ (row_alloc w3 _ 56)]; simpa [kvsC, kvC] using hj) (fun u hu => kvsC_one hu)
          have hown : (w3.alloc (.cells #[.string xk, .string xv, .int .i64 xc, .int .i64 xm, .int .i64 xe, .int .i64 xl] 56)).ownsRow w.heap.size 56 6 (.slice p1 k c1) k (kvsC (l.take k)) := ownsRow_upd HQ1.out (Upd.ofBelow (S := fun _ => False) hba) (fun _ _ h => h)
          have HF : Hid (∀ w', Upd (w3.alloc (.cells #[.string xk, .string xv, .int .i64 xc, .int .i64 xm, .int .i64 xe, .int .i64 xl] 56)) w' (fun k' => some k' = (Value.slice p1 k c1).ownBlock) → Below w.heap.size w w') := fun w' hu => (HB3.out.trans (hba.mono hsz3)).trans (hu.below (HB3.out.trans (hba.mono hsz3)).size (fun j hj e => by have := (HQ1.out.lt j e.symm).1; omega))
          clear hba
          go_upto_region 9 with (at_builtin; refine wpList_appS _ rfl (.tmp 36) (.tmp 39) 40 40 rfl w.heap.size 56 t9 _ 6 Try.underlying40 hti hz0 hz1 rfl (by rw [hz2]; decide) (.slice p1 k c1) k (kvsC (l.take k)) rfl hown _ rfl 1 (kvsC [⟨xk, xv, xc, xm, xe, xl⟩]) hsrc (by omega) (by simp; omega) ?_; intro v4 w4 r1 r2 r3 r4; obtain ⟨p4, c4, hv4⟩ := owns_formB0 r1; subst hv4; clear r3 r4)
          have HB4 := Hid.mk'' (HF.out _ r2)
          have hsz4 := HB4.out.size
          have HR1 := Hid.mk'' r1
          rw [EJ.out]
          have HD : Hid (doneL l false ⟨xk, xv, xc, xm, xe, xl⟩ = l.take k ++ [(⟨xk, xv, xc, xm, xe, xl⟩ : KVd)] ++ l.drop J) := by show _ = _; rw [doneL_eq (x := ⟨xk, xv, xc, xm, xe, xl⟩) HK.out (by rw [hkv]; simpa using HE.out) false, HJ.out]; rfl
          clear r1 r2 HF hown hsrc
          go_wp2_with (at_builtin; refine wpList_appS _ rfl (.tmp 44) (.tmp 47) 40 40 rfl w.heap.size 56 t9 _ 6 Try.underlying40 hti hz0 hz1 rfl (by rw [hz2]; decide) (.slice p4 (k + 1) c4) (k + 1) (kvsC (l.take k) ++ kvsC [⟨xk, xv, xc, xm, xe, xl⟩]) rfl HR1.out _ rfl (l.length - J) (kvsC (l.drop J)) (src_end HJE.out _ _ _) (by omega) hsz4 ?_; intro v5 w5 s1 s2 s3 s4; clear s3 s4)
          go_ret
          refine ⟨v5, rfl, ?_, ?_⟩
          · refine KVs.of (B := w.heap.size) ?_
            have e : (doneL l false ⟨xk, xv, xc, xm, xe, xl⟩) = l.take k ++ [(⟨xk, xv, xc, xm, xe, xl⟩ : KVd)] ++ l.drop J := HD.out
            rw [e]
            have el : (l.take k ++ [(⟨xk, xv, xc, xm, xe, xl⟩ : KVd)] ++ l.drop J).length = (k + 1) + (l.length - J) := by simp only [List.length_append, List.length_take, List.length_drop, List.length_singleton]; have := HJ.out; omega
            rw [el]
            have ec : kvsC (l.take k ++ [(⟨xk, xv, xc, xm, xe, xl⟩ : KVd)] ++ l.drop J) = (kvsC (l.take k) ++ kvsC [⟨xk, xv, xc, xm, xe, xl⟩]) ++ kvsC (l.drop J) := by simp only [kvsC_append]
            rw [ec]
            exact s1
          · exact (HB4.out).trans (s2.below (HB4.out).size (fun j hj e => by have := ((HR1.out).lt j e.symm).1; omega))
    · have hne : (kv.key.toList == xk.toList) = false := by rw [beq_data]; exact decide_eq_false he
      clear hh hw1 hfind k0 k1 k3 k4 k5 k6 k7
      go_quiet (fail)
      obtain ⟨w2, hw2⟩ : ∃ w2, w2 = w1.drewN nq := ⟨_, rfl⟩
      obtain ⟨hB2, hR2⟩ := HW.out nq
      rw [← hw2] at hB2 hR2 ⊢
      have hsz2 := hB2.size
      have hsrcT := (H0.out.below hB2 (Nat.le_refl _)).srcT hkl
      have HB2 := Hid.mk'' hB2
      have HR2 := Hid.mk'' hR2
      clear hw2 hB2 hR2 HW HR HB HA k2 a0 lg
      go_upto_region 5 with (at_builtin; refine wpList_appS _ rfl (.tmp 28) (.tmp 31) 40 40 rfl w.heap.size 56 t9 _ 6 Try.underlying40 hti hz0 hz1 rfl (by rw [hz2]; decide) (.slice none 0 0) 0 [] rfl (World.ownsRow_nil _ _ _ _) _ rfl k (kvsC (l.take k)) hsrcT (by omega) hsz2 ?_; intro v1 w3 q1 q2 q3 q4; obtain ⟨p1, c1, hv1⟩ := owns_formB0 q1; subst hv1; clear q3 q4)
      have hb23 : Below w2.heap.size w2 w3 := q2.below (Nat.le_refl _) (fun j _ e => by cases e)
      have hb3 : Below w.heap.size w w3 := HB2.out.trans (hb23.mono hsz2)
      have hR3 := (hb23.block w.heap.size (Array.getElem?_eq_some_iff.1 HR2.out).1).trans HR2.out
      have q1 : w3.ownsRow w.heap.size 56 6 (.slice p1 k c1) k (kvsC (l.take k)) := by rw [Nat.zero_add, List.nil_append] at q1; exact q1
      obtain ⟨⟨m0, m1, m2, m3, m4, m5, m6, m7⟩, -⟩ := box8 hR3
      have hsz3 := hb3.size
      have HB3 := Hid.mk'' hb3
      have HQ1 := Hid.mk'' q1
      clear q2 hb23 hb3 hR3 HR2 HB2 hsrcT hsz2 q1
      cases del with
      | true =>
        go_upto_region 9 with fail
        have HSD : ∀ c', Src Try.prog 6 40 (.slice (some ⟨g, k * 6, none⟩) (l.length - k) c') (l.length - k) (kvsC (l.drop k)) w3 := fun c' => (H0.out.below HB3.out (Nat.le_refl _)).srcD hkl
        have HD : Hid (doneL l true ⟨xk, xv, xc, xm, xe, xl⟩ = l.take k ++ l.drop k) := by show _ = _; rw [doneL_ne (x := ⟨xk, xv, xc, xm, xe, xl⟩) HK.out (by rw [hkv]; simpa using he) true, if_pos rfl, List.append_nil]
        go_wp2_with (at_builtin; refine wpList_appS _ rfl (.tmp 44) (.tmp 47) 40 40 rfl w.heap.size 56 t9 _ 6 Try.underlying40 hti hz0 hz1 rfl (by rw [hz2]; decide) (.slice p1 k c1) k (kvsC (l.take k)) rfl HQ1.out _ rfl (l.length - k) (kvsC (l.drop k)) (HSD _) (by omega) hsz3 ?_; intro v5 w5 s1 s2 s3 s4; clear s3 s4)
        go_ret
        refine ⟨v5, rfl, ?_, ?_⟩
        · refine KVs.of (B := w.heap.size) ?_
          have e : (doneL l true ⟨xk, xv, xc, xm, xe, xl⟩) = l.take k ++ l.drop k := HD.out
          rw [e]
          have el : (l.take k ++ l.drop k).length = k + (l.length - k) := by simp only [List.length_append, List.length_take, List.length_drop]; omega
          rw [el]
          have ec : kvsC (l.take k ++ l.drop k) = (kvsC (l.take k)) ++ kvsC (l.drop k) := by simp only [kvsC_append]
          rw [ec]
          exact s1
        · exact (HB3.out).trans (s2.below (HB3.out).size (fun j hj e => by have := ((HQ1.out).lt j e.symm).1; omega))
      | false =>
        have hba : Below w3.heap.size w3 (w3.alloc (.cells #[.string xk, .string xv, .int .i64 xc, .int .i64 xm, .int .i64 xe, .int .i64 xl] 56)) := (Below.refl _ w3).alloc (Nat.le_refl _) _
        have hsrc : Src Try.prog 6 40 (.slice (some ⟨w3.heap.size, 0, none⟩) 1 1) 1 (kvsC [⟨xk, xv, xc, xm, xe, xl⟩]) (w3.alloc (.cells #[.string xk, .string xv, .int .i64 xc, .int .i64 xm, .int .i64 xe, .int .i64 xl] 56)) := Src.ofSlice _ Try.underlying40 ⟨w3.heap.size, 0, none⟩ 1 1 _ rfl (fun j u hj => by
            rw [Addr.add_lit, Nat.zero_add, cell_of_row _ _ _ _ _ _ (row_alloc w3 _ 56)]; simpa [kvsC, kvC] using hj) (fun u hu => kvsC_one hu)
        have hown : (w3.alloc (.cells #[.string xk, .string xv, .int .i64 xc, .int .i64 xm, .int .i64 xe, .int .i64 xl] 56)).ownsRow w.heap.size 56 6 (.slice p1 k c1) k (kvsC (l.take k)) := ownsRow_upd HQ1.out (Upd.ofBelow (S := fun _ => False) hba) (fun _ _ h => h)
        have HF : Hid (∀ w', Upd (w3.alloc (.cells #[.string xk, .string xv, .int .i64 xc, .int .i64 xm, .int .i64 xe, .int .i64 xl] 56)) w' (fun k' => some k' = (Value.slice p1 k c1).ownBlock) → Below w.heap.size w w') := fun w' hu => (HB3.out.trans (hba.mono hsz3)).trans (hu.below (HB3.out.trans (hba.mono hsz3)).size (fun j hj e => by have := (HQ1.out.lt j e.symm).1; omega))
        clear hba
        go_upto_region 9 with (at_builtin; refine wpList_appS _ rfl (.tmp 36) (.tmp 39) 40 40 rfl w.heap.size 56 t9 _ 6 Try.underlying40 hti hz0 hz1 rfl (by rw [hz2]; decide) (.slice p1 k c1) k (kvsC (l.take k)) rfl hown _ rfl 1 (kvsC [⟨xk, xv, xc, xm, xe, xl⟩]) hsrc (by omega) (by simp; omega) ?_; intro v4 w4 r1 r2 r3 r4; obtain ⟨p4, c4, hv4⟩ := owns_formB0 r1; subst hv4; clear r3 r4)
        have HB4 := Hid.mk'' (HF.out _ r2)
        have hsz4 := HB4.out.size
        have HR1 := Hid.mk'' r1
        have HSD : ∀ c', Src Try.prog 6 40 (.slice (some ⟨g, k * 6, none⟩) (l.length - k) c') (l.length - k) (kvsC (l.drop k)) w4 := fun c' => (H0.out.below HB4.out (Nat.le_refl _)).srcD hkl
        have HD : Hid (doneL l false ⟨xk, xv, xc, xm, xe, xl⟩ = l.take k ++ [(⟨xk, xv, xc, xm, xe, xl⟩ : KVd)] ++ l.drop k) := by show _ = _; rw [doneL_ne (x := ⟨xk, xv, xc, xm, xe, xl⟩) HK.out (by rw [hkv]; simpa using he) false]; rfl
        clear r1 r2 HF hown hsrc
        go_wp2_with (at_builtin; refine wpList_appS _ rfl (.tmp 44) (.tmp 47) 40 40 rfl w.heap.size 56 t9 _ 6 Try.underlying40 hti hz0 hz1 rfl (by rw [hz2]; decide) (.slice p4 (k + 1) c4) (k + 1) (kvsC (l.take k) ++ kvsC [⟨xk, xv, xc, xm, xe, xl⟩]) rfl HR1.out _ rfl (l.length - k) (kvsC (l.drop k)) (HSD _) (by omega) hsz4 ?_; intro v5 w5 s1 s2 s3 s4; clear s3 s4)
        go_ret
        refine ⟨v5, rfl, ?_, ?_⟩
        · refine KVs.of (B := w.heap.size) ?_
          have e : (doneL l false ⟨xk, xv, xc, xm, xe, xl⟩) = l.take k ++ [(⟨xk, xv, xc, xm, xe, xl⟩ : KVd)] ++ l.drop k := HD.out
          rw [e]
          have el : (l.take k ++ [(⟨xk, xv, xc, xm, xe, xl⟩ : KVd)] ++ l.drop k).length = (k + 1) + (l.length - k) := by simp only [List.length_append, List.length_take, List.length_drop, List.length_singleton]; omega
          rw [el]
          have ec : kvsC (l.take k ++ [(⟨xk, xv, xc, xm, xe, xl⟩ : KVd)] ++ l.drop k) = (kvsC (l.take k) ++ kvsC [⟨xk, xv, xc, xm, xe, xl⟩]) ++ kvsC (l.drop k) := by simp only [kvsC_append]
          rw [ec]
          exact s1
        · exact (HB4.out).trans (s2.below (HB4.out).size (fun j hj e => by have := ((HR1.out).lt j e.symm).1; omega))
  · have HKE : Hid (l.length ≤ k) := by show _ ≤ _; omega
    have HNO : Hid (l[k]? = none) := List.getElem?_eq_none HKE.out
    cases p with
    | none =>
      clear hw1 hfind k0 k1 k3 k4 k5 k6 k7
      go_quiet (fail)
      clear hlt
      obtain ⟨w2, hw2⟩ : ∃ w2, w2 = w1.drewN nq := ⟨_, rfl⟩
      obtain ⟨hB2, hR2⟩ := HW.out nq
      rw [← hw2] at hB2 hR2 ⊢
      have hsz2 := hB2.size
      have hsrcT := (H0.out.below hB2 (Nat.le_refl _)).srcT hkl
      have HB2 := Hid.mk'' hB2
      have HR2 := Hid.mk'' hR2
      clear hw2 hB2 hR2 HW HR HB HA k2
      go_upto_region 5 with (at_builtin; refine wpList_appS _ rfl (.tmp 28) (.tmp 31) 40 40 rfl w.heap.size 56 t9 _ 6 Try.underlying40 hti hz0 hz1 rfl (by rw [hz2]; decide) (.slice none 0 0) 0 [] rfl (World.ownsRow_nil _ _ _ _) _ rfl k (kvsC (l.take k)) hsrcT (by omega) hsz2 ?_; intro v1 w3 q1 q2 q3 q4; obtain ⟨p1, c1, hv1⟩ := owns_formB0 q1; subst hv1; clear q3 q4)
      have hb23 : Below w2.heap.size w2 w3 := q2.below (Nat.le_refl _) (fun j _ e => by cases e)
      have hb3 : Below w.heap.size w w3 := HB2.out.trans (hb23.mono hsz2)
      have hR3 := (hb23.block w.heap.size (Array.getElem?_eq_some_iff.1 HR2.out).1).trans HR2.out
      have q1 : w3.ownsRow w.heap.size 56 6 (.slice p1 k c1) k (kvsC (l.take k)) := by rw [Nat.zero_add, List.nil_append] at q1; exact q1
      obtain ⟨⟨m0, m1, m2, m3, m4, m5, m6, m7⟩, -⟩ := box8 hR3
      have hsz3 := hb3.size
      have HB3 := Hid.mk'' hb3
      have HQ1 := Hid.mk'' q1
      clear q2 hb23 hb3 hR3 HR2 HB2 hsrcT hsz2 q1
      cases del with
      | true =>
        go_upto_region 9 with fail
        have HD : Hid (doneL l true ⟨xk, xv, xc, xm, xe, xl⟩ = l.take k ++ l.drop k) := by show _ = _; rw [doneL_ne (x := ⟨xk, xv, xc, xm, xe, xl⟩) HK.out (by rw [HNO.out]; intro h; cases h) true, if_pos rfl, List.append_nil]
        go_wp2_with (at_builtin; refine wpList_appS _ rfl (.tmp 44) (.tmp 47) 40 40 rfl w.heap.size 56 t9 _ 6 Try.underlying40 hti hz0 hz1 rfl (by rw [hz2]; decide) (.slice p1 k c1) k (kvsC (l.take k)) rfl HQ1.out _ rfl (l.length - k) (kvsC (l.drop k)) (src_end HKE.out _ _ _) (by omega) hsz3 ?_; intro v5 w5 s1 s2 s3 s4; clear s3 s4)
        go_ret
        refine ⟨v5, rfl, ?_, ?_⟩
        · refine KVs.of (B := w.heap.size) ?_
          have e : (doneL l true ⟨xk, xv, xc, xm, xe, xl⟩) = l.take k ++ l.drop k := HD.out
          rw [e]
          have el : (l.take k ++ l.drop k).length = k + (l.length - k) := by simp only [List.length_append, List.length_take, List.length_drop]; omega
          rw [el]
          have ec : kvsC (l.take k ++ l.drop k) = (kvsC (l.take k)) ++ kvsC (l.drop k) := by simp only [kvsC_append]
          rw [ec]
          exact s1
        · exact (HB3.out).trans (s2.below (HB3.out).size (fun j hj e => by have := ((HQ1.out).lt j e.symm).1; omega))
      | false =>
        have hba : Below w3.heap.size w3 (w3.alloc (.cells #[.string xk, .string xv, .int .i64 xc, .int .i64 xm, .int .i64 xe, .int .i64 xl] 56)) := (Below.refl _ w3).alloc (Nat.le_refl _) _
        have hsrc : Src Try.prog 6 40 (.slice (some ⟨w3.heap.size, 0, none⟩) 1 1) 1 (kvsC [⟨xk, xv, xc, xm, xe, xl⟩]) (w3.alloc (.cells #[.string xk, .string xv, .int .i64 xc, .int .i64 xm, .int .i64 xe, .int .i64 xl] 56)) := Src.ofSlice _ Try.underlying40 ⟨w3.heap.size, 0, none⟩ 1 1 _ rfl (fun j u hj => by
            rw [Addr.add_lit, Nat.zero_add, cell_of_row _ _ _ _ _ _ (row_alloc w3 _ 56)]; simpa [kvsC, kvC] using hj) (fun u hu => kvsC_one hu)
        have hown : (w3.alloc (.cells #[.string xk, .string xv, .int .i64 xc, .int .i64 xm, .int .i64 xe, .int .i64 xl] 56)).ownsRow w.heap.size 56 6 (.slice p1 k c1) k (kvsC (l.take k)) := ownsRow_upd HQ1.out (Upd.ofBelow (S := fun _ => False) hba) (fun _ _ h => h)
        have HF : Hid (∀ w', Upd (w3.alloc (.cells #[.string xk, .string xv, .int .i64 xc, .int .i64 xm, .int .i64 xe, .int .i64 xl] 56)) w' (fun k' => some k' = (Value.slice p1 k c1).ownBlock) → Below w.heap.size w w') := fun w' hu => (HB3.out.trans (hba.mono hsz3)).trans (hu.below (HB3.out.trans (hba.mono hsz3)).size (fun j hj e => by have := (HQ1.out.lt j e.symm).1; omega))
        clear hba
        go_upto_region 9 with (at_builtin; refine wpList_appS _ rfl (.tmp 36) (.tmp 39) 40 40 rfl w.heap.size 56 t9 _ 6 Try.underlying40 hti hz0 hz1 rfl (by rw [hz2]; decide) (.slice p1 k c1) k (kvsC (l.take k)) rfl hown _ rfl 1 (kvsC [⟨xk, xv, xc, xm, xe, xl⟩]) hsrc (by omega) (by simp; omega) ?_; intro v4 w4 r1 r2 r3 r4; obtain ⟨p4, c4, hv4⟩ := owns_formB0 r1; subst hv4; clear r3 r4)
        have HB4 := Hid.mk'' (HF.out _ r2)
        have hsz4 := HB4.out.size
        have HR1 := Hid.mk'' r1
        have HD : Hid (doneL l false ⟨xk, xv, xc, xm, xe, xl⟩ = l.take k ++ [(⟨xk, xv, xc, xm, xe, xl⟩ : KVd)] ++ l.drop k) := by show _ = _; rw [doneL_ne (x := ⟨xk, xv, xc, xm, xe, xl⟩) HK.out (by rw [HNO.out]; intro h; cases h) false]; rfl
        clear r1 r2 HF hown hsrc
        go_wp2_with (at_builtin; refine wpList_appS _ rfl (.tmp 44) (.tmp 47) 40 40 rfl w.heap.size 56 t9 _ 6 Try.underlying40 hti hz0 hz1 rfl (by rw [hz2]; decide) (.slice p4 (k + 1) c4) (k + 1) (kvsC (l.take k) ++ kvsC [⟨xk, xv, xc, xm, xe, xl⟩]) rfl HR1.out _ rfl (l.length - k) (kvsC (l.drop k)) (src_end HKE.out _ _ _) (by omega) hsz4 ?_; intro v5 w5 s1 s2 s3 s4; clear s3 s4)
        go_ret
        refine ⟨v5, rfl, ?_, ?_⟩
        · refine KVs.of (B := w.heap.size) ?_
          have e : (doneL l false ⟨xk, xv, xc, xm, xe, xl⟩) = l.take k ++ [(⟨xk, xv, xc, xm, xe, xl⟩ : KVd)] ++ l.drop k := HD.out
          rw [e]
          have el : (l.take k ++ [(⟨xk, xv, xc, xm, xe, xl⟩ : KVd)] ++ l.drop k).length = (k + 1) + (l.length - k) := by simp only [List.length_append, List.length_take, List.length_drop, List.length_singleton]; omega
          rw [el]
          have ec : kvsC (l.take k ++ [(⟨xk, xv, xc, xm, xe, xl⟩ : KVd)] ++ l.drop k) = (kvsC (l.take k) ++ kvsC [⟨xk, xv, xc, xm, xe, xl⟩]) ++ kvsC (l.drop k) := by simp only [kvsC_append]
          rw [ec]
          exact s1
        · exact (HB4.out).trans (s2.below (HB4.out).size (fun j hj e => by have := ((HR1.out).lt j e.symm).1; omega))
    | some pa =>
      by_cases hkc : k < c
      · clear hw1 hfind k0 k1 k3 k4 k5 k6 k7
        go_quiet (fail)
        clear hlt
        obtain ⟨w2, hw2⟩ : ∃ w2, w2 = w1.drewN nq := ⟨_, rfl⟩
        obtain ⟨hB2, hR2⟩ := HW.out nq
        rw [← hw2] at hB2 hR2 ⊢
        have hsz2 := hB2.size
        have hsrcT := (H0.out.below hB2 (Nat.le_refl _)).srcT hkl
        have HB2 := Hid.mk'' hB2
        have HR2 := Hid.mk'' hR2
        clear hw2 hB2 hR2 HW HR HB HA k2
        go_upto_region 5 with (at_builtin; refine wpList_appS _ rfl (.tmp 28) (.tmp 31) 40 40 rfl w.heap.size 56 t9 _ 6 Try.underlying40 hti hz0 hz1 rfl (by rw [hz2]; decide) (.slice none 0 0) 0 [] rfl (World.ownsRow_nil _ _ _ _) _ rfl k (kvsC (l.take k)) hsrcT (by omega) hsz2 ?_; intro v1 w3 q1 q2 q3 q4; obtain ⟨p1, c1, hv1⟩ := owns_formB0 q1; subst hv1; clear q3 q4)
        have hb23 : Below w2.heap.size w2 w3 := q2.below (Nat.le_refl _) (fun j _ e => by cases e)
        have hb3 : Below w.heap.size w w3 := HB2.out.trans (hb23.mono hsz2)
        have hR3 := (hb23.block w.heap.size (Array.getElem?_eq_some_iff.1 HR2.out).1).trans HR2.out
        have q1 : w3.ownsRow w.heap.size 56 6 (.slice p1 k c1) k (kvsC (l.take k)) := by rw [Nat.zero_add, List.nil_append] at q1; exact q1
        obtain ⟨⟨m0, m1, m2, m3, m4, m5, m6, m7⟩, -⟩ := box8 hR3
        have hsz3 := hb3.size
        have HB3 := Hid.mk'' hb3
        have HQ1 := Hid.mk'' q1
        clear q2 hb23 hb3 hR3 HR2 HB2 hsrcT hsz2 q1
        cases del with
        | true =>
          go_upto_region 9 with fail
          have HD : Hid (doneL l true ⟨xk, xv, xc, xm, xe, xl⟩ = l.take k ++ l.drop k) := by show _ = _; rw [doneL_ne (x := ⟨xk, xv, xc, xm, xe, xl⟩) HK.out (by rw [HNO.out]; intro h; cases h) true, if_pos rfl, List.append_nil]
          go_wp2_with (at_builtin; refine wpList_appS _ rfl (.tmp 44) (.tmp 47) 40 40 rfl w.heap.size 56 t9 _ 6 Try.underlying40 hti hz0 hz1 rfl (by rw [hz2]; decide) (.slice p1 k c1) k (kvsC (l.take k)) rfl HQ1.out _ rfl (l.length - k) (kvsC (l.drop k)) (src_end HKE.out _ _ _) (by omega) hsz3 ?_; intro v5 w5 s1 s2 s3 s4; clear s3 s4)
          go_ret
          refine ⟨v5, rfl, ?_, ?_⟩
          · refine KVs.of (B := w.heap.size) ?_
            have e : (doneL l true ⟨xk, xv, xc, xm, xe, xl⟩) = l.take k ++ l.drop k := HD.out
            rw [e]
            have el : (l.take k ++ l.drop k).length = k + (l.length - k) := by simp only [List.length_append, List.length_take, List.length_drop]; omega
            rw [el]
            have ec : kvsC (l.take k ++ l.drop k) = (kvsC (l.take k)) ++ kvsC (l.drop k) := by simp only [kvsC_append]
            rw [ec]
            exact s1
          · exact (HB3.out).trans (s2.below (HB3.out).size (fun j hj e => by have := ((HQ1.out).lt j e.symm).1; omega))
        | false =>
          have hba : Below w3.heap.size w3 (w3.alloc (.cells #[.string xk, .string xv, .int .i64 xc, .int .i64 xm, .int .i64 xe, .int .i64 xl] 56)) := (Below.refl _ w3).alloc (Nat.le_refl _) _
          have hsrc : Src Try.prog 6 40 (.slice (some ⟨w3.heap.size, 0, none⟩) 1 1) 1 (kvsC [⟨xk, xv, xc, xm, xe, xl⟩]) (w3.alloc (.cells #[.string xk, .string xv, .int .i64 xc, .int .i64 xm, .int .i64 xe, .int .i64 xl] 56)) := Src.ofSlice _ Try.underlying40 ⟨w3.heap.size, 0, none⟩ 1 1 _ rfl (fun j u hj => by
              rw [Addr.add_lit, Nat.zero_add, cell_of_row _ _ _ _ _ _ (row_alloc w3 _ 56)]; simpa [kvsC, kvC] using hj) (fun u hu => kvsC_one hu)
          have hown : (w3.alloc (.cells #[.string xk, .string xv, .int .i64 xc, .int .i64 xm, .int .i64 xe, .int .i64 xl] 56)).ownsRow w.heap.size 56 6 (.slice p1 k c1) k (kvsC (l.take k)) := ownsRow_upd HQ1.out (Upd.ofBelow (S := fun _ => False) hba) (fun _ _ h => h)
          have HF : Hid (∀ w', Upd (w3.alloc (.cells #[.string xk, .string xv, .int .i64 xc, .int .i64 xm, .int .i64 xe, .int .i64 xl] 56)) w' (fun k' => some k' = (Value.slice p1 k c1).ownBlock) → Below w.heap.size w w') := fun w' hu => (HB3.out.trans (hba.mono hsz3)).trans (hu.below (HB3.out.trans (hba.mono hsz3)).size (fun j hj e => by have := (HQ1.out.lt j e.symm).1; omega))
          clear hba
          go_upto_region 9 with (at_builtin; refine wpList_appS _ rfl (.tmp 36) (.tmp 39) 40 40 rfl w.heap.size 56 t9 _ 6 Try.underlying40 hti hz0 hz1 rfl (by rw [hz2]; decide) (.slice p1 k c1) k (kvsC (l.take k)) rfl hown _ rfl 1 (kvsC [⟨xk, xv, xc, xm, xe, xl⟩]) hsrc (by omega) (by simp; omega) ?_; intro v4 w4 r1 r2 r3 r4; obtain ⟨p4, c4, hv4⟩ := owns_formB0 r1; subst hv4; clear r3 r4)
          have HB4 := Hid.mk'' (HF.out _ r2)
          have hsz4 := HB4.out.size
          have HR1 := Hid.mk'' r1
          have HD : Hid (doneL l false ⟨xk, xv, xc, xm, xe, xl⟩ = l.take k ++ [(⟨xk, xv, xc, xm, xe, xl⟩ : KVd)] ++ l.drop k) := by show _ = _; rw [doneL_ne (x := ⟨xk, xv, xc, xm, xe, xl⟩) HK.out (by rw [HNO.out]; intro h; cases h) false]; rfl
          clear r1 r2 HF hown hsrc
          go_wp2_with (at_builtin; refine wpList_appS _ rfl (.tmp 44) (.tmp 47) 40 40 rfl w.heap.size 56 t9 _ 6 Try.underlying40 hti hz0 hz1 rfl (by rw [hz2]; decide) (.slice p4 (k + 1) c4) (k + 1) (kvsC (l.take k) ++ kvsC [⟨xk, xv, xc, xm, xe, xl⟩]) rfl HR1.out _ rfl (l.length - k) (kvsC (l.drop k)) (src_end HKE.out _ _ _) (by omega) hsz4 ?_; intro v5 w5 s1 s2 s3 s4; clear s3 s4)
          go_ret
          refine ⟨v5, rfl, ?_, ?_⟩
          · refine KVs.of (B := w.heap.size) ?_
            have e : (doneL l false ⟨xk, xv, xc, xm, xe, xl⟩) = l.take k ++ [(⟨xk, xv, xc, xm, xe, xl⟩ : KVd)] ++ l.drop k := HD.out
            rw [e]
            have el : (l.take k ++ [(⟨xk, xv, xc, xm, xe, xl⟩ : KVd)] ++ l.drop k).length = (k + 1) + (l.length - k) := by simp only [List.length_append, List.length_take, List.length_drop, List.length_singleton]; omega
            rw [el]
            have ec : kvsC (l.take k ++ [(⟨xk, xv, xc, xm, xe, xl⟩ : KVd)] ++ l.drop k) = (kvsC (l.take k) ++ kvsC [⟨xk, xv, xc, xm, xe, xl⟩]) ++ kvsC (l.drop k) := by simp only [kvsC_append]
            rw [ec]
            exact s1
          · exact (HB4.out).trans (s2.below (HB4.out).size (fun j hj e => by have := ((HR1.out).lt j e.symm).1; omega))

      · clear hw1 hfind k0 k1 k3 k4 k5 k6 k7
        go_quiet (fail)
        clear hlt
        obtain ⟨w2, hw2⟩ : ∃ w2, w2 = w1.drewN nq := ⟨_, rfl⟩
        obtain ⟨hB2, hR2⟩ := HW.out nq
        rw [← hw2] at hB2 hR2 ⊢
        have hsz2 := hB2.size
        have hsrcT := (H0.out.below hB2 (Nat.le_refl _)).srcT hkl
        have HB2 := Hid.mk'' hB2
        have HR2 := Hid.mk'' hR2
        clear hw2 hB2 hR2 HW HR HB HA k2
        go_upto_region 5 with (at_builtin; refine wpList_appS _ rfl (.tmp 28) (.tmp 31) 40 40 rfl w.heap.size 56 t9 _ 6 Try.underlying40 hti hz0 hz1 rfl (by rw [hz2]; decide) (.slice none 0 0) 0 [] rfl (World.ownsRow_nil _ _ _ _) _ rfl k (kvsC (l.take k)) hsrcT (by omega) hsz2 ?_; intro v1 w3 q1 q2 q3 q4; obtain ⟨p1, c1, hv1⟩ := owns_formB0 q1; subst hv1; clear q3 q4)
        have hb23 : Below w2.heap.size w2 w3 := q2.below (Nat.le_refl _) (fun j _ e => by cases e)
        have hb3 : Below w.heap.size w w3 := HB2.out.trans (hb23.mono hsz2)
        have hR3 := (hb23.block w.heap.size (Array.getElem?_eq_some_iff.1 HR2.out).1).trans HR2.out
        have q1 : w3.ownsRow w.heap.size 56 6 (.slice p1 k c1) k (kvsC (l.take k)) := by rw [Nat.zero_add, List.nil_append] at q1; exact q1
        obtain ⟨⟨m0, m1, m2, m3, m4, m5, m6, m7⟩, -⟩ := box8 hR3
        have hsz3 := hb3.size
        have HB3 := Hid.mk'' hb3
        have HQ1 := Hid.mk'' q1
        clear q2 hb23 hb3 hR3 HR2 HB2 hsrcT hsz2 q1
        cases del with
        | true =>
          go_upto_region 9 with fail
          have HD : Hid (doneL l true ⟨xk, xv, xc, xm, xe, xl⟩ = l.take k ++ l.drop k) := by show _ = _; rw [doneL_ne (x := ⟨xk, xv, xc, xm, xe, xl⟩) HK.out (by rw [HNO.out]; intro h; cases h) true, if_pos rfl, List.append_nil]
          go_wp2_with (at_builtin; refine wpList_appS _ rfl (.tmp 44) (.tmp 47) 40 40 rfl w.heap.size 56 t9 _ 6 Try.underlying40 hti hz0 hz1 rfl (by rw [hz2]; decide) (.slice p1 k c1) k (kvsC (l.take k)) rfl HQ1.out _ rfl (l.length - k) (kvsC (l.drop k)) (src_end HKE.out _ _ _) (by omega) hsz3 ?_; intro v5 w5 s1 s2 s3 s4; clear s3 s4)
          go_ret
          refine ⟨v5, rfl, ?_, ?_⟩
          · refine KVs.of (B := w.heap.size) ?_
            have e : (doneL l true ⟨xk, xv, xc, xm, xe, xl⟩) = l.take k ++ l.drop k := HD.out
            rw [e]
            have el : (l.take k ++ l.drop k).length = k + (l.length - k) := by simp only [List.length_append, List.length_take, List.length_drop]; omega
            rw [el]
            have ec : kvsC (l.take k ++ l.drop k) = (kvsC (l.take k)) ++ kvsC (l.drop k) := by simp only [kvsC_append]
            rw [ec]
            exact s1
          · exact (HB3.out).trans (s2.below (HB3.out).size (fun j hj e => by have := ((HQ1.out).lt j e.symm).1; omega))
        | false =>
          have hba : Below w3.heap.size w3 (w3.alloc (.cells #[.string xk, .string xv, .int .i64 xc, .int .i64 xm, .int .i64 xe, .int .i64 xl] 56)) := (Below.refl _ w3).alloc (Nat.le_refl _) _
          have hsrc : Src Try.prog 6 40 (.slice (some ⟨w3.heap.size, 0, none⟩) 1 1) 1 (kvsC [⟨xk, xv, xc, xm, xe, xl⟩]) (w3.alloc (.cells #[.string xk, .string xv, .int .i64 xc, .int .i64 xm, .int .i64 xe, .int .i64 xl] 56)) := Src.ofSlice _ Try.underlying40 ⟨w3.heap.size, 0, none⟩ 1 1 _ rfl (fun j u hj => by
              rw [Addr.add_lit, Nat.zero_add, cell_of_row _ _ _ _ _ _ (row_alloc w3 _ 56)]; simpa [kvsC, kvC] using hj) (fun u hu => kvsC_one hu)
          have hown : (w3.alloc (.cells #[.string xk, .string xv, .int .i64 xc, .int .i64 xm, .int .i64 xe, .int .i64 xl] 56)).ownsRow w.heap.size 56 6 (.slice p1 k c1) k (kvsC (l.take k)) := ownsRow_upd HQ1.out (Upd.ofBelow (S := fun _ => False) hba) (fun _ _ h => h)
          have HF : Hid (∀ w', Upd (w3.alloc (.cells #[.string xk, .string xv, .int .i64 xc, .int .i64 xm, .int .i64 xe, .int .i64 xl] 56)) w' (fun k' => some k' = (Value.slice p1 k c1).ownBlock) → Below w.heap.size w w') := fun w' hu => (HB3.out.trans (hba.mono hsz3)).trans (hu.below (HB3.out.trans (hba.mono hsz3)).size (fun j hj e => by have := (HQ1.out.lt j e.symm).1; omega))
          clear hba
          go_upto_region 9 with (at_builtin; refine wpList_appS _ rfl (.tmp 36) (.tmp 39) 40 40 rfl w.heap.size 56 t9 _ 6 Try.underlying40 hti hz0 hz1 rfl (by rw [hz2]; decide) (.slice p1 k c1) k (kvsC (l.take k)) rfl hown _ rfl 1 (kvsC [⟨xk, xv, xc, xm, xe, xl⟩]) hsrc (by omega) (by simp; omega) ?_; intro v4 w4 r1 r2 r3 r4; obtain ⟨p4, c4, hv4⟩ := owns_formB0 r1; subst hv4; clear r3 r4)
          have HB4 := Hid.mk'' (HF.out _ r2)
          have hsz4 := HB4.out.size
          have HR1 := Hid.mk'' r1
          have HD : Hid (doneL l false ⟨xk, xv, xc, xm, xe, xl⟩ = l.take k ++ [(⟨xk, xv, xc, xm, xe, xl⟩ : KVd)] ++ l.drop k) := by show _ = _; rw [doneL_ne (x := ⟨xk, xv, xc, xm, xe, xl⟩) HK.out (by rw [HNO.out]; intro h; cases h) false]; rfl
          clear r1 r2 HF hown hsrc
          go_wp2_with (at_builtin; refine wpList_appS _ rfl (.tmp 44) (.tmp 47) 40 40 rfl w.heap.size 56 t9 _ 6 Try.underlying40 hti hz0 hz1 rfl (by rw [hz2]; decide) (.slice p4 (k + 1) c4) (k + 1) (kvsC (l.take k) ++ kvsC [⟨xk, xv, xc, xm, xe, xl⟩]) rfl HR1.out _ rfl (l.length - k) (kvsC (l.drop k)) (src_end HKE.out _ _ _) (by omega) hsz4 ?_; intro v5 w5 s1 s2 s3 s4; clear s3 s4)
          go_ret
          refine ⟨v5, rfl, ?_, ?_⟩
          · refine KVs.of (B := w.heap.size) ?_
            have e : (doneL l false ⟨xk, xv, xc, xm, xe, xl⟩) = l.take k ++ [(⟨xk, xv, xc, xm, xe, xl⟩ : KVd)] ++ l.drop k := HD.out
            rw [e]
            have el : (l.take k ++ [(⟨xk, xv, xc, xm, xe, xl⟩ : KVd)] ++ l.drop k).length = (k + 1) + (l.length - k) := by simp only [List.length_append, List.length_take, List.length_drop, List.length_singleton]; omega
            rw [el]
            have ec : kvsC (l.take k ++ [(⟨xk, xv, xc, xm, xe, xl⟩ : KVd)] ++ l.drop k) = (kvsC (l.take k) ++ kvsC [⟨xk, xv, xc, xm, xe, xl⟩]) ++ kvsC (l.drop k) := by simp only [kvsC_append]
            rw [ec]
            exact s1
          · exact (HB4.out).trans (s2.below (HB4.out).size (fun j hj e => by have := ((HR1.out).lt j e.symm).1; omega))
end Go.Proofs.Yteeflkkoifgcbaa
/- The changes from a revision on, done to what was there ahead of it, make what is there: as data. -/
namespace Go.Proofs.Yteeflkkoifgcbaa
open Go Go.RowKit
theorem fm_congr {ks : List ByteArray} {f g : ByteArray → Option KVd} (h : ∀ k ∈ ks, f k = g k) : ks.filterMap f = ks.filterMap g := by
  induction ks with
  | nil => rfl
  | cons k ks ih =>
    rw [List.filterMap_cons, List.filterMap_cons, h k (by simp), ih (fun j hj => h j (by simp [hj]))]
theorem fm_key {ks : List ByteArray} {f : ByteArray → Option KVd} {v : KVd} (hf : ∀ k v, f k = some v → v.key = k) (h : v ∈ ks.filterMap f) : v.key ∈ ks ∧ f v.key = some v := by
  obtain ⟨k, hk, e⟩ := List.mem_filterMap.1 h
  have := hf k v e
  subst this
  exact ⟨hk, e⟩
theorem asc_fm {f : ByteArray → Option KVd} (hf : ∀ k v, f k = some v → v.key = k) : ∀ {ks : List ByteArray}, Asc ks → Asc ((ks.filterMap f).map (·.key))
  | [], _ => trivial
  | k :: ks, ⟨h1, h2⟩ => by
    have ih := asc_fm hf h2
    cases e : f k with
    | none => rw [List.filterMap_cons_none e]; exact ih
    | some v =>
      rw [List.filterMap_cons_some e, List.map_cons]
      refine ⟨fun y hy => ?_, ih⟩
      obtain ⟨x, hx, rfl⟩ := List.mem_map.1 hy
      rw [hf k v e]
      exact h1 _ (fm_key hf hx).1
theorem asc_split {key : ByteArray} : ∀ {ks : List ByteArray}, Asc ks → key ∈ ks → ∃ A B, ks = A ++ key :: B ∧ (∀ a ∈ A, klt a key = true) ∧ ∀ b ∈ B, klt key b = true := by
  intro ks ha hk
  obtain ⟨A, B, rfl⟩ := List.append_of_mem hk
  obtain ⟨h1, h2, h3⟩ := (asc_append A (key :: B)).1 ha
  exact ⟨A, B, rfl, fun a h => h3 a h key (by simp), fun b h => h2.1 b h⟩
/-- One change, done to a rising row. -/
theorem doneL_fm {f : ByteArray → Option KVd} (hf : ∀ k v, f k = some v → v.key = k) {ks : List ByteArray} (ha : Asc ks) {x : KVd} (hx : x.key ∈ ks) (del : Bool) :
    doneL (ks.filterMap f) del x = ks.filterMap (fun k => if k = x.key then (if del then none else some x) else f k) := by
  obtain ⟨A, B, rfl, hA, hB⟩ := asc_split ha hx
  have eA : A.filterMap (fun k => if k = x.key then (if del then none else some x) else f k) = A.filterMap f := by
    refine fm_congr ?_
    intro a h
    have := klt_ne (hA a h)
    simp [this]
  have eB : B.filterMap (fun k => if k = x.key then (if del then none else some x) else f k) = B.filterMap f := by
    refine fm_congr ?_
    intro b h
    have := klt_ne (hB b h)
    have : ¬ b = x.key := fun e => this e.symm
    simp [this]
  have hAl : ∀ v ∈ A.filterMap f, klt v.key x.key = true := fun v h => hA _ (fm_key hf h).1
  have hBl : ∀ v ∈ B.filterMap f, klt v.key x.key = false := fun v h => klt_asymm (hB _ (fm_key hf h).1)
  have hrhs : (A ++ x.key :: B).filterMap (fun k => if k = x.key then (if del then none else some x) else f k) = A.filterMap f ++ (if del then [] else [x]) ++ B.filterMap f := by
    rw [List.filterMap_append, eA, List.append_assoc]
    congr 1
    cases del with
    | true =>
      rw [List.filterMap_cons_none (by simp), eB]
      rfl
    | false =>
      rw [List.filterMap_cons_some (b := x) (by simp), eB]
      rfl
  rw [hrhs]
  have hfA : (A.filterMap f).filter (fun kv => klt kv.key x.key) = A.filterMap f := List.filter_eq_self.2 hAl
  have hfB : (B.filterMap f).filter (fun kv => klt kv.key x.key) = [] := List.filter_eq_nil_iff.2 (fun v h => by rw [hBl v h]; decide)
  unfold doneL
  cases e : f x.key with
  | none =>
    have el : (A ++ x.key :: B).filterMap f = A.filterMap f ++ B.filterMap f := by rw [List.filterMap_append, List.filterMap_cons_none e]
    have ec : cntK ((A ++ x.key :: B).filterMap f) x.key = (A.filterMap f).length := by
      unfold cntK
      rw [el, List.filter_append, hfA, hfB, List.append_nil]
    rw [ec, el, List.take_left]
    have hnot : ¬ ((A.filterMap f ++ B.filterMap f)[(A.filterMap f).length]?.map (·.key)) = some x.key := by
      intro h
      obtain ⟨v, hv, hk⟩ := Option.map_eq_some_iff.1 h
      rw [List.getElem?_append_right (Nat.le_refl _), Nat.sub_self] at hv
      have hm := (fm_key hf (List.mem_of_getElem? hv)).1
      have := klt_ne (hB _ hm)
      exact this hk.symm
    rw [if_neg hnot, List.drop_left]
  | some v =>
    have hvk := hf _ _ e
    have el : (A ++ x.key :: B).filterMap f = A.filterMap f ++ v :: B.filterMap f := by rw [List.filterMap_append, List.filterMap_cons_some e]
    have ec : cntK ((A ++ x.key :: B).filterMap f) x.key = (A.filterMap f).length := by
      unfold cntK
      rw [el, List.filter_append, hfA, List.filter_cons_of_neg (by rw [hvk, klt_irrefl]; decide), hfB, List.append_nil]
    rw [ec, el, List.take_left]
    have hyes : ((A.filterMap f ++ v :: B.filterMap f)[(A.filterMap f).length]?.map (·.key)) = some x.key := by
      rw [List.getElem?_append_right (Nat.le_refl _), Nat.sub_self]
      simp [hvk]
    rw [if_pos hyes]
    have ed : (A.filterMap f ++ v :: B.filterMap f).drop ((A.filterMap f).length + 1) = B.filterMap f := by
      rw [List.drop_append, List.drop_of_length_le (by omega)]
      simp
    rw [ed]
/-- Changes, one behind the other. -/
def doneE (l : List KVd) (e : Evd) : List KVd := doneL l e.2.2.isNone (evKV e.1 e.2.1 e.2.2)
def upF (f : ByteArray → Option KVd) (es : List Evd) : ByteArray → Option KVd := es.foldl (fun f e => fun k => if k = e.2.1 then e.2.2 else f k) f
/-- A change is told with its key. -/
def EvOk (e : Evd) : Prop := ∀ v, e.2.2 = some v → v.key = e.2.1
theorem evKV_key {e : Evd} (h : EvOk e) : (evKV e.1 e.2.1 e.2.2).key = e.2.1 := by
  obtain ⟨r, k, c⟩ := e
  cases c with
  | none => rfl
  | some v => exact h v rfl
theorem doneE_fm {f : ByteArray → Option KVd} (hf : ∀ k v, f k = some v → v.key = k) {ks : List ByteArray} (ha : Asc ks) {e : Evd} (hk : e.2.1 ∈ ks) (he : EvOk e) : doneE (ks.filterMap f) e = ks.filterMap (fun k => if k = e.2.1 then e.2.2 else f k) := by
  have h1 := evKV_key he
  unfold doneE
  rw [doneL_fm hf ha (by rw [h1]; exact hk), h1]
  obtain ⟨r, k, c⟩ := e
  cases c <;> rfl
theorem fold_fm {ks : List ByteArray} (ha : Asc ks) : ∀ (es : List Evd) (f : ByteArray → Option KVd), (∀ k v, f k = some v → v.key = k) → (∀ e ∈ es, e.2.1 ∈ ks ∧ EvOk e) → es.foldl doneE (ks.filterMap f) = ks.filterMap (upF f es) ∧ ∀ k v, upF f es k = some v → v.key = k
  | [], f, hf, _ => ⟨rfl, hf⟩
  | e :: es, f, hf, hes => by
    obtain ⟨h1, h2⟩ := hes e (by simp)
    rw [List.foldl_cons, doneE_fm hf ha h1 h2]
    refine fold_fm ha es _ (fun k v hk => ?_) (fun x hx => hes x (by simp [hx]))
    by_cases e' : k = e.2.1
    · simp [e'] at hk
      rw [e']; exact h2 v hk
    · simp [e'] at hk
      exact hf k v hk
theorem upF_evAt (S : Sto) (r : Int) (f : ByteArray → Option KVd) (k : ByteArray) : upF f (evAt S r) k = if hasK (S.lg r) k then chgAt (S.kh k) r else f k := by
  unfold evAt upF
  generalize S.lg r = l
  induction l generalizing f with
  | nil => simp [hasK]
  | cons a l ih =>
    rw [List.map_cons, List.foldl_cons, ih]
    have e : hasK (a :: l) k = (decide (a = k) || hasK l k) := rfl
    rw [e]
    cases h1 : hasK l k with
    | true => simp
    | false =>
      by_cases h2 : k = a
      · subst h2; simp
      · have h3 : ¬ a = k := fun e => h2 e.symm
        simp [h2, h3]
/-- A key's change at a revision, or none. -/
theorem atH_step {k : ByteArray} {rev : Int} {h : Hs} (H : HOk k rev h) {r : Int} : (∃ c, (r, c) ∈ h ∧ atH h r = c) ∨ ((∀ c, (r, c) ∉ h) ∧ atH h r = atH h (r - 1)) := by
  by_cases hx : ∃ c, (r, c) ∈ h
  · obtain ⟨c, hc⟩ := hx
    refine .inl ⟨c, hc, ?_⟩
    obtain ⟨A, B, rfl⟩ := List.append_of_mem hc
    obtain ⟨h1, h2, h3⟩ := List.pairwise_append.1 H.asc
    have h4 := (List.pairwise_cons.1 h2).1
    unfold atH
    have e1 : A.filter (fun p => decide (p.1 ≤ r)) = A := List.filter_eq_self.2 (fun p hp => by have := h3 p hp (r, c) (by simp); simp; omega)
    have e2 : B.filter (fun p => decide (p.1 ≤ r)) = [] := List.filter_eq_nil_iff.2 (fun p hp => by have := h4 p hp; simp; omega)
    rw [List.filter_append, e1, List.filter_cons_of_pos (by simp), e2, thereH_snoc]
  · refine .inr ⟨fun c hc => hx ⟨c, hc⟩, ?_⟩
    unfold atH
    congr 1
    apply List.filter_congr
    intro p hp
    have : p.1 ≠ r := fun e => hx ⟨p.2, by rw [← e]; exact hp⟩
    rw [Bool.eq_iff_iff]
    simp
    omega
/-- What the log must know of the keys. -/
structure LgFull (S : Sto) : Prop where
  up : Asc S.ks
  hok : ∀ k, HOk k S.rev (S.kh k)
  mem : ∀ k, k ∈ S.ks ↔ S.kh k ≠ []
  at_ : ∀ (r : Int) (k : ByteArray), r ≤ S.rev → (k ∈ S.lg r ↔ ∃ c, (r, c) ∈ S.kh k) ∨ r ≤ S.past
def valV (S : Sto) (r : Int) : List KVd := S.ks.filterMap fun k => atH (S.kh k) r
theorem atH_key {S : Sto} (H : LgFull S) (r : Int) : ∀ k v, atH (S.kh k) r = some v → v.key = k := fun k v e => by
  obtain ⟨r', h1, _⟩ := atH_mem e
  exact ((H.hok k).kv r' v h1).1
theorem evAt_mem {S : Sto} (H : LgFull S) {r : Int} (hr : (S.past : Int) < r) (hr2 : r ≤ S.rev) : ∀ e ∈ evAt S r, (e.2.1 ∈ S.ks ∧ EvOk e) ∧ e.1 = r := fun e he => by
  obtain ⟨k, hk, rfl⟩ := List.mem_map.1 he
  obtain ⟨c, hc⟩ := ((H.at_ r k hr2).resolve_right (by omega)).1 hk
  refine ⟨⟨(H.mem k).2 (fun e => by rw [e] at hc; cases hc), fun v hv => ?_⟩, rfl⟩
  have e1 : chgAt (S.kh k) r = c := chgAt_mem (H.hok k).asc hc
  have hv : chgAt (S.kh k) r = some v := hv
  rw [e1] at hv
  subst hv
  exact ((H.hok k).kv r v hc).1
theorem evN_mem {S : Sto} (H : LgFull S) {r : Int} (hr : (S.past : Int) < r) {j : Nat} (hj : r + j ≤ (S.rev : Int) + 1) : ∀ e ∈ evN S r j, (e.2.1 ∈ S.ks ∧ EvOk e) ∧ e.1 ≤ S.rev := fun e he => by
  obtain ⟨i, hi, he⟩ := List.mem_flatMap.1 he
  have hi := List.mem_range.1 hi
  obtain ⟨h1, h2⟩ := evAt_mem H (r := r + i) (by omega) (by omega) e he
  exact ⟨h1, by omega⟩
/-- What is made on the way is a rising row, too. -/
theorem front_ok {S : Sto} (H : LgFull S) {r : Int} (hr : (S.past : Int) < r) {j : Nat} (hj : r + j ≤ (S.rev : Int) + 1) (m : Nat) : Asc (((((evN S r j).take m).foldl doneE (valV S (r - 1)))).map (·.key)) ∧ (((evN S r j).take m).foldl doneE (valV S (r - 1))).length ≤ S.ks.length := by
  obtain ⟨h1, h2⟩ := fold_fm H.up ((evN S r j).take m) (fun k => atH (S.kh k) (r - 1)) (atH_key H (r - 1)) (fun e he => (evN_mem H hr hj e (List.mem_of_mem_take he)).1)
  unfold valV
  rw [h1]
  exact ⟨asc_fm h2 H.up, List.length_filterMap_le _ _⟩
theorem valV_len {S : Sto} (r : Int) : (valV S r).length ≤ S.ks.length := List.length_filterMap_le _ _
theorem valV_step {S : Sto} (H : LgFull S) {r : Int} (hr : (S.past : Int) < r) (hr2 : r ≤ S.rev) : (evAt S r).foldl doneE (valV S (r - 1)) = valV S r := by
  have hlg : ∀ k, k ∈ S.lg r ↔ ∃ c, (r, c) ∈ S.kh k := fun k => (H.at_ r k hr2).resolve_right (by omega)
  have hes : ∀ e ∈ evAt S r, e.2.1 ∈ S.ks ∧ EvOk e := fun e he => by
    obtain ⟨k, hk, rfl⟩ := List.mem_map.1 he
    obtain ⟨c, hc⟩ := (hlg k).1 hk
    refine ⟨(H.mem k).2 (fun e => by rw [e] at hc; cases hc), fun v hv => ?_⟩
    have e1 : chgAt (S.kh k) r = c := chgAt_mem (H.hok k).asc hc
    have hv : chgAt (S.kh k) r = some v := hv
    rw [e1] at hv
    subst hv
    exact ((H.hok k).kv r v hc).1
  obtain ⟨h1, _⟩ := fold_fm H.up (evAt S r) (fun k => atH (S.kh k) (r - 1)) (atH_key H (r - 1)) hes
  unfold valV
  rw [h1]
  refine fm_congr ?_
  intro k _
  rw [upF_evAt]
  rcases atH_step (H.hok k) (r := r) with ⟨c, hc, e⟩ | ⟨hn, e⟩
  · rw [if_pos (hasK_iff.2 ((hlg k).2 ⟨c, hc⟩)), e, chgAt_mem (H.hok k).asc hc]
  · rw [if_neg (fun h => by obtain ⟨c, hc⟩ := (hlg k).1 (hasK_iff.1 h); exact hn c hc), e]
theorem valV_fold {S : Sto} (H : LgFull S) {r : Int} (hr : (S.past : Int) < r) : ∀ (j : Nat), r + j ≤ (S.rev : Int) + 1 → (evN S r j).foldl doneE (valV S (r - 1)) = valV S (r + j - 1)
  | 0, _ => by
    show valV S (r - 1) = valV S (r + ((0 : Nat) : Int) - 1)
    congr 1
    omega
  | j + 1, h => by
    rw [evN_succ, List.foldl_append, valV_fold H hr j (by omega)]
    have := valV_step H (r := r + j) (by omega) (by omega)
    rw [this]
    congr 1
    omega
theorem valV_zero {S : Sto} (H : LgFull S) : valV S 0 = [] := by
  unfold valV
  rw [List.filterMap_eq_nil_iff]
  intro k _
  cases e : atH (S.kh k) 0 with
  | none => rfl
  | some v =>
    obtain ⟨r, h1, h2⟩ := atH_mem e
    have := ((H.hok k).pos _ h1).1
    dsimp only at this
    omega
theorem valV_up {S : Sto} (H : LgFull S) (r : Int) : Asc ((valV S r).map (·.key)) := asc_fm (atH_key H r) H.up
theorem bl_top : ∀ (l : List UInt8) (n : Nat), l.length < n → Op.bytesLess l (List.replicate n 255) = true
  | [], 0, h => by simp at h
  | [], n + 1, _ => by rw [List.replicate_succ]; rfl
  | x :: l, 0, h => by simp at h
  | x :: l, n + 1, h => by
    rw [List.replicate_succ]
    have ih := bl_top l n (by simpa using h)
    simp only [Op.bytesLess, ih]
    have : x < 255 ∨ x = 255 := by
      have h1 := x.toNat_lt
      rcases Nat.lt_or_ge x.toNat 255 with h2 | h2
      · left; exact UInt8.lt_iff_toNat_lt.2 h2
      · right; exact UInt8.toNat_inj.1 (by have : x.toNat = 255 := by omega
                                           rw [this]; rfl)
    rcases this with h2 | h2 <;> simp [h2]
theorem bl_low (l : List UInt8) (h : 0 < l.length) : Op.bytesLess l [0] = false := by
  match l, h with
  | x :: l, _ =>
    have : Op.bytesLess l [] = false := by cases l <;> rfl
    simp [Op.bytesLess, this]
theorem range_all {S : Sto} (hsz : ∀ k ∈ S.ks, 0 < k.size ∧ k.size ≤ 100) : rangeK S ⟨#[0]⟩ (topN 101) = S.ks := by
  unfold rangeK
  rw [List.filter_eq_self]
  intro k hk
  obtain ⟨h1, h2⟩ := hsz k hk
  have hne : ¬ topN 101 = ByteArray.empty := fun e => by
    have := congrArg ByteArray.size e
    exact absurd this (by decide)
  unfold inR
  rw [if_neg hne]
  have e1 : klt k ⟨#[0]⟩ = false := bl_low k.data.toList (by rw [Array.length_toList]; exact h1)
  have e2 : klt k (topN 101) = true := bl_top k.data.toList 101 (by rw [Array.length_toList]; have : k.data.size ≤ 100 := h2; omega)
  rw [e1, e2]
  rfl
theorem rangeV_all {S : Sto} (hsz : ∀ k ∈ S.ks, 0 < k.size ∧ k.size ≤ 100) (rev : Int) : rangeV S ⟨#[0]⟩ (topN 101) rev = valV S (revOf S rev) := by
  unfold rangeV
  rw [range_all hsz]
  rfl
end Go.Proofs.Yteeflkkoifgcbaa
/- A store of any writes: its calls in the law's words. -/
namespace Go.Proofs.Yteeflkkoifgcbaa
open Go Go.RowKit
theorem nodup_le {α : Type} : ∀ {l m : List α}, l.Nodup → (∀ x ∈ l, x ∈ m) → l.length ≤ m.length
  | [], _, _, _ => Nat.zero_le _
  | a :: l, m, hn, hs => by
    obtain ⟨h1, h2⟩ := List.nodup_cons.1 hn
    obtain ⟨A, B, rfl⟩ := List.append_of_mem (hs a (by simp))
    have := nodup_le (l := l) (m := A ++ B) h2 (fun x hx => by
      have h3 := hs x (by simp [hx])
      have h4 : x ≠ a := fun e => h1 (e ▸ hx)
      simp only [List.mem_append, List.mem_cons] at h3 ⊢
      rcases h3 with h | h | h
      · exact .inl h
      · exact absurd h h4
      · exact .inr h)
    simp only [List.length_cons, List.length_append] at this ⊢
    omega
/-- A store that came of i writes of thirty parts each. -/
structure SI (S : Sto) (i : Nat) : Prop where
  past : S.past = 0
  rev : S.rev ≤ i
  ks : S.ks.length ≤ 30 * i
  nth : S.nth ≤ 1230 * i
  at_ : ∀ (r : Int) (k : ByteArray), 0 < r → r ≤ S.rev → (k ∈ S.lg r ↔ ∃ c, (r, c) ∈ S.kh k)
  lgl : ∀ r : Int, 0 < r → r ≤ S.rev → (S.lg r).length ≤ 1230
structure SQ (w0 w : World) (s i n : Nat) (S : Sto) (g : Sg) : Prop where
  st : St n w s S g (.pointer none)
  n : n ≤ 1230 * i
  si : SI S i
  lg : LgOk S g
  bel : Below w0.heap.size w0 w
  fs : ∀ k, ftS s g k → w0.heap.size ≤ k
structure WV (w0 w : World) (s b i j n : Nat) (S : Sto) (g : Sg) (W : Wri) (h : Wg) : Prop where
  ow : Ow n w s b S W g h
  n : n ≤ 1230 * i
  si : SI S i
  lg : LgOk S g
  bel : Below w0.heap.size w0 w
  fs : ∀ k, ftS s g k → w0.heap.size ≤ k
  fw : ∀ k, ftW b h k → w0.heap.size ≤ k
  ok : Wok S W
  ps : ∃ P : List ByteArray, P.length ≤ j ∧ ∀ k ∈ W.keys, k ∈ S.ks ∨ k ∈ P
  lo : (S.nth : Int) - W.keys.length ≤ W.count
  hi : W.count ≤ (S.nth : Int) + W.keys.length
def SE (w0 w : World) (s i : Nat) : Prop := ∃ n S g, SQ w0 w s i n S g
def WQ (w0 w : World) (s b i j : Nat) : Prop := ∃ n S g W h, WV w0 w s b i j n S g W h
theorem SQ.later {w0 w w' : World} {s i n : Nat} {S : Sto} {g : Sg} (H : SQ w0 w s i n S g) (hb : Below w.heap.size w w') : SQ w0 w' s i n S g := ⟨H.st.below hb, H.n, H.si, H.lg, H.bel.trans (hb.mono H.bel.size), H.fs⟩
theorem SE.more {w0 w : World} {s i : Nat} (H : SE w0 w s i) : SE w0 w s (i + 1) := by
  obtain ⟨n, S, g, h⟩ := H
  have a := h.si
  exact ⟨n, S, g, h.st, by have := h.n; omega, ⟨a.past, by have := a.rev; omega, by have := a.ks; omega, by have := a.nth; omega, a.at_, a.lgl⟩, h.lg, h.bel, h.fs⟩
theorem SE.below {w0 w : World} {s i : Nat} (H : SE w0 w s i) : Below w0.heap.size w0 w := by
  obtain ⟨n, S, g, h⟩ := H
  exact h.bel
theorem WV.kl {w0 w : World} {s b i j n : Nat} {S : Sto} {g : Sg} {W : Wri} {h : Wg} (H : WV w0 w s b i j n S g W h) : W.keys.length ≤ 30 * i + j := by
  obtain ⟨P, h1, h2⟩ := H.ps
  have := nodup_le (m := S.ks ++ P) H.ow.wr.nd (fun k hk => List.mem_append.2 (h2 k hk))
  rw [List.length_append] at this
  have := H.si.ks
  omega
theorem new_se (w0 w : World) (hb : Below w0.heap.size w0 w) : Calls Try.prog 7 #[] w fun e w' => ∃ s, e = .returned (ptr s) ∧ Hid (SE w0 w' s 0) := by
  refine (new_st w).mono ?_
  rintro e w' ⟨s, g, rfl, h1, h2, h3⟩
  refine ⟨s, rfl, 0, noS, g, h1, Nat.le_refl _, ⟨rfl, Nat.le_refl _, Nat.le_refl _, Nat.le_refl _, fun r k h4 h5 => ?_, fun r h4 h5 => ?_⟩, fun r h4 h5 => ?_, hb.trans (h2.mono hb.size), fun k hk => Nat.le_trans hb.size (h3 k hk)⟩
  all_goals
    have : r ≤ 0 := h5
    first | omega | (have : (0 : Int) < r := h4; omega)
theorem SE.write {w0 w : World} {s i : Nat} (H : SE w0 w s i) : Calls Try.prog 9 #[ptr s] w fun e w' => ∃ b, e = .returned (ptr b) ∧ Hid (WQ w0 w' s b i 0) := by
  obtain ⟨n, S, g, h⟩ := H
  refine (write_st h.st).mono ?_
  rintro e w' ⟨rfl, h1, h2⟩
  have hsz := h.bel.size
  refine ⟨_, rfl, n, S, g, _, _, h1, h.n, h.si, h.lg, h.bel.trans (h2.below h.bel.size (fun k hk e => ?_)), h.fs, fun k hk => ?_, fun k c hc => ?_, ⟨[], Nat.le_refl _, fun k hk => ?_⟩, ?_, ?_⟩
  · have := h.fs s (.inl rfl)
    omega
  · rcases hk with rfl | rfl | hk
    · omega
    · exact hsz
    · simp [Value.ownBlock] at hk
  · cases hc
  · cases hk
  · show (S.nth : Int) - ((0 : Nat) : Int) ≤ S.nth; omega
  · show (S.nth : Int) ≤ S.nth + ((0 : Nat) : Int); omega
/-- A write that was not turned. -/
theorem WV.same {w0 w w' : World} {s b i j n : Nat} {S : Sto} {g : Sg} {W : Wri} {h : Wg} (H : WV w0 w s b i j n S g W h) (hb : Below w.heap.size w w') : WQ w0 w' s b i (j + 1) := by
  obtain ⟨P, h1, h2⟩ := H.ps
  exact ⟨n, S, g, W, h, H.ow.below hb, H.n, H.si, H.lg, H.bel.trans (hb.mono H.bel.size), H.fs, H.fw, H.ok, ⟨P, by omega, h2⟩, H.lo, H.hi⟩
theorem WV.noted {w0 w w' : World} {s b i j n : Nat} {S : Sto} {g : Sg} {W : Wri} {h h' : Wg} (H : WV w0 w s b i j n S g W h) (W' : Wri) (key : ByteArray) (kv : KVd) (hW : W' = W.note key (some kv) ∨ W' = ({ W with count := W.count + 1 } : Wri).note key (some kv)) (hO : Ow n w' s b S W' g h') (hK : KpW w w' b h h')
    (hk : 0 < key.size ∧ key.size ≤ 100) (hkv : kv.key = key ∧ kv.mod = (S.rev : Int) + 1 ∧ 1 ≤ kv.version ∧ kv.version ≤ (S.rev : Int) + 1) : WQ w0 w' s b i (j + 1) := by
  obtain ⟨P, h1, h2⟩ := H.ps
  have hlo := H.lo
  have hhi := H.hi
  have hch : (∀ k, W'.ch k = if k = key then some (some kv) else W.ch k) ∧ W'.keys = W.keys ++ [key] ∧ W.count ≤ W'.count ∧ W'.count ≤ W.count + 1 := by
    rcases hW with rfl | rfl
    · exact ⟨fun _ => rfl, rfl, by show W.count ≤ W.count; omega, by show W.count ≤ W.count + 1; omega⟩
    · exact ⟨fun _ => rfl, rfl, by show W.count ≤ W.count + 1; omega, by show W.count + 1 ≤ W.count + 1; omega⟩
  obtain ⟨c1, c2, c3, c4⟩ := hch
  refine ⟨n, S, g, W', h', hO, H.n, H.si, H.lg, H.bel.trans (hK.1.below H.bel.size (fun k hk e => by have := H.fw k e; omega)), H.fs, fun k hk => (hK.2 k hk).elim (H.fw k) (fun e => Nat.le_trans H.bel.size e), fun k c hc => ?_, ⟨key :: P, by simp; omega, fun k hk => ?_⟩, ?_, ?_⟩
  · rw [c1 k] at hc
    by_cases e : k = key
    · rw [if_pos e] at hc
      cases hc
      subst e
      exact ⟨hk, fun v hv => by cases hv; exact hkv, fun hv => by cases hv⟩
    · rw [if_neg e] at hc
      exact H.ok k c hc
  · rw [c2] at hk
    rcases List.mem_append.1 hk with hk | hk
    · exact (h2 k hk).imp id (fun h => by simp [h])
    · exact .inr (by simp at hk; simp [hk])
  · rw [c2, List.length_append]; simp; omega
  · rw [c2, List.length_append]; simp; omega
theorem WQ.put {w0 w : World} {s b i j : Nat} (H : WQ w0 w s b i j) (hi : i < 40) (hj : j < 30) (key value : ByteArray) (hks : key.size ≤ 140737488355328) (hvs : value.size ≤ 140737488355328) :
    Calls Try.prog 10 #[ptr b, .string key, .string value, .int .i64 0] w fun e w' => ∃ r, e = .returned (.int .i64 r) ∧ Hid (WQ w0 w' s b i (j + 1)) := by
  obtain ⟨n, S, g, W, h, H⟩ := H
  have hkl := H.kl
  have hrev := H.si.rev
  have hnth := H.si.nth
  have hlo := H.lo
  have hhi := H.hi
  by_cases hk : 0 < key.size ∧ key.size ≤ 100
  · by_cases hv : 4096 < value.size
    · refine (wput_long H.ow key value 0 (by omega) (by omega) hk (by omega) hv).mono ?_
      rintro e w' ⟨rfl, rfl⟩
      exact ⟨_, rfl, H.same (Below.refl _ _)⟩
    · cases hc : W.ch key with
      | some o =>
        refine (wput_twice H.ow key value 0 (by omega) (by omega) hk (by omega) hv hc).mono ?_
        rintro e w' ⟨rfl, rfl⟩
        exact ⟨_, rfl, H.same (Below.refl _ _)⟩
      | none =>
        cases ht : thereH (S.kh key) with
        | some kv =>
          obtain ⟨r, hm, _⟩ := thereH_mem ht
          obtain ⟨_, _, p1, p2⟩ := (H.ow.st.hok key).kv r kv hm
          have p3 := ((H.ow.st.hok key).pos _ hm).2
          dsimp only at p3
          refine (wput_there H.ow key value 0 hk hv (by omega) hc (by omega) (by omega) ht (by omega)).mono ?_
          rintro e w' ⟨rfl, h', q1, q2⟩
          exact ⟨_, rfl, H.noted _ key _ (.inl rfl) q1 q2 hk ⟨rfl, rfl, by show 1 ≤ kv.version + 1; omega, by show kv.version + 1 ≤ _; omega⟩⟩
        | none =>
          by_cases hf : 4096 ≤ W.count
          · refine (wput_full H.ow key value 0 (by omega) (by omega) hk (by omega) hv hc ht hf).mono ?_
            rintro e w' ⟨rfl, hb⟩
            exact ⟨_, rfl, H.same hb⟩
          · refine (wput_new H.ow key value 0 hk hv (by omega) hc (by omega) (by omega) ht (by omega)).mono ?_
            rintro e w' ⟨rfl, h', q1, q2⟩
            exact ⟨_, rfl, H.noted _ key _ (.inr rfl) q1 q2 hk ⟨rfl, rfl, by show (1 : Int) ≤ 0 + 1; omega, by show (0 : Int) + 1 ≤ _; omega⟩⟩
  · refine (wput_arg H.ow key value 0 (by omega) (.inl hk)).mono ?_
    rintro e w' ⟨rfl, rfl⟩
    exact ⟨_, rfl, H.same (Below.refl _ _)⟩
theorem WQ.del {w0 w : World} {s b i j : Nat} (H : WQ w0 w s b i j) (hi : i < 40) (hj : j < 30) (lo hi' : ByteArray) (hls : lo.size ≤ 140737488355328) (hhs : hi'.size ≤ 140737488355328) :
    Calls Try.prog 11 #[ptr b, .string lo, .string hi'] w fun e w' => ∃ r, e = .returned (.int .i64 r) ∧ Hid (WQ w0 w' s b i (j + 1)) := by
  obtain ⟨n, S, g, W, h, H⟩ := H
  have hkl := H.kl
  have hn := H.n
  have hnth := H.si.nth
  have hlo := H.lo
  have hhi := H.hi
  refine (delete_st H.ow (by omega) lo hi' hls hhs (by omega) (by omega)).mono ?_
  rintro e w' ⟨rfl, h', q1, q2⟩
  refine ⟨_, rfl, n, S, g, _, h', q1, H.n, H.si, H.lg, H.bel.trans (q2.1.below H.bel.size (fun k hk e => by have := H.fw k e; omega)), H.fs, fun k hk => (q2.2 k hk).elim (H.fw k) (fun e => Nat.le_trans H.bel.size e), ?_, ?_, ?_, ?_⟩
  all_goals generalize hG : (rangeK S lo hi').filter (goesP S W) = G at *
  · intro k c hc
    have hc : (if hasK G k then some none else W.ch k) = some c := hc
    cases hk : hasK G k with
    | true =>
      rw [hk, if_pos rfl] at hc
      cases hc
      have hm := hasK_iff.1 hk
      rw [← hG] at hm
      obtain ⟨m1, m2⟩ := List.mem_filter.1 hm
      have m3 : k ∈ S.ks := (List.mem_filter.1 m1).1
      refine ⟨H.ow.st.sz k m3, (fun v hv => by cases hv), fun _ => ?_⟩
      unfold goesP at m2
      simp only [Bool.and_eq_true] at m2
      exact m2.2
    | false =>
      rw [hk] at hc
      exact H.ok k c (by simpa using hc)
  · obtain ⟨P, h1, h2⟩ := H.ps
    refine ⟨P, by omega, fun k hk => ?_⟩
    have hk : k ∈ W.keys ++ G := hk
    rcases List.mem_append.1 hk with hk | hk
    · exact h2 k hk
    · rw [← hG] at hk
      exact .inl (List.mem_filter.1 (List.mem_filter.1 hk).1).1
  · show (S.nth : Int) - ((W.keys ++ G).length : Nat) ≤ W.count - G.length
    rw [List.length_append]
    omega
  · show W.count - G.length ≤ (S.nth : Int) + ((W.keys ++ G).length : Nat)
    rw [List.length_append]
    omega
theorem layAll_nth (f : ByteArray → Option KVd) (r : Int) : ∀ (l : List ByteArray) (S : Sto), (layAll f r S l).nth ≤ S.nth + l.length
  | [], S => Nat.le_refl _
  | k :: l, S => by
    have h1 := layAll_nth f r l (layS S r k (f k))
    have h2 : (layS S r k (f k)).nth ≤ S.nth + 1 := by
      unfold layS
      dsimp only
      split <;> split <;> omega
    have h3 : layAll f r S (k :: l) = layAll f r (layS S r k (f k)) l := rfl
    rw [h3, List.length_cons]
    omega
theorem SI.done {S : Sto} {W : Wri} {i j : Nat} {n : Nat} {w : World} {s : Nat} {g : Sg} {o : Value} (a : SI S i) (hok : ∀ k, HOk k S.rev (S.kh k)) (hst : St n w s (doneS S W) g o) (hmem : ∀ k, k ∈ S.ks ↔ S.kh k ≠ []) (hnd : W.keys.Nodup) (hkl : W.keys.length ≤ 1230) (hj : j ≤ 30) (hps : ∃ P : List ByteArray, P.length ≤ j ∧ ∀ k ∈ W.keys, k ∈ S.ks ∨ k ∈ P) : SI (doneS S W) (i + 1) := by
  by_cases hk : W.keys = []
  · have e1 : doneS S W = S := if_pos hk
    rw [e1]
    exact ⟨a.past, by have := a.rev; omega, by have := a.ks; omega, by have := a.nth; omega, a.at_, a.lgl⟩
  · have e1 : doneS S W = takeS S W W.keys.length := if_neg hk
    obtain ⟨t1, t2, t3⟩ := takeS_rev S W W.keys.length
    have hin : ∀ k, k ∈ W.keys → (takeS S W W.keys.length).kh k = S.kh k ++ [((S.rev : Int) + 1, chG W k)] := fun k hm => by
      unfold takeS
      rw [List.take_length]
      exact layAll_in _ _ hnd hm
    have hout : ∀ k, k ∉ W.keys → (takeS S W W.keys.length).kh k = S.kh k := fun k hm => by
      unfold takeS
      rw [List.take_length]
      exact layAll_not _ _ hm
    rw [e1] at hst ⊢
    obtain ⟨P, p1, p2⟩ := hps
    refine ⟨t2.trans a.past, by rw [t1]; have := a.rev; omega, ?_, ?_, fun r k h1 h2 => ?_, fun r h1 h2 => ?_⟩
    · have ha : Asc (takeS S W W.keys.length).ks := by have := hst.bd.asc; rw [datS_keys] at this; exact this
      have := nodup_le (m := S.ks ++ P) (asc_nodup ha) (fun k hm => by
        have h1 := (hst.mem k).1 hm
        by_cases hw : k ∈ W.keys
        · exact List.mem_append.2 (p2 k hw)
        · rw [hout k hw] at h1
          exact List.mem_append_left _ ((hmem k).2 h1))
      rw [List.length_append] at this
      have := a.ks
      omega
    · have h1 := layAll_nth (chG W) ((S.rev : Int) + 1) (W.keys.take W.keys.length) (nextS S W.keys)
      rw [List.take_length] at h1
      have h2 : (takeS S W W.keys.length).nth ≤ S.nth + W.keys.length := by
        unfold takeS
        rw [List.take_length]
        exact h1
      have := a.nth
      omega
    · rw [t1] at h2
      rw [t3]
      by_cases hr : r = (S.rev : Int) + 1
      · subst hr
        rw [nextS_lg]
        constructor
        · intro hm
          rw [hin k hm]
          exact ⟨chG W k, List.mem_append_right _ (List.mem_singleton.2 rfl)⟩
        · rintro ⟨c, hc⟩
          by_cases hm : k ∈ W.keys
          · exact hm
          · rw [hout k hm] at hc
            have := ((hok k).pos _ hc).2
            dsimp only at this
            omega
      · have hr2 : r ≤ S.rev := by
          have : r ≤ ((S.rev + 1 : Nat) : Int) := h2
          omega
        have e : (nextS S W.keys).lg r = S.lg r := by simp [nextS, hr]
        rw [e, a.at_ r k h1 hr2]
        by_cases hm : k ∈ W.keys
        · rw [hin k hm]
          constructor
          · rintro ⟨c, hc⟩; exact ⟨c, List.mem_append_left _ hc⟩
          · rintro ⟨c, hc⟩
            rcases List.mem_append.1 hc with hc | hc
            · exact ⟨c, hc⟩
            · simp at hc
              exact absurd hc.1 hr
        · rw [hout k hm]
    · rw [t1] at h2
      rw [t3]
      by_cases hr : r = (S.rev : Int) + 1
      · subst hr
        rw [nextS_lg]
        exact hkl
      · have hr2 : r ≤ S.rev := by
          have : r ≤ ((S.rev + 1 : Nat) : Int) := h2
          omega
        have e : (nextS S W.keys).lg r = S.lg r := by simp [nextS, hr]
        rw [e]
        exact a.lgl r h1 hr2
theorem WQ.done {w0 w : World} {s b i j : Nat} (H : WQ w0 w s b i j) (hi : i < 40) (hj : j ≤ 30) : Calls Try.prog 12 #[ptr b] w fun e w' => ∃ r, e = .returned (.int .i64 r) ∧ Hid (SE w0 w' s (i + 1)) := by
  obtain ⟨n, S, g, W, h, H⟩ := H
  have hkl := H.kl
  have hn := H.n
  have hrev := H.si.rev
  refine (done_lg H.ow H.ok (by omega) (by omega)).mono ?_
  rintro e w' ⟨rfl, g', q1, ⟨q2, q3⟩, q4⟩
  have hb' : Below w0.heap.size w0 w' := H.bel.trans (q2.below H.bel.size (fun j hj e => e.elim (fun e => by have := H.fs j e; omega) (fun e => by have := H.fw j e; omega)))
  have hf' : ∀ j, ftS s g' j → w0.heap.size ≤ j := fun j hj => by
    rcases q3 j hj with (e | e) | e
    · exact H.fs j e
    · exact H.fw j e
    · exact Nat.le_trans H.bel.size e
  exact ⟨_, rfl, _, _, g', q1, by omega, H.si.done H.ow.st.hok q1 H.ow.st.mem H.ow.wr.nd (by omega) hj H.ps, H.lg.done H.ow.wr.nd q4, hb', hf'⟩
theorem SQ.full {w0 w : World} {s i n : Nat} {S : Sto} {g : Sg} (H : SQ w0 w s i n S g) : LgFull S where
  up := by have := H.st.bd.asc; rw [datS_keys] at this; exact this
  hok := H.st.hok
  mem := H.st.mem
  at_ := fun r k hr => by
    by_cases h0 : 0 < r
    · exact .inl (H.si.at_ r k h0 hr)
    · right
      rw [H.si.past]
      omega
theorem evN_len {S : Sto} {i : Nat} (a : SI S i) (r : Int) (hr : 0 < r) : ∀ j : Nat, r + j ≤ (S.rev : Int) + 1 → (evN S r j).length ≤ 1230 * j
  | 0, _ => by show 0 ≤ _; omega
  | j + 1, h => by
    rw [evN_succ, List.length_append]
    have h1 := evN_len a r hr j (by omega)
    have h2 := a.lgl (r + j) (by omega) (by omega)
    have h3 : (evAt S (r + j)).length = (S.lg (r + j)).length := by unfold evAt; rw [List.length_map]
    omega
end Go.Proofs.Yteeflkkoifgcbaa
/- The document's keys as they were at a revision: the changes, done one by one. -/
namespace Go.Proofs.Yteeflkkoifgcbaa
open Go Go.RowKit
/-- A row of changes that is read. -/
def EVs (w : World) (v : Value) (l : List Evd) : Prop := ∃ p c, v = .slice p l.length c ∧ l.length ≤ c ∧ ∀ i e, l[i]? = some e → ∃ g, p = some ⟨g, 0, none⟩ ∧ g < w.heap.size ∧ ∀ t u, t < 8 → (evL e)[t]? = some u → w.cell? ⟨g, i * 8 + t, none⟩ = some u
theorem evsC_at : ∀ {l : List Evd} {i : Nat} {e : Evd} (_ : l[i]? = some e) (t : Nat), t < 8 → (evsC l)[i * 8 + t]? = (evL e)[t]?
  | [], i, e, h, t, ht => by simp at h
  | x :: l, 0, e, h, t, ht => by
    have e' : x = e := by simpa using h
    subst e'
    show (evL x ++ evsC l)[0 * 8 + t]? = _
    rw [Nat.zero_mul, Nat.zero_add, List.getElem?_append_left (by simpa [evL, evC] using ht)]
  | x :: l, i + 1, e, h, t, ht => by
    show (evL x ++ evsC l)[(i + 1) * 8 + t]? = _
    have hl : (evL x).length = 8 := by simp [evL, evC]
    rw [List.getElem?_append_right (by omega), hl, ← evsC_at (l := l) (i := i) (by simpa using h) t ht]
    congr 1
    omega
theorem EVs.of {w : World} {B : Nat} {v : Value} {l : List Evd} (h : w.ownsRow B 85 8 v l.length (evsC l)) : EVs w v l := by
  rcases h.2 with ⟨rfl, h0⟩ | ⟨g, cap, cur, rfl, hg, hh, h1, h2, h3, h4⟩
  · refine ⟨none, 0, by rw [h0], by omega, fun i e hi => ?_⟩
    have := (List.getElem?_eq_some_iff.1 hi).1
    omega
  · refine ⟨_, cap, rfl, h1, fun i e hi => ⟨g, rfl, (Array.getElem?_eq_some_iff.1 hh).1, fun t u ht hu => ?_⟩⟩
    have := h.cells (g := g) rfl (i * 8 + t) u (by rw [evsC_at hi t ht]; exact hu)
    rwa [Addr.add_lit, Nat.zero_add] at this
theorem EVs.below {w w' : World} {v : Value} {l : List Evd} (h : EVs w v l) {B : Nat} (hb : Below B w w') (hB : w.heap.size ≤ B) : EVs w' v l := by
  obtain ⟨p, c, e, h1, h2⟩ := h
  refine ⟨p, c, e, h1, fun i x hi => ?_⟩
  obtain ⟨g, h3, h4, h5⟩ := h2 i x hi
  exact ⟨g, h3, Nat.lt_of_lt_of_le h4 hb.size, fun t u ht hu => (hb.cell (p := ⟨g, i * 8 + t, none⟩) (by show g < B; omega)).trans (h5 t u ht hu)⟩
set_option maxRecDepth 100000 in
set_option maxHeartbeats 2000000 in
theorem rat_any {w : World} {x : Nat} {R rev : Int} {va ve : Value} {l : List KVd} {E : List Evd} (c0 : w.cell? ⟨x, 0, none⟩ = some (.int .i64 R)) (c2 : w.cell? ⟨x, 2, none⟩ = some va) (c3 : w.cell? ⟨x, 3, none⟩ = some ve) (hR : R ≠ rev)
    (hl : KVs w va l) (hE : EVs w ve E) (hle : ∀ e ∈ E, e.1 ≤ rev) (hf : ∀ m, Asc (((E.take m).foldl doneE l).map (·.key)) ∧ ((E.take m).foldl doneE l).length ≤ 1000000) (hlen : E.length ≤ 1000000) :
    Calls Try.prog 19 #[ptr x, .int .i64 rev] w fun e w' => ∃ v, e = .returned v ∧ KVs w' v (E.foldl doneE l) ∧ Below w.heap.size w w' := by
  have hxl : x < w.heap.size := World.block_lt_of_cell? _ _ c0
  have HE := Hid.mk'' hE
  have HL := Hid.mk'' hl
  obtain ⟨p0, k0, rfl, hk0, -⟩ := hl
  obtain ⟨pe, ke, rfl, hke, hee⟩ := hE
  have HEE := Hid.mk'' hee
  have HF := Hid.mk'' hf
  have HLE := Hid.mk'' hle
  have hRb : (rev == R) = false := beq_eq_false_iff_ne.2 (Ne.symm hR)
  clear hee hf hle hR
  go_enter Try.func19, Try.ntmps19
  go_wp2
  go_loopg [5, 6] (E.length + 1) (fun kx s5 s6 wq => ∃ (i : Nat) (p : Option Addr) (c : Nat), s5 = .slice p ((E.take i).foldl doneE l).length c ∧ s6 = .int .i64 i ∧ kx + i = E.length + 1 ∧ i ≤ E.length ∧ Hid (KVs wq (.slice p ((E.take i).foldl doneE l).length c) ((E.take i).foldl doneE l)) ∧ Hid (Below w.heap.size w wq))
  case atStart => exact ⟨0, p0, k0, rfl, rfl, rfl, Nat.zero_le _, HL, Below.refl _ _⟩
  case round =>
    obtain ⟨i, p, c, rfl, rfl, hk, hi, HM, HB⟩ := hrel
    have d3 := (HB.out.cell (p := ⟨x, 3, none⟩) hxl).trans c3
    by_cases hlt : i < E.length
    · obtain ⟨ev, hev⟩ : ∃ ev, E[i]? = some ev := ⟨_, List.getElem?_eq_getElem hlt⟩
      obtain ⟨g, hg, hgl, hcell⟩ := HEE.out i ev hev
      subst hg
      have hrl := HLE.out ev (List.mem_of_getElem? hev)
      obtain ⟨hasc, hlen2⟩ := HF.out i
      have hdone := done_kvs HM.out hlen2 hasc ev.1 ev.2.2.isNone (evKV ev.1 ev.2.1 ev.2.2)
      have htk : (E.take (i + 1)).foldl doneE l = doneE ((E.take i).foldl doneE l) ev := by rw [List.take_add_one, hev, List.foldl_append]; rfl
      have HTK := Hid.mk'' htk
      have hc' : ∀ t u, t < 8 → (evL ev)[t]? = some u → wr.cell? ⟨g, i * 8 + t, none⟩ = some u := fun t u ht hu => (HB.out.cell (p := ⟨g, i * 8 + t, none⟩) hgl).trans (hcell t u ht hu)
      have e0 := hc' 0 _ (by omega) rfl
      have e1 := hc' 1 _ (by omega) rfl
      have e2 := hc' 2 _ (by omega) rfl
      have e3 := hc' 3 _ (by omega) rfl
      have e4 := hc' 4 _ (by omega) rfl
      have e5 := hc' 5 _ (by omega) rfl
      have e6 := hc' 6 _ (by omega) rfl
      have e7 := hc' 7 _ (by omega) rfl
      have HDD : Hid (doneL ((E.take i).foldl doneE l) ev.2.2.isNone (evKV ev.1 ev.2.1 ev.2.2) = (E.take (i + 1)).foldl doneE l) := Hid.mk'' (by rw [htk]; rfl)
      rw [HDD.out] at hdone
      generalize evKV ev.1 ev.2.1 ev.2.2 = kv at *
      generalize ev.2.2.isNone = dl at *
      generalize ev.1 = r at *
      obtain ⟨xk, xv, xc, xm, xe, xl⟩ := kv
      simp only [Nat.add_zero] at e0
      dsimp only [evC] at hdone
      dsimp only at e2 e3 e4 e5 e6 e7
      clear hc' hcell htk hasc hev HTK HDD
      obtain ⟨l2, hl2⟩ : ∃ l2, l2 = (E.take (i + 1)).foldl doneE l := ⟨_, rfl⟩
      have HL2 := Hid.mk'' hl2
      rw [← hl2] at hdone
      clear hl2
      go_wp2_with (go_at_call 33; refine hdone.mono ?_; rintro e w3 ⟨v3, rfl, h3, hb3⟩; have H3 := Hid.mk'' h3; obtain ⟨p3, c3', hv3, -, -⟩ := h3; subst hv3)
      go_roundg (E.length - i)
      case measure => omega
      case rel => exact ⟨i + 1, p3, c3', by rw [← HL2.out], by congr 1, by omega, by omega, by rw [← HL2.out]; exact H3, HB.out.trans (hb3.mono HB.out.size)⟩
    · obtain rfl : i = E.length := by omega
      rw [List.take_length] at HM ⊢
      go_wp2
      go_ret
      exact ⟨_, rfl, HM.out, HB.out⟩
end Go.Proofs.Yteeflkkoifgcbaa
