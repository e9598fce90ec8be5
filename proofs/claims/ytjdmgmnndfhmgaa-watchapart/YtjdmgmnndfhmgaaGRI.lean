/- Small calls of a store and of a write: Rev, isOpen, isKey, rev. -/
import Derived.Test.YtjdmgmnndfhmgaaGRH
import Derived.BigQuiet
import Derived.LaidEql
import Derived.Deep.RegionHeldLaw
namespace Go.Proofs.Ytjdmgmnndfhmgaa
open Go Go.RowKit

theorem St.cells {n : Nat} {w : World} {s : Nat} {S : Sto} {g : Sg} {o : Value} (h : St n w s S g o) : w.cell? ⟨s, 0, none⟩ = some (.int .i64 S.rev) ∧ w.cell? ⟨s, 1, none⟩ = some (.int .i64 S.past) ∧ w.cell? ⟨s, 2, none⟩ = some (ptr g.x) ∧ w.cell? ⟨s, 3, none⟩ = some (.map (some g.bc)) ∧ w.cell? ⟨s, 4, none⟩ = some (.map (some g.bl)) ∧ w.cell? ⟨s, 5, none⟩ = some (.map (some g.bt)) ∧ w.cell? ⟨s, 6, none⟩ = some o :=
  ⟨cell_of_row _ _ _ _ _ _ h.blk, cell_of_row _ _ _ _ _ _ h.blk, cell_of_row _ _ _ _ _ _ h.blk, cell_of_row _ _ _ _ _ _ h.blk, cell_of_row _ _ _ _ _ _ h.blk, cell_of_row _ _ _ _ _ _ h.blk, cell_of_row _ _ _ _ _ _ h.blk⟩
theorem Wm.cells {w : World} {b s : Nat} {W : Wri} {h : Wg} (H : Wm w b s W h) : w.cell? ⟨b, 0, none⟩ = some (ptr s) ∧ w.cell? ⟨b, 1, none⟩ = some h.v ∧ w.cell? ⟨b, 2, none⟩ = some (.map (some h.bw)) ∧ w.cell? ⟨b, 3, none⟩ = some (.int .i64 W.count) :=
  ⟨cell_of_row _ _ _ _ _ _ H.blk, cell_of_row _ _ _ _ _ _ H.blk, cell_of_row _ _ _ _ _ _ H.blk, cell_of_row _ _ _ _ _ _ H.blk⟩
set_option maxHeartbeats 400000 in
theorem rev_st {n : Nat} {w : World} {s : Nat} {S : Sto} {g : Sg} {o : Value} (h : St n w s S g o) : Calls Try.prog 42 #[ptr s] w fun e w' => e = .returned (.int .i64 S.rev) ∧ w' = w := by
  obtain ⟨c0, -⟩ := h.cells
  clear h
  go_enter Try.func42, Try.ntmps42
  go_wp2
  go_ret
  exact ⟨rfl, rfl⟩
theorem ptr_eqIn (n b : Nat) (W : World) : (Op.equalIn (n + 1) 44 (ptr b) (ptr b)).run Try.prog W = .ok true W := by
  unfold Op.equalIn
  have hs : (Go.sizeOf 73).run Try.prog W = .ok 4 W := by kernel_rfl
  simp [run_underlying Try.underlying44, Result.andThen, hs, run_sameAddr_same]
theorem ptr_eq (b : Nat) (W : World) : (binOp BinOp.eql 44 (ptr b) (ptr b)).run Try.prog W = .ok (.bool true) W := by
  have := ptr_eqIn 9999 b W
  simp only [Nat.reduceAdd] at this
  simp [binOp, Op.equal, Op.maxDepth, this, Result.andThen]
set_option maxRecDepth 100000 in
set_option maxHeartbeats 400000 in
theorem open_st {n : Nat} {w : World} {s b : Nat} {S : Sto} {W : Wri} {g : Sg} {h : Wg} (H : Ow n w s b S W g h) : Calls Try.prog 23 #[ptr b] w fun e w' => e = .returned (.bool true) ∧ w' = w := by
  obtain ⟨c0, -⟩ := H.wr.cells
  obtain ⟨-, -, -, -, -, -, d6⟩ := H.st.cells
  clear H
  have hpe := ptr_eq b
  go_enter Try.func23, Try.ntmps23
  go_wp2
  go_ret
  exact ⟨rfl, rfl⟩
set_option maxHeartbeats 400000 in
theorem iskey_any (k : ByteArray) (w : World) (hk : k.size ≤ 9223372036854775807) : Calls Try.prog 24 #[.string k] w fun e w' => e = .returned (.bool (decide (0 < k.size ∧ k.size ≤ 100))) ∧ w' = w := by
  by_cases h0 : 0 < k.size
  · by_cases h1 : k.size ≤ 100
    · rw [decide_eq_true ⟨h0, h1⟩]
      go_enter Try.func24, Try.ntmps24
      go_wp2
      go_ret
      exact ⟨ret_bool (a := decide ((k.size : Int) ≤ 100)) (decide_eq_true (by omega)), rfl⟩
    · rw [decide_eq_false (fun h => h1 h.2)]
      go_enter Try.func24, Try.ntmps24
      go_wp2
      go_ret
      exact ⟨ret_bool (a := decide ((k.size : Int) ≤ 100)) (decide_eq_false (by omega)), rfl⟩
  · rw [decide_eq_false (fun h => h0 h.1)]
    go_enter Try.func24, Try.ntmps24
    go_wp2
    go_ret
    exact ⟨rfl, rfl⟩
set_option maxHeartbeats 400000 in
theorem wrev_st {n : Nat} {w : World} {s b : Nat} {S : Sto} {W : Wri} {g : Sg} {h : Wg} (H : Ow n w s b S W g h) (hr : S.rev ≤ 1000000) : Calls Try.prog 26 #[ptr b] w fun e w' => e = .returned (.int .i64 ((S.rev : Int) + 1)) ∧ w' = w := by
  obtain ⟨c0, -⟩ := H.wr.cells
  obtain ⟨d0, -⟩ := H.st.cells
  clear H
  go_enter Try.func26, Try.ntmps26
  go_wp2
  go_ret
  exact ⟨rfl, rfl⟩
end Go.Proofs.Ytjdmgmnndfhmgaa
/- Boxes of six cells (a key as it was put), and results that lie in them. -/
namespace Go.Proofs.Ytjdmgmnndfhmgaa
open Go Go.RowKit

theorem results_ct {P : Program} {fn : Func} {u q : Tmp} {ty : TypeId} (h : fn.results = #[.cell u ty, .tmp q]) (tmps : Array Value) (w : World) (g : Nat) (t : TypeId) (cs : Array Value) (fr : Nat × Nat) (d : TypeDesc)
    (hp : tmps.getD u undef = .pointer (some ⟨g, 0, none⟩)) (hg : w.heap[g]? = some (.cells cs t fr))
    (hu : P.underlying ty = some d) (hd : (match d with | .struct _ | .array _ _ => true | _ => false) = true) (hi : (P.info? ty).map (·.size) = some cs.size) :
    (results fn tmps).run P w = .ok (.tuple #[.agg cs, tmps.getD q undef]) w := by
  have hp' : tmps[u]?.getD undef = .pointer (some ⟨g, 0, none⟩) := by simpa using hp
  simp [results, h, hp', asAddr, run_loadVar_row w g t ty cs fr d hg hu hd hi]
theorem size56 : (Try.prog.info? 35).map (·.size) = some 6 := by kernel_rfl
theorem size76 : (Try.prog.info? 80).map (·.size) = some 6 := by kernel_rfl
section
variable {W : World} {gb t : Nat} {a0 a1 a2 a3 a4 a5 : Value} (h : W.heap[gb]? = some (.cells #[a0, a1, a2, a3, a4, a5] t (0, 0)))
include h
theorem box6 : (W.cell? ⟨gb, 0, none⟩ = some a0 ∧ W.cell? ⟨gb, 1, none⟩ = some a1 ∧ W.cell? ⟨gb, 2, none⟩ = some a2 ∧ W.cell? ⟨gb, 3, none⟩ = some a3 ∧ W.cell? ⟨gb, 4, none⟩ = some a4 ∧ W.cell? ⟨gb, 5, none⟩ = some a5) ∧
    W.frozen? ⟨gb, 0, none⟩ = false ∧ W.frozen? ⟨gb, 1, none⟩ = false ∧ W.frozen? ⟨gb, 2, none⟩ = false ∧ W.frozen? ⟨gb, 3, none⟩ = false ∧ W.frozen? ⟨gb, 4, none⟩ = false ∧ W.frozen? ⟨gb, 5, none⟩ = false :=
  ⟨⟨cell_of_row _ _ _ _ _ _ h, cell_of_row _ _ _ _ _ _ h, cell_of_row _ _ _ _ _ _ h, cell_of_row _ _ _ _ _ _ h, cell_of_row _ _ _ _ _ _ h, cell_of_row _ _ _ _ _ _ h⟩, frozen_of_row _ _ _ _ _ h, frozen_of_row _ _ _ _ _ h, frozen_of_row _ _ _ _ _ h, frozen_of_row _ _ _ _ _ h, frozen_of_row _ _ _ _ _ h, frozen_of_row _ _ _ _ _ h⟩
theorem set6 (v0 v1 v2 v3 v4 v5 : Value) : ((((((W.setCell ⟨gb, 0, none⟩ v0).setCell ⟨gb, 1, none⟩ v1).setCell ⟨gb, 2, none⟩ v2).setCell ⟨gb, 3, none⟩ v3).setCell ⟨gb, 4, none⟩ v4).setCell ⟨gb, 5, none⟩ v5).heap[gb]? = some (.cells #[v0, v1, v2, v3, v4, v5] t (0, 0)) :=
  heap_setCell_row (heap_setCell_row (heap_setCell_row (heap_setCell_row (heap_setCell_row (heap_setCell_row h v0) v1) v2) v3) v4) v5
end
theorem below6 {B : Nat} {w W : World} (h : Below B w W) {gb : Nat} (hg : B ≤ gb) (v0 v1 v2 v3 v4 v5 : Value) : Below B w ((((((W.setCell ⟨gb, 0, none⟩ v0).setCell ⟨gb, 1, none⟩ v1).setCell ⟨gb, 2, none⟩ v2).setCell ⟨gb, 3, none⟩ v3).setCell ⟨gb, 4, none⟩ v4).setCell ⟨gb, 5, none⟩ v5) :=
  (((((h.setCell hg _).setCell hg _).setCell hg _).setCell hg _).setCell hg _).setCell hg _
theorem cell6 {W : World} {k i gb : Nat} {v : Value} (h : W.cell? ⟨k, i, none⟩ = some v) (hne : ¬ k = gb) (v0 v1 v2 v3 v4 v5 : Value) : ((((((W.setCell ⟨gb, 0, none⟩ v0).setCell ⟨gb, 1, none⟩ v1).setCell ⟨gb, 2, none⟩ v2).setCell ⟨gb, 3, none⟩ v3).setCell ⟨gb, 4, none⟩ v4).setCell ⟨gb, 5, none⟩ v5).cell? ⟨k, i, none⟩ = some v := by
  have hn : ∀ j, (⟨k, i, none⟩ : Addr) ≠ ⟨gb, j, none⟩ := fun j e => hne (by cases e; rfl)
  rw [World.cell?_setCell_other _ _ _ _ (by first | exact hn _ | exact (hn _).symm), World.cell?_setCell_other _ _ _ _ (by first | exact hn _ | exact (hn _).symm), World.cell?_setCell_other _ _ _ _ (by first | exact hn _ | exact (hn _).symm), World.cell?_setCell_other _ _ _ _ (by first | exact hn _ | exact (hn _).symm), World.cell?_setCell_other _ _ _ _ (by first | exact hn _ | exact (hn _).symm), World.cell?_setCell_other _ _ _ _ (by first | exact hn _ | exact (hn _).symm)]
  exact h
theorem ta_must (x : Value) (W : World) : (Instr.typeAssert (.iface 80 x) 76 80 false).run Try.prog W = .ok x W := by kernel_rfl
theorem ta_yes (x : Value) (W : World) : (Instr.typeAssert (.iface 80 x) 76 80 true).run Try.prog W = .ok (.tuple #[x, .bool true]) W := by kernel_rfl
theorem ta_no (x : Value) (W : World) : (Instr.typeAssert (.iface 7979 x) 76 80 true).run Try.prog W = .ok (.tuple #[.agg #[.string ⟨#[]⟩, .string ⟨#[]⟩, .int .i64 0, .int .i64 0, .int .i64 0, .int .i64 0], .bool false]) W := by kernel_rfl
end Go.Proofs.Ytjdmgmnndfhmgaa
/- lastPut, at, look. -/
namespace Go.Proofs.Ytjdmgmnndfhmgaa
open Go Go.RowKit

def modOf (o : Option KVd) : Int := match o with | some kv => kv.mod | none => 0
theorem thF_get (S : Sto) (k : ByteArray) : (thF S k).getD (.int .i64 0) = .int .i64 (modOf (thereH (S.kh k))) := by
  unfold thF modOf
  cases thereH (S.kh k) <;> rfl
set_option maxRecDepth 100000 in
set_option maxHeartbeats 400000 in
/-- lastPut at the present. -/
theorem last_now {n : Nat} {w : World} {s : Nat} {S : Sto} {g : Sg} {o : Value} (h : St n w s S g o) (key : ByteArray) : Calls Try.prog 43 #[ptr s, .string key, .int .i64 S.rev] w fun e w' => e = .returned (.int .i64 (modOf (thereH (S.kh key)))) ∧ Below w.heap.size w w' := by
  have hb : Below w.heap.size w (w.alloc (.cells #[.int .i64 S.rev] 3)) := (Below.refl _ w).alloc (Nat.le_refl _) _
  have h1 := h.below hb
  have hbd : ∀ q, Below w.heap.size w ((w.alloc (.cells #[.int .i64 S.rev] 3)).drewN q) := fun q => by
    induction q with
    | zero => exact hb
    | succ q ih => exact ih.drew
  obtain ⟨c0, -, -, -, -, c5, -⟩ := h1.cells
  have hl : ∀ q, (Instr.lookup 51 (.map (some g.bt)) (.string key) false).run Try.prog ((w.alloc (.cells #[.int .i64 S.rev] 3)).drewN q) = .ok (.int .i64 (modOf (thereH (S.kh key)))) ((w.alloc (.cells #[.int .i64 S.rev] 3)).drewN q) := fun q => by
    rw [← thF_get]
    exact (h.below (hbd q)).th.look law65 Try.underlying51 (zero3 _) key false
  have HBD : ∀ q, Hid (Below w.heap.size w ((w.alloc (.cells #[.int .i64 S.rev] 3)).drewN q)) := fun q => hbd q
  clear h h1 hb hbd
  go_enter Try.func43, Try.ntmps43
  go_wp2
  go_quiet (fail)
  go_wp2
  go_ret
  exact ⟨rfl, (HBD _).out⟩
theorem find_mem : ∀ {h : Hs} {r : Int} {o : Option KVd}, h.Pairwise (fun p q => p.1 < q.1) → (r, o) ∈ h → h.find? (fun q => decide (q.1 = r)) = some (r, o)
  | [], _, _, _, hm => by cases hm
  | p :: h, r, o, hp, hm => by
    obtain ⟨h1, h2⟩ := List.pairwise_cons.1 hp
    rcases List.mem_cons.1 hm with rfl | hm
    · simp
    · have := h1 _ hm
      rw [List.find?_cons_of_neg (by simp; dsimp only at this; omega)]
      exact find_mem h2 hm
theorem chF_at {n : Nat} {w : World} {s : Nat} {S : Sto} {g : Sg} {o : Value} (h : St n w s S g o) {key : ByteArray} {rev : Int} {kv : KVd} (e : atH (S.kh key) rev = some kv) : chF S (kv.mod, key) = some (.iface 80 (encKV kv)) ∧ 0 < kv.mod := by
  obtain ⟨r, hm, _⟩ := atH_mem e
  obtain ⟨_, e2, _⟩ := (h.hok key).kv r kv hm
  have := ((h.hok key).pos _ hm).1
  rw [e2]
  refine ⟨?_, this⟩
  unfold chF
  rw [find_mem (h.hok key).asc hm]
  rfl
set_option maxRecDepth 100000 in
set_option maxHeartbeats 400000 in
/-- A key as it was at a revision. -/
theorem at_any {n : Nat} {w : World} {s : Nat} {S : Sto} {g : Sg} {o : Value} (h : St n w s S g o) (key : ByteArray) (rev : Int)
    (hl : ∀ W, Below w.heap.size w W → Calls Try.prog 43 #[ptr s, .string key, .int .i64 rev] W fun e w' => e = .returned (.int .i64 (modOf (atH (S.kh key) rev))) ∧ Below W.heap.size W w') :
    Calls Try.prog 34 #[ptr s, .string key, .int .i64 rev] w fun e w' => e = .returned (.tuple #[encKV ((atH (S.kh key) rev).getD noKV), .bool (atH (S.kh key) rev).isSome]) ∧ Below w.heap.size w w' := by
  have hb0 : Below w.heap.size w (w.alloc (.cells #[.string ⟨#[]⟩, .string ⟨#[]⟩, .int .i64 0, .int .i64 0, .int .i64 0, .int .i64 0] 35)) := (Below.refl _ w).alloc (Nat.le_refl _) _
  have hlast := hl _ hb0
  have r0 := row_alloc w #[.string ⟨#[]⟩, .string ⟨#[]⟩, .int .i64 0, .int .i64 0, .int .i64 0, .int .i64 0] 35
  generalize hV : w.alloc (.cells #[.string ⟨#[]⟩, .string ⟨#[]⟩, .int .i64 0, .int .i64 0, .int .i64 0, .int .i64 0] 35) = V at *
  have hVs : V.heap.size = w.heap.size + 1 := by rw [← hV]; simp
  have HL : Hid (∀ W kv, Below w.heap.size w W → atH (S.kh key) rev = some kv → (Instr.lookup 49 (.map (some g.bc)) (.agg #[.int .i64 kv.mod, .string key]) false).run Try.prog W = .ok (.iface 80 (encKV kv)) W) := fun W kv hb e => by
    have := (h.below hb).ch.look law60 Try.underlying49 (zero71 _) (kv.mod, key) false
    rw [(chF_at h e).1] at this
    exact this
  have HC : Hid (∀ W, Below w.heap.size w W → W.cell? ⟨s, 3, none⟩ = some (.map (some g.bc))) := fun W hb => (h.below hb).cells.2.2.2.1
  have HP : Hid (∀ kv, atH (S.kh key) rev = some kv → ¬ kv.mod = 0) := fun kv e => by have := (chF_at h e).2; omega
  clear hl
  cases e : atH (S.kh key) rev with
  | none =>
    rw [e] at hlast
    dsimp only [modOf] at hlast
    clear h e HL HC HP
    go_enter Try.func34, Try.ntmps34
    go_upto_region 3 with (go_at_call 43; refine hlast.mono ?_; rintro e w3 ⟨rfl, hb3⟩)
    have r3 := (hb3.block w.heap.size (by omega)).trans r0
    have HB : Hid (Below w.heap.size w w3) := hb0.trans (hb3.mono (by omega))
    obtain ⟨⟨k0, k1, k2, k3, k4, k5⟩, f0, f1, f2, f3, f4, f5⟩ := box6 r3
    have HR := Hid.mk'' r3
    clear r3 r0 hb3 hlast hb0 hVs hV
    go_wp2
    refine bodyPost_ret (results_ct rfl _ _ w.heap.size 35 #[.string ⟨#[]⟩, .string ⟨#[]⟩, .int .i64 0, .int .i64 0, .int .i64 0, .int .i64 0] (0, 0) _ rfl (set6 HR.out _ _ _ _ _ _) Try.underlying35 rfl size56) rfl ?_
    exact ⟨rfl, below6 HB.out (Nat.le_refl _) _ _ _ _ _ _⟩
  | some kv =>
    rw [e] at hlast
    dsimp only [modOf] at hlast
    have hnz := HP.out kv e
    have HL2 : Hid (∀ W, Below w.heap.size w W → (Instr.lookup 49 (.map (some g.bc)) (.agg #[.int .i64 kv.mod, .string key]) false).run Try.prog W = .ok (.iface 80 (encKV kv)) W) := fun W hb => HL.out W kv hb e
    clear h e HL HP
    obtain ⟨kk, kvv, kcr, kmo, kve, kle⟩ := kv
    dsimp only [encKV] at hlast hnz HL2
    go_enter Try.func34, Try.ntmps34
    go_upto_region 4 with (go_at_call 43; refine hlast.mono ?_; rintro e w3 ⟨rfl, hb3⟩)
    have r3 := (hb3.block w.heap.size (by omega)).trans r0
    have HB : Hid (Below w.heap.size w w3) := hb0.trans (hb3.mono (by omega))
    obtain ⟨⟨k0, k1, k2, k3, k4, k5⟩, f0, f1, f2, f3, f4, f5⟩ := box6 r3
    have HR := Hid.mk'' r3
    have c3 := HC.out _ HB.out
    have hlk := HL2.out _ HB.out
    clear r3 r0 hb3 hlast hb0 hVs HC HL2 hV
    have hta := ta_must
    go_wp2
    refine bodyPost_ret (results_ct rfl _ _ w.heap.size 35 #[.string kk, .string kvv, .int .i64 kcr, .int .i64 kmo, .int .i64 kve, .int .i64 kle] (0, 0) _ rfl (set6 HR.out _ _ _ _ _ _) Try.underlying35 rfl size56) rfl ?_
    exact ⟨rfl, below6 HB.out (Nat.le_refl _) _ _ _ _ _ _⟩
end Go.Proofs.Ytjdmgmnndfhmgaa
/- A key as a write sees it. -/
namespace Go.Proofs.Ytjdmgmnndfhmgaa
open Go Go.RowKit

theorem at_now {n : Nat} {w : World} {s : Nat} {S : Sto} {g : Sg} {o : Value} (h : St n w s S g o) (key : ByteArray) :
    Calls Try.prog 34 #[ptr s, .string key, .int .i64 S.rev] w fun e w' => e = .returned (.tuple #[encKV ((thereH (S.kh key)).getD noKV), .bool (thereH (S.kh key)).isSome]) ∧ Below w.heap.size w w' := by
  have ha : atH (S.kh key) S.rev = thereH (S.kh key) := atH_all (fun p hp => ((h.hok key).pos p hp).2)
  have := at_any h key S.rev (fun W hb => by rw [ha]; exact last_now (h.below hb) key)
  rw [ha] at this
  exact this
/-- A key behind what a write has done. -/
def lookW (S : Sto) (W : Wri) (key : ByteArray) : Option KVd := (W.ch key).getD (thereH (S.kh key))
set_option maxRecDepth 100000 in
set_option maxHeartbeats 400000 in
theorem look_st {n : Nat} {w : World} {s b : Nat} {S : Sto} {W : Wri} {g : Sg} {h : Wg} (H : Ow n w s b S W g h) (key : ByteArray) :
    Calls Try.prog 25 #[ptr b, .string key] w fun e w' => e = .returned (.tuple #[encKV ((lookW S W key).getD noKV), .bool (lookW S W key).isSome]) ∧ Below w.heap.size w w' := by
  have hb0 : Below w.heap.size w (w.alloc (.cells #[.string ⟨#[]⟩, .string ⟨#[]⟩, .int .i64 0, .int .i64 0, .int .i64 0, .int .i64 0] 35)) := (Below.refl _ w).alloc (Nat.le_refl _) _
  have r0 := row_alloc w #[.string ⟨#[]⟩, .string ⟨#[]⟩, .int .i64 0, .int .i64 0, .int .i64 0, .int .i64 0] 35
  generalize hV : w.alloc (.cells #[.string ⟨#[]⟩, .string ⟨#[]⟩, .int .i64 0, .int .i64 0, .int .i64 0, .int .i64 0] 35) = V at *
  have hVs : V.heap.size = w.heap.size + 1 := by rw [← hV]; simp
  have HV := Hid.mk'' (H.below hb0)
  obtain ⟨c0, -, c2, -⟩ := HV.out.wr.cells
  have hlk : (Instr.lookup 70 (.map (some h.bw)) (.string key) false).run Try.prog V = .ok ((wcF W key).getD .nilIface) V := HV.out.wr.mp.look law65 Try.underlying70 (zero71 _) key false
  unfold lookW
  cases e : W.ch key with
  | none =>
    have e2 : wcF W key = none := by unfold wcF; rw [e]; rfl
    rw [e2] at hlk
    dsimp only [Option.getD_none] at hlk ⊢
    obtain ⟨d0, -⟩ := HV.out.st.cells
    have hbl : b < w.heap.size := (Array.getElem?_eq_some_iff.1 H.wr.blk).1
    have hsl : s < w.heap.size := (Array.getElem?_eq_some_iff.1 H.st.blk).1
    clear e e2 H
    go_enter Try.func25, Try.ntmps25
    go_upto_region 3 with fail
    have hdr : Below V.heap.size V V.drew := (Below.refl _ _).drew
    have hat := at_now (HV.out.st.below hdr) key
    have HR0 := Hid.mk'' r0
    have HB0 := Hid.mk'' hb0
    have c0d : V.drew.cell? ⟨b, 0, none⟩ = some (ptr s) := c0
    have d0d : V.drew.cell? ⟨s, 0, none⟩ = some (.int .i64 S.rev) := d0
    generalize hkv : (thereH (S.kh key)).getD noKV = kv at *
    generalize hth : (thereH (S.kh key)).isSome = th at *
    have HKV := Hid.mk'' hkv
    have HTH := Hid.mk'' hth
    obtain ⟨kk, kvv, kcr, kmo, kve, kle⟩ := kv
    dsimp only [encKV] at hat
    have hS0 : V.drew.cell? ⟨b, 0, none⟩ = some (ptr s) ∧ V.drew.cell? ⟨s, 0, none⟩ = some (.int .i64 S.rev) := ⟨c0, d0⟩
    have HN : ∀ W, Hid (Below V.heap.size V.drew W → W.cell? ⟨b, 0, none⟩ = some (ptr s) ∧ W.cell? ⟨s, 0, none⟩ = some (.int .i64 S.rev)) := fun W hb => ⟨(hb.cell (p := ⟨b, 0, none⟩) (by show b < _; omega)).trans c0, (hb.cell (p := ⟨s, 0, none⟩) (by show s < _; omega)).trans d0⟩
    have HRW : ∀ W, Hid (Below V.heap.size V.drew W → W.heap[w.heap.size]? = some (.cells #[.string ⟨#[]⟩, .string ⟨#[]⟩, .int .i64 0, .int .i64 0, .int .i64 0, .int .i64 0] 35 (0, 0)) ∧ Hid (Below w.heap.size w W)) := fun W hb => ⟨(hb.block w.heap.size (by omega)).trans r0, hb0.drew.trans (hb.mono hb0.size)⟩
    have hn1 : ¬ b = w.heap.size := by omega
    have hn2 : ¬ s = w.heap.size := by omega
    have hn3 : ¬ w.heap.size = b := by omega
    have hn4 : ¬ w.heap.size = s := by omega
    clear HV hdr hkv hth r0 hb0 hV hVs c0 c2 d0 hlk hbl hsl
    go_region_held_law (fun W => W.cell? ⟨b, 0, none⟩ = some (ptr s) ∧ W.cell? ⟨s, 0, none⟩ = some (.int .i64 S.rev)) (first | with_reducible assumption | (show _ ∧ _; with_reducible assumption) | with_reducible exact ⟨cell6 hS3.1 hn1 _ _ _ _ _ _, cell6 hS3.2 hn2 _ _ _ _ _ _⟩) (first | (go_at_call 34; refine hat.mono ?_; rintro e w3 ⟨rfl, hb3⟩; have hS3 := (HN w3).out hb3; obtain ⟨r3, HB⟩ := (HRW w3).out hb3; obtain ⟨⟨k0, k1, k2, k3, k4, k5⟩, f0, f1, f2, f3, f4, f5⟩ := box6 r3; have HR := Hid.mk'' r3; clear r3 hb3 hat))
    all_goals
      go_wp2
      refine bodyPost_ret (results_ct rfl _ _ w.heap.size 35 #[.string kk, .string kvv, .int .i64 kcr, .int .i64 kmo, .int .i64 kve, .int .i64 kle] (0, 0) _ rfl (set6 HR.out _ _ _ _ _ _) Try.underlying35 rfl size56) rfl ?_
      exact ⟨by rw [HKV.out, HTH.out]; rfl, below6 HB.out (Nat.le_refl _) _ _ _ _ _ _⟩
  | some o =>
    have e2 : wcF W key = some (encC key o) := by unfold wcF; rw [e]; rfl
    rw [e2] at hlk
    dsimp only [Option.getD_some] at hlk ⊢
    clear e e2 H HV
    obtain ⟨ti, xi, kv, th, hni, hkt, hta⟩ : ∃ ti xi kv th, encC key o = .iface ti xi ∧ Hid (o.getD noKV = kv ∧ o.isSome = th) ∧ ∀ W, (Instr.typeAssert (.iface ti xi) 76 80 true).run Try.prog W = .ok (.tuple #[encKV kv, .bool th]) W := by
      cases o with
      | none => exact ⟨7979, _, noKV, false, rfl, ⟨rfl, rfl⟩, fun W => ta_no _ W⟩
      | some kv => exact ⟨80, _, kv, true, rfl, ⟨rfl, rfl⟩, fun W => ta_yes _ W⟩
    rw [hni] at hlk
    obtain ⟨kk, kvv, kcr, kmo, kve, kle⟩ := kv
    dsimp only [encKV] at hta
    clear hni
    go_enter Try.func25, Try.ntmps25
    go_upto_region 5 with fail
    obtain ⟨w2, hw2⟩ : ∃ w2, w2 = V.alloc (.cells #[.string kk, .string kvv, .int .i64 kcr, .int .i64 kmo, .int .i64 kve, .int .i64 kle] 80) := ⟨_, rfl⟩
    rw [← hw2]
    have hrow := (heap_alloc_old V (.cells #[.string kk, .string kvv, .int .i64 kcr, .int .i64 kmo, .int .i64 kve, .int .i64 kle] 80) (show w.heap.size < V.heap.size by omega)).trans r0
    have hbox := row_alloc V #[.string kk, .string kvv, .int .i64 kcr, .int .i64 kmo, .int .i64 kve, .int .i64 kle] 80
    have HB2 := Hid.mk'' (hb0.alloc (by omega) (.cells #[.string kk, .string kvv, .int .i64 kcr, .int .i64 kmo, .int .i64 kve, .int .i64 kle] 80))
    rw [← hw2] at hrow hbox HB2
    rw [hVs] at hbox
    obtain ⟨⟨k0, k1, k2, k3, k4, k5⟩, f0, f1, f2, f3, f4, f5⟩ := box6 hrow
    obtain ⟨⟨b0, b1, b2, b3, b4, b5⟩, -⟩ := box6 hbox
    have HR2 := Hid.mk'' hrow
    clear hw2 hrow hbox hV hVs hb0 r0 c0 c2 hlk hta
    go_wp2
    refine bodyPost_ret (results_ct rfl _ _ w.heap.size 35 #[.string kk, .string kvv, .int .i64 kcr, .int .i64 kmo, .int .i64 kve, .int .i64 kle] (0, 0) _ rfl (set6 HR2.out _ _ _ _ _ _) Try.underlying35 rfl size56) rfl ?_
    exact ⟨by rw [hkt.out.1, hkt.out.2]; rfl, below6 HB2.out (Nat.le_refl _) _ _ _ _ _ _⟩
end Go.Proofs.Ytjdmgmnndfhmgaa
