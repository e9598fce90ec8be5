/- A change as it is told, and rows of them. -/
import Derived.Test.YtjdmgmnndfhmgaaGRA
import Derived.Test.YtjdmgmnndfhmgaaGRB
import Derived.Deep.LoopGhost
import Derived.Deep.QuietTactic
import Derived.BigQuiet
import Derived.Deep.CutRange
import Derived.Deep.RegionHeldLaw
namespace Go.Proofs.Ytjdmgmnndfhmgaa
open Go Go.RowKit

/-- What was done to a key at a revision, as it is told. -/
def evKV (rev : Int) (key : ByteArray) : Option KVd → KVd
  | some kv => kv
  | none => ⟨key, ByteArray.empty, 0, rev, 0, 0⟩
def evC (rev : Int) (del : Bool) (k : KVd) : Array Value := #[.int .i64 rev, .bool del, .string k.key, .string k.value, .int .i64 k.create, .int .i64 k.mod, .int .i64 k.version, .int .i64 k.lease]
def encEv (rev : Int) (key : ByteArray) (c : Option KVd) : Value := .agg (evC rev c.isNone (evKV rev key c))
theorem results_c1 {P : Program} {fn : Func} {u : Tmp} {ty : TypeId} (h : fn.results = #[.cell u ty]) (tmps : Array Value) (w : World) (g : Nat) (t : TypeId) (cs : Array Value) (fr : Nat × Nat) (d : TypeDesc)
    (hp : tmps.getD u undef = .pointer (some ⟨g, 0, none⟩)) (hg : w.heap[g]? = some (.cells cs t fr))
    (hu : P.underlying ty = some d) (hd : (match d with | .struct _ | .array _ _ => true | _ => false) = true) (hi : (P.info? ty).map (·.size) = some cs.size) :
    (results fn tmps).run P w = .ok (.agg cs) w := by
  have hp' : tmps[u]?.getD undef = .pointer (some ⟨g, 0, none⟩) := by simpa using hp
  simp [results, h, hp', asAddr, run_loadVar_row w g t ty cs fr d hg hu hd hi]
theorem size85 : (Try.prog.info? 37).map (·.size) = some 8 := by kernel_rfl
section
variable {W : World} {gb t : Nat} {a0 a1 a2 a3 a4 a5 a6 a7 : Value} (h : W.heap[gb]? = some (.cells #[a0, a1, a2, a3, a4, a5, a6, a7] t (0, 0)))
include h
theorem box8 : (W.cell? ⟨gb, 0, none⟩ = some a0 ∧ W.cell? ⟨gb, 1, none⟩ = some a1 ∧ W.cell? ⟨gb, 2, none⟩ = some a2 ∧ W.cell? ⟨gb, 3, none⟩ = some a3 ∧ W.cell? ⟨gb, 4, none⟩ = some a4 ∧ W.cell? ⟨gb, 5, none⟩ = some a5 ∧ W.cell? ⟨gb, 6, none⟩ = some a6 ∧ W.cell? ⟨gb, 7, none⟩ = some a7) ∧
    W.frozen? ⟨gb, 0, none⟩ = false ∧ W.frozen? ⟨gb, 1, none⟩ = false ∧ W.frozen? ⟨gb, 2, none⟩ = false ∧ W.frozen? ⟨gb, 3, none⟩ = false ∧ W.frozen? ⟨gb, 4, none⟩ = false ∧ W.frozen? ⟨gb, 5, none⟩ = false ∧ W.frozen? ⟨gb, 6, none⟩ = false ∧ W.frozen? ⟨gb, 7, none⟩ = false :=
  ⟨⟨cell_of_row _ _ _ _ _ _ h, cell_of_row _ _ _ _ _ _ h, cell_of_row _ _ _ _ _ _ h, cell_of_row _ _ _ _ _ _ h, cell_of_row _ _ _ _ _ _ h, cell_of_row _ _ _ _ _ _ h, cell_of_row _ _ _ _ _ _ h, cell_of_row _ _ _ _ _ _ h⟩, frozen_of_row _ _ _ _ _ h, frozen_of_row _ _ _ _ _ h, frozen_of_row _ _ _ _ _ h, frozen_of_row _ _ _ _ _ h, frozen_of_row _ _ _ _ _ h, frozen_of_row _ _ _ _ _ h, frozen_of_row _ _ _ _ _ h, frozen_of_row _ _ _ _ _ h⟩
theorem set8 (v0 v1 v2 v3 v4 v5 v6 v7 : Value) : ((((((((W.setCell ⟨gb, 0, none⟩ v0).setCell ⟨gb, 1, none⟩ v1).setCell ⟨gb, 2, none⟩ v2).setCell ⟨gb, 3, none⟩ v3).setCell ⟨gb, 4, none⟩ v4).setCell ⟨gb, 5, none⟩ v5).setCell ⟨gb, 6, none⟩ v6).setCell ⟨gb, 7, none⟩ v7).heap[gb]? = some (.cells #[v0, v1, v2, v3, v4, v5, v6, v7] t (0, 0)) := by
  have e0 : (W.setCell ⟨gb, 0, none⟩ v0).heap[gb]? = some (.cells #[v0, a1, a2, a3, a4, a5, a6, a7] t (0, 0)) := heap_setCell_row h v0
  have e1 : ((W.setCell ⟨gb, 0, none⟩ v0).setCell ⟨gb, 1, none⟩ v1).heap[gb]? = some (.cells #[v0, v1, a2, a3, a4, a5, a6, a7] t (0, 0)) := heap_setCell_row e0 v1
  have e2 : (((W.setCell ⟨gb, 0, none⟩ v0).setCell ⟨gb, 1, none⟩ v1).setCell ⟨gb, 2, none⟩ v2).heap[gb]? = some (.cells #[v0, v1, v2, a3, a4, a5, a6, a7] t (0, 0)) := heap_setCell_row e1 v2
  have e3 : ((((W.setCell ⟨gb, 0, none⟩ v0).setCell ⟨gb, 1, none⟩ v1).setCell ⟨gb, 2, none⟩ v2).setCell ⟨gb, 3, none⟩ v3).heap[gb]? = some (.cells #[v0, v1, v2, v3, a4, a5, a6, a7] t (0, 0)) := heap_setCell_row e2 v3
  have e4 : (((((W.setCell ⟨gb, 0, none⟩ v0).setCell ⟨gb, 1, none⟩ v1).setCell ⟨gb, 2, none⟩ v2).setCell ⟨gb, 3, none⟩ v3).setCell ⟨gb, 4, none⟩ v4).heap[gb]? = some (.cells #[v0, v1, v2, v3, v4, a5, a6, a7] t (0, 0)) := heap_setCell_row e3 v4
  have e5 : ((((((W.setCell ⟨gb, 0, none⟩ v0).setCell ⟨gb, 1, none⟩ v1).setCell ⟨gb, 2, none⟩ v2).setCell ⟨gb, 3, none⟩ v3).setCell ⟨gb, 4, none⟩ v4).setCell ⟨gb, 5, none⟩ v5).heap[gb]? = some (.cells #[v0, v1, v2, v3, v4, v5, a6, a7] t (0, 0)) := heap_setCell_row e4 v5
  have e6 : (((((((W.setCell ⟨gb, 0, none⟩ v0).setCell ⟨gb, 1, none⟩ v1).setCell ⟨gb, 2, none⟩ v2).setCell ⟨gb, 3, none⟩ v3).setCell ⟨gb, 4, none⟩ v4).setCell ⟨gb, 5, none⟩ v5).setCell ⟨gb, 6, none⟩ v6).heap[gb]? = some (.cells #[v0, v1, v2, v3, v4, v5, v6, a7] t (0, 0)) := heap_setCell_row e5 v6
  have e7 : ((((((((W.setCell ⟨gb, 0, none⟩ v0).setCell ⟨gb, 1, none⟩ v1).setCell ⟨gb, 2, none⟩ v2).setCell ⟨gb, 3, none⟩ v3).setCell ⟨gb, 4, none⟩ v4).setCell ⟨gb, 5, none⟩ v5).setCell ⟨gb, 6, none⟩ v6).setCell ⟨gb, 7, none⟩ v7).heap[gb]? = some (.cells #[v0, v1, v2, v3, v4, v5, v6, v7] t (0, 0)) := heap_setCell_row e6 v7
  exact e7
end
theorem below8 {B : Nat} {w W : World} (h : Below B w W) {gb : Nat} (hg : B ≤ gb) (v0 v1 v2 v3 v4 v5 v6 v7 : Value) : Below B w ((((((((W.setCell ⟨gb, 0, none⟩ v0).setCell ⟨gb, 1, none⟩ v1).setCell ⟨gb, 2, none⟩ v2).setCell ⟨gb, 3, none⟩ v3).setCell ⟨gb, 4, none⟩ v4).setCell ⟨gb, 5, none⟩ v5).setCell ⟨gb, 6, none⟩ v6).setCell ⟨gb, 7, none⟩ v7) :=
  (((((((h.setCell hg _).setCell hg _).setCell hg _).setCell hg _).setCell hg _).setCell hg _).setCell hg _).setCell hg _
/-- A change that is told: its revision, its key, what was done. -/
abbrev Evd := Int × ByteArray × Option KVd
def evL (e : Evd) : List Value := (evC e.1 e.2.2.isNone (evKV e.1 e.2.1 e.2.2)).toList
def evsC (l : List Evd) : List Value := l.flatMap evL
theorem evsC_len (l : List Evd) : (evsC l).length = l.length * 8 := by
  unfold evsC
  rw [List.length_flatMap]
  induction l with
  | nil => rfl
  | cons a l ih => simp only [List.map_cons, List.sum_cons, List.length_cons, ih]; simp [evL, evC]; omega
theorem info85 : (Try.prog.info? 37).map (fun i => (i.zero, i.size, i.bytes)) = some (some (.agg #[.int .i64 0, .bool false, .string ⟨#[]⟩, .string ⟨#[]⟩, .int .i64 0, .int .i64 0, .int .i64 0, .int .i64 0]), 8, 80) := by kernel_rfl
/-- A row of changes that was told. -/
def ER (w wr : World) (v : Value) (l : List Evd) : Prop := wr.ownsRow w.heap.size 37 8 v l.length (evsC l) ∧ Below w.heap.size w wr
end Go.Proofs.Ytjdmgmnndfhmgaa
/- Who hears of a key: an ear's methods, asked of a watcher. -/
namespace Go.Proofs.Ytjdmgmnndfhmgaa
open Go Go.RowKit

theorem Hid.mkW {p : Prop} (h : p) : Hid p := h
theorem list_beq (a b : ByteArray) : (a.toList == b.toList) = decide (a = b) := by
  rw [toList_data, toList_data]
  by_cases h : a = b
  · subst h; simp
  · have : a.data.toList ≠ b.data.toList := fun e => h (bytes_ext e)
    rw [decide_eq_false h]
    exact beq_eq_false_iff_ne.2 this
theorem isEmpty_list (a : ByteArray) : a.toList.isEmpty = decide (a = ByteArray.empty) := by
  rw [toList_data]
  by_cases h : a = ByteArray.empty
  · subst h; rfl
  · rw [decide_eq_false h]
    cases e : a.data.toList with
    | nil => exact absurd (bytes_ext (b := ByteArray.empty) (by rw [e]; rfl)) h
    | cons x r => rfl
theorem leq_klt (a b : ByteArray) : (Op.bytesLess a.toList b.toList || a.toList == b.toList) = !klt b a := by
  rw [bl_data, list_beq]
  by_cases e : a = b
  · subst e; simp [klt_irrefl]
  · rw [decide_eq_false e, Bool.or_false]
    cases h1 : klt a b <;> cases h2 : klt b a
    · exact absurd (klt_tri h1 h2) e
    · rfl
    · rfl
    · have := klt_trans h1 h2; rw [klt_irrefl] at this; cases this
/-- Does a key lie in a range? -/
def inR (lo hi k : ByteArray) : Bool := if hi = ByteArray.empty then decide (k = lo) else !klt k lo && klt k hi
set_option maxRecDepth 100000 in
set_option maxHeartbeats 1000000 in
theorem hears_any (b : Nat) (lo hi key : ByteArray) (w : World) (h0 : w.cell? ⟨b, 0, none⟩ = some (.string lo)) (h1 : w.cell? ⟨b, 1, none⟩ = some (.string hi)) : Calls Try.prog 97 #[ptr b, .string key] w fun e w' => e = .returned (.bool (inR lo hi key)) ∧ w' = w := by
  by_cases hh : hi = ByteArray.empty
  · have e : inR lo hi key = decide (key = lo) := by simp [inR, hh]
    rw [e]
    subst hh
    go_enter Try.func97, Try.ntmps97
    go_wp2
    go_ret
    refine ⟨?_, rfl⟩
    show Ending.returned (Value.bool (key.toList == lo.toList)) = _
    rw [list_beq]
  · have e : inR lo hi key = (!klt key lo && klt key hi) := by simp [inR, hh]
    have he : hi.toList.isEmpty = false := by rw [isEmpty_list]; simp [hh]
    have hge := leq_klt lo key
    have HE := Hid.mkW e
    clear e hh
    cases hk : klt key lo with
    | true =>
      rw [hk] at hge
      go_enter Try.func97, Try.ntmps97
      go_wp2
      go_ret
      refine ⟨?_, rfl⟩
      rw [HE.out, hk]
      rfl
    | false =>
      rw [hk] at hge
      go_enter Try.func97, Try.ntmps97
      go_wp2
      go_ret
      refine ⟨?_, rfl⟩
      rw [HE.out, hk]
      rw [← bl_data key hi]
      rfl
theorem from_any (b : Nat) (p : Int) (w : World) (h : w.cell? ⟨b, 2, none⟩ = some (.int .i64 p)) : Calls Try.prog 96 #[ptr b] w fun e w' => e = .returned (.int .i64 p) ∧ w' = w := by
  go_enter Try.func96, Try.ntmps96
  go_wp2
  go_ret
  exact ⟨rfl, rfl⟩
/-- An ear in memory, behind a watcher of one of both kinds. -/
structure Ear (w : World) (t b : Nat) (lo hi : ByteArray) (place : Int) : Prop where
  ty : t = 58 ∨ t = 67
  lo : w.cell? ⟨b, 0, none⟩ = some (.string lo)
  hi : w.cell? ⟨b, 1, none⟩ = some (.string hi)
  place : w.cell? ⟨b, 2, none⟩ = some (.int .i64 place)
theorem Ear.upd {w w' : World} {T : Nat → Prop} {t b : Nat} {lo hi : ByteArray} {p : Int} (h : Ear w t b lo hi p) (hu : Upd w w' T) (hb : ¬ T b) : Ear w' t b lo hi p :=
  ⟨h.ty, (hu.cell (p := ⟨b, 0, none⟩) (World.block_lt_of_cell? _ _ h.lo) hb).trans h.lo, (hu.cell (p := ⟨b, 1, none⟩) (World.block_lt_of_cell? _ _ h.hi) hb).trans h.hi, (hu.cell (p := ⟨b, 2, none⟩) (World.block_lt_of_cell? _ _ h.place) hb).trans h.place⟩
theorem Ear.below {w w' : World} {t b : Nat} {lo hi : ByteArray} {p : Int} (h : Ear w t b lo hi p) (hb : Below w.heap.size w w') : Ear w' t b lo hi p := h.upd (T := fun _ => False) (Upd.ofBelow hb) (fun e => e)
set_option maxRecDepth 100000 in
set_option maxHeartbeats 1000000 in
theorem deaf_any (w : World) (t b q : Nat) (lo hi : ByteArray) (p : Int) (E : Ear w t b lo hi p) (hq : w.cell? ⟨q, 0, none⟩ = some (.iface t (ptr b))) (rev : Int) (d : Bool) (k : KVd) :
    Calls Try.prog 41 #[.agg (evC rev d k), ptr q] w fun e w' => e = .returned (.bool (!inR lo hi k.key)) ∧ Below w.heap.size w w' := by
  obtain ⟨w1, hw1⟩ : ∃ w1, w1 = w.alloc (.cells (evC rev d k) 37) := ⟨_, rfl⟩
  have hb1 : Below w.heap.size w w1 := by rw [hw1]; exact (Below.refl _ w).alloc (Nat.le_refl _) _
  have r1 : w1.heap[w.heap.size]? = some (.cells (evC rev d k) 37 (0, 0)) := by rw [hw1]; exact row_alloc w _ _
  have E1 := E.below hb1
  have q1 := (hb1.cell (p := ⟨q, 0, none⟩) (World.block_lt_of_cell? _ _ hq)).trans hq
  have hcall := hears_any b lo hi k.key w1 E1.lo E1.hi
  have c2 := (box8 r1).1.2.2.1
  rcases E.ty with rfl | rfl
  all_goals
    unfold evC at hw1 ⊢
    have HB := Hid.mkW hb1
    clear E E1 hb1 r1 hq
    go_enter Try.func41, Try.ntmps41
    go_upto_region 1 with fail
    rw [← hw1]
    obtain ⟨g, hg⟩ : ∃ g, g = w.heap.size := ⟨_, rfl⟩
    rw [← hg] at c2 ⊢
    clear hw1 hg
    go_wp2_with (go_at_call 97; refine hcall.mono ?_; rintro e w' ⟨rfl, hw'⟩; obtain rfl := hw'.symm)
    go_ret
    exact ⟨rfl, HB.out⟩
end Go.Proofs.Ytjdmgmnndfhmgaa
/- Three nodes side by side: a node, and two kids of it. -/
namespace Go.Proofs.Ytjdmgmnndfhmgaa
open Go Go.RowKit
section
variable {W W' : World} {A A' B B' C C' : List Nat}
theorem Step.at1 (h : Step W W' A A') (hn : (A ++ B ++ C).Nodup) (hl : ∀ k ∈ A ++ B ++ C, k < W.heap.size) : Step W W' (A ++ B ++ C) (A' ++ B ++ C) := by
  have := h.frame (B ++ C) (by rw [← List.append_assoc]; exact hn) (fun k hk => hl k (by simp only [List.mem_append] at hk ⊢; rcases hk with hk | hk; exact .inl (.inr hk); exact .inr hk))
  rwa [← List.append_assoc, ← List.append_assoc] at this
theorem Step.at2 (h : Step W W' B B') (hn : (A ++ B ++ C).Nodup) (hl : ∀ k ∈ A ++ B ++ C, k < W.heap.size) : Step W W' (A ++ B ++ C) (A ++ B' ++ C) := by
  have p : ∀ X : List Nat, (X ++ A ++ C).Perm (A ++ X ++ C) := fun X => List.Perm.append_right _ List.perm_append_comm
  exact (Step.at1 (B := A) (C := C) h ((p B).nodup_iff.2 hn) (fun k hk => hl k ((p B).mem_iff.1 hk))).perm (p B) (p B')
theorem Step.at3 (h : Step W W' C C') (hn : (A ++ B ++ C).Nodup) (hl : ∀ k ∈ A ++ B ++ C, k < W.heap.size) : Step W W' (A ++ B ++ C) (A ++ B ++ C') := by
  have p : ∀ X : List Nat, (X ++ A ++ B).Perm (A ++ B ++ X) := fun X => by rw [List.append_assoc]; exact List.perm_append_comm
  exact (Step.at1 (B := A) (C := B) h ((p C).nodup_iff.2 hn) (fun k hk => hl k ((p C).mem_iff.1 hk))).perm (p C) (p C')
theorem nd3 (hn : (A ++ B ++ C).Nodup) : (∀ k ∈ A, k ∉ B) ∧ (∀ k ∈ A, k ∉ C) ∧ (∀ k ∈ B, k ∉ C) := by
  simp only [List.nodup_append, List.mem_append] at hn
  exact ⟨fun k ha hb => hn.1.2.2 k ha k hb rfl, fun k ha hc => hn.2.2 k (.inl ha) k hc rfl, fun k hb hc => hn.2.2 k (.inr hb) k hc rfl⟩
theorem Step.new {F : List Nat} (o : Obj) (h : F.Nodup) (hl : ∀ k ∈ F, k < W.heap.size) : Step W (W.alloc o) F (F ++ [W.heap.size]) := by
  refine ⟨Upd.alloc _ _ _, List.nodup_append.2 ⟨h, by simp, fun a ha b hb e => ?_⟩, fun k hk => ?_, fun k hk => ?_⟩
  · simp at hb; subst hb; subst e; have := hl _ ha; omega
  · simp only [List.mem_append, List.mem_singleton] at hk
    exact hk.imp id (fun e => by omega)
  · simp only [List.mem_append, List.mem_singleton] at hk
    simp only [World.size_alloc]
    rcases hk with hk | rfl
    · have := hl k hk; omega
    · omega
end
structure Tri (w0 W : World) (F0 : List Nat) (b : Nat) (iv kv : Value) (its : List Itm) (ks : List Nat) (l : Nat) (liv lkv : Value) (lits : List Itm) (lks : List Nat) (r : Nat) (riv rkv : Value) (rits : List Itm) (rks : List Nat) : Prop where
  hn : Nod W b iv kv its ks
  hl : Nod W l liv lkv lits lks
  hr : Nod W r riv rkv rits rks
  s : Step w0 W F0 (nf b iv kv ++ nf l liv lkv ++ nf r riv rkv)
section
variable {w0 W W' : World} {F0 : List Nat} {b : Nat} {iv kv iv' kv' : Value} {its its' : List Itm} {ks ks' : List Nat} {l : Nat} {liv lkv liv' lkv' : Value} {lits lits' : List Itm} {lks lks' : List Nat} {r : Nat} {riv rkv riv' rkv' : Value} {rits rits' : List Itm} {rks rks' : List Nat}
  (h : Tri w0 W F0 b iv kv its ks l liv lkv lits lks r riv rkv rits rks)
include h
theorem Tri.onN (hN : Nod W' b iv' kv' its' ks') (hs : Step W W' (nf b iv kv) (nf b iv' kv')) : Tri w0 W' F0 b iv' kv' its' ks' l liv lkv lits lks r riv rkv rits rks := by
  obtain ⟨d1, d2, d3⟩ := nd3 h.s.nd
  exact ⟨hN, hs.keep h.hl (fun k hk hk' => d1 k hk' hk), hs.keep h.hr (fun k hk hk' => d2 k hk' hk), h.s.trans (hs.at1 h.s.nd h.s.lt)⟩
theorem Tri.onL (hN : Nod W' l liv' lkv' lits' lks') (hs : Step W W' (nf l liv lkv) (nf l liv' lkv')) : Tri w0 W' F0 b iv kv its ks l liv' lkv' lits' lks' r riv rkv rits rks := by
  obtain ⟨d1, d2, d3⟩ := nd3 h.s.nd
  exact ⟨hs.keep h.hn d1, hN, hs.keep h.hr (fun k hk hk' => d3 k hk' hk), h.s.trans (hs.at2 h.s.nd h.s.lt)⟩
theorem Tri.onR (hN : Nod W' r riv' rkv' rits' rks') (hs : Step W W' (nf r riv rkv) (nf r riv' rkv')) : Tri w0 W' F0 b iv kv its ks l liv lkv lits lks r riv' rkv' rits' rks' := by
  obtain ⟨d1, d2, d3⟩ := nd3 h.s.nd
  exact ⟨hs.keep h.hn d2, hs.keep h.hl d3, hN, h.s.trans (hs.at3 h.s.nd h.s.lt)⟩
theorem Tri.below (hb : Below W.heap.size W W') : Tri w0 W' F0 b iv kv its ks l liv lkv lits lks r riv rkv rits rks :=
  ⟨h.hn.below hb, h.hl.below hb, h.hr.below hb, h.s.trans (Step.below hb h.s.nd h.s.lt)⟩
end
/-- A row beside what turns. -/
theorem row_beside {W W' : World} {u : Nat} {x : Array Value} {t : TypeId} (hu : W.heap[u]? = some (.cells x t (0, 0))) {G G' : List Nat} (hs : Step W W' G G') (hn : u ∉ G) : W'.heap[u]? = some (.cells x t (0, 0)) :=
  (hs.upd.block u (Array.getElem?_eq_some_iff.1 hu).1 hn).trans hu
theorem beside {W W' : World} {u : Nat} {x : Array Value} {t : TypeId} {F F' : List Nat} (hs : Step W W' F F') (hu : W.heap[u]? = some (.cells x t (0, 0))) (hn : u ∉ F) : W'.heap[u]? = some (.cells x t (0, 0)) ∧ u ∉ F' :=
  ⟨row_beside hu hs hn, fun h => (hs.sub u h).elim hn (fun h => by have := (Array.getElem?_eq_some_iff.1 hu).1; omega)⟩
/-- Three nodes, and the box of an item beside them. -/
structure TriU (w0 W : World) (F0 : List Nat) (b : Nat) (iv kv : Value) (its : List Itm) (ks : List Nat) (l : Nat) (liv lkv : Value) (lits : List Itm) (lks : List Nat) (r : Nat) (riv rkv : Value) (rits : List Itm) (rks : List Nat) (u : Nat) (key : ByteArray) (mv : Value) : Prop where
  t : Tri w0 W F0 b iv kv its ks l liv lkv lits lks r riv rkv rits rks
  row : W.heap[u]? = some (.cells #[.string key, mv] 119 (0, 0))
  out : u ∉ nf b iv kv ++ nf l liv lkv ++ nf r riv rkv
section
variable {w0 W W' : World} {F0 : List Nat} {b : Nat} {iv kv iv' kv' : Value} {its its' : List Itm} {ks ks' : List Nat} {l : Nat} {liv lkv liv' lkv' : Value} {lits lits' : List Itm} {lks lks' : List Nat} {r : Nat} {riv rkv riv' rkv' : Value} {rits rits' : List Itm} {rks rks' : List Nat} {u : Nat} {key : ByteArray} {mv : Value}
  (h : TriU w0 W F0 b iv kv its ks l liv lkv lits lks r riv rkv rits rks u key mv)
include h
theorem TriU.onN (hN : Nod W' b iv' kv' its' ks') (hs : Step W W' (nf b iv kv) (nf b iv' kv')) : TriU w0 W' F0 b iv' kv' its' ks' l liv lkv lits lks r riv rkv rits rks u key mv := by
  obtain ⟨a, c⟩ := beside (hs.at1 h.t.s.nd h.t.s.lt) h.row h.out
  exact ⟨h.t.onN hN hs, a, c⟩
theorem TriU.onL (hN : Nod W' l liv' lkv' lits' lks') (hs : Step W W' (nf l liv lkv) (nf l liv' lkv')) : TriU w0 W' F0 b iv kv its ks l liv' lkv' lits' lks' r riv rkv rits rks u key mv := by
  obtain ⟨a, c⟩ := beside (hs.at2 h.t.s.nd h.t.s.lt) h.row h.out
  exact ⟨h.t.onL hN hs, a, c⟩
theorem TriU.onR (hN : Nod W' r riv' rkv' rits' rks') (hs : Step W W' (nf r riv rkv) (nf r riv' rkv')) : TriU w0 W' F0 b iv kv its ks l liv lkv lits lks r riv' rkv' rits' rks' u key mv := by
  obtain ⟨a, c⟩ := beside (hs.at3 h.t.s.nd h.t.s.lt) h.row h.out
  exact ⟨h.t.onR hN hs, a, c⟩
theorem TriU.below (hb : Below W.heap.size W W') : TriU w0 W' F0 b iv kv its ks l liv lkv lits lks r riv rkv rits rks u key mv :=
  ⟨h.t.below hb, (hb.block u (Array.getElem?_eq_some_iff.1 h.row).1).trans h.row, h.out⟩
theorem TriU.u0 : W.cell? ⟨u, 0, none⟩ = some (.string key) := by simp [World.cell?, h.row]
theorem TriU.u1 : W.cell? ⟨u, 1, none⟩ = some mv := by simp [World.cell?, h.row]
end
/-- What a region that draws may have done ahead: new blocks, draws. -/
theorem Step.from {W W1 W2 : World} {F F' : List Nat} (hb : Below W.heap.size W W1) (hs : Step W1 W2 F F') (hn : F.Nodup) (hl : ∀ k ∈ F, k < W.heap.size) : Step W W2 F F' := (Step.below hb hn hl).trans hs
theorem Nod.fresh (w : World) : Nod (w.alloc (.cells #[.slice none 0 0, .slice none 0 0] 127)) w.heap.size (.slice none 0 0) (.slice none 0 0) [] [] :=
  ⟨row_alloc w _ _, World.ownsRow_nil _ _ _ _, World.ownsRow_nil _ _ _ _, by simp, by simp [nf, Value.ownBlock]⟩
theorem nf_fresh (r : Nat) : nf r (.slice none 0 0) (.slice none 0 0) = [r] := by simp [nf, Value.ownBlock]
end Go.Proofs.Ytjdmgmnndfhmgaa
/- The tree as it lies in memory, and its items in order. -/
namespace Go.Proofs.Ytjdmgmnndfhmgaa
open Go Go.RowKit

/-- A kid: its block, its own items, all items below it in order, its blocks. -/
structure KidD where
  b : Nat
  its : List Itm
  L : List Itm
  F : List Nat
def suf : List Itm → List KidD → List Itm
  | i :: is, k :: ks => i :: (k.L ++ suf is ks)
  | _, _ => []
def pre : List KidD → List Itm → List Itm
  | k :: ks, i :: is => k.L ++ i :: pre ks is
  | _, _ => []
def weave : List KidD → List Itm → List Itm
  | k :: ks, its => k.L ++ suf its ks
  | [], _ => []
theorem weave_cons (k : KidD) (ks : List KidD) (i : Itm) (is : List Itm) (h : ks ≠ []) : weave (k :: ks) (i :: is) = k.L ++ i :: weave ks is := by
  cases ks with
  | nil => exact absurd rfl h
  | cons a l => simp [weave, suf]
theorem weave_split : ∀ (A : List KidD) (k : KidD) (B : List KidD) (C D : List Itm), A.length = C.length → weave (A ++ k :: B) (C ++ D) = pre A C ++ k.L ++ suf D B
  | [], k, B, [], D, _ => by simp [weave, pre]
  | a :: A, k, B, c :: C, D, h => by
    rw [List.cons_append, List.cons_append, weave_cons _ _ _ _ (by simp), weave_split A k B C D (by simpa using h)]
    simp [pre]
theorem pre_snoc : ∀ (A : List KidD) (k : KidD) (C : List Itm) (c : Itm), A.length = C.length → pre (A ++ [k]) (C ++ [c]) = pre A C ++ k.L ++ [c]
  | [], k, [], c, _ => by simp [pre]
  | a :: A, k, d :: C, c, h => by simp [pre, pre_snoc A k C c (by simpa using h)]

/-- The tree of height h at block b. -/
def Tre (w : World) : Nat → Nat → List Itm → List Itm → List Nat → Prop
  | 0, b, its, L, F => ∃ iv kv, Nod w b iv kv its [] ∧ L = its ∧ F = nf b iv kv
  | h + 1, b, its, L, F => ∃ iv kv, ∃ ks : List KidD, Nod w b iv kv its (ks.map KidD.b) ∧ ks.length = its.length + 1 ∧ (∀ k ∈ ks, Tre w h k.b k.its k.L k.F ∧ 2 ≤ k.its.length ∧ k.its.length ≤ 4) ∧ L = weave ks its ∧ F = nf b iv kv ++ ks.flatMap KidD.F
theorem Tre.nod {w : World} : ∀ {h b : Nat} {its L : List Itm} {F : List Nat}, Tre w h b its L F → ∃ iv kv ks, Nod w b iv kv its ks ∧ (∀ k ∈ nf b iv kv, k ∈ F) ∧ (ks.length = 0 ↔ h = 0)
  | 0, _, _, _, _, ⟨iv, kv, hN, _, hF⟩ => ⟨iv, kv, [], hN, fun k hk => by rw [hF]; exact hk, by simp⟩
  | h + 1, _, _, _, _, ⟨iv, kv, ks, hN, hl, _, _, hF⟩ => ⟨iv, kv, _, hN, fun k hk => by rw [hF]; exact List.mem_append_left _ hk, by simp [hl]⟩
theorem Tre.upd {w w' : World} {S : Nat → Prop} (hu : Upd w w' S) : ∀ {h b : Nat} {its L : List Itm} {F : List Nat}, Tre w h b its L F → (∀ k ∈ F, ¬ S k) → Tre w' h b its L F
  | 0, _, _, _, _, ⟨iv, kv, hN, hL, hF⟩, hS => ⟨iv, kv, hN.upd hu (fun k hk => hS k (by rw [hF]; exact hk)), hL, hF⟩
  | h + 1, _, _, _, _, ⟨iv, kv, ks, hN, hl, hk, hL, hF⟩, hS => ⟨iv, kv, ks, hN.upd hu (fun k hk => hS k (by rw [hF]; exact List.mem_append_left _ hk)), hl, fun k hk' => ⟨(hk k hk').1.upd hu (fun j hj => hS j (by rw [hF]; exact List.mem_append_right _ (List.mem_flatMap.2 ⟨k, hk', hj⟩))), (hk k hk').2⟩, hL, hF⟩
theorem Tre.step {w w' : World} {G G' : List Nat} (hs : Step w w' G G') {h b : Nat} {its L : List Itm} {F : List Nat} (ht : Tre w h b its L F) (hd : ∀ k ∈ F, k ∉ G) : Tre w' h b its L F := ht.upd hs.upd hd
theorem Tre.below {w w' : World} (hb : Below w.heap.size w w') {h b : Nat} {its L : List Itm} {F : List Nat} (ht : Tre w h b its L F) : Tre w' h b its L F := ht.upd (S := fun _ => False) (Upd.ofBelow hb) (fun _ _ h => h)
theorem Tre.lt {w : World} : ∀ {h b : Nat} {its L : List Itm} {F : List Nat}, Tre w h b its L F → ∀ k ∈ F, k < w.heap.size
  | 0, _, _, _, _, ⟨iv, kv, hN, _, hF⟩, k, hk => hN.foot_lt k (by rw [← hF]; exact hk)
  | h + 1, _, _, _, _, ⟨iv, kv, ks, hN, hl, hks, hL, hF⟩, k, hk => by
    rw [hF, List.mem_append] at hk
    rcases hk with hk | hk
    · exact hN.foot_lt k hk
    · obtain ⟨a, ha, hk⟩ := List.mem_flatMap.1 hk
      exact (hks a ha).1.lt k hk
theorem Tre.b_mem {w : World} {h b : Nat} {its L : List Itm} {F : List Nat} (ht : Tre w h b its L F) : b ∈ F := by
  obtain ⟨iv, kv, ks, _, hF, _⟩ := ht.nod
  exact hF b (by simp [nf])
theorem suf_sub : ∀ (its : List Itm) (ks : List KidD) (x : Itm), x ∈ suf its ks → x ∈ its ∨ ∃ k ∈ ks, x ∈ k.L
  | [], _, x, h => by simp [suf] at h
  | _ :: _, [], x, h => by simp [suf] at h
  | i :: is, k :: ks, x, h => by
    simp only [suf, List.mem_cons, List.mem_append] at h ⊢
    rcases h with rfl | h | h
    · exact .inl (.inl rfl)
    · exact .inr ⟨k, .inl rfl, h⟩
    · rcases suf_sub is ks x h with h | ⟨j, hj, h⟩
      · exact .inl (.inr h)
      · exact .inr ⟨j, .inr hj, h⟩
/-- A node's own items stand among all, in their order. -/
theorem suf_sublist : ∀ (its : List Itm) (ks : List KidD), ks.length = its.length → its.Sublist (suf its ks)
  | [], [], _ => by simp [suf]
  | i :: is, k :: ks, h => by
    simp only [suf]
    exact ((suf_sublist is ks (by simpa using h)).trans (List.sublist_append_right _ _)).cons_cons _
theorem weave_sublist (ks : List KidD) (its : List Itm) (h : ks.length = its.length + 1) : its.Sublist (weave ks its) := by
  cases ks with
  | nil => simp at h
  | cons k ks => exact (suf_sublist its ks (by simpa using h)).trans (List.sublist_append_right _ _)
theorem Tre.its_sub {w : World} : ∀ {h b : Nat} {its L : List Itm} {F : List Nat}, Tre w h b its L F → its.Sublist L
  | 0, _, _, _, _, ⟨_, _, _, hL, _⟩ => by rw [hL]; exact List.Sublist.refl _
  | _ + 1, _, _, _, _, ⟨_, _, ks, _, hl, _, hL, _⟩ => by rw [hL]; exact weave_sublist ks _ hl
theorem asc_sublist : ∀ {a b : List ByteArray}, a.Sublist b → Asc b → Asc a
  | _, _, .slnil, h => h
  | _, _, .cons _ s, h => asc_sublist s h.2
  | _, _, .cons_cons _ s, h => ⟨fun j hj => h.1 j (s.subset hj), asc_sublist s h.2⟩
theorem Tre.asc {w : World} {h b : Nat} {its L : List Itm} {F : List Nat} (ht : Tre w h b its L F) (ha : Asc (keysI L)) : Asc (keysI its) := asc_sublist (ht.its_sub.map _) ha

/-! ### An item put in its place -/
def insI (L : List Itm) (it : Itm) : List Itm := L.takeWhile (fun x => klt x.key it.key) ++ it :: L.dropWhile (fun x => klt x.key it.key)
theorem take_while_len {α : Type} (p : α → Bool) : ∀ l : List α, l.take (l.takeWhile p).length = l.takeWhile p ∧ l.drop (l.takeWhile p).length = l.dropWhile p
  | [] => by simp
  | a :: l => by
    have ih := take_while_len p l
    by_cases h : p a = true
    · simp [h, ih.1, ih.2]
    · simp [h]
theorem insI_plc (L : List Itm) (it : Itm) : L.take (plc L it.key) ++ it :: L.drop (plc L it.key) = insI L it := by
  obtain ⟨h1, h2⟩ := take_while_len (fun x : Itm => klt x.key it.key) L
  unfold plc insI
  rw [h1, h2]
theorem insI_mid (X Y Z : List Itm) (it : Itm) (hX : ∀ x ∈ X, klt x.key it.key = true) (hZ : ∀ z ∈ Z, klt z.key it.key = false) : insI (X ++ Y ++ Z) it = X ++ insI Y it ++ Z := by
  have h1 : ∀ V : List Itm, insI (X ++ V) it = X ++ insI V it := fun V => by
    unfold insI
    rw [List.takeWhile_append_of_pos hX, List.dropWhile_append_of_pos hX, List.append_assoc]
  have h2 : ∀ V : List Itm, insI (V ++ Z) it = insI V it ++ Z := fun V => by
    induction V with
    | nil =>
      cases Z with
      | nil => simp [insI]
      | cons z Z => simp [insI, hZ z (by simp)]
    | cons v V ih =>
      by_cases hv : klt v.key it.key = true
      · simp only [insI, List.cons_append, List.takeWhile_cons, List.dropWhile_cons, hv, if_true] at ih ⊢
        rw [ih]
      · simp [insI, hv]
  rw [List.append_assoc, h1, h2, List.append_assoc]
theorem insI_mem {L : List Itm} {it x : Itm} : x ∈ insI L it ↔ x = it ∨ x ∈ L := by
  unfold insI
  rw [List.mem_append, List.mem_cons]
  have : x ∈ L ↔ x ∈ L.takeWhile (fun x => klt x.key it.key) ∨ x ∈ L.dropWhile (fun x => klt x.key it.key) := by
    rw [← List.mem_append, List.takeWhile_append_dropWhile]
  rw [this]
  constructor
  · rintro (h | h | h)
    · exact .inr (.inl h)
    · exact .inl h
    · exact .inr (.inr h)
  · rintro (h | h | h)
    · exact .inr (.inl h)
    · exact .inl h
    · exact .inr (.inr h)
theorem insI_len (L : List Itm) (it : Itm) : (insI L it).length = L.length + 1 := by
  have := congrArg List.length (List.takeWhile_append_dropWhile (p := fun x : Itm => klt x.key it.key) (l := L))
  simp only [List.length_append] at this
  simp [insI]; omega
end Go.Proofs.Ytjdmgmnndfhmgaa
/- add, within a node that has kids: its walk. -/
namespace Go.Proofs.Ytjdmgmnndfhmgaa
open Go Go.RowKit

set_option maxRecDepth 100000 in
set_option maxHeartbeats 2000000 in
theorem add_walk {w : World} {b : Nat} {iv kv : Value} {its : List Itm} {kb : List Nat} {k : Nat} (hN : Nod w b iv kv its kb) (hs : Asc (keysI its)) (hn : its.length ≤ 100) (hkb : kb.length ≤ 114) (it : Itm) (hit : isSl it.mv) (hk : kb[plc its it.key]? = some k) (R : World → Prop)
    (hrec : ∀ W, Below w.heap.size w W → Calls Try.prog 56 #[ptr k, .agg #[.string it.key, it.mv]] W fun e W1 => e = .returned (.tuple #[]) ∧ ∃ civ ckv cits cks, Nod W1 b iv kv its kb ∧ Nod W1 k civ ckv cits cks ∧
      ((cits.length ≤ 4 ∧ R W1) ∨ (4 < cits.length ∧ Calls Try.prog 57 #[ptr b, .int .i64 (plc its it.key)] W1 fun e W2 => e = .returned (.tuple #[]) ∧ R W2))) :
    Calls Try.prog 56 #[ptr b, .agg #[.string it.key, it.mv]] w fun e w' => e = .returned (.tuple #[]) ∧ R w' := by
  have hpk : plc its it.key < kb.length := (List.getElem?_eq_some_iff.1 hk).1
  obtain ⟨W0, hW0⟩ : ∃ W0, W0 = w.alloc (.cells #[.string it.key, it.mv] 119) := ⟨_, rfl⟩
  have hb0 : Below w.heap.size w W0 := by rw [hW0]; exact (Below.refl _ w).alloc (Nat.le_refl _) _
  have hr0 : W0.heap[w.heap.size]? = some (.cells #[.string it.key, it.mv] 119 (0, 0)) := by rw [hW0]; exact row_alloc w _ _
  have hpl := (place_node (hN.below hb0) hs (by omega) it.key).mono (R' := fun e w' => e = .returned (.tuple #[.int .i64 (plc its it.key), .bool (hre its it.key)]) ∧ Below w.heap.size w w' ∧ w'.heap[w.heap.size]? = some (.cells #[.string it.key, it.mv] 119 (0, 0)))
    fun e w' h => ⟨h.1, hb0.trans (h.2.mono hb0.size), (h.2.block _ (Array.getElem?_eq_some_iff.1 hr0).1).trans hr0⟩
  have k0 : W0.cell? ⟨w.heap.size, 0, none⟩ = some (.string it.key) := by simp [World.cell?, hr0]
  clear hr0
  obtain ⟨kg, kc, hkv, hkc, hkm⟩ := owns_form1 hN.kids (by omega)
  have HN := Hid.mk'' hN
  have HREC := Hid.mk'' hrec
  clear hrec hN hs
  go_enter Try.func56, Try.ntmps56
  go_upto_region 1 with (fail)
  rw [← hW0]
  clear hW0
  go_wp2_with (go_at_call 54; refine hpl.mono ?_; rintro e W1 ⟨rfl, hb1, hr1⟩)
  have hlf := leaf_node (HN.out.below hb1)
  rw [decide_eq_false (show ¬ kb.length = 0 by omega)] at hlf
  have e0 : W1.cell? ⟨w.heap.size, 0, none⟩ = some (.string it.key) := by simp [World.cell?, hr1]
  have e1 : W1.cell? ⟨w.heap.size, 1, none⟩ = some it.mv := by simp [World.cell?, hr1]
  have c1 := (HN.out.below hb1).c1
  have kk := (HN.out.below hb1).kid hkv hk
  rw [hkv] at c1
  obtain ⟨key, mv⟩ := it
  obtain ⟨mp, mn, mc, hmv⟩ := hit
  dsimp only at hmv hlf e0 e1 hpk HREC k0
  subst hmv
  clear hpl k0 hb0 hr1
  refine hlf.mono ?_
  rintro e w2 ⟨rfl, rfl⟩
  have hcall := HREC.out
  go_wp2_with fail
  go_cut [] from 26 to 34 (fun wx => Hid (∃ civ ckv cits cks, Nod wx b iv kv its kb ∧ Nod wx k civ ckv cits cks ∧
      ((cits.length ≤ 4 ∧ R wx) ∨ (4 < cits.length ∧ Calls Try.prog 57 #[ptr b, .int .i64 (plc its key)] wx fun e W2 => e = .returned (.tuple #[]) ∧ R W2))))
  case first =>
    go_region_with (go_at_call 56; refine (hcall _ hb1.drew).mono ?_; rintro e w3 ⟨rfl, hR⟩)
    all_goals (go_wp2_with fail; go_meet; case rel => exact hR)
  case rest =>
  obtain ⟨civ, ckv, cits, cks, hN2, hC2, hR⟩ := hcut
  have c1' := hN2.c1
  have kk' := hN2.kid hkv hk
  have ci := hC2.c0
  obtain ⟨cp, cc, hciv, _, _⟩ := owns_form hC2.items
  rw [hkv] at c1'
  rw [hciv] at ci
  clear hcall HREC c1 kk hlf e0 e1 hb1 hN2 hC2
  rcases hR with ⟨h4, hR⟩ | ⟨h4, hR⟩
  · have h4' : ¬ (4 < (cits.length : Int)) := by omega
    go_wp2
    go_end0
    exact ⟨rfl, hR⟩
  · have h4' : (4 : Int) < (cits.length : Int) := by omega
    go_wp2_with (go_at_call 57; refine hR.mono ?_; rintro e w5 ⟨rfl, hR5⟩)
    go_end0
    exact ⟨rfl, hR5⟩
end Go.Proofs.Ytjdmgmnndfhmgaa
