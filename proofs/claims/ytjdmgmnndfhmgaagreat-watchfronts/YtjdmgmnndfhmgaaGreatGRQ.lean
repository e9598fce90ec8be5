/- A hub's map: numbers, and the watchers that they name. -/
import Derived.Test.YtjdmgmnndfhmgaaGreatGRP
import Derived.Maps.OwnSet
import Derived.Maps.Ext
import Derived.Maps.RangeWalk
namespace Go.Proofs.YtjdmgmnndfhmgaaGreat
open Go Go.RowKit

def RL (v : Value) : Option (DataW Value × List MemPlace) := some (.held v, [])
theorem RL_hit {v u : Value} {ps : List MemPlace} (h : RL v = some (.held u, ps)) : v = u := by
  simp [RL] at h
  exact h.1
def ent (f : Int → Value) (i : Int) : Lit × DataW Value := (.int .i64 i, .held (f i))
def delN (n : Int) (l : List Int) : List Int := l.filter (fun i => !(i == n))
def insN (f : Int) : List Int → List Int
  | [] => [f]
  | g :: r => if f < g then f :: g :: r else g :: insN f r
abbrev upN (l : List Int) : Prop := l.Pairwise (· < ·)
theorem same_int (a b : Int) : (Lit.int .i64 a).sameKey (.int .i64 b) = (a == b) := by
  simp only [Lit.sameKey]
  by_cases h : a = b <;> simp [h]
theorem has_ents (g : Int → Value) (n : Int) (l : List Int) : Maps.has (.map (l.map (ent g)) : DataW Value) (.int .i64 n) = decide (n ∈ l) := by
  rw [Maps.has_eq, List.any_map]
  have : ((fun p : Lit × DataW Value => p.1.sameKey (.int .i64 n)) ∘ ent g) = (fun i => i == n) := by funext i; exact same_int i n
  rw [this, Bool.eq_iff_iff]
  simp
theorem at_ents (g : Int → Value) (n : Int) (l : List Int) (z : DataW Value) : (DataW.map (l.map (ent g))).atKey (.int .i64 n) z = if n ∈ l then .held (g n) else z := by
  unfold DataW.atKey
  simp only [List.find?_map]
  have e : ((fun p : Lit × DataW Value => p.1.sameKey (.int .i64 n)) ∘ ent g) = (fun i => i == n) := by funext i; exact same_int i n
  rw [e]
  cases h : l.find? (fun i => i == n) with
  | none =>
    have hn : n ∉ l := fun hm => by have := List.find?_eq_none.1 h n hm; simp at this
    rw [if_neg hn]; rfl
  | some i =>
    have h1 : i = n := by simpa using List.find?_some h
    have h2 := List.mem_of_find?_eq_some h
    subst h1
    rw [if_pos h2]; rfl
theorem del_ents (g : Int → Value) (n : Int) (l : List Int) : (DataW.map (l.map (ent g))).del (.int .i64 n) = .map ((delN n l).map (ent g)) := by
  show DataW.map ((l.map (ent g)).filter _) = _
  rw [List.filter_map]
  unfold delN
  congr 3
  funext f
  exact congrArg _ (same_int f n)
theorem before_ent (h : Int → Value) (f g : Int) : (ent h f).1.before (ent h g).1 = decide (f < g) := by simp [ent, Lit.before]
theorem ins_ents (h : Int → Value) (f : Int) : ∀ l : List Int, DataW.insert (ent h f) (l.map (ent h)) = (insN f l).map (ent h)
  | [] => rfl
  | g :: r => by
    simp only [List.map_cons, DataW.insert, insN]
    rw [before_ent]
    by_cases hl : f < g
    · simp [hl]
    · simp [hl, ins_ents h f r]
theorem own_tight {P : Program} {k : TypeId} {R : Value → Option (DataW Value × List MemPlace)} {w : World} {b n : Nat} {l : List (Lit × DataW Value)} (h : w.ownsMap P k R b n (.map l)) : w.ownsMap P k R b l.length (.map l) := by
  obtain ⟨es, clock, hb, F, hs, hD⟩ := h
  refine ⟨es, clock, hb, F, ?_, hD⟩
  have : l = _ := DataW.map.inj hD
  rw [this, length_sorted]
  simp
theorem ownsMap_upd {P : Program} {w w' : World} {S : Nat → Prop} {k : TypeId} {R : Value → Option (DataW Value × List MemPlace)} {b n : Nat} {D : DataW Value} (h : w.ownsMap P k R b n D) (hu : Upd w w' S) (hS : ¬ S b) : w'.ownsMap P k R b n D := by
  have hlt := h.lt
  obtain ⟨es, clock, hb, F, hs, hD⟩ := h
  exact ⟨es, clock, (hu.block b hlt hS).trans hb, F, hs, hD⟩
/-- A map of numbers to watchers. -/
structure MI (w : World) (m : Nat) (A : List Int) (f : Int → Value) : Prop where
  own : w.ownsMap Tryz.prog 3 RL m A.length (.map (A.map (ent f)))
  up : upN A
  few : A.length ≤ 1000
  ok : ∀ i ∈ A, 1 ≤ i ∧ i ≤ 1000
variable {w w' : World} {m : Nat} {A : List Int} {f : Int → Value}
theorem MI.lt (h : MI w m A f) : m < w.heap.size := h.own.lt
theorem MI.upd {S : Nat → Prop} (h : MI w m A f) (hu : Upd w w' S) (hb : ¬ S m) : MI w' m A f := ⟨ownsMap_upd h.own hu hb, h.up, h.few, h.ok⟩
theorem MI.made (w : World) (f : Int → Value) : MI (w.alloc (.map #[] 0)) w.heap.size [] f := ⟨World.ownsMap_made w Tryz.prog 3 RL, List.Pairwise.nil, Nat.zero_le _, fun i h => by cases h⟩
theorem MI.congr {g : Int → Value} (h : MI w m A f) (hg : ∀ i ∈ A, g i = f i) : MI w m A g := by
  have e : A.map (ent g) = A.map (ent f) := List.map_congr_left fun i hi => by simp [ent, hg i hi]
  exact ⟨by rw [e]; exact h.own, h.up, h.few, h.ok⟩
abbrev isI (n : Int) : Prop := -9223372036854775808 ≤ n ∧ n ≤ 9223372036854775807
theorem key_int {n : Int} (h : isI n) : keyOf Tryz.prog 3 (.int .i64 n) = some (.int .i64 n) := by
  have : (Lit.int .i64 n).wf = true := by simp [Lit.wf, IntKind.min, IntKind.max, IntKind.bits, IntKind.signed]; omega
  simp [keyOf, Tryz.underlying3, mapKey, this]
theorem zero64 (w : World) : (zeroValue 100).run Tryz.prog w = .ok .nilIface w := by kernel_rfl
theorem keyed3 : Maps.Keyed Tryz.prog 3 := Maps.int_keyed Tryz.underlying3
theorem MI.look (h : MI w m A f) (k : Int) (hk : isI k) : (Instr.lookup 75 (.map (some m)) (.int .i64 k) true).run Tryz.prog w = .ok (.tuple #[if k ∈ A then f k else .nilIface, .bool (decide (k ∈ A))]) w := by
  obtain ⟨v, ps, hrun, hv⟩ := h.own.look_ok keyed3 Tryz.underlying75 (zero64 w) (zd := .held .nilIface) (zp := []) rfl (key_int hk)
  rw [hrun, has_ents]
  rw [at_ents] at hv
  by_cases hl : k ∈ A
  · rw [if_pos hl] at hv ⊢; rw [RL_hit hv]
  · rw [if_neg hl] at hv ⊢; rw [RL_hit hv]
theorem MI.len (h : MI w m A f) (ty : TypeId) : (Builtin.len_ #[75] ty #[.map (some m)]).run Tryz.prog w = .ok (.int .i64 A.length) w := by
  rw [h.own.len Tryz.underlying75 ty, Maps.size_eq, List.length_map]
def setW (f : Int → Value) (k : Int) (v : Value) : Int → Value := fun j => if j = k then v else f j
theorem setW_same (f : Int → Value) (k : Int) (v : Value) : setW f k v k = v := if_pos rfl
theorem setW_other (f : Int → Value) {k j : Int} (v : Value) (h : j ≠ k) : setW f k v j = f j := if_neg h
theorem ins_here : ∀ {A : List Int} {k : Int}, upN A → k ∈ A → insN k (delN k A) = A
  | [], k, _, h => by cases h
  | a :: A, k, hu, h => by
    obtain ⟨h1, h2⟩ := List.pairwise_cons.1 hu
    by_cases e : a = k
    · subst e
      have hd : delN a (a :: A) = A := by
        unfold delN
        rw [List.filter_cons_of_neg (by simp), List.filter_eq_self]
        intro x hx
        have := h1 x hx
        simp; omega
      rw [hd]
      cases A with
      | nil => rfl
      | cons x r => unfold insN; rw [if_pos (h1 x (by simp))]
    · have hk : k ∈ A := by rcases List.mem_cons.1 h with e' | e'; exact absurd e'.symm e; exact e'
      have hd : delN k (a :: A) = a :: delN k A := by unfold delN; rw [List.filter_cons_of_pos (by simp; exact e)]
      rw [hd]
      unfold insN
      rw [if_neg (by have := h1 k hk; omega), ins_here h2 hk]
theorem ins_end : ∀ {A : List Int} {k : Int}, (∀ i ∈ A, i < k) → insN k (delN k A) = A ++ [k]
  | [], k, _ => rfl
  | a :: A, k, h => by
    have ha := h a (by simp)
    have hd : delN k (a :: A) = a :: delN k A := by unfold delN; rw [List.filter_cons_of_pos (by simp; omega)]
    rw [hd]
    unfold insN
    rw [if_neg (by omega), ins_end (fun i hi => h i (by simp [hi]))]
    rfl
theorem mem_delN {n i : Int} {l : List Int} : i ∈ delN n l ↔ i ∈ l ∧ i ≠ n := by simp [delN]
theorem MI.store (h : MI w m A f) (k : Int) (v : Value) (hk : isI k) : ∃ w', (Instr.mapUpdate 75 (.map (some m)) (.int .i64 k) v).run Tryz.prog w = .ok () w' ∧ w'.ownsMap Tryz.prog 3 RL m (insN k (delN k A)).length (.map ((insN k (delN k A)).map (ent (setW f k v)))) ∧ Upd w w' (fun j => j = m) := by
  have hf := h.few
  obtain ⟨w', hrun, h1, h2⟩ := h.own.update keyed3 Tryz.underlying75 (by unfold maxLen; omega) (key_int hk) (val := v) (d := .held v) (ps := []) rfl
  refine ⟨w', hrun, ?_, (Upd.ofGrown h2).mono (fun k _ e => Option.some.inj e)⟩
  have hd : (DataW.map (A.map (ent f))).put (.int .i64 k) (.held v) = .map ((insN k (delN k A)).map (ent (setW f k v))) := by
    have e1 := del_ents f k A
    simp only [DataW.del, DataW.map.injEq] at e1
    show DataW.map (DataW.insert _ ((A.map (ent f)).filter _)) = _
    have e2 : (delN k A).map (ent f) = (delN k A).map (ent (setW f k v)) := List.map_congr_left fun i hi => by simp [ent, setW, (mem_delN.1 hi).2]
    rw [e1, e2, ← ins_ents]
    simp [ent, setW]
  rw [hd] at h1
  have := own_tight h1
  rwa [List.length_map] at this
theorem MI.set (h : MI w m A f) {k : Int} (hk : k ∈ A) (v : Value) : ∃ w', (Instr.mapUpdate 75 (.map (some m)) (.int .i64 k) v).run Tryz.prog w = .ok () w' ∧ MI w' m A (setW f k v) ∧ Upd w w' (fun j => j = m) := by
  obtain ⟨w', h1, h2, h3⟩ := h.store k v (by have := h.ok k hk; show _ ∧ _; omega)
  rw [ins_here h.up hk] at h2
  exact ⟨w', h1, ⟨h2, h.up, h.few, h.ok⟩, h3⟩
theorem MI.add (h : MI w m A f) {k : Int} (hk : ∀ i ∈ A, i < k) (hk1 : 1 ≤ k ∧ k ≤ 1000) (hl : A.length < 1000) (v : Value) : ∃ w', (Instr.mapUpdate 75 (.map (some m)) (.int .i64 k) v).run Tryz.prog w = .ok () w' ∧ MI w' m (A ++ [k]) (setW f k v) ∧ Upd w w' (fun j => j = m) := by
  obtain ⟨w', h1, h2, h3⟩ := h.store k v (by show _ ∧ _; omega)
  rw [ins_end hk] at h2
  refine ⟨w', h1, ⟨h2, ?_, by rw [List.length_append]; simp; omega, fun i hi => ?_⟩, h3⟩
  · refine List.pairwise_append.2 ⟨h.up, by simp, fun a ha b hb => ?_⟩
    simp at hb; subst hb; exact hk a ha
  · rcases List.mem_append.1 hi with hi | hi
    · exact h.ok i hi
    · simp at hi; subst hi; exact hk1
theorem MI.del (h : MI w m A f) (k : Int) (hk : isI k) (ty : TypeId) : ∃ w', (Builtin.delete_ #[75, 3] ty #[.map (some m), .int .i64 k]).run Tryz.prog w = .ok (.tuple #[]) w' ∧ MI w' m (delN k A) f ∧ Upd w w' (fun j => j = m) := by
  obtain ⟨w', h1, h2, h3⟩ := h.own.drop keyed3 Tryz.underlying75 (key_int hk) ty
  rw [del_ents] at h2
  have h4 := own_tight h2
  rw [List.length_map] at h4
  refine ⟨w', h1, ⟨h4, List.Pairwise.filter _ h.up, Nat.le_trans (List.length_filter_le _ _) h.few, fun i hi => h.ok i (mem_delN.1 hi).1⟩, (Upd.ofGrown (World.mapTurned.grown h3)).mono (fun k _ e => Option.some.inj e)⟩
end Go.Proofs.YtjdmgmnndfhmgaaGreat
/- A hub in memory: New, Len, Watch. -/
namespace Go.Proofs.YtjdmgmnndfhmgaaGreat
open Go Go.RowKit

/-- A watcher as data: its range, its place, whether it is fed, its buffer, why it ends. -/
structure Wd where
  lo : ByteArray
  hi : ByteArray
  place : Int
  fd : Bool
  buf : List Evd
  fin : Int
/-- A watcher in memory. -/
def WM (w : World) (q : Nat × Value) (x : Wd) : Prop :=
  match x.fd with
  | true => Fd w q.1 q.2 x.lo x.hi x.place x.buf x.fin
  | false => Bh w q.1 x.lo x.hi x.place ∧ q.2 = .slice none 0 0 ∧ x.buf = [] ∧ x.fin = 0
def ifv (x : Wd) (b : Nat) : Value := .iface (if x.fd then 101 else 108) (ptr b)
def ftE (q : Nat × Value) (k : Nat) : Prop := k = q.1 ∨ q.2.ownBlock = some k
structure Wd.Ok (x : Wd) : Prop where
  a : 1 ≤ x.place
  b : x.place ≤ 1000000000
  c : x.buf.length ≤ 16
theorem WM.upd {w w' : World} {T : Nat → Prop} {q : Nat × Value} {x : Wd} (h : WM w q x) (hu : Upd w w' T) (hT : ∀ k, ftE q k → ¬ T k) : WM w' q x := by
  unfold WM at h ⊢
  split at h
  · exact h.upd hu (hT _ (.inl rfl)) (fun k hk => hT k (.inr hk))
  · exact ⟨h.1.upd hu (hT _ (.inl rfl)), h.2⟩
theorem WM.lt {w : World} {q : Nat × Value} {x : Wd} (h : WM w q x) {k : Nat} (hk : ftE q k) : k < w.heap.size := by
  unfold WM at h
  split at h
  · rcases hk with rfl | hk
    · exact h.lt
    · exact (h.row.lt k hk).2
  · rcases hk with rfl | hk
    · exact h.1.lt
    · rw [h.2.1] at hk; cases hk
/-- A hub in memory. -/
structure Hb (w : World) (h s m : Nat) (last : Nat) (A : List Int) (X : Int → Wd) (G : Int → Nat × Value) : Prop where
  blk : w.heap[h]? = some (.cells #[ptr s, .map (some m), .int .i64 last] 77 (0, 0))
  map : MI w m A (fun i => ifv (X i) (G i).1)
  mem : ∀ i ∈ A, WM w (G i) (X i)
  ok : ∀ i ∈ A, (X i).Ok
  dis : ∀ i ∈ A, ∀ j ∈ A, i ≠ j → ∀ k, ftE (G i) k → ¬ ftE (G j) k
  neh : ∀ i ∈ A, ∀ k, ftE (G i) k → k ≠ h ∧ k ≠ m
  old : ∀ i ∈ A, i ≤ last
  few : last ≤ 900
  len : A.length ≤ last
def ftH (h m : Nat) (A : List Int) (G : Int → Nat × Value) (k : Nat) : Prop := k = h ∨ k = m ∨ ∃ i ∈ A, ftE (G i) k
section
variable {w w' : World} {h s m last : Nat} {A : List Int} {X : Int → Wd} {G : Int → Nat × Value}
theorem Hb.upd {T : Nat → Prop} (H : Hb w h s m last A X G) (hu : Upd w w' T) (hT : ∀ k, ftH h m A G k → ¬ T k) : Hb w' h s m last A X G :=
  ⟨(hu.block h (Array.getElem?_eq_some_iff.1 H.blk).1 (hT h (.inl rfl))).trans H.blk, H.map.upd hu (hT m (.inr (.inl rfl))), fun i hi => (H.mem i hi).upd hu (fun k hk => hT k (.inr (.inr ⟨i, hi, hk⟩))), H.ok, H.dis, H.neh, H.old, H.few, H.len⟩
theorem Hb.below (H : Hb w h s m last A X G) (hb : Below w.heap.size w w') : Hb w' h s m last A X G := H.upd (T := fun _ => False) (Upd.ofBelow hb) (fun _ _ e => e)
theorem Hb.lt (H : Hb w h s m last A X G) {k : Nat} (hk : ftH h m A G k) : k < w.heap.size := by
  rcases hk with rfl | rfl | ⟨i, hi, hk⟩
  · exact (Array.getElem?_eq_some_iff.1 H.blk).1
  · exact H.map.lt
  · exact (H.mem i hi).lt hk
theorem Hb.ne (H : Hb w h s m last A X G) : h ≠ m := fun e => by
  obtain ⟨es, clock, hb, _⟩ := H.map.own
  rw [← e, H.blk] at hb
  cases hb
/-- What a call leaves of a hub: it is written where it lay, or anew. -/
structure Kp (w w' : World) (h m : Nat) (A A' : List Int) (G G' : Int → Nat × Value) : Prop where
  upd : Upd w w' (ftH h m A G)
  foot : ∀ k, ftH h m A' G' k → ftH h m A G k ∨ w.heap.size ≤ k
set_option maxRecDepth 100000 in
theorem hub_new (w : World) (s : Nat) (X : Int → Wd) (G : Int → Nat × Value) : Calls Tryz.prog 8 #[ptr s] w fun e w' => ∃ h m, e = .returned (ptr h) ∧ Hb w' h s m 0 [] X G ∧ Below w.heap.size w w' ∧ w.heap.size ≤ h ∧ w.heap.size ≤ m := by
  have hmm := @run_makeMap Tryz.prog
  go_enter Tryz.func8, Tryz.ntmps8
  go_wp2
  go_ret
  have hb1 : Below w.heap.size w (w.alloc (.map #[] 0)) := (Below.refl _ w).alloc (Nat.le_refl _) _
  refine ⟨_, w.heap.size, rfl, ⟨?_, ⟨(World.ownsMap_made w Tryz.prog 3 RL).alloc _, List.Pairwise.nil, Nat.zero_le _, fun i hi => (by cases hi)⟩, fun i hi => (by cases hi), fun i hi => (by cases hi), fun i hi => (by cases hi), fun i hi => (by cases hi), fun i hi => (by cases hi), Nat.zero_le _, Nat.le_refl _⟩, hb1.alloc hb1.size _, ?_, Nat.le_refl _⟩
  · have := row_alloc (w.alloc (.map #[] 0)) #[ptr s, .map (some w.heap.size), .int .i64 0] 77
    simpa using this
  · simp
set_option maxRecDepth 100000 in
theorem len_any (H : Hb w h s m last A X G) : Calls Tryz.prog 30 #[ptr h] w fun e w' => e = .returned (.int .i64 A.length) ∧ w' = w := by
  have c1 : w.cell? ⟨h, 1, none⟩ = some (.map (some m)) := cell_of_row _ _ _ _ _ _ H.blk
  have hlen := fun ty => H.map.len ty
  clear H
  go_enter Tryz.func30, Tryz.ntmps30
  go_wp2
  go_ret
  exact ⟨rfl, rfl⟩
set_option maxRecDepth 100000 in
theorem begin_any (H : Hb w h s m last A X G) : Calls Tryz.prog 50 #[ptr h] w fun e w' => e = .returned (.tuple #[]) ∧ w' = w := by
  have c1 : w.cell? ⟨h, 1, none⟩ = some (.map (some m)) := cell_of_row _ _ _ _ _ _ H.blk
  have heq : ∀ W, (binOp BinOp.eql 75 (.map (some m)) (.map none)).run Tryz.prog W = .ok (.bool false) W := fun W => by kernel_rfl
  clear H
  go_enter Tryz.func50, Tryz.ntmps50
  go_wp2
  first | go_end0 | refine bodyPost_ret (results_none rfl _ _ _) rfl ?_
  exact ⟨rfl, rfl⟩
set_option maxRecDepth 100000 in
set_option maxHeartbeats 4000000 in
theorem watch_any (H : Hb w h s m last A X G) (hl : last < 900) (lo hi : ByteArray) (from_ : Int) (hls : lo.size ≤ 1000000) (hhs : hi.size ≤ 1000000) (hf : from_ ≤ 1000000000) :
    Calls Tryz.prog 21 #[ptr h, .string lo, .string hi, .int .i64 from_] w fun e w' => e = .returned (.int .i64 ((last : Int) + 1)) ∧ ∃ G', Hb w' h s m (last + 1) (A ++ [(last : Int) + 1]) (fun i => if i = (last : Int) + 1 then ⟨lo, hi, max from_ 1, false, [], 0⟩ else X i) G' ∧ Kp w w' h m A (A ++ [(last : Int) + 1]) G G' := by
  have hbeg := begin_any H
  have HH := Hid.mkW H
  have hc1 := fun W => clone_all lo hls W
  have hc2 := fun W => clone_all hi hhs W
  have HROW : Hid (∀ W, Below w.heap.size w W → W.heap[h]? = some (.cells #[ptr s, .map (some m), .int .i64 last] 77 (0, 0))) := fun W hW => (hW.block h (H.lt (.inl rfl))).trans H.blk
  have c2 : w.cell? ⟨h, 2, none⟩ = some (.int .i64 last) := cell_of_row _ _ _ _ _ _ H.blk
  have f2 : w.frozen? ⟨h, 2, none⟩ = false := frozen_of_row _ _ _ _ _ H.blk
  have hw1 : IntKind.i64.wrap ((last : Int) + 1) = (last : Int) + 1 := by rw [IntKind.wrap_i64]; omega
  obtain ⟨w1, hw1'⟩ : ∃ w1, w1 = w.setCell ⟨h, 2, none⟩ (.int .i64 ((last : Int) + 1)) := ⟨_, rfl⟩
  have r1 : w1.heap[h]? = some (.cells #[ptr s, .map (some m), .int .i64 ((last : Int) + 1)] 77 (0, 0)) := by rw [hw1']; exact heap_setCell_row H.blk _
  have u1 : Upd w w1 (fun k => k = h) := by rw [hw1']; exact (Upd.refl w (fun k => k = h)).setCell (p := ⟨h, 2, none⟩) (.inr rfl) _
  have s1 : w1.heap.size = w.heap.size := by rw [hw1']; simp
  clear H
  go_enter Tryz.func21, Tryz.ntmps21
  go_upto_region 3 with (first | (go_at_call 50; refine hbeg.mono ?_; rintro e w' ⟨rfl, hw'⟩; obtain rfl := hw'.symm))
  rw [← hw1']
  clear hw1' c2 f2 hbeg
  go_upto_region 4 with (first | (go_at_call 45; with_reducible refine (hc1 _).mono ?_; rintro e w2 ⟨rfl, hb2⟩) | (go_at_call 45; with_reducible refine (hc2 _).mono ?_; rintro e w3 ⟨rfl, hb3⟩))
  have hb13 : Below w1.heap.size w1 w3 := hb2.trans (hb3.mono hb2.size)
  have r3 : w3.heap[h]? = some (.cells #[ptr s, .map (some m), .int .i64 ((last : Int) + 1)] 77 (0, 0)) := (hb13.block h (Array.getElem?_eq_some_iff.1 r1).1).trans r1
  have d1 : w3.cell? ⟨h, 1, none⟩ = some (.map (some m)) := cell_of_row _ _ _ _ _ _ r3
  have d2 : w3.cell? ⟨h, 2, none⟩ = some (.int .i64 ((last : Int) + 1)) := cell_of_row _ _ _ _ _ _ r3
  obtain ⟨mx, hmx⟩ : ∃ mx, mx = max from_ 1 := ⟨_, rfl⟩
  have hif : (if from_ < 1 then (1 : Int) else from_) = mx := by rw [hmx]; split <;> omega
  obtain ⟨w4, hw4⟩ : ∃ w4, w4 = (w3.alloc (.cells #[.string lo, .string hi, .int .i64 mx] 112)).drew := ⟨_, rfl⟩
  have b34 : Below w3.heap.size w3 w4 := by rw [hw4]; exact ((Below.refl _ w3).alloc (Nat.le_refl _) _).drew
  have r4 : w4.heap[w3.heap.size]? = some (.cells #[.string lo, .string hi, .int .i64 mx] 112 (0, 0)) := by rw [hw4]; exact row_alloc w3 _ _
  have s3 : w.heap.size ≤ w3.heap.size := by have := hb13.size; omega
  have u4 : Upd w w4 (fun k => k = h) := u1.trans (Upd.ofBelow (S := fun _ => False) (hb13.trans (b34.mono hb13.size))) (fun _ _ e => e.elim)
  have hmh : ¬ m = h := fun e => HH.out.ne e.symm
  obtain ⟨w5, hrun, hM5, u5⟩ := (HH.out.map.upd u4 hmh).add (k := (last : Int) + 1) (fun i hi => by have := HH.out.old i hi; omega) (by omega) (by have := HH.out.len; omega) (.iface 108 (ptr w3.heap.size))
  have hlh : h < w4.heap.size := Nat.lt_of_lt_of_le (HH.out.lt (.inl rfl)) u4.size
  have r4h : w4.heap[h]? = some (.cells #[ptr s, .map (some m), .int .i64 ((last : Int) + 1)] 77 (0, 0)) := (b34.block h (by have := HH.out.lt (k := h) (.inl rfl); omega)).trans r3
  have r5 : w5.heap[h]? = some (.cells #[ptr s, .map (some m), .int .i64 ((last : Int) + 1)] 77 (0, 0)) := (u5.block h hlh (fun e => hmh e.symm)).trans r4h
  have x2 : w5.cell? ⟨h, 2, none⟩ = some (.int .i64 ((last : Int) + 1)) := cell_of_row _ _ _ _ _ _ r5
  have u05 : Upd w w5 (fun k => k = h ∨ k = m) := (u4.mono (fun _ _ e => .inl e)).trans u5 (fun _ _ e => .inr e)
  have b5 : Bh w5 w3.heap.size lo hi mx := (u5.block w3.heap.size (Array.getElem?_eq_some_iff.1 r4).1 (fun e => by have := HH.out.lt (k := m) (.inr (.inl rfl)); omega)).trans r4
  have HFIN : Hid (∃ G', Hb w5 h s m (last + 1) (A ++ [(last : Int) + 1]) (fun i => if i = (last : Int) + 1 then ⟨lo, hi, max from_ 1, false, [], 0⟩ else X i) G' ∧ Kp w w5 h m A (A ++ [(last : Int) + 1]) G G') := by
    rw [← hmx]
    have hnk : ∀ i ∈ A, ¬ i = (last : Int) + 1 := fun i hi e => by have := HH.out.old i hi; omega
    have hin : ∀ i, i ∈ A ++ [(last : Int) + 1] → i ∈ A ∨ i = (last : Int) + 1 := fun i hi => by simpa using hi
    have hft : ∀ k, ftE ((w3.heap.size, Value.slice none 0 0) : Nat × Value) k → k = w3.heap.size := fun k hk => hk.elim (fun e => e) (fun e => by cases e)
    refine ⟨fun i => if i = (last : Int) + 1 then (w3.heap.size, .slice none 0 0) else G i, ⟨r5, hM5.congr (fun i hi => ?_), fun i hi => ?_, fun i hi => ?_, fun i hi j hj hij k hk => ?_, fun i hi k hk => ?_, fun i hi => ?_, by omega, ?_⟩, ⟨u05.mono (fun k _ e => e.elim .inl (fun e => .inr (.inl e))), fun k hk => ?_⟩⟩
    · rcases hin i hi with hi | rfl
      · simp only [if_neg (hnk i hi)]; rw [setW_other _ _ (hnk i hi)]
      · simp only [if_true]; rw [setW_same]; rfl
    · rcases hin i hi with hi | rfl
      · simp only [if_neg (hnk i hi)]
        exact (HH.out.mem i hi).upd u05 (fun k hk e => by have := HH.out.neh i hi k hk; omega)
      · simp only [if_true]
        exact ⟨b5, rfl, rfl, rfl⟩
    · rcases hin i hi with hi | rfl
      · simp only [if_neg (hnk i hi)]; exact HH.out.ok i hi
      · simp only [if_true]; exact ⟨by show 1 ≤ mx; omega, by show mx ≤ _; omega, by simp⟩
    · rcases hin i hi with hi | rfl <;> rcases hin j hj with hj | rfl
      · simp only [if_neg (hnk i hi)] at hk; simp only [if_neg (hnk j hj)]; exact HH.out.dis i hi j hj hij k hk
      · simp only [if_neg (hnk i hi)] at hk; simp only [if_true]
        exact fun e => by have := hft k e; have := (HH.out.mem i hi).lt hk; omega
      · simp only [if_true] at hk; simp only [if_neg (hnk j hj)]
        exact fun e => by have := hft k hk; have := (HH.out.mem j hj).lt e; omega
      · exact absurd rfl hij
    · rcases hin i hi with hi | rfl
      · simp only [if_neg (hnk i hi)] at hk; exact HH.out.neh i hi k hk
      · simp only [if_true] at hk
        have := hft k hk
        have := HH.out.lt (k := h) (.inl rfl)
        have := HH.out.lt (k := m) (.inr (.inl rfl))
        omega
    · rcases hin i hi with hi | rfl
      · have := HH.out.old i hi; omega
      · omega
    · rw [List.length_append]; have := HH.out.len; simp; omega
    · rcases hk with rfl | rfl | ⟨i, hi, hk⟩
      · exact .inl (.inl rfl)
      · exact .inl (.inr (.inl rfl))
      · rcases hin i hi with hi | rfl
        · simp only [if_neg (hnk i hi)] at hk; exact .inl (.inr (.inr ⟨i, hi, hk⟩))
        · simp only [if_true] at hk; have := hft k hk; exact .inr (by omega)
  have a1 : (w3.alloc (.cells #[.string lo, .string hi, .int .i64 mx] 112)).cell? ⟨h, 1, none⟩ = some (.map (some m)) := ((Below.refl _ w3).alloc (Nat.le_refl _) _ |>.cell (p := ⟨h, 1, none⟩) (World.block_lt_of_cell? _ _ d1)).trans d1
  have a2 : (w3.alloc (.cells #[.string lo, .string hi, .int .i64 mx] 112)).cell? ⟨h, 2, none⟩ = some (.int .i64 ((last : Int) + 1)) := ((Below.refl _ w3).alloc (Nat.le_refl _) _ |>.cell (p := ⟨h, 2, none⟩) (World.block_lt_of_cell? _ _ d2)).trans d2
  rw [hw4] at hrun
  clear HH HROW hc1 hc2 r1 u1 hb2 hb3 hb13 r3 b34 r4 u4 hM5 u5 r4h r5 u05 b5 hw4 hmx
  go_region
  go_wp2
  go_ret
  exact ⟨rfl, HFIN.out⟩
end
end Go.Proofs.YtjdmgmnndfhmgaaGreat
/- A hub's Poll. -/
namespace Go.Proofs.YtjdmgmnndfhmgaaGreat
open Go Go.RowKit

def setX (X : Int → Wd) (k : Int) (x : Wd) : Int → Wd := fun j => if j = k then x else X j
def setG (G : Int → Nat × Value) (k : Int) (q : Nat × Value) : Int → Nat × Value := fun j => if j = k then q else G j
theorem setX_same (X : Int → Wd) (k : Int) (x : Wd) : setX X k x k = x := if_pos rfl
theorem setX_other (X : Int → Wd) {k j : Int} (x : Wd) (h : ¬ j = k) : setX X k x j = X j := if_neg h
theorem setG_same (G : Int → Nat × Value) (k : Int) (q : Nat × Value) : setG G k q k = q := if_pos rfl
theorem setG_other (G : Int → Nat × Value) {k j : Int} (q : Nat × Value) (h : ¬ j = k) : setG G k q j = G j := if_neg h
section
variable {w w' : World} {h s m last : Nat} {A : List Int} {X : Int → Wd} {G : Int → Nat × Value}
/-- One watcher is turned. -/
theorem Hb.turn (H : Hb w h s m last A X G) {id : Int} (hid : id ∈ A) (x' : Wd) (q' : Nat × Value) (hu : Upd w w' (fun k => ftE (G id) k ∨ k = m)) (hM : MI w' m A (fun i => ifv (setX X id x' i) (setG G id q' i).1)) (hW : WM w' q' x') (hok : x'.Ok) (hq : ∀ k, ftE q' k → ftE (G id) k ∨ w.heap.size ≤ k) :
    Hb w' h s m last A (setX X id x') (setG G id q') ∧ Kp w w' h m A A G (setG G id q') := by
  have hh : ¬ (ftE (G id) h ∨ h = m) := fun e => e.elim (fun e => (H.neh id hid h e).1 rfl) H.ne
  have hfq : ∀ j ∈ A, ¬ j = id → ∀ k, ftE q' k → ¬ ftE (G j) k := fun j hj hji k hk e => by
    rcases hq k hk with h1 | h1
    · exact H.dis id hid j hj (fun e => hji e.symm) k h1 e
    · have := (H.mem j hj).lt e; omega
  refine ⟨⟨(hu.block h (H.lt (.inl rfl)) hh).trans H.blk, hM, fun i hi => ?_, fun i hi => ?_, fun i hi j hj hij k hk => ?_, fun i hi k hk => ?_, H.old, H.few, H.len⟩, ⟨hu.mono (fun k _ e => e.elim (fun e => .inr (.inr ⟨id, hid, e⟩)) (fun e => .inr (.inl e))), fun k hk => ?_⟩⟩
  · by_cases e : i = id
    · subst e; rw [setX_same, setG_same]; exact hW
    · rw [setX_other _ _ e, setG_other _ _ e]
      exact (H.mem i hi).upd hu (fun k hk e2 => e2.elim (fun e2 => H.dis i hi id hid e k hk e2) (fun e2 => (H.neh i hi k hk).2 e2))
  · by_cases e : i = id
    · subst e; rw [setX_same]; exact hok
    · rw [setX_other _ _ e]; exact H.ok i hi
  · by_cases e : i = id
    · subst e
      rw [setG_same] at hk
      rw [setG_other _ _ (fun e => hij e.symm)]
      exact hfq j hj (fun e => hij e.symm) k hk
    · rw [setG_other _ _ e] at hk
      by_cases e2 : j = id
      · subst e2
        rw [setG_same]
        exact fun e3 => hfq i hi e k e3 hk
      · rw [setG_other _ _ e2]
        exact H.dis i hi j hj hij k hk
  · by_cases e : i = id
    · subst e
      rw [setG_same] at hk
      rcases hq k hk with h1 | h1
      · exact H.neh i hi k h1
      · have := H.lt (k := h) (.inl rfl)
        have := H.lt (k := m) (.inr (.inl rfl))
        omega
    · rw [setG_other _ _ e] at hk
      exact H.neh i hi k hk
  · rcases hk with rfl | rfl | ⟨i, hi, hk⟩
    · exact .inl (.inl rfl)
    · exact .inl (.inr (.inl rfl))
    · by_cases e : i = id
      · subst e
        rw [setG_same] at hk
        rcases hq k hk with h1 | h1
        · exact .inl (.inr (.inr ⟨i, hi, h1⟩))
        · exact .inr h1
      · rw [setG_other _ _ e] at hk
        exact .inl (.inr (.inr ⟨i, hi, hk⟩))
/-- The same, where its block is the same. -/
theorem Hb.turn1 (H : Hb w h s m last A X G) {id : Int} (hid : id ∈ A) (x' : Wd) (v' : Value) (hu : Upd w w' (ftE (G id))) (hfd : x'.fd = (X id).fd) (hW : WM w' ((G id).1, v') x') (hok : x'.Ok) (hq : ∀ k, v'.ownBlock = some k → ftE (G id) k ∨ w.heap.size ≤ k) :
    Hb w' h s m last A (setX X id x') (setG G id ((G id).1, v')) ∧ Kp w w' h m A A G (setG G id ((G id).1, v')) := by
  refine H.turn hid x' _ (hu.mono (fun _ _ e => .inl e)) ((H.map.upd hu (fun e => (H.neh id hid m e).2 rfl)).congr (fun i hi => ?_)) hW hok (fun k hk => hk.elim (fun e => .inl (.inl e)) (fun e => hq k e))
  by_cases e : i = id
  · subst e; rw [setX_same, setG_same]; unfold ifv; rw [hfd]
  · rw [setX_other _ _ e, setG_other _ _ e]
theorem setX_id (X : Int → Wd) (id : Int) : setX X id (X id) = X := by funext j; unfold setX; split <;> simp_all
variable {n : Nat} {S : Sto} {g : Sg} {o : Value}
/-- What a poll tells. -/
def pollE (S : Sto) (x : Wd) : Int := match x.fd with
  | false => if x.place ≤ S.past then 16 else 0
  | true => if x.buf = [] then x.fin else 0
def pollL (S : Sto) (x : Wd) (most : Int) : List Evd := match x.fd with
  | false => if x.place ≤ S.past then [] else (newsL S x.lo x.hi x.place).take (wholeN most (newsL S x.lo x.hi x.place))
  | true => x.buf.take most.toNat
def pollX (S : Sto) (x : Wd) (most : Int) : Wd := match x.fd with
  | false => if x.place ≤ S.past then x else if wholeN most (newsL S x.lo x.hi x.place) = (newsL S x.lo x.hi x.place).length then ⟨x.lo, x.hi, max x.place ((S.rev : Int) + 1), true, [], 0⟩ else { x with place := placeN S x.place (newsL S x.lo x.hi x.place) (wholeN most (newsL S x.lo x.hi x.place)) }
  | true => { x with buf := x.buf.drop most.toNat }
/-- What poll leaves. -/
def PolL (w w' : World) (h s m last : Nat) (A : List Int) (X : Int → Wd) (G : Int → Nat × Value) (S : Sto) (id most : Int) (p : Option Addr) (c : Nat) : Prop :=
  w'.ownsRow w.heap.size 63 8 (.slice p (pollL S (X id) most).length c) (pollL S (X id) most).length (evsC (pollL S (X id) most)) ∧ ∃ G', Hb w' h s m last A (setX X id (pollX S (X id) most)) G' ∧ Kp w w' h m A A G G'
theorem ta_beh (v : Value) (W : World) : (Instr.typeAssert (.iface 108 v) 100 108 true).run Tryz.prog W = .ok (.tuple #[v, .bool true]) W := by kernel_rfl
theorem ta_nbe (v : Value) (W : World) : (Instr.typeAssert (.iface 101 v) 100 108 true).run Tryz.prog W = .ok (.tuple #[.pointer none, .bool false]) W := by kernel_rfl
theorem ta_fed (v : Value) (W : World) : (Instr.typeAssert (.iface 101 v) 100 101 true).run Tryz.prog W = .ok (.tuple #[v, .bool true]) W := by kernel_rfl
theorem ta_nfe (v : Value) (W : World) : (Instr.typeAssert (.iface 108 v) 100 101 true).run Tryz.prog W = .ok (.tuple #[.pointer none, .bool false]) W := by kernel_rfl
theorem ta_fe1 (v : Value) (W : World) : (Instr.typeAssert (.iface 101 v) 100 101 false).run Tryz.prog W = .ok v W := by kernel_rfl
set_option maxRecDepth 100000 in
set_option maxHeartbeats 2000000 in
theorem poll_fed (H : Hb w h s m last A X G) {id : Int} (hid : id ∈ A) (hx : (X id).fd = true) (most : Int) (hm : 1 ≤ most) :
    Calls Tryz.prog 51 #[ptr h, .int .i64 id, .iface 101 (ptr (G id).1), .int .i64 most] w fun e w' => ∃ p c, e = .returned (.tuple #[.slice p (pollL S (X id) most).length c, .int .i64 (pollE S (X id))]) ∧ Hid (PolL w w' h s m last A X G S id most p c) := by
  have hF : Fd w (G id).1 (G id).2 (X id).lo (X id).hi (X id).place (X id).buf (X id).fin := by have := H.mem id hid; unfold WM at this; rw [hx] at this; exact this
  have eL : pollL S (X id) most = (X id).buf.take most.toNat := by unfold pollL; rw [hx]
  have eE : pollE S (X id) = if (X id).buf = [] then (X id).fin else 0 := by unfold pollE; rw [hx]
  have eX : pollX S (X id) most = { X id with buf := (X id).buf.drop most.toNat } := by unfold pollX; simp [hx]
  have hok := H.ok id hid
  have HH := Hid.mkW H
  have t1 := ta_nbe (ptr (G id).1)
  have t2 := ta_fe1 (ptr (G id).1)
  by_cases hb : (X id).buf = []
  · rw [hb] at hF
    have htk := ftake_none w (G id).1 (G id).2 (X id).lo (X id).hi (X id).place (X id).fin most hF
    have HFIN : Hid (∀ w', Below w.heap.size w w' → PolL w w' h s m last A X G S id most none 0) := fun w' hw => by
      unfold PolL
      rw [eL, eX, hb]
      refine ⟨by simp; exact World.ownsRow_nil _ _ _ _, _, HH.out.turn1 hid _ (G id).2 (Upd.ofBelow hw) rfl ?_ ⟨hok.a, hok.b, by simp⟩ (fun k hk => .inl (.inr hk))⟩
      unfold WM
      rw [hx]
      dsimp only
      rw [List.drop_nil]
      exact hF.below hw
    have e1 : (pollL S (X id) most).length = 0 := by rw [eL, hb]; simp
    have e2 : pollE S (X id) = (X id).fin := by rw [eE, if_pos hb]
    rw [e1, e2]
    clear H hF eL eE eX hok HH e1 e2
    go_enter Tryz.func51, Tryz.ntmps51
    go_wp2_with (first | (go_at_call 67; refine htk.mono ?_; rintro e w2 ⟨rfl, hw2⟩))
    refine bodyPost_ret (results_tmp2 rfl _ _ _) rfl ?_
    exact ⟨none, 0, rfl, HFIN.out w2 hw2⟩
  · have hl0 : 0 < (X id).buf.length := List.length_pos_iff.2 hb
    obtain ⟨n, hn⟩ : ∃ n : Nat, (n : Int) = min most (X id).buf.length := ⟨(min most (X id).buf.length).toNat, by omega⟩
    have htk := ftake_some w (G id).1 (G id).2 (X id).lo (X id).hi (X id).place (X id).fin most (X id).buf hF hl0 hok.c n hn (by omega)
    have hn2 : (X id).buf.take most.toNat = (X id).buf.take n ∧ (X id).buf.drop most.toNat = (X id).buf.drop n := by
      rcases Int.le_total most (X id).buf.length with h1 | h1
      · have : most.toNat = n := by omega
        rw [this]; exact ⟨rfl, rfl⟩
      · have : n = (X id).buf.length := by omega
        rw [this]
        exact ⟨by rw [List.take_length, List.take_of_length_le (by omega)], by rw [List.drop_length, List.drop_of_length_le (by omega)]⟩
    have hnl : ((X id).buf.take n).length = n := by rw [List.length_take]; omega
    have e1 : (pollL S (X id) most).length = n := by rw [eL, hn2.1, hnl]
    have e2 : pollE S (X id) = 0 := by rw [eE, if_neg hb]
    have HFIN : Hid (∀ w' p c v', w'.ownsRow w.heap.size 63 8 (.slice p n c) n (evsC ((X id).buf.take n)) → Fd w' (G id).1 v' (X id).lo (X id).hi (X id).place ((X id).buf.drop n) (X id).fin → v'.ownBlock = (G id).2.ownBlock → Upd w w' (fun k => k = (G id).1 ∨ (G id).2.ownBlock = some k) → PolL w w' h s m last A X G S id most p c) := fun w' p c v' q1 q2 q3 q4 => by
      unfold PolL
      rw [eL, eX, hn2.1, hn2.2, hnl]
      refine ⟨q1, _, HH.out.turn1 hid _ v' q4 rfl ?_ ⟨hok.a, hok.b, by dsimp only; rw [List.length_drop]; have := hok.c; omega⟩ (fun k hk => .inl (.inr (by rw [← q3]; exact hk)))⟩
      unfold WM
      rw [hx]
      exact q2
    rw [e1, e2]
    clear H hF eL eE eX hok HH e1 e2 hn2 hn
    go_enter Tryz.func51, Tryz.ntmps51
    go_wp2_with (first | (go_at_call 67; refine htk.mono ?_; rintro e w2 ⟨p2, c2, rfl, q1, v2, q2, q3, q4⟩))
    refine bodyPost_ret (results_tmp2 rfl _ _ _) rfl ?_
    exact ⟨p2, c2, rfl, HFIN.out w2 p2 c2 v2 q1 q2 q3 q4⟩
set_option maxRecDepth 100000 in
set_option maxHeartbeats 2000000 in
theorem poll_past (H : Hb w h s m last A X G) (HS : Sk n w s S g o) {id : Int} (hid : id ∈ A) (hx : (X id).fd = false) (most : Int) (hp : (X id).place ≤ S.past) :
    Calls Tryz.prog 51 #[ptr h, .int .i64 id, .iface 108 (ptr (G id).1), .int .i64 most] w fun e w' => ∃ p c, e = .returned (.tuple #[.slice p (pollL S (X id) most).length c, .int .i64 (pollE S (X id))]) ∧ Hid (PolL w w' h s m last A X G S id most p c) := by
  have hB : Bh w (G id).1 (X id).lo (X id).hi (X id).place ∧ (G id).2 = .slice none 0 0 ∧ (X id).buf = [] ∧ (X id).fin = 0 := by have := H.mem id hid; unfold WM at this; rw [hx] at this; exact this
  have eL : pollL S (X id) most = [] := by unfold pollL; rw [hx]; simp [hp]
  have eE : pollE S (X id) = 16 := by unfold pollE; rw [hx]; simp [hp]
  have eX : pollX S (X id) most = X id := by unfold pollX; rw [hx]; simp [hp]
  have hok := H.ok id hid
  have HFIN : Hid (∀ w', Below w.heap.size w w' → PolL w w' h s m last A X G S id most none 0) := fun w' hw => by
    unfold PolL
    rw [eL, eX, setX_id]
    exact ⟨World.ownsRow_nil _ _ _ _, G, H.below hw, ⟨Upd.ofBelow hw, fun k hk => .inl hk⟩⟩
  have t1 := ta_beh (ptr (G id).1)
  have hc := catch_past HS (G id).1 (X id).lo (X id).hi (X id).place most hB.1 hok.a hp
  have c0 : w.cell? ⟨h, 0, none⟩ = some (ptr s) := cell_of_row _ _ _ _ _ _ H.blk
  rw [eL, eE]
  clear H HS hB eL eE eX hok
  go_enter Tryz.func51, Tryz.ntmps51
  go_wp2_with (first | (go_at_call 68; refine hc.mono ?_; rintro e w2 ⟨rfl, hw2⟩))
  refine bodyPost_ret (results_tmp2 rfl _ _ _) rfl ?_
  exact ⟨none, 0, rfl, HFIN.out w2 hw2⟩
set_option maxRecDepth 100000 in
set_option maxHeartbeats 4000000 in
theorem poll_beh (H : Hb w h s m last A X G) (HS : Sk n w s S g o) (sep : ∀ k, ftH h m A G k → ¬ ftS s g k) {id : Int} (hid : id ∈ A) (hx : (X id).fd = false) (most : Int) (hp : ¬ (X id).place ≤ S.past) :
    Calls Tryz.prog 51 #[ptr h, .int .i64 id, .iface 108 (ptr (G id).1), .int .i64 most] w fun e w' => ∃ p c, e = .returned (.tuple #[.slice p (pollL S (X id) most).length c, .int .i64 (pollE S (X id))]) ∧ Hid (PolL w w' h s m last A X G S id most p c) := by
  have hB : Bh w (G id).1 (X id).lo (X id).hi (X id).place ∧ (G id).2 = .slice none 0 0 ∧ (X id).buf = [] ∧ (X id).fin = 0 := by have := H.mem id hid; unfold WM at this; rw [hx] at this; exact this
  obtain ⟨L, hL⟩ : ∃ L, L = newsL S (X id).lo (X id).hi (X id).place := ⟨_, rfl⟩
  obtain ⟨k, hk⟩ : ∃ k, k = wholeN most L := ⟨_, rfl⟩
  have hkl : k ≤ L.length := by rw [hk]; exact wholeN_le _ _
  have eL : pollL S (X id) most = L.take k := by unfold pollL; rw [hx]; simp only [if_neg hp]; rw [hk, hL]
  have eE : pollE S (X id) = 0 := by unfold pollE; rw [hx]; simp [hp]
  have hok := H.ok id hid
  have hrev := HS.rev
  have hbs : (G id).1 ≠ s := fun e => sep (G id).1 (.inr (.inr ⟨id, hid, .inl rfl⟩)) (.inl e)
  have hc := catch_ok HS (G id).1 (X id).lo (X id).hi (X id).place most hB.1 hbs hok.a hp hok.b L hL k hk
  have hkt : (L.take k).length = k := by rw [List.length_take]; omega
  have e1 : (pollL S (X id) most).length = k := by rw [eL, hkt]
  have c0 : w.cell? ⟨h, 0, none⟩ = some (ptr s) := cell_of_row _ _ _ _ _ _ H.blk
  have hgh : ¬ h = (G id).1 := fun e => (H.neh id hid h (.inl e)).1 rfl
  have HROW : Hid (∀ W, Upd w W (fun j => j = (G id).1) → W.heap[h]? = some (.cells #[ptr s, .map (some m), .int .i64 last] 77 (0, 0))) := fun W hW => (hW.block h (H.lt (.inl rfl)) hgh).trans H.blk
  have hrv : ∀ e ∈ L, 1 ≤ e.1 ∧ e.1 ≤ 100000 := fun e he => by
    rw [hL] at he
    have h2 := newsL_rev he
    have := hok.a
    omega
  have t1 := ta_beh (ptr (G id).1)
  by_cases hall : k = L.length
  · have eX : pollX S (X id) most = ⟨(X id).lo, (X id).hi, max (X id).place ((S.rev : Int) + 1), true, [], 0⟩ := by unfold pollX; rw [hx]; simp only [if_neg hp]; rw [← hL, ← hk, if_pos hall]
    have epl : placeN S (X id).place L k = max (X id).place ((S.rev : Int) + 1) := by unfold placeN; rw [if_pos hall]
    rw [epl] at hc
    obtain ⟨pl, hpl⟩ : ∃ pl, pl = max (X id).place ((S.rev : Int) + 1) := ⟨_, rfl⟩
    rw [← hpl] at hc eX
    have hd : decide (k = L.length) = true := by simp [hall]
    rw [hd] at hc
    rw [e1, eE]
    have HB' := Hid.mkW hB
    have HH := Hid.mkW H
    have HOK := Hid.mkW hok
    have HEL := Hid.mkW eL
    have HEX := Hid.mkW eX
    have HKT := Hid.mkW hkt
    have HPL := Hid.mkW hpl
    clear H HS hB eL eE eX hok e1 hd epl hall hL hk hkt hpl
    go_enter Tryz.func51, Tryz.ntmps51
    go_upto_region 6 with (first | (go_at_call 68; refine hc.mono ?_; rintro e w2 ⟨p2, c2, rfl, q1, q2, q3⟩))
    have r2 := HROW.out w2 q3
    have d1 : w2.cell? ⟨h, 1, none⟩ = some (.map (some m)) := cell_of_row _ _ _ _ _ _ r2
    have y0 : w2.cell? ⟨(G id).1, 0, none⟩ = some (.string (X id).lo) := cell_of_row _ _ _ _ _ _ q2
    have y1 : w2.cell? ⟨(G id).1, 1, none⟩ = some (.string (X id).hi) := cell_of_row _ _ _ _ _ _ q2
    have y2 : w2.cell? ⟨(G id).1, 2, none⟩ = some (.int .i64 pl) := cell_of_row _ _ _ _ _ _ q2
    obtain ⟨w3, hw3⟩ : ∃ w3, w3 = (w2.alloc (.cells #[.string (X id).lo, .string (X id).hi, .int .i64 pl, .slice none 0 0, .int .i64 0] 132)).drew := ⟨_, rfl⟩
    have b3 : Below w2.heap.size w2 w3 := by rw [hw3]; exact ((Below.refl _ w2).alloc (Nat.le_refl _) _).drew
    have r3 : w3.heap[w2.heap.size]? = some (.cells #[.string (X id).lo, .string (X id).hi, .int .i64 pl, .slice none 0 0, .int .i64 0] 132 (0, 0)) := by rw [hw3]; exact row_alloc w2 _ _
    have u3 : Upd w w3 (fun j => j = (G id).1) := q3.trans (Upd.ofBelow (S := fun _ => False) b3) (fun _ _ e => e.elim)
    have hgm : ¬ m = (G id).1 := fun e => (HH.out.neh id hid m (.inl e)).2 rfl
    obtain ⟨w4, hrun, hM4, u4⟩ := (HH.out.map.upd u3 hgm).set hid (.iface 101 (ptr w2.heap.size))
    have HFIN : Hid (PolL w w4 h s m last A X G S id most p2 c2) := by
      unfold PolL
      rw [HEL.out, HEX.out, HKT.out]
      have hml := HH.out.lt (k := m) (.inr (.inl rfl))
      have hw2 : w.heap.size ≤ w2.heap.size := q3.size
      have f4 : Fd w4 w2.heap.size (.slice none 0 0) (X id).lo (X id).hi pl [] 0 := ⟨(u4.block w2.heap.size (Array.getElem?_eq_some_iff.1 r3).1 (fun e => by omega)).trans r3, World.ownsRow_nil _ _ _ _⟩
      refine ⟨ownsRow_upd (ownsRow_upd q1 (Upd.ofBelow (S := fun _ => False) b3) (fun _ _ e => e)) u4 (fun j hj e => by have := (q1.lt j hj).1; omega), _, HH.out.turn hid _ (w2.heap.size, .slice none 0 0) ((u3.mono (fun j _ e => .inl (.inl e))).trans u4 (fun j _ e => .inr e)) (hM4.congr (fun i hi => ?_)) f4 ⟨by dsimp only; have := HOK.out.a; have := HPL.out; omega, by dsimp only; have := HOK.out.b; have := HPL.out; omega, by simp⟩ (fun j hj => .inr ?_)⟩
      · by_cases e : i = id
        · subst e; rw [setX_same, setG_same, setW_same]; rfl
        · rw [setX_other _ _ e, setG_other _ _ e, setW_other _ _ e]
      · rcases hj with e | e
        · simp only at e; omega
        · cases e
    have a1 : (w2.alloc (.cells #[.string (X id).lo, .string (X id).hi, .int .i64 pl, .slice none 0 0, .int .i64 0] 132)).cell? ⟨h, 1, none⟩ = some (.map (some m)) := ((Below.refl _ w2).alloc (Nat.le_refl _) _ |>.cell (p := ⟨h, 1, none⟩) (World.block_lt_of_cell? _ _ d1)).trans d1
    rw [hw3] at hrun
    clear q1 q2 q3 r2 b3 r3 u3 hM4 u4 hw3 HH HROW HEL HEX HB' HKT HPL HOK hgm
    generalize (X id).lo = lo at *
    generalize (X id).hi = hi at *
    generalize (G id).1 = b at *
    go_region
    go_wp2
    refine bodyPost_ret (results_tmp2 rfl _ _ _) rfl ?_
    exact ⟨p2, c2, rfl, HFIN⟩
  · have hlt : k < L.length := by omega
    have eX : pollX S (X id) most = { X id with place := placeN S (X id).place L k } := by unfold pollX; rw [hx]; simp only [if_neg hp]; rw [← hL, ← hk, if_neg hall]; rw [hx]
    have hd : decide (k = L.length) = false := by simp [hall]
    rw [hd] at hc
    rw [e1, eE]
    have hk0 := wholeN_pos most L (by rw [← hk]; exact hlt)
    rw [← hk] at hk0
    obtain ⟨ev, hev⟩ : ∃ ev, L[k - 1]? = some ev := ⟨_, List.getElem?_eq_getElem (by omega)⟩
    have epl : placeN S (X id).place L k = ev.1 + 1 := by unfold placeN; rw [if_neg hall, hev]; rfl
    have hev2 := hrv ev (List.mem_of_getElem? hev)
    have HFIN : Hid (∀ w2 p2 c2, w2.ownsRow w.heap.size 63 8 (.slice p2 k c2) k (evsC (L.take k)) → Bh w2 (G id).1 (X id).lo (X id).hi (placeN S (X id).place L k) → Upd w w2 (fun j => j = (G id).1) → PolL w w2 h s m last A X G S id most p2 c2) := fun w2 p2 c2 q1 q2 q3 => by
      unfold PolL
      rw [eL, eX, hkt]
      refine ⟨q1, _, H.turn1 hid _ (G id).2 (q3.mono (fun j _ e => .inl e)) rfl ?_ ⟨by dsimp only; omega, by dsimp only; omega, hok.c⟩ (fun j hj => .inl (.inr hj))⟩
      unfold WM
      rw [hx]
      exact ⟨q2, hB.2⟩
    clear H HS hB eL eE eX hok e1 hd epl hall hL hk hkt hev hev2 hrv
    go_enter Tryz.func51, Tryz.ntmps51
    go_wp2_with (first | (go_at_call 68; refine hc.mono ?_; rintro e w2 ⟨p2, c2, rfl, q1, q2, q3⟩))
    refine bodyPost_ret (results_tmp2 rfl _ _ _) rfl ?_
    exact ⟨p2, c2, rfl, HFIN.out w2 p2 c2 q1 q2 q3⟩
end
end Go.Proofs.YtjdmgmnndfhmgaaGreat
/- A hub's Poll, whole. -/
namespace Go.Proofs.YtjdmgmnndfhmgaaGreat
open Go Go.RowKit
section
variable {w w' : World} {h s m last : Nat} {A : List Int} {X : Int → Wd} {G : Int → Nat × Value} {n : Nat} {S : Sto} {g : Sg} {o : Value}
theorem Hb.drop (H : Hb w h s m last A X G) (id : Int) (hM : MI w' m (delN id A) (fun i => ifv (X i) (G i).1)) (hu : Upd w w' (fun k => k = m)) : Hb w' h s m last (delN id A) X G := by
  have hin : ∀ i, i ∈ delN id A → i ∈ A := fun i hi => (mem_delN.1 hi).1
  exact ⟨(hu.block h (H.lt (.inl rfl)) H.ne).trans H.blk, hM, fun i hi => (H.mem i (hin i hi)).upd hu (fun k hk e => (H.neh i (hin i hi) k hk).2 e), fun i hi => H.ok i (hin i hi), fun i hi j hj => H.dis i (hin i hi) j (hin j hj), fun i hi => H.neh i (hin i hi), fun i hi => H.old i (hin i hi), H.few, Nat.le_trans (List.length_filter_le _ _) H.len⟩
/-- Who is there behind a poll. -/
def pollA (S : Sto) (A : List Int) (x : Wd) (id : Int) : List Int := if pollE S x = 0 then A else delN id A
theorem hub_none (H : Hb w h s m last A X G) (id most : Int) (hi : isI id) (hid : id ∉ A) : Calls Tryz.prog 23 #[ptr h, .int .i64 id, .int .i64 most] w fun e w' => e = .returned (.tuple #[.slice none 0 0, .int .i64 2]) ∧ w' = w := by
  have c1 : w.cell? ⟨h, 1, none⟩ = some (.map (some m)) := cell_of_row _ _ _ _ _ _ H.blk
  have hlook := H.map.look id hi
  rw [if_neg hid, decide_eq_false hid] at hlook
  clear H
  go_enter Tryz.func23, Tryz.ntmps23
  go_wp2
  refine bodyPost_ret (results_tmp2 rfl _ _ _) rfl ?_
  exact ⟨rfl, rfl⟩
theorem Kp.trans {w1 w2 w3 : World} {A1 A2 A3 : List Int} {G1 G2 G3 : Int → Nat × Value} (a : Kp w1 w2 h m A1 A2 G1 G2) (b : Kp w2 w3 h m A2 A3 G2 G3) : Kp w1 w3 h m A1 A3 G1 G3 :=
  ⟨a.upd.trans b.upd (fun k hk e => (a.foot k e).elim (fun e => e) (fun e => by omega)), fun k hk => (b.foot k hk).elim (fun e => a.foot k e) (fun e => .inr (Nat.le_trans a.upd.size e))⟩
theorem poll_all (H : Hb w h s m last A X G) (HS : Sk n w s S g o) (sep : ∀ k, ftH h m A G k → ¬ ftS s g k) {id : Int} (hid : id ∈ A) (most : Int) (hm : 1 ≤ most) :
    Calls Tryz.prog 51 #[ptr h, .int .i64 id, ifv (X id) (G id).1, .int .i64 most] w fun e w' => ∃ p c, e = .returned (.tuple #[.slice p (pollL S (X id) most).length c, .int .i64 (pollE S (X id))]) ∧ Hid (PolL w w' h s m last A X G S id most p c) := by
  unfold ifv
  cases hx : (X id).fd with
  | true => exact poll_fed H hid hx most hm
  | false =>
    by_cases hp : (X id).place ≤ S.past
    · exact poll_past H HS hid hx most hp
    · exact poll_beh H HS sep hid hx most hp
set_option maxRecDepth 100000 in
set_option maxHeartbeats 4000000 in
theorem hub_poll (H : Hb w h s m last A X G) (HS : Sk n w s S g o) (sep : ∀ k, ftH h m A G k → ¬ ftS s g k) {id : Int} (hid : id ∈ A) (most mo : Int) (hmo : mo = max most 1) :
    Calls Tryz.prog 23 #[ptr h, .int .i64 id, .int .i64 most] w fun e w' => ∃ p c, e = .returned (.tuple #[.slice p (pollL S (X id) mo).length c, .int .i64 (pollE S (X id))]) ∧ Hid (w'.ownsRow w.heap.size 63 8 (.slice p (pollL S (X id) mo).length c) (pollL S (X id) mo).length (evsC (pollL S (X id) mo)) ∧ ∃ G', Hb w' h s m last (pollA S A (X id) id) (setX X id (pollX S (X id) mo)) G' ∧ Kp w w' h m A (pollA S A (X id) id) G G') := by
  have c1 : w.cell? ⟨h, 1, none⟩ = some (.map (some m)) := cell_of_row _ _ _ _ _ _ H.blk
  have hi : isI id := by have := H.map.ok id hid; show _ ∧ _; omega
  have hlook := H.map.look id hi
  rw [if_pos hid, decide_eq_true hid] at hlook
  have hpoll := poll_all H HS sep hid mo (by omega)
  obtain ⟨t, b, hifv⟩ : ∃ t b, ifv (X id) (G id).1 = .iface t b := ⟨_, _, rfl⟩
  rw [hifv] at hpoll hlook
  obtain ⟨er, her⟩ : ∃ er, er = pollE S (X id) := ⟨_, rfl⟩
  obtain ⟨LL, hLL⟩ : ∃ LL, LL = (pollL S (X id) mo).length := ⟨_, rfl⟩
  have HPL : Hid (∀ w2 p c, PolL w w2 h s m last A X G S id mo p c → w2.cell? ⟨h, 1, none⟩ = some (.map (some m)) ∧ ∃ w3, (∀ ty, (Builtin.delete_ #[75, 3] ty #[.map (some m), .int .i64 id]).run Tryz.prog w2 = .ok (.tuple #[]) w3) ∧ (er ≠ 0 → w3.ownsRow w.heap.size 63 8 (.slice p LL c) LL (evsC (pollL S (X id) mo)) ∧ ∃ G', Hb w3 h s m last (pollA S A (X id) id) (setX X id (pollX S (X id) mo)) G' ∧ Kp w w3 h m A (pollA S A (X id) id) G G')) := fun w2 p c hP => by
    obtain ⟨q1, G', q2, q3⟩ := hP
    obtain ⟨w3, hrun, hM3, u3⟩ := q2.map.del id hi 0
    refine ⟨cell_of_row _ _ _ _ _ _ q2.blk, w3, fun ty => hrun, fun he => ?_⟩
    have hA : pollA S A (X id) id = delN id A := by unfold pollA; rw [if_neg (by rw [← her]; exact he)]
    rw [hA, hLL]
    have hmn : m < w.heap.size := H.lt (.inr (.inl rfl))
    refine ⟨ownsRow_upd q1 u3 (fun k hk e => by have := (q1.lt k hk).1; omega), G', q2.drop id hM3 u3, ⟨q3.upd.trans u3 (fun k _ e => .inr (.inl e)), fun k hk => ?_⟩⟩
    rcases hk with e | e | ⟨i, hi, hk⟩
    · exact .inl (.inl e)
    · exact .inl (.inr (.inl e))
    · exact q3.foot k (.inr (.inr ⟨i, (mem_delN.1 hi).1, hk⟩))
  have HPE : Hid (er = 0 → pollA S A (X id) id = A) := fun e => by unfold pollA; rw [if_pos (by rw [← her]; exact e)]
  have HLL := Hid.mkW hLL
  rw [← her, ← hLL] at hpoll ⊢
  clear H HS her hLL hifv
  by_cases hm1 : most < 1
  · obtain rfl : mo = 1 := by omega
    clear hmo
    go_enter Tryz.func23, Tryz.ntmps23
    go_upto_region 7 with (first | (go_at_call 51; refine hpoll.mono ?_; rintro e w2 ⟨p2, c2, rfl, HP⟩))
    obtain ⟨d1, w3, hdel, hfin⟩ := HPL.out w2 p2 c2 HP.out
    have HF := Hid.mkW hfin
    clear hfin HPL hpoll hlook c1
    by_cases he : er = 0
    · have hq : (er != 0) = false := by simp [he]
      go_wp2
      refine bodyPost_ret (results_tmp2 rfl _ _ _) rfl ?_
      refine ⟨p2, c2, rfl, ?_⟩
      have := HP.out
      unfold PolL at this
      rw [HLL.out, HPE.out he]
      exact this
    · have hq : (er != 0) = true := by simp [he]
      go_wp2
      refine bodyPost_ret (results_tmp2 rfl _ _ _) rfl ?_
      exact ⟨p2, c2, rfl, HF.out he⟩
  · obtain rfl : mo = most := by omega
    clear hmo
    go_enter Tryz.func23, Tryz.ntmps23
    go_upto_region 7 with (first | (go_at_call 51; refine hpoll.mono ?_; rintro e w2 ⟨p2, c2, rfl, HP⟩))
    obtain ⟨d1, w3, hdel, hfin⟩ := HPL.out w2 p2 c2 HP.out
    have HF := Hid.mkW hfin
    clear hfin HPL hpoll hlook c1
    by_cases he : er = 0
    · have hq : (er != 0) = false := by simp [he]
      go_wp2
      refine bodyPost_ret (results_tmp2 rfl _ _ _) rfl ?_
      refine ⟨p2, c2, rfl, ?_⟩
      have := HP.out
      unfold PolL at this
      rw [HLL.out, HPE.out he]
      exact this
    · have hq : (er != 0) = true := by simp [he]
      go_wp2
      refine bodyPost_ret (results_tmp2 rfl _ _ _) rfl ?_
      exact ⟨p2, c2, rfl, HF.out he⟩
end
end Go.Proofs.YtjdmgmnndfhmgaaGreat
