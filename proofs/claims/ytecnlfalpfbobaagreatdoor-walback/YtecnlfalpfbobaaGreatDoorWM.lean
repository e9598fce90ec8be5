/- The state of a log in memory, and what the small calls on it do. -/
import Derived.Test.YtecnlfalpfbobaaGreatDoorWS
import Derived.Test.YtecnlfalpfbobaaGreatDoorWR
import Derived.Deep.LoopGhost
import Derived.BigQuiet
import Derived.Test.YtecnlfalpfbobaaGreatDoorKnown
namespace Go.Proofs.YtecnlfalpfbobaaGreatDoor
open Go Go.RowKit
/-- An entry in memory: what it is, its slice of bytes. -/
structure Ev where
  e : En
  v : Value
instance : Ix Ev := ⟨fun x => x.e.i, fun x => x.e.t⟩
/-- Voters in memory: what they are, their slice. -/
structure Vv where
  vs : List Int
  v : Value
abbrev Sm := St Ev Vv
abbrev RecV := RecG Ev Vv
def Ev.cells (x : Ev) : List Value := [.int .i64 x.e.i, .int .i64 x.e.t, .int .i64 x.e.k, x.v]
abbrev rowOf (xs : List Ev) : List Value := xs.flatMap Ev.cells
def recVal : RecV → Value
  | .hard t v c => .iface 153 (.agg #[.int .i64 t, .int .i64 v, .int .i64 c])
  | .entry x => .iface 152 (.agg #[.int .i64 x.e.i, .int .i64 x.e.t, .int .i64 x.e.k, x.v])
  | .base i t vv => .iface 117 (.agg #[.int .i64 i, .int .i64 t, vv.v])
structure EvOk (w : World) (x : Ev) : Prop where
  sees : Sees w x.v x.e.d
  isb : isB x.e.d
  len : x.e.d.length ≤ 70000
structure VvOk (w : World) (x : Vv) : Prop where
  sees : SeesI w x.v x.vs
  len : x.vs.length ≤ 255
def EvAway (S : Nat → Prop) (x : Ev) : Prop := ∀ k, x.v.ownBlock = some k → 0 < x.e.d.length → ¬ S k
def VvAway (S : Nat → Prop) (x : Vv) : Prop := ∀ k, x.v.ownBlock = some k → 0 < x.vs.length → ¬ S k
theorem SeesI.upd {w w' : World} {S : Nat → Prop} {v : Value} {zs : List Int} (h : SeesI w v zs) (hu : Upd w w' S) (hS : ∀ k, v.ownBlock = some k → 0 < zs.length → ¬ S k) : SeesI w' v zs := by
  rcases h with h | ⟨b, off, cap, rfl, h0, h1, hc⟩
  · exact .inl h
  · refine .inr ⟨b, off, cap, rfl, h0, Nat.lt_of_lt_of_le h1 hu.size, fun i hi => ?_⟩
    rw [← hc i hi]
    exact hu.cell (p := ⟨b, off + i, none⟩) h1 (hS b rfl h0)
theorem EvOk.upd {w w' : World} {S : Nat → Prop} {x : Ev} (h : EvOk w x) (hu : Upd w w' S) (hS : EvAway S x) : EvOk w' x := ⟨h.sees.upd hu hS, h.isb, h.len⟩
theorem VvOk.upd {w w' : World} {S : Nat → Prop} {x : Vv} (h : VvOk w x) (hu : Upd w w' S) (hS : VvAway S x) : VvOk w' x := ⟨h.sees.upd hu hS, h.len⟩
theorem EvOk.lt {w : World} {x : Ev} (h : EvOk w x) {k : Nat} (hk : x.v.ownBlock = some k) (h0 : 0 < x.e.d.length) : k < w.heap.size := by
  rcases h.sees with ⟨h, _⟩ | ⟨b, off, cap, e, _, _, _, hc⟩
  · rw [h] at h0; simp at h0
  · rw [e] at hk
    simp only [Value.ownBlock, Option.some.injEq] at hk
    subst hk
    exact World.block_lt_of_cell? _ _ (hc 0 h0)
theorem VvOk.lt {w : World} {x : Vv} (h : VvOk w x) {k : Nat} (hk : x.v.ownBlock = some k) (h0 : 0 < x.vs.length) : k < w.heap.size := by
  rcases h.sees with ⟨h, _⟩ | ⟨b, off, cap, e, _, hb, hc⟩
  · rw [h] at h0; simp at h0
  · rw [e] at hk
    simp only [Value.ownBlock, Option.some.injEq] at hk
    subst hk
    exact hb
theorem EvAway.mono {S T : Nat → Prop} {x : Ev} (h : EvAway S x) (hT : ∀ k, T k → S k) : EvAway T x := fun k hk h0 ht => h k hk h0 (hT k ht)
theorem VvAway.mono {S T : Nat → Prop} {x : Vv} (h : VvAway S x) (hT : ∀ k, T k → S k) : VvAway T x := fun k hk h0 ht => h k hk h0 (hT k ht)
/-- The cells of a state, from a place of a block on. -/
structure SCells (w : World) (b o : Nat) (ht hv hc mi mt : Int) (vv ev : Value) : Prop where
  c0 : w.cell? ⟨b, o, none⟩ = some (.int .i64 ht)
  c1 : w.cell? ⟨b, o + 1, none⟩ = some (.int .i64 hv)
  c2 : w.cell? ⟨b, o + 2, none⟩ = some (.int .i64 hc)
  c3 : w.cell? ⟨b, o + 3, none⟩ = some (.int .i64 mi)
  c4 : w.cell? ⟨b, o + 4, none⟩ = some (.int .i64 mt)
  c5 : w.cell? ⟨b, o + 5, none⟩ = some vv
  c6 : w.cell? ⟨b, o + 6, none⟩ = some ev
  free : ∀ j, w.frozen? ⟨b, j, none⟩ = false
theorem SCells.lt {w : World} {b o : Nat} {ht hv hc mi mt : Int} {vv ev : Value} (h : SCells w b o ht hv hc mi mt vv ev) : b < w.heap.size := World.block_lt_of_cell? _ _ h.c0
theorem SCells.upd {w w' : World} {S : Nat → Prop} {b o : Nat} {ht hv hc mi mt : Int} {vv ev : Value} (h : SCells w b o ht hv hc mi mt vv ev) (hu : Upd w w' S) (hS : ¬ S b) : SCells w' b o ht hv hc mi mt vv ev :=
  have hl := h.lt
  have q := fun j => hu.cell (p := ⟨b, j, none⟩) hl hS
  ⟨(q _).trans h.c0, (q _).trans h.c1, (q _).trans h.c2, (q _).trans h.c3, (q _).trans h.c4, (q _).trans h.c5, (q _).trans h.c6, fun j => (hu.frozen (p := ⟨b, j, none⟩) hl hS).trans (h.free j)⟩
/-- A state lies in memory: its cells, its own row of entries, what they lead to. -/
structure SRest (B : Nat) (w : World) (b : Nat) (s : Sm) (ev : Value) : Prop where
  row : RowO w B 60 4 ev s.es.length (rowOf s.es)
  ents : ∀ x ∈ s.es, EvOk w x
  vot : VvOk w s.vs
  ne : ev.ownBlock ≠ some b
  ea : ∀ x ∈ s.es, EvAway (fun k => k = b ∨ some k = ev.ownBlock) x
  va : VvAway (fun k => k = b ∨ some k = ev.ownBlock) s.vs
  ok : s.ok
  few : s.es.length ≤ 1000000
structure Smem (B : Nat) (w : World) (b o : Nat) (s : Sm) (ev : Value) : Prop where
  cells : SCells w b o s.ht s.hv s.hc s.mi s.mt s.vs.v ev
  rest : SRest B w b s ev
theorem SRest.upd {B : Nat} {w w' : World} {S : Nat → Prop} {b : Nat} {s : Sm} {ev : Value} (h : SRest B w b s ev) (hu : Upd w w' S) (hr : ∀ k, ev.ownBlock = some k → ¬ S k) (he : ∀ x ∈ s.es, EvAway S x) (hv : VvAway S s.vs) : SRest B w' b s ev :=
  ⟨h.row.upd hu hr, fun x hx => (h.ents x hx).upd hu (he x hx), h.vot.upd hu hv, h.ne, h.ea, h.va, h.ok, h.few⟩
theorem Smem.below {B : Nat} {w w' : World} {b o : Nat} {s : Sm} {ev : Value} (h : Smem B w b o s ev) (hu : Below w.heap.size w w') : Smem B w' b o s ev :=
  have hu' : Upd w w' (fun _ => False) := Upd.ofBelow hu
  ⟨h.cells.upd hu' id, h.rest.upd hu' (fun _ _ => id) (fun _ _ _ _ _ => id) (fun _ _ _ => id)⟩
theorem Smem.upd {B : Nat} {w w' : World} {S : Nat → Prop} {b o : Nat} {s : Sm} {ev : Value} (h : Smem B w b o s ev) (hu : Upd w w' S) (hb : ¬ S b) (hr : ∀ k, ev.ownBlock = some k → ¬ S k) (he : ∀ x ∈ s.es, EvAway S x) (hv : VvAway S s.vs) : Smem B w' b o s ev :=
  ⟨h.cells.upd hu hb, h.rest.upd hu hr he hv⟩
theorem rowOf_len (xs : List Ev) : (rowOf xs).length = xs.length * 4 := by
  induction xs with
  | nil => rfl
  | cons x r ih => simp only [rowOf, List.flatMap_cons, List.length_append, List.length_cons] at *; rw [ih]; show 4 + _ = _; omega
theorem rowOf_take : ∀ (xs : List Ev) (i : Nat), (rowOf xs).take (i * 4) = rowOf (xs.take i)
  | [], i => by simp
  | x :: r, 0 => by simp
  | x :: r, i + 1 => by
    have := rowOf_take r i
    simp only [rowOf, List.flatMap_cons, List.take_succ_cons] at *
    rw [show (i + 1) * 4 = i * 4 + 4 by omega, ← this]
    rfl
theorem rowOf_drop : ∀ (xs : List Ev) (i : Nat), (rowOf xs).drop (i * 4) = rowOf (xs.drop i)
  | [], i => by simp
  | x :: r, 0 => by simp
  | x :: r, i + 1 => by
    have := rowOf_drop r i
    simp only [rowOf, List.flatMap_cons, List.drop_succ_cons] at *
    rw [show (i + 1) * 4 = i * 4 + 4 by omega, ← this]
    rfl
theorem rowOf_at : ∀ (xs : List Ev) (i : Nat) (h : i < xs.length) (j : Nat), j < 4 → (rowOf xs)[i * 4 + j]? = xs[i].cells[j]?
  | [], i, h, _, _ => by simp at h
  | x :: r, 0, _, j, hj => by
    simp only [rowOf, List.flatMap_cons, Nat.zero_mul, Nat.zero_add, List.getElem_cons_zero]
    rw [List.getElem?_append_left (by show j < 4; exact hj)]
  | x :: r, i + 1, h, j, hj => by
    have := rowOf_at r i (by simpa using h) j hj
    simp only [rowOf, List.flatMap_cons, List.getElem_cons_succ] at *
    rw [List.getElem?_append_right (by show 4 ≤ _; omega), ← this]
    congr 1
    show (i + 1) * 4 + j - 4 = _
    omega
theorem rowOf_one {w : World} {xs : List Ev} (h : ∀ x ∈ xs, EvOk w x) : ∀ u ∈ rowOf xs, u.oneCell' = true := by
  intro u hu
  obtain ⟨x, hx, hu⟩ := List.mem_flatMap.1 hu
  simp only [Ev.cells, List.mem_cons, List.not_mem_nil, or_false] at hu
  rcases hu with rfl | rfl | rfl | rfl
  · rfl
  · rfl
  · rfl
  · rcases (h x hx).sees with ⟨_, ao, cap, e, _⟩ | ⟨b, off, cap, e, _⟩ <;> (rw [e]; rfl)
/-- The cells of one entry of a row. -/
theorem RowO.entry {w : World} {B : Nat} {g off n cap : Nat} {xs : List Ev} (h : RowO w B 60 4 (.slice (some ⟨g, off, none⟩) n cap) n (rowOf xs)) (m : Nat) (hm : m < xs.length) :
    w.cell? ⟨g, off + m * 4, none⟩ = some (.int .i64 xs[m].e.i) ∧ w.cell? ⟨g, off + m * 4 + 1, none⟩ = some (.int .i64 xs[m].e.t) ∧ w.cell? ⟨g, off + m * 4 + 2, none⟩ = some (.int .i64 xs[m].e.k) ∧ w.cell? ⟨g, off + m * 4 + 3, none⟩ = some xs[m].v := by
  refine ⟨?_, ?_, ?_, ?_⟩
  · exact h.cell (m * 4 + 0) _ (rowOf_at xs m hm 0 (by omega))
  · rw [Nat.add_assoc]; exact h.cell (m * 4 + 1) _ (rowOf_at xs m hm 1 (by omega))
  · rw [Nat.add_assoc]; exact h.cell (m * 4 + 2) _ (rowOf_at xs m hm 2 (by omega))
  · rw [Nat.add_assoc]; exact h.cell (m * 4 + 3) _ (rowOf_at xs m hm 3 (by omega))
end Go.Proofs.YtecnlfalpfbobaaGreatDoor
