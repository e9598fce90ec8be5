/- A disk in memory: its cells, its map of files, the files' own blocks; what stays when other blocks turn, and what one change of it leaves. -/
import Derived.Test.YtdcpfjlnagigaaaGreatDoorPlain
import Derived.Maps.OwnSet
import Derived.Deep.QuietTactic
import Derived.BigQuiet
namespace Go.Proofs.YtdcpfjlnagigaaaGreatDoor
open Go Go.RowKit
/-- A file in memory: what it is, its block, its slice of bytes. -/
structure Fl where
  pf : PF
  blk : Nat
  v : Value
abbrev Fl.nm (f : Fl) : List UInt8 := f.pf.name
def footF (f : Fl) (k : Nat) : Prop := k = f.blk ∨ f.v.ownBlock = some k
/-- How an element of the map of files reads: as the number of its block. -/
def Rf (v : Value) : Option (DataW Unit × List MemPlace) :=
  match v with
  | .pointer none => some (.lit (.int .i64 (-1)), [])
  | .pointer (some ⟨b, 0, none⟩) => some (.lit (.int .i64 b), [])
  | _ => none
theorem Rf_hit {v : Value} {b : Nat} {ps : List MemPlace} (h : Rf v = some (.lit (.int .i64 (b : Int)), ps)) : v = .pointer (some ⟨b, 0, none⟩) := by
  unfold Rf at h
  split at h
  · simp at h
  · simp at h
    have e := Int.ofNat.inj h.1
    rw [e]
  · cases h
theorem Rf_miss {v : Value} {ps : List MemPlace} (h : Rf v = some (.lit (.int .i64 (-1)), ps)) : v = .pointer none := by
  unfold Rf at h
  split at h
  · rfl
  · simp at h
  · cases h
def ent (f : Fl) : Lit × DataW Unit := (.string f.nm, .lit (.int .i64 f.blk))
theorem has_ents (nm : List UInt8) (l : List Fl) : Maps.has (.map (l.map ent) : DataW Unit) (.string nm) = (lookK Fl.nm nm l).isSome := by
  rw [Maps.has_eq, List.any_map]
  unfold lookK
  rw [List.isSome_find?]
  rfl
theorem at_ents (nm : List UInt8) (l : List Fl) (z : DataW Unit) : (DataW.map (l.map ent)).atKey (.string nm) z = ((lookK Fl.nm nm l).map (fun f => .lit (.int .i64 f.blk))).getD z := by
  unfold DataW.atKey lookK
  simp only [List.find?_map]
  have e : ((fun p : Lit × DataW Unit => p.1.sameKey (.string nm)) ∘ ent) = (fun f : Fl => f.nm == nm) := by funext f; rfl
  rw [e]
  cases l.find? (fun f => f.nm == nm) <;> rfl
theorem del_ents (nm : List UInt8) (l : List Fl) : (DataW.map (l.map ent)).del (.string nm) = .map ((delK Fl.nm nm l).map ent) := by
  show DataW.map ((l.map ent).filter _) = _
  rw [List.filter_map]
  rfl
theorem ins_ents (f : Fl) : ∀ l : List Fl, DataW.insert (ent f) (l.map ent) = (insK Fl.nm f l).map ent
  | [] => rfl
  | g :: r => by
    simp only [List.map_cons, DataW.insert, insK]
    have e : (ent f).1.before (ent g).1 = bytesBefore f.nm g.nm := rfl
    rw [e]
    split
    · rfl
    · rw [ins_ents f r, List.map_cons]
theorem put_ents (f : Fl) (l : List Fl) : (DataW.map (l.map ent)).put (.string f.nm) (.lit (.int .i64 f.blk)) = .map ((insK Fl.nm f (delK Fl.nm f.nm l)).map ent) := by
  show DataW.map (DataW.insert (ent f) ((l.map ent).filter _)) = _
  rw [List.filter_map]
  exact congrArg _ (ins_ents f _)
theorem own_tight {P : Program} {k : TypeId} {R : Value → Option (DataW Unit × List MemPlace)} {w : World} {b n : Nat} {l : List (Lit × DataW Unit)} (h : w.ownsMap P k R b n (.map l)) : w.ownsMap P k R b l.length (.map l) := by
  obtain ⟨es, clock, hb, F, hs, hD⟩ := h
  refine ⟨es, clock, hb, F, ?_, hD⟩
  have : l = _ := DataW.map.inj hD
  rw [this, length_sorted]
  simp

/-- A file lies in memory. -/
structure HasF (B : Nat) (w : World) (f : Fl) : Prop where
  c0 : w.cell? ⟨f.blk, 0, none⟩ = some f.v
  c1 : w.cell? ⟨f.blk, 1, none⟩ = some (.int .i64 f.pf.sy)
  f0 : w.frozen? ⟨f.blk, 0, none⟩ = false
  f1 : w.frozen? ⟨f.blk, 1, none⟩ = false
  own : w.ownsRow B 5 1 f.v f.pf.xs.length (u8s f.pf.xs)
  ne : f.v.ownBlock ≠ some f.blk
  base : B ≤ f.blk
  bytes : isB f.pf.xs
  le : f.pf.sy ≤ f.pf.xs.length
  okn : okName f.nm = true
theorem HasF.lt {B : Nat} {w : World} {f : Fl} (h : HasF B w f) {k : Nat} (hk : footF f k) : k < w.heap.size := by
  rcases hk with rfl | hk
  · exact World.block_lt_of_cell? _ _ h.c0
  · exact (h.own.lt k hk).2
theorem HasF.ge {B : Nat} {w : World} {f : Fl} (h : HasF B w f) {k : Nat} (hk : footF f k) : B ≤ k := by
  rcases hk with rfl | hk
  · exact h.base
  · exact (h.own.lt k hk).1
theorem HasF.upd {B : Nat} {w w' : World} {S : Nat → Prop} {f : Fl} (h : HasF B w f) (hu : Upd w w' S) (hS : ∀ k, footF f k → ¬ S k) : HasF B w' f :=
  have hl := h.lt (.inl rfl)
  have hn := hS _ (.inl rfl)
  ⟨(hu.cell (p := ⟨f.blk, 0, none⟩) hl hn).trans h.c0, (hu.cell (p := ⟨f.blk, 1, none⟩) hl hn).trans h.c1, (hu.frozen (p := ⟨f.blk, 0, none⟩) hl hn).trans h.f0, (hu.frozen (p := ⟨f.blk, 1, none⟩) hl hn).trans h.f1,
   ownsRow_upd h.own hu (fun k hk => hS k (.inr hk)), h.ne, h.base, h.bytes, h.le, h.okn⟩
/-- The insides of a disk: its map's block, its files. -/
structure Gu where
  m : Option Nat
  fs : List Fl
def FootR (g : Gu) (k : Nat) : Prop := g.m = some k ∨ ∃ f ∈ g.fs, footF f k
def Foot (d : Nat) (g : Gu) (k : Nat) : Prop := k = d ∨ FootR g k
structure DCells (w : World) (d : Nat) (m : Option Nat) (room used ops stops : Int) (dead : Bool) : Prop where
  c0 : w.cell? ⟨d, 0, none⟩ = some (.map m)
  c1 : w.cell? ⟨d, 1, none⟩ = some (.int .i64 room)
  c2 : w.cell? ⟨d, 2, none⟩ = some (.int .i64 used)
  c3 : w.cell? ⟨d, 3, none⟩ = some (.int .i64 ops)
  c4 : w.cell? ⟨d, 4, none⟩ = some (.int .i64 stops)
  c5 : w.cell? ⟨d, 5, none⟩ = some (.bool dead)
  f0 : w.frozen? ⟨d, 0, none⟩ = false
  f2 : w.frozen? ⟨d, 2, none⟩ = false
  f3 : w.frozen? ⟨d, 3, none⟩ = false
  f4 : w.frozen? ⟨d, 4, none⟩ = false
  f5 : w.frozen? ⟨d, 5, none⟩ = false
theorem DCells.lt {w : World} {d : Nat} {m : Option Nat} {room used ops stops : Int} {dead : Bool} (h : DCells w d m room used ops stops dead) : d < w.heap.size := World.block_lt_of_cell? _ _ h.c0
theorem DCells.upd {w w' : World} {S : Nat → Prop} {d : Nat} {m : Option Nat} {room used ops stops : Int} {dead : Bool} (h : DCells w d m room used ops stops dead) (hu : Upd w w' S) (hS : ¬ S d) : DCells w' d m room used ops stops dead :=
  have hl := h.lt
  ⟨(hu.cell (p := ⟨d, 0, none⟩) hl hS).trans h.c0, (hu.cell (p := ⟨d, 1, none⟩) hl hS).trans h.c1, (hu.cell (p := ⟨d, 2, none⟩) hl hS).trans h.c2, (hu.cell (p := ⟨d, 3, none⟩) hl hS).trans h.c3,
   (hu.cell (p := ⟨d, 4, none⟩) hl hS).trans h.c4, (hu.cell (p := ⟨d, 5, none⟩) hl hS).trans h.c5, (hu.frozen (p := ⟨d, 0, none⟩) hl hS).trans h.f0, (hu.frozen (p := ⟨d, 2, none⟩) hl hS).trans h.f2,
   (hu.frozen (p := ⟨d, 3, none⟩) hl hS).trans h.f3, (hu.frozen (p := ⟨d, 4, none⟩) hl hS).trans h.f4, (hu.frozen (p := ⟨d, 5, none⟩) hl hS).trans h.f5⟩
section
variable {w : World} {d : Nat} {m : Option Nat} {room used ops stops : Int} {dead : Bool}
theorem DCells.set0 (h : DCells w d m room used ops stops dead) (u : Option Nat) : DCells (w.setCell ⟨d, 0, none⟩ (.map u)) d u room used ops stops dead := by
  constructor <;> first | exact World.cell?_setCell_same _ _ _ h.c0 | (rw [World.cell?_setCell_other _ _ _ _ (by simp)]; first | exact h.c1 | exact h.c2 | exact h.c3 | exact h.c4 | exact h.c5) | (rw [World.frozen?_setCell]; first | exact h.f0 | exact h.f2 | exact h.f3 | exact h.f4 | exact h.f5)
theorem DCells.set2 (h : DCells w d m room used ops stops dead) (u : Int) : DCells (w.setCell ⟨d, 2, none⟩ (.int .i64 u)) d m room u ops stops dead := by
  constructor <;> first | exact World.cell?_setCell_same _ _ _ h.c2 | (rw [World.cell?_setCell_other _ _ _ _ (by simp)]; first | exact h.c0 | exact h.c1 | exact h.c3 | exact h.c4 | exact h.c5) | (rw [World.frozen?_setCell]; first | exact h.f0 | exact h.f2 | exact h.f3 | exact h.f4 | exact h.f5)
theorem DCells.set3 (h : DCells w d m room used ops stops dead) (u : Int) : DCells (w.setCell ⟨d, 3, none⟩ (.int .i64 u)) d m room used u stops dead := by
  constructor <;> first | exact World.cell?_setCell_same _ _ _ h.c3 | (rw [World.cell?_setCell_other _ _ _ _ (by simp)]; first | exact h.c0 | exact h.c1 | exact h.c2 | exact h.c4 | exact h.c5) | (rw [World.frozen?_setCell]; first | exact h.f0 | exact h.f2 | exact h.f3 | exact h.f4 | exact h.f5)
theorem DCells.set4 (h : DCells w d m room used ops stops dead) (u : Int) : DCells (w.setCell ⟨d, 4, none⟩ (.int .i64 u)) d m room used ops u dead := by
  constructor <;> first | exact World.cell?_setCell_same _ _ _ h.c4 | (rw [World.cell?_setCell_other _ _ _ _ (by simp)]; first | exact h.c0 | exact h.c1 | exact h.c2 | exact h.c3 | exact h.c5) | (rw [World.frozen?_setCell]; first | exact h.f0 | exact h.f2 | exact h.f3 | exact h.f4 | exact h.f5)
theorem DCells.set5 (h : DCells w d m room used ops stops dead) (u : Bool) : DCells (w.setCell ⟨d, 5, none⟩ (.bool u)) d m room used ops stops u := by
  constructor <;> first | exact World.cell?_setCell_same _ _ _ h.c5 | (rw [World.cell?_setCell_other _ _ _ _ (by simp)]; first | exact h.c0 | exact h.c1 | exact h.c2 | exact h.c3 | exact h.c4) | (rw [World.frozen?_setCell]; first | exact h.f0 | exact h.f2 | exact h.f3 | exact h.f4 | exact h.f5)
end
theorem upd_cell (w : World) (d i : Nat) (u : Value) : Upd w (w.setCell ⟨d, i, none⟩ u) (fun k => k = d) := (Upd.refl w (fun k => k = d)).setCell (p := ⟨d, i, none⟩) (.inr rfl) _
structure DRest (B : Nat) (w : World) (d : Nat) (g : Gu) : Prop where
  map : (g.m = none ∧ g.fs = []) ∨ ∃ b, g.m = some b ∧ B ≤ b ∧ b ≠ d ∧ w.ownsMap Tryz.prog 9 Rf b g.fs.length (.map (g.fs.map ent))
  up : upK Fl.nm g.fs
  files : ∀ f ∈ g.fs, HasF B w f
  apart : g.fs.Pairwise (fun f h => ∀ k, footF f k → ¬ footF h k)
  off : ∀ f ∈ g.fs, ∀ k, footF f k → k ≠ d ∧ g.m ≠ some k
  base : B ≤ d
theorem DRest.lt {B : Nat} {w : World} {d : Nat} {g : Gu} (h : DRest B w d g) {k : Nat} (hk : FootR g k) : k < w.heap.size := by
  rcases hk with hk | ⟨f, hf, hk⟩
  · rcases h.map with ⟨e, _⟩ | ⟨b, e, _, _, hm⟩
    · rw [e] at hk; cases hk
    · rw [e] at hk; cases hk; exact hm.lt
  · exact (h.files f hf).lt hk
theorem DRest.ge {B : Nat} {w : World} {d : Nat} {g : Gu} (h : DRest B w d g) {k : Nat} (hk : FootR g k) : B ≤ k := by
  rcases hk with hk | ⟨f, hf, hk⟩
  · rcases h.map with ⟨e, _⟩ | ⟨b, e, hb, _, hm⟩
    · rw [e] at hk; cases hk
    · rw [e] at hk; cases hk; exact hb
  · exact (h.files f hf).ge hk
theorem DRest.ne {B : Nat} {w : World} {d : Nat} {g : Gu} (h : DRest B w d g) {k : Nat} (hk : FootR g k) : k ≠ d := by
  rcases hk with hk | ⟨f, hf, hk⟩
  · rcases h.map with ⟨e, _⟩ | ⟨b, e, _, hb, hm⟩
    · rw [e] at hk; cases hk
    · rw [e] at hk; cases hk; exact hb
  · exact (h.off f hf k hk).1
theorem ownsMap_upd {P : Program} {w w' : World} {S : Nat → Prop} {k : TypeId} {R : Value → Option (DataW Unit × List MemPlace)} {b n : Nat} {D : DataW Unit} (h : w.ownsMap P k R b n D) (hu : Upd w w' S) (hS : ¬ S b) : w'.ownsMap P k R b n D := by
  have hlt := h.lt
  obtain ⟨es, clock, hb, F, hs, hD⟩ := h
  exact ⟨es, clock, (hu.block b hlt hS).trans hb, F, hs, hD⟩
theorem DRest.upd {B : Nat} {w w' : World} {S : Nat → Prop} {d : Nat} {g : Gu} (h : DRest B w d g) (hu : Upd w w' S) (hS : ∀ k, FootR g k → ¬ S k) : DRest B w' d g := by
  refine ⟨?_, h.up, fun f hf => (h.files f hf).upd hu (fun k hk => hS k (.inr ⟨f, hf, hk⟩)), h.apart, h.off, h.base⟩
  rcases h.map with h | ⟨b, e, hb, hd, hm⟩
  · exact .inl h
  · exact .inr ⟨b, e, hb, hd, ownsMap_upd hm hu (hS b (.inl e))⟩
/-- A disk lies in memory at block d: p is what it is. -/
structure Dk (B : Nat) (w : World) (d : Nat) (g : Gu) (p : PS) : Prop where
  view : p.fs = g.fs.map Fl.pf
  cells : DCells w d g.m p.room (total p.fs) p.ops p.stops p.dead
  rest : DRest B w d g
theorem Dk.lt {B : Nat} {w : World} {d : Nat} {g : Gu} {p : PS} (h : Dk B w d g p) {k : Nat} (hk : Foot d g k) : k < w.heap.size := by
  rcases hk with rfl | hk
  · exact h.cells.lt
  · exact h.rest.lt hk
theorem Dk.ge {B : Nat} {w : World} {d : Nat} {g : Gu} {p : PS} (h : Dk B w d g p) {k : Nat} (hk : Foot d g k) : B ≤ k := by
  rcases hk with rfl | hk
  · exact h.rest.base
  · exact h.rest.ge hk
theorem Dk.upd {B : Nat} {w w' : World} {S : Nat → Prop} {d : Nat} {g : Gu} {p : PS} (h : Dk B w d g p) (hu : Upd w w' S) (hS : ∀ k, Foot d g k → ¬ S k) : Dk B w' d g p :=
  ⟨h.view, h.cells.upd hu (hS d (.inl rfl)), h.rest.upd hu (fun k hk => hS k (.inr hk))⟩
theorem Dk.below {B : Nat} {w w' : World} {d : Nat} {g : Gu} {p : PS} (h : Dk B w d g p) (hb : Below w.heap.size w w') : Dk B w' d g p := h.upd (S := fun _ => False) (Upd.ofBelow hb) (fun _ _ h => h)
/-- What a call on a disk leaves: it is p' now; nothing else has turned. -/
def DkPost (B : Nat) (w w' : World) (d : Nat) (g : Gu) (p' : PS) : Prop :=
  ∃ g', Dk B w' d g' p' ∧ Upd w w' (Foot d g) ∧ ∀ k, Foot d g' k → Foot d g k ∨ w.heap.size ≤ k
theorem DkPost.next {B : Nat} {w w1 w2 : World} {d : Nat} {g g1 : Gu} {p2 : PS} (hu : Upd w w1 (Foot d g)) (hf : ∀ k, Foot d g1 k → Foot d g k ∨ w.heap.size ≤ k) (h : DkPost B w1 w2 d g1 p2) : DkPost B w w2 d g p2 := by
  obtain ⟨g2, h1, h2, h3⟩ := h
  have hs := hu.size
  refine ⟨g2, h1, hu.trans h2 (fun j hj h => ?_), fun k hk => ?_⟩
  · rcases hf j h with h | h
    · exact h
    · omega
  · rcases h3 k hk with h | h
    · exact hf k h
    · right; omega
theorem DkPost.same {B : Nat} {w w' : World} {d : Nat} {g : Gu} {p' : PS} (h : Dk B w' d g p') (hu : Upd w w' (fun k => k = d)) : DkPost B w w' d g p' :=
  ⟨g, h, hu.mono (fun _ _ h => .inl h), fun _ h => .inl h⟩
theorem key_str (s : ByteArray) (hs : s.size ≤ maxLen) : keyOf Tryz.prog 9 (.string s) = some (.string s.data.toList) := by simp [keyOf, Tryz.underlying9, mapKey, hs]
theorem zero68 (w : World) : (zeroValue 92).run Tryz.prog w = .ok (.pointer none) w := by simp [Tryz.zeroValue92]
/-- The look-up, as an operation. -/
theorem DRest.lookup {B : Nat} {w : World} {d : Nat} {g : Gu} (h : DRest B w d g) (s : ByteArray) (hs : s.size ≤ maxLen) :
    (Instr.lookup 63 (.map g.m) (.string s) true).run Tryz.prog w = .ok (.tuple #[.pointer ((lookK Fl.nm s.data.toList g.fs).map (fun f => ⟨f.blk, 0, none⟩)), .bool (lookK Fl.nm s.data.toList g.fs).isSome]) w := by
  have hkey := key_str s hs
  have K : Maps.Keyed Tryz.prog 9 := Maps.string_keyed Tryz.underlying9
  rcases h.map with ⟨e, e2⟩ | ⟨b, e, _, _, hm⟩
  · rw [e, e2]
    have hck := K.check w true hkey
    rcases K.find w hkey [] (fun e he => by cases he) with ⟨hfk, _⟩ | ⟨j, e0, _, he, _⟩
    · simp [Instr.lookup, lookK, hck, hfk]
    · simp at he
  · rw [e]
    obtain ⟨v, ps, hrun, hv⟩ := hm.look_ok K Tryz.underlying63 (zero68 w) (zd := .lit (.int .i64 (-1))) (zp := []) rfl hkey
    rw [hrun, has_ents]
    rw [at_ents] at hv
    cases hl : lookK Fl.nm s.data.toList g.fs with
    | none => rw [hl] at hv; rw [Rf_miss hv]; rfl
    | some f => rw [hl] at hv; rw [Rf_hit hv]; rfl
/-- A file is laid into the map, as an operation. -/
theorem DRest.store {w : World} {b n : Nat} {fs : List Fl} (hm : w.ownsMap Tryz.prog 9 Rf b n (.map (fs.map ent))) (f : Fl) (s : ByteArray) (hs : s.data.toList = f.nm) (hl : s.size ≤ maxLen) (hn : fs.length < 1000000) :
    ∃ w', (Instr.mapUpdate 63 (.map (some b)) (.string s) (.pointer (some ⟨f.blk, 0, none⟩))).run Tryz.prog w = .ok () w' ∧
      w'.ownsMap Tryz.prog 9 Rf b (insK Fl.nm f (delK Fl.nm f.nm fs)).length (.map ((insK Fl.nm f (delK Fl.nm f.nm fs)).map ent)) ∧ Upd w w' (fun k => k = b) := by
  have K : Maps.Keyed Tryz.prog 9 := Maps.string_keyed Tryz.underlying9
  have hm := own_tight hm
  rw [List.length_map] at hm
  obtain ⟨w', hrun, h1, h2⟩ := hm.update K Tryz.underlying63 (by unfold maxLen; omega) (key_str s hl) (val := .pointer (some ⟨f.blk, 0, none⟩)) (d := .lit (.int .i64 f.blk)) (ps := []) rfl
  refine ⟨w', hrun, ?_, (Upd.ofGrown h2).mono (fun k _ e => Option.some.inj e)⟩
  rw [hs, put_ents] at h1
  have := own_tight h1
  rwa [List.length_map] at this
theorem DRest.strike {w : World} {b n : Nat} {fs : List Fl} (hm : w.ownsMap Tryz.prog 9 Rf b n (.map (fs.map ent))) (s : ByteArray) (hl : s.size ≤ maxLen) (ty : TypeId) :
    ∃ w', ((Builtin.delete_ #[63, 9] ty #[.map (some b), .string s]).run Tryz.prog w = .ok (.tuple #[]) w') ∧
      w'.ownsMap Tryz.prog 9 Rf b (delK Fl.nm s.data.toList fs).length (.map ((delK Fl.nm s.data.toList fs).map ent)) ∧ Upd w w' (fun k => k = b) := by
  have K : Maps.Keyed Tryz.prog 9 := Maps.string_keyed Tryz.underlying9
  obtain ⟨w', hrun, h1, h2⟩ := hm.drop K Tryz.underlying63 (key_str s hl) ty
  rw [del_ents] at h1
  have h1 := own_tight h1
  rw [List.length_map] at h1
  exact ⟨w', hrun, h1, (Upd.ofGrown h2.grown).mono (fun k _ e => Option.some.inj e)⟩
theorem apart_symm {f h : Fl} (e : ∀ k, footF f k → ¬ footF h k) : ∀ k, footF h k → ¬ footF f k := fun k h1 h2 => e k h2 h1
theorem DRest.ins {B : Nat} {w w' : World} {d b : Nat} {g : Gu} (h : DRest B w d g) (hm : g.m = some b) (f : Fl) (hu : Upd w w' (fun k => k = b))
    (hown : w'.ownsMap Tryz.prog 9 Rf b (insK Fl.nm f (delK Fl.nm f.nm g.fs)).length (.map ((insK Fl.nm f (delK Fl.nm f.nm g.fs)).map ent))) (hf : HasF B w f)
    (ho : ∀ k, footF f k → k ≠ d ∧ k ≠ b ∧ ∀ f2 ∈ g.fs, f2.nm ≠ f.nm → ¬ footF f2 k) : DRest B w' d ⟨some b, insK Fl.nm f (delK Fl.nm f.nm g.fs)⟩ := by
  have hp := ins_perm (k := Fl.nm) f (delK Fl.nm f.nm g.fs)
  have hbd : B ≤ b ∧ b ≠ d := by
    rcases h.map with ⟨e, _⟩ | ⟨b', e, h1, h2, _⟩
    · rw [e] at hm; cases hm
    · rw [e] at hm; cases hm; exact ⟨h1, h2⟩
  have hmem : ∀ x, x ∈ insK Fl.nm f (delK Fl.nm f.nm g.fs) → x = f ∨ (x ∈ g.fs ∧ x.nm ≠ f.nm) := fun x hx => by
    rcases List.mem_cons.1 (hp.mem_iff.1 hx) with h | h
    · exact .inl h
    · exact .inr (mem_del h)
  refine ⟨.inr ⟨b, rfl, hbd.1, hbd.2, hown⟩, up_put h.up rfl, fun x hx => ?_, ?_, fun x hx k hk => ?_, h.base⟩
  · rcases hmem x hx with rfl | ⟨hx, _⟩
    · exact hf.upd hu (fun k hk e => (ho k hk).2.1 e)
    · exact (h.files x hx).upd hu (fun k hk e => (h.off x hx k hk).2 (by rw [hm, e]))
  · refine (hp.pairwise_iff (fun {a b} e => apart_symm e)).2 (List.pairwise_cons.2 ⟨fun x hx k hk => (ho k hk).2.2 x (mem_del hx).1 (mem_del hx).2, List.Pairwise.filter _ h.apart⟩)
  · rcases hmem x hx with rfl | ⟨hx, _⟩
    · exact ⟨(ho k hk).1, fun e => (ho k hk).2.1 (Option.some.inj e).symm⟩
    · have := h.off x hx k hk
      exact ⟨this.1, fun e => this.2 (by rw [hm]; exact e)⟩
theorem DRest.del {B : Nat} {w w' : World} {d b : Nat} {g : Gu} (h : DRest B w d g) (hm : g.m = some b) (nm : List UInt8) (hu : Upd w w' (fun k => k = b))
    (hown : w'.ownsMap Tryz.prog 9 Rf b (delK Fl.nm nm g.fs).length (.map ((delK Fl.nm nm g.fs).map ent))) : DRest B w' d ⟨some b, delK Fl.nm nm g.fs⟩ := by
  have hbd : B ≤ b ∧ b ≠ d := by
    rcases h.map with ⟨e, _⟩ | ⟨b', e, h1, h2, _⟩
    · rw [e] at hm; cases hm
    · rw [e] at hm; cases hm; exact ⟨h1, h2⟩
  refine ⟨.inr ⟨b, rfl, hbd.1, hbd.2, hown⟩, up_del h.up, fun x hx => ?_, List.Pairwise.filter _ h.apart, fun x hx k hk => ?_, h.base⟩
  · exact (h.files x (mem_del hx).1).upd hu (fun k hk e => (h.off x (mem_del hx).1 k hk).2 (by rw [hm, e]))
  · have := h.off x (mem_del hx).1 k hk
    exact ⟨this.1, fun e => this.2 (by rw [hm]; exact e)⟩
/-- One file is another now, in its place. -/
theorem DRest.file {B : Nat} {w w' : World} {d : Nat} {m : Option Nat} {pre post : List Fl} {f f' : Fl} (h : DRest B w d ⟨m, pre ++ f :: post⟩) (hb : f'.blk = f.blk) (hn : f'.nm = f.nm) (hu : Upd w w' (footF f)) (hf : HasF B w' f')
    (ho : ∀ k, f'.v.ownBlock = some k → f.v.ownBlock = some k ∨ w.heap.size ≤ k) (hd : d < w.heap.size) : DRest B w' d ⟨m, pre ++ f' :: post⟩ := by
  have hfk : ∀ k, footF f' k → footF f k ∨ w.heap.size ≤ k := fun k hk => by
    rcases hk with hk | hk
    · exact .inl (.inl (by rw [hk, hb]))
    · rcases ho k hk with h | h
      · exact .inl (.inr h)
      · exact .inr h
  have hent : (pre ++ f' :: post).map ent = (pre ++ f :: post).map ent := by
    simp only [List.map_append, List.map_cons]
    rw [show ent f' = ent f from by unfold ent; rw [hb, hn]]
  have hlen : (pre ++ f' :: post).length = (pre ++ f :: post).length := by simp
  have hap := List.pairwise_append.1 h.apart
  have hap2 := List.pairwise_cons.1 hap.2.1
  have hup := List.pairwise_append.1 h.up
  have hup2 := List.pairwise_cons.1 hup.2.1
  have hff : f ∈ pre ++ f :: post := by simp
  have hbelow : ∀ x ∈ pre ++ post, ∀ k, footF x k → ¬ footF f k := fun x hx k hk => by
    rcases List.mem_append.1 hx with hx | hx
    · exact hap.2.2 x hx f (by simp) k hk
    · exact fun h => hap2.1 x hx k h hk
  have hin : ∀ x ∈ pre ++ post, x ∈ pre ++ f :: post := fun x hx => by
    rcases List.mem_append.1 hx with hx | hx <;> simp [hx]
  have hoff : ∀ x ∈ pre ++ post, ∀ k, footF x k → ¬ footF f' k := fun x hx k hk hk' => by
    rcases hfk k hk' with h1 | h1
    · exact hbelow x hx k hk h1
    · have := (h.files x (hin x hx)).lt hk
      omega
  refine ⟨?_, ?_, fun x hx => ?_, ?_, fun x hx k hk => ?_, h.base⟩
  · rcases h.map with ⟨_, e⟩ | ⟨b, e, h1, h2, h3⟩
    · simp at e
    · refine .inr ⟨b, e, h1, h2, ?_⟩
      show w'.ownsMap _ _ _ _ (pre ++ f' :: post).length (.map ((pre ++ f' :: post).map ent))
      rw [hent, hlen]
      exact ownsMap_upd h3 hu (fun hk => (h.off f hff b hk).2 e)
  · show upK Fl.nm (pre ++ f' :: post)
    refine List.pairwise_append.2 ⟨hup.1, List.pairwise_cons.2 ⟨fun x hx => ?_, hup2.2⟩, fun a ha b hb' => ?_⟩
    · rw [hn]; exact hup2.1 x hx
    · rcases List.mem_cons.1 hb' with rfl | hb'
      · rw [hn]; exact hup.2.2 a ha f (by simp)
      · exact hup.2.2 a ha b (by simp [hb'])
  · have hx : x = f' ∨ x ∈ pre ++ post := by
      rcases List.mem_append.1 hx with hx | hx
      · exact .inr (by simp [hx])
      · rcases List.mem_cons.1 hx with hx | hx
        · exact .inl hx
        · exact .inr (by simp [hx])
    rcases hx with rfl | hx
    · exact hf
    · exact (h.files x (hin x hx)).upd hu (fun k hk => hbelow x hx k hk)
  · refine List.pairwise_append.2 ⟨hap.1, List.pairwise_cons.2 ⟨fun x hx k hk => ?_, hap2.2⟩, fun a ha b hb' => ?_⟩
    · exact fun h => hoff x (by simp [hx]) k h hk
    · rcases List.mem_cons.1 hb' with rfl | hb'
      · exact fun k hk => hoff a (by simp [ha]) k hk
      · exact hap.2.2 a ha b (by simp [hb'])
  · have hx : x = f' ∨ x ∈ pre ++ post := by
      rcases List.mem_append.1 hx with hx | hx
      · exact .inr (by simp [hx])
      · rcases List.mem_cons.1 hx with hx | hx
        · exact .inl hx
        · exact .inr (by simp [hx])
    rcases hx with rfl | hx
    · rcases hfk k hk with h1 | h1
      · exact h.off f hff k h1
      · refine ⟨fun e => ?_, fun e => ?_⟩
        · omega
        · have := h.lt (.inl e); omega
    · exact h.off x (hin x hx) k hk
theorem total_append (a b : List PF) : total (a ++ b) = total a + total b := by simp [total]
theorem total_cons (f : PF) (a : List PF) : total (f :: a) = f.xs.length + total a := by simp [total]
theorem total_perm {a b : List PF} (h : a.Perm b) : total a = total b := (h.map _).sum_nat
theorem total_ins (f : PF) (a : List PF) : total (insK PF.name f a) = f.xs.length + total a := (total_perm (ins_perm f a)).trans (total_cons f a)
theorem name_pf (f : Fl) : PF.name (Fl.pf f) = Fl.nm f := rfl
theorem upf {l : List Fl} (h : upK Fl.nm l) : upK PF.name (l.map Fl.pf) := List.pairwise_map.2 h
theorem total_del {fs : List PF} {f : PF} {nm : List UInt8} (hs : upK PF.name fs) (h : lookK PF.name nm fs = some f) : total (delK PF.name nm fs) + f.xs.length = total fs := by
  obtain ⟨hf, pre, post, rfl⟩ := look_parts h
  rw [del_parts hs hf, total_append, total_append, total_cons]
  omega
end Go.Proofs.YtdcpfjlnagigaaaGreatDoor
