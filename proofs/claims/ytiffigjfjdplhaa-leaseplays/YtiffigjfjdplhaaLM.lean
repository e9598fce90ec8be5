/- A book of leases in memory: its map, what stays when other blocks turn, the map's operations. -/
import Derived.Test.YtiffigjfjdplhaaLD
namespace Go.Proofs.Ytiffigjfjdplhaa
open Go Go.RowKit
def lsV (l : Ls) : Value := .agg #[.int .i64 l.id, .int .i64 l.ttl, .int .i64 l.til]
def lsD (l : Ls) : DataW Unit := .agg [.lit (.int .i64 l.id), .lit (.int .i64 l.ttl), .lit (.int .i64 l.til)]
/-- How an element of the map reads. -/
def RL (v : Value) : Option (DataW Unit × List MemPlace) :=
  match v with
  | .agg ⟨[.int .i64 a, .int .i64 b, .int .i64 c]⟩ => some (lsD ⟨a, b, c⟩, [])
  | _ => none
theorem RL_hit {v : Value} {l : Ls} {ps : List MemPlace} (h : RL v = some (lsD l, ps)) : v = lsV l := by
  unfold RL at h
  split at h
  · simp [lsD] at h
    obtain ⟨⟨rfl, rfl, rfl⟩, _⟩ := h
    rfl
  · cases h
theorem RL_inv {v : Value} {y : DataW Unit × List MemPlace} (h : RL v = some y) : ∃ l : Ls, v = lsV l ∧ y = (lsD l, []) := by
  unfold RL at h
  split at h
  · rename_i a b c
    exact ⟨⟨a, b, c⟩, rfl, by cases h; rfl⟩
  · cases h
theorem lsD_inj {a b : Ls} (h : lsD a = lsD b) : a = b := by
  cases a; cases b
  simpa [lsD] using h
def ent (l : Ls) : Lit × DataW Unit := (.int .i64 l.id, lsD l)
theorem same_ent (n : Int) (f : Ls) : (ent f).1.sameKey (.int .i64 n) = (f.id == n) := by
  simp only [ent, Lit.sameKey]
  by_cases h : f.id = n <;> simp [h]
theorem has_ents (n : Int) (l : List Ls) : Maps.has (.map (l.map ent) : DataW Unit) (.int .i64 n) = (lookL n l).isSome := by
  rw [Maps.has_eq, List.any_map]
  unfold lookL
  rw [List.isSome_find?]
  congr 1
  funext f
  exact same_ent n f
theorem at_ents (n : Int) (l : List Ls) (z : DataW Unit) : (DataW.map (l.map ent)).atKey (.int .i64 n) z = ((lookL n l).map lsD).getD z := by
  unfold DataW.atKey lookL
  simp only [List.find?_map]
  have e : ((fun p : Lit × DataW Unit => p.1.sameKey (.int .i64 n)) ∘ ent) = (fun f : Ls => f.id == n) := by funext f; exact same_ent n f
  rw [e]
  cases l.find? (fun f => f.id == n) <;> rfl
theorem del_ents (n : Int) (l : List Ls) : (DataW.map (l.map ent)).del (.int .i64 n) = .map ((delL n l).map ent) := by
  show DataW.map ((l.map ent).filter _) = _
  rw [List.filter_map]
  unfold delL
  congr 3
  funext f
  exact congrArg _ (same_ent n f)
theorem before_ent (f g : Ls) : (ent f).1.before (ent g).1 = decide (f.id < g.id) := by simp [ent, Lit.before]
theorem ins_ents (f : Ls) : ∀ l : List Ls, DataW.insert (ent f) (l.map ent) = (insL f l).map ent
  | [] => rfl
  | g :: r => by
    simp only [List.map_cons, DataW.insert, insL]
    rw [before_ent]
    by_cases h : f.id < g.id
    · simp [h]
    · simp [h, ins_ents f r]
theorem put_ents (f : Ls) (l : List Ls) : (DataW.map (l.map ent)).put (.int .i64 f.id) (lsD f) = .map ((insL f (delL f.id l)).map ent) := by
  rw [← ins_ents]
  have := del_ents f.id l
  simp only [DataW.del, DataW.map.injEq] at this
  show DataW.map (DataW.insert (ent f) ((l.map ent).filter _)) = _
  rw [← this]
theorem own_tight {P : Program} {k : TypeId} {R : Value → Option (DataW Unit × List MemPlace)} {w : World} {b n : Nat} {l : List (Lit × DataW Unit)} (h : w.ownsMap P k R b n (.map l)) : w.ownsMap P k R b l.length (.map l) := by
  obtain ⟨es, clock, hb, F, hs, hD⟩ := h
  refine ⟨es, clock, hb, F, ?_, hD⟩
  have : l = _ := DataW.map.inj hD
  rw [this, length_sorted]
  simp
theorem ownsMap_upd {P : Program} {w w' : World} {S : Nat → Prop} {k : TypeId} {R : Value → Option (DataW Unit × List MemPlace)} {b n : Nat} {D : DataW Unit} (h : w.ownsMap P k R b n D) (hu : Upd w w' S) (hS : ¬ S b) : w'.ownsMap P k R b n D := by
  have hlt := h.lt
  obtain ⟨es, clock, hb, F, hs, hD⟩ := h
  exact ⟨es, clock, (hu.block b hlt hS).trans hb, F, hs, hD⟩
abbrev mapD (L : List Ls) : DataW Unit := .map (L.map ent)
theorem size_mapD (L : List Ls) : Maps.size (mapD L) = L.length := by rw [Maps.size_eq, List.length_map]
/-- A book lies in memory at block d, its map at block b: L is what it holds. -/
structure Bk (B : Nat) (w : World) (d b : Nat) (L : List Ls) : Prop where
  c0 : w.cell? ⟨d, 0, none⟩ = some (.map (some b))
  f0 : w.frozen? ⟨d, 0, none⟩ = false
  own : w.ownsMap Try.prog 3 RL b L.length (mapD L)
  up : upL L
  ok : ∀ l ∈ L, l.Ok
  few : L.length ≤ 1024
  ne : b ≠ d
  lod : B ≤ d
  lob : B ≤ b
theorem Bk.ltd {B : Nat} {w : World} {d b : Nat} {L : List Ls} (h : Bk B w d b L) : d < w.heap.size := World.block_lt_of_cell? _ _ h.c0
theorem Bk.ltb {B : Nat} {w : World} {d b : Nat} {L : List Ls} (h : Bk B w d b L) : b < w.heap.size := h.own.lt
theorem Bk.upd {B : Nat} {w w' : World} {d b : Nat} {L : List Ls} {S : Nat → Prop} (h : Bk B w d b L) (hu : Upd w w' S) (hd : ¬ S d) (hb : ¬ S b) : Bk B w' d b L :=
  ⟨(hu.cell (p := ⟨d, 0, none⟩) h.ltd hd).trans h.c0, (hu.frozen (p := ⟨d, 0, none⟩) h.ltd hd).trans h.f0, ownsMap_upd h.own hu hb, h.up, h.ok, h.few, h.ne, h.lod, h.lob⟩
theorem Bk.below {B : Nat} {w w' : World} {d b : Nat} {L : List Ls} (h : Bk B w d b L) (hb : Below w.heap.size w w') : Bk B w' d b L := h.upd (S := fun _ => False) (Upd.ofBelow hb) (fun h => h) (fun h => h)
/-- The map has another list now. -/
theorem Bk.turn {B : Nat} {w w' : World} {d b : Nat} {L L' : List Ls} (h : Bk B w d b L) (hu : Upd w w' (fun k => k = b)) (ho : w'.ownsMap Try.prog 3 RL b L'.length (mapD L')) (up : upL L') (ok : ∀ l ∈ L', l.Ok) (few : L'.length ≤ 1024) : Bk B w' d b L' :=
  ⟨(hu.cell (p := ⟨d, 0, none⟩) h.ltd (Ne.symm h.ne)).trans h.c0, (hu.frozen (p := ⟨d, 0, none⟩) h.ltd (Ne.symm h.ne)).trans h.f0, ho, up, ok, few, h.ne, h.lod, h.lob⟩
abbrev isI (n : Int) : Prop := -9223372036854775808 ≤ n ∧ n ≤ 9223372036854775807
theorem key_int {n : Int} (h : isI n) : keyOf Try.prog 3 (.int .i64 n) = some (.int .i64 n) := by
  have : (Lit.int .i64 n).wf = true := by simp [Lit.wf, IntKind.min, IntKind.max, IntKind.bits, IntKind.signed]; omega
  simp [keyOf, Try.underlying3, mapKey, this]
theorem zero45 (w : World) : (zeroValue 45).run Try.prog w = .ok (lsV ⟨0, 0, 0⟩) w := by simp [Try.zeroValue45, lsV]
theorem keyed3 : Maps.Keyed Try.prog 3 := Maps.int_keyed Try.underlying3
def getV (o : Option Ls) : Value := lsV (o.getD ⟨0, 0, 0⟩)
/-- The look-up, as an operation. -/
theorem look_run {w : World} {b n : Nat} {L : List Ls} (hm : w.ownsMap Try.prog 3 RL b n (mapD L)) {k : Int} (hk : isI k) (c : Bool) :
    (Instr.lookup 51 (.map (some b)) (.int .i64 k) c).run Try.prog w = .ok (if c then .tuple #[getV (lookL k L), .bool (lookL k L).isSome] else getV (lookL k L)) w := by
  cases c with
  | true =>
    obtain ⟨v, ps, hrun, hv⟩ := hm.look_ok keyed3 Try.underlying51 (zero45 w) (zd := lsD ⟨0, 0, 0⟩) (zp := []) rfl (key_int hk)
    rw [hrun, has_ents]
    rw [at_ents] at hv
    cases hl : lookL k L with
    | none => rw [hl] at hv; rw [RL_hit hv]; rfl
    | some f => rw [hl] at hv; rw [RL_hit hv]; rfl
  | false =>
    obtain ⟨v, ps, hrun, hv⟩ := hm.lookup keyed3 Try.underlying51 (zero45 w) (zd := lsD ⟨0, 0, 0⟩) (zp := []) rfl (key_int hk)
    rw [hrun]
    rw [at_ents] at hv
    cases hl : lookL k L with
    | none => rw [hl] at hv; rw [RL_hit hv]; rfl
    | some f => rw [hl] at hv; rw [RL_hit hv]; rfl
theorem store_run {w : World} {b n : Nat} {L : List Ls} (hm : w.ownsMap Try.prog 3 RL b n (mapD L)) (f : Ls) (hf : isI f.id) (hn : L.length ≤ 1024) :
    ∃ w', (Instr.mapUpdate 51 (.map (some b)) (.int .i64 f.id) (lsV f)).run Try.prog w = .ok () w' ∧
      w'.ownsMap Try.prog 3 RL b (insL f (delL f.id L)).length (mapD (insL f (delL f.id L))) ∧ Upd w w' (fun k => k = b) := by
  have hm := own_tight hm
  rw [List.length_map] at hm
  obtain ⟨w', hrun, h1, h2⟩ := hm.update keyed3 Try.underlying51 (by unfold maxLen; omega) (key_int hf) (val := lsV f) (d := lsD f) (ps := []) rfl
  refine ⟨w', hrun, ?_, (Upd.ofGrown h2).mono (fun k _ e => Option.some.inj e)⟩
  rw [put_ents] at h1
  have := own_tight h1
  rwa [List.length_map] at this
theorem strike_run {w : World} {b n : Nat} {L : List Ls} (hm : w.ownsMap Try.prog 3 RL b n (mapD L)) {k : Int} (hk : isI k) (ty : TypeId) :
    ∃ w', ((Builtin.delete_ #[51, 3] ty #[.map (some b), .int .i64 k]).run Try.prog w = .ok (.tuple #[]) w') ∧
      w'.ownsMap Try.prog 3 RL b (delL k L).length (mapD (delL k L)) ∧ Upd w w' (fun j => j = b) := by
  obtain ⟨w', hrun, h1, h2⟩ := hm.drop keyed3 Try.underlying51 (key_int hk) ty
  rw [del_ents] at h1
  have h1 := own_tight h1
  rw [List.length_map] at h1
  exact ⟨w', hrun, h1, (Upd.ofGrown h2.grown).mono (fun k _ e => Option.some.inj e)⟩
end Go.Proofs.Ytiffigjfjdplhaa
