/- Rows of clients as plain lists: looking one up, taking one away, laying one in its place; what a table's calls do to them; a table in memory. -/
import Derived.Test.YtcghaepjklmggaaOR
import Derived.Maps.OwnSet
import Derived.Maps.Ext
namespace Go.Proofs.Ytcghaepjklmggaa
open Go Go.RowKit
structure Ro where
  id : Int
  sq : Int
  rp : Rp
  rs : List Rs
def lookL (n : Int) (l : List Ro) : Option Ro := l.find? (fun f => f.id == n)
def delL (n : Int) (l : List Ro) : List Ro := l.filter (fun f => !(f.id == n))
def insL (f : Ro) : List Ro → List Ro
  | [] => [f]
  | g :: r => if f.id < g.id then f :: g :: r else g :: insL f r
abbrev upL (l : List Ro) : Prop := l.Pairwise (fun f g => f.id < g.id)
theorem look_parts {n : Int} {l : List Ro} {f : Ro} (h : lookL n l = some f) : f.id = n ∧ ∃ pre post, l = pre ++ f :: post := by
  have h1 := List.find?_some h
  have h2 := List.mem_of_find?_eq_some h
  exact ⟨by simpa using h1, List.append_of_mem h2⟩
theorem look_none {n : Int} {l : List Ro} (h : lookL n l = none) : ∀ f ∈ l, f.id ≠ n := by
  intro f hf
  have := List.find?_eq_none.1 h f hf
  simpa using this
theorem look_isSome {n : Int} {l : List Ro} : (lookL n l).isSome = true ↔ ∃ f ∈ l, f.id = n := by
  unfold lookL
  rw [List.find?_isSome]
  simp
theorem up_inj {l : List Ro} (h : upL l) {f g : Ro} (hf : f ∈ l) (hg : g ∈ l) (e : f.id = g.id) : f = g := by
  induction l with
  | nil => cases hf
  | cons a r ih =>
    obtain ⟨h1, h2⟩ := List.pairwise_cons.1 h
    rcases List.mem_cons.1 hf with rfl | hf'
    · rcases List.mem_cons.1 hg with rfl | hg'
      · rfl
      · have := h1 g hg'; omega
    · rcases List.mem_cons.1 hg with rfl | hg'
      · have := h1 f hf'; omega
      · exact ih h2 hf' hg'
theorem look_mem {l : List Ro} (h : upL l) {f : Ro} (hf : f ∈ l) : lookL f.id l = some f := by
  cases e : lookL f.id l with
  | none => exact absurd rfl (look_none e f hf)
  | some g =>
    have := List.mem_of_find?_eq_some e
    rw [up_inj h this hf (look_parts e).1]
theorem ins_perm (f : Ro) : ∀ l : List Ro, (insL f l).Perm (f :: l)
  | [] => .refl _
  | g :: r => by
    unfold insL
    split
    · exact .refl _
    · exact ((ins_perm f r).cons g).trans (.swap f g r)
theorem mem_ins {f g : Ro} {l : List Ro} : g ∈ insL f l ↔ g = f ∨ g ∈ l := by rw [(ins_perm f l).mem_iff, List.mem_cons]
theorem length_ins (f : Ro) (l : List Ro) : (insL f l).length = l.length + 1 := by rw [(ins_perm f l).length_eq, List.length_cons]
theorem mem_del {n : Int} {l : List Ro} {f : Ro} : f ∈ delL n l ↔ f ∈ l ∧ f.id ≠ n := by simp [delL]
theorem up_del {n : Int} {l : List Ro} (h : upL l) : upL (delL n l) := List.Pairwise.filter _ h
theorem up_ins {f : Ro} : ∀ {l : List Ro}, upL l → (∀ g ∈ l, g.id ≠ f.id) → upL (insL f l)
  | [], _, _ => List.pairwise_singleton _ _
  | g :: r, h, hn => by
    obtain ⟨h1, h2⟩ := List.pairwise_cons.1 h
    unfold insL
    split
    · rename_i hlt
      refine List.pairwise_cons.2 ⟨fun x hx => ?_, h⟩
      rcases List.mem_cons.1 hx with rfl | hx
      · exact hlt
      · have := h1 x hx; omega
    · rename_i hlt
      have hne := hn g (by simp)
      refine List.pairwise_cons.2 ⟨fun x hx => ?_, up_ins h2 (fun y hy => hn y (by simp [hy]))⟩
      rcases mem_ins.1 hx with rfl | hx
      · omega
      · exact h1 x hx
theorem up_put {f : Ro} {l : List Ro} (h : upL l) : upL (insL f (delL f.id l)) := up_ins (up_del h) (fun _ hg => (mem_del.1 hg).2)
theorem del_none {n : Int} {l : List Ro} (h : lookL n l = none) : delL n l = l := by
  unfold delL
  rw [List.filter_eq_self]
  intro x hx
  have := look_none h x hx
  simpa using this
theorem length_del {n : Int} {l : List Ro} {f : Ro} (hu : upL l) (h : lookL n l = some f) : (delL n l).length + 1 = l.length := by
  obtain ⟨hf, pre, post, rfl⟩ := look_parts h
  have h1 := List.pairwise_append.1 hu
  have h2 := List.pairwise_cons.1 h1.2.1
  unfold delL
  rw [List.filter_append, List.filter_cons_of_neg (by simp [hf]), List.filter_eq_self.2, List.filter_eq_self.2]
  · simp; omega
  · intro x hx
    have := h2.1 x hx
    simp; omega
  · intro x hx
    have := h1.2.2 x hx f (by simp)
    simp; omega
abbrev rp0 : Rp := ⟨0, 0, false, 0⟩
abbrev rpE (e : Int) : Rp := ⟨e, 0, false, 0⟩
/-- What Ask says: the reply, its results, whether the call is to be done. -/
def askA (A : List Ro) (c s : Int) : Rp × List Rs × Bool :=
  if c = 0 then (rp0, [], true) else if c < 0 ∨ s < 1 then (rpE 1, [], false) else match lookL c A with
  | none => if 64 ≤ A.length then (rpE 4, [], false) else (rp0, [], true)
  | some r => if s < r.sq then (rpE 24, [], false) else if r.sq = s then (r.rp, r.rs, false) else (rp0, [], true)
def noteA (A : List Ro) (c s : Int) (rp : Rp) (rs : List Rs) : List Ro := if (askA A c s).2.2 = true ∧ c ≠ 0 then insL ⟨c, s, rp, rs⟩ (delL c A) else A
/-- Bounds of a row. -/
structure Ro.Ok (r : Ro) : Prop where
  a : 1 ≤ r.id
  b : r.id ≤ 9223372036854775807
  c : 1 ≤ r.sq
  d : r.rs.length ≤ 5
abbrev encRo (f : Int → Value) (r : Ro) : Value := rowV r.id r.sq r.rp (f r.id)
/-- How an element of the map reads: as it lies. -/
def RL (v : Value) : Option (DataW Value × List MemPlace) := some (.held v, [])
theorem RL_hit {v u : Value} {ps : List MemPlace} (h : RL v = some (.held u, ps)) : v = u := by
  simp [RL] at h
  exact h.1
def ent (f : Int → Value) (l : Ro) : Lit × DataW Value := (.int .i64 l.id, .held (encRo f l))
theorem same_ent (g : Int → Value) (n : Int) (f : Ro) : (ent g f).1.sameKey (.int .i64 n) = (f.id == n) := by
  simp only [ent, Lit.sameKey]
  by_cases h : f.id = n <;> simp [h]
theorem has_ents (g : Int → Value) (n : Int) (l : List Ro) : Maps.has (.map (l.map (ent g)) : DataW Value) (.int .i64 n) = (lookL n l).isSome := by
  rw [Maps.has_eq, List.any_map]
  unfold lookL
  rw [List.isSome_find?]
  congr 1
  funext f
  exact same_ent g n f
theorem at_ents (g : Int → Value) (n : Int) (l : List Ro) (z : DataW Value) : (DataW.map (l.map (ent g))).atKey (.int .i64 n) z = ((lookL n l).map (fun r => DataW.held (encRo g r))).getD z := by
  unfold DataW.atKey lookL
  simp only [List.find?_map]
  have e : ((fun p : Lit × DataW Value => p.1.sameKey (.int .i64 n)) ∘ ent g) = (fun f : Ro => f.id == n) := by funext f; exact same_ent g n f
  rw [e]
  cases l.find? (fun f => f.id == n) <;> rfl
theorem del_ents (g : Int → Value) (n : Int) (l : List Ro) : (DataW.map (l.map (ent g))).del (.int .i64 n) = .map ((delL n l).map (ent g)) := by
  show DataW.map ((l.map (ent g)).filter _) = _
  rw [List.filter_map]
  unfold delL
  congr 3
  funext f
  exact congrArg _ (same_ent g n f)
theorem before_ent (h : Int → Value) (f g : Ro) : (ent h f).1.before (ent h g).1 = decide (f.id < g.id) := by simp [ent, Lit.before]
theorem ins_ents (h : Int → Value) (f : Ro) : ∀ l : List Ro, DataW.insert (ent h f) (l.map (ent h)) = (insL f l).map (ent h)
  | [] => rfl
  | g :: r => by
    simp only [List.map_cons, DataW.insert, insL]
    rw [before_ent]
    by_cases hl : f.id < g.id
    · simp [hl]
    · simp [hl, ins_ents h f r]
theorem put_ents (g : Int → Value) (f : Ro) (l : List Ro) : (DataW.map (l.map (ent g))).put (.int .i64 f.id) (.held (encRo g f)) = .map ((insL f (delL f.id l)).map (ent g)) := by
  rw [← ins_ents]
  have := del_ents g f.id l
  simp only [DataW.del, DataW.map.injEq] at this
  show DataW.map (DataW.insert (ent g f) ((l.map (ent g)).filter _)) = _
  rw [← this]
theorem own_tight {P : Program} {k : TypeId} {R : Value → Option (DataW Value × List MemPlace)} {w : World} {b n : Nat} {l : List (Lit × DataW Value)} (h : w.ownsMap P k R b n (.map l)) : w.ownsMap P k R b l.length (.map l) := by
  obtain ⟨es, clock, hb, F, hs, hD⟩ := h
  refine ⟨es, clock, hb, F, ?_, hD⟩
  have : l = _ := DataW.map.inj hD
  rw [this, length_sorted]
  simp
theorem ownsMap_upd {P : Program} {w w' : World} {S : Nat → Prop} {k : TypeId} {R : Value → Option (DataW Value × List MemPlace)} {b n : Nat} {D : DataW Value} (h : w.ownsMap P k R b n D) (hu : Upd w w' S) (hS : ¬ S b) : w'.ownsMap P k R b n D := by
  have hlt := h.lt
  obtain ⟨es, clock, hb, F, hs, hD⟩ := h
  exact ⟨es, clock, (hu.block b hlt hS).trans hb, F, hs, hD⟩
abbrev mapD (L : List Ro) (f : Int → Value) : DataW Value := .map (L.map (ent f))
theorem size_mapD (L : List Ro) (f : Int → Value) : Maps.size (mapD L f) = L.length := by rw [Maps.size_eq, List.length_map]
/-- A table lies in memory at block d, its map at block b: A is what it holds, f tells the lists of results. -/
structure Tb (Z : Nat → Prop) (B : Nat) (w : World) (d b : Nat) (A : List Ro) (f : Int → Value) : Prop where
  c0 : w.cell? ⟨d, 0, none⟩ = some (.map (some b))
  own : w.ownsMap Try.prog 3 RL b A.length (mapD A f)
  up : upL A
  ok : ∀ l ∈ A, l.Ok
  few : A.length ≤ 64
  res : ∀ r ∈ A, RSs Z w (f r.id) r.rs
  ne : b ≠ d
  lod : B ≤ d
  lob : B ≤ b
  nz : ¬ Z b
variable {Z : Nat → Prop} {B : Nat} {w w' : World} {d b : Nat} {A : List Ro} {f : Int → Value}
theorem Tb.ltd (h : Tb Z B w d b A f) : d < w.heap.size := World.block_lt_of_cell? _ _ h.c0
theorem Tb.ltb (h : Tb Z B w d b A f) : b < w.heap.size := h.own.lt
theorem Tb.upd {S : Nat → Prop} (h : Tb Z B w d b A f) (hu : Upd w w' S) (hd : ¬ S d) (hb : ¬ S b) (hS : ∀ k, Z k → ¬ S k) : Tb Z B w' d b A f :=
  ⟨(hu.cell (p := ⟨d, 0, none⟩) h.ltd hd).trans h.c0, ownsMap_upd h.own hu hb, h.up, h.ok, h.few, fun r hr => (h.res r hr).upd hu hS, h.ne, h.lod, h.lob, h.nz⟩
theorem Tb.below (h : Tb Z B w d b A f) (hb : Below w.heap.size w w') : Tb Z B w' d b A f := h.upd (S := fun _ => False) (Upd.ofBelow hb) (fun h => h) (fun h => h) (fun _ _ h => h)
abbrev isI (n : Int) : Prop := -9223372036854775808 ≤ n ∧ n ≤ 9223372036854775807
theorem key_int {n : Int} (h : isI n) : keyOf Try.prog 3 (.int .i64 n) = some (.int .i64 n) := by
  have : (Lit.int .i64 n).wf = true := by simp [Lit.wf, IntKind.min, IntKind.max, IntKind.bits, IntKind.signed]; omega
  simp [keyOf, Try.underlying3, mapKey, this]
theorem zero43 (w : World) : (zeroValue 43).run Try.prog w = .ok (rowV 0 0 rp0 (.slice none 0 0)) w := by simp [Try.zeroValue43]
theorem keyed3 : Maps.Keyed Try.prog 3 := Maps.int_keyed Try.underlying3
def getV (f : Int → Value) (o : Option Ro) : Value := match o with
  | none => rowV 0 0 rp0 (.slice none 0 0)
  | some r => encRo f r
/-- The look-up, as an operation. -/
theorem look_run {n : Nat} (hm : w.ownsMap Try.prog 3 RL b n (mapD A f)) {k : Int} (hk : isI k) (c : Bool) :
    (Instr.lookup 50 (.map (some b)) (.int .i64 k) c).run Try.prog w = .ok (if c then .tuple #[getV f (lookL k A), .bool (lookL k A).isSome] else getV f (lookL k A)) w := by
  cases c with
  | true =>
    obtain ⟨v, ps, hrun, hv⟩ := hm.look_ok keyed3 Try.underlying50 (zero43 w) (zd := .held (rowV 0 0 rp0 (.slice none 0 0))) (zp := []) rfl (key_int hk)
    rw [hrun, has_ents]
    rw [at_ents] at hv
    cases hl : lookL k A with
    | none => rw [hl] at hv; rw [RL_hit hv]; rfl
    | some f => rw [hl] at hv; rw [RL_hit hv]; rfl
  | false =>
    obtain ⟨v, ps, hrun, hv⟩ := hm.lookup keyed3 Try.underlying50 (zero43 w) (zd := .held (rowV 0 0 rp0 (.slice none 0 0))) (zp := []) rfl (key_int hk)
    rw [hrun]
    rw [at_ents] at hv
    cases hl : lookL k A with
    | none => rw [hl] at hv; rw [RL_hit hv]; rfl
    | some f => rw [hl] at hv; rw [RL_hit hv]; rfl
/-- One more list of results. -/
def setF (f : Int → Value) (k : Int) (v : Value) : Int → Value := fun j => if j = k then v else f j
theorem map_setF {l : List Ro} {k : Int} {v : Value} (h : ∀ r ∈ l, r.id ≠ k) : l.map (ent (setF f k v)) = l.map (ent f) := by
  apply List.map_congr_left
  intro r hr
  simp [ent, setF, h r hr]
theorem store_run {n : Nat} (hm : w.ownsMap Try.prog 3 RL b n (mapD A f)) (r : Ro) (v : Value) (hf : isI r.id) (hn : A.length ≤ 1024) :
    ∃ w', (Instr.mapUpdate 50 (.map (some b)) (.int .i64 r.id) (rowV r.id r.sq r.rp v)).run Try.prog w = .ok () w' ∧
      w'.ownsMap Try.prog 3 RL b (insL r (delL r.id A)).length (mapD (insL r (delL r.id A)) (setF f r.id v)) ∧ Upd w w' (fun k => k = b) := by
  have hm := own_tight hm
  rw [List.length_map] at hm
  obtain ⟨w', hrun, h1, h2⟩ := hm.update keyed3 Try.underlying50 (by unfold maxLen; omega) (key_int hf) (val := rowV r.id r.sq r.rp v) (d := .held (rowV r.id r.sq r.rp v)) (ps := []) rfl
  refine ⟨w', hrun, ?_, (Upd.ofGrown h2).mono (fun k _ e => Option.some.inj e)⟩
  have hd : (DataW.map (A.map (ent f))).put (.int .i64 r.id) (.held (rowV r.id r.sq r.rp v)) = mapD (insL r (delL r.id A)) (setF f r.id v) := by
    have e1 := del_ents f r.id A
    simp only [DataW.del, DataW.map.injEq] at e1
    show DataW.map (DataW.insert _ ((A.map (ent f)).filter _)) = _
    rw [e1, mapD, ← ins_ents, map_setF (fun x hx => (mem_del.1 hx).2)]
    simp [ent, setF, encRo]
  rw [hd] at h1
  have := own_tight h1
  rwa [List.length_map] at this
end Go.Proofs.Ytcghaepjklmggaa
