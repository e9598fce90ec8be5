/- A map in memory as a function: look-up, store, delete, len, for keys of any kind. -/
import Derived.Test.YtgbobegoknmiaaaGreatGRA
import Derived.Maps.OwnSet
import Derived.Test.YtgbobegoknmiaaaGreatGRH
import Derived.WalkSpells
import Derived.BigQuiet
import Derived.LaidEql
namespace Go.Proofs.YtgbobegoknmiaaaGreat
open Go Go.RowKit

def findA {K : Type} [DecidableEq K] (k : K) : List (K × Value) → Nat → Option (Nat × Value)
  | [], _ => none
  | p :: L, i => if k = p.1 then some (i, p.2) else findA k L (i + 1)
/-- Keys of a kind: how they are laid, and that a look among them goes by equality. -/
structure KLaw (P : Program) (kt : TypeId) {K : Type} [DecidableEq K] (enc : K → Value) : Prop where
  chk : ∀ (e : Bool) (k : K) (w : World), (Instr.checkKey e 10000 kt (enc k)).run P w = .ok () w
  fnd : ∀ (k : K) (es : List MapEntry) (L : List (K × Value)) (w : World), es.map (fun e => (e.key, e.val)) = L.map (fun p => (enc p.1, p.2)) → (Instr.findKey kt (enc k) es).run P w = .ok (findA k L 0) w
  bits : ∀ k, Instr.sameBits 10000 (enc k) (enc k) = true
section
variable {K : Type} [DecidableEq K]
def getA (L : List (K × Value)) (k : K) : Option Value := (L.find? (fun p => decide (p.1 = k))).map Prod.snd
/-- Where a key stands, and all others do not. -/
theorem findA_split (k : K) : ∀ (L : List (K × Value)) (i : Nat), (L.map Prod.fst).Nodup → (findA k L i = none ∧ k ∉ L.map Prod.fst) ∨ ∃ A v B, L = A ++ (k, v) :: B ∧ findA k L i = some (i + A.length, v) ∧ k ∉ A.map Prod.fst ∧ k ∉ B.map Prod.fst
  | [], _, _ => .inl ⟨rfl, by simp⟩
  | p :: L, i, hn => by
    obtain ⟨h1, h2⟩ := List.nodup_cons.1 (by simpa using hn : (p.1 :: L.map Prod.fst).Nodup)
    by_cases hk : k = p.1
    · subst hk
      exact .inr ⟨[], p.2, L, rfl, by simp [findA], by simp, h1⟩
    · rcases findA_split k L (i + 1) h2 with ⟨e, hm⟩ | ⟨A, v, B, e, h3, h4, h5⟩
      · exact .inl ⟨by rw [findA, if_neg hk, e], by simp only [List.map_cons, List.mem_cons, not_or]; exact ⟨hk, hm⟩⟩
      · refine .inr ⟨p :: A, v, B, by rw [e]; rfl, ?_, ?_, h5⟩
        · rw [findA, if_neg hk, h3, List.length_cons]
          congr 2
          omega
        · simp only [List.map_cons, List.mem_cons, not_or]; exact ⟨hk, h4⟩
theorem getA_not {L : List (K × Value)} {k : K} (h : k ∉ L.map Prod.fst) : getA L k = none := by
  unfold getA
  rw [List.find?_eq_none.2]
  · rfl
  · intro p hp e
    exact h (List.mem_map.2 ⟨p, hp, by simpa using e⟩)
theorem getA_mid {A B : List (K × Value)} {k : K} {v : Value} (h : k ∉ A.map Prod.fst) : getA (A ++ (k, v) :: B) k = some v := by
  unfold getA
  rw [List.find?_append, List.find?_eq_none.2]
  · simp
  · intro p hp e
    exact h (List.mem_map.2 ⟨p, hp, by simpa using e⟩)
theorem getA_skip {A B : List (K × Value)} {k j : K} {v : Value} (h : j ≠ k) : getA (A ++ (k, v) :: B) j = getA (A ++ B) j := by
  unfold getA
  rw [List.find?_append, List.find?_append, List.find?_cons_of_neg (by simpa using Ne.symm h)]
theorem getA_end {A : List (K × Value)} {k j : K} {v : Value} (h : j ≠ k) : getA (A ++ [(k, v)]) j = getA A j := by
  rw [getA_skip h, List.append_nil]
/-- A map in memory, as a function of its keys, and how many it has. -/
def MapF (w : World) (enc : K → Value) (b : Nat) (f : K → Option Value) (n : Nat) : Prop :=
  ∃ (es : Array MapEntry) (clock : Nat) (L : List (K × Value)), w.heap[b]? = some (.map es clock) ∧ es.toList.map (fun e => (e.key, e.val)) = L.map (fun p => (enc p.1, p.2)) ∧ (L.map Prod.fst).Nodup ∧ L.length = n ∧ ∀ k, f k = getA L k
def setF (f : K → Option Value) (k : K) (v : Value) : K → Option Value := fun j => if j = k then some v else f j
def delF (f : K → Option Value) (k : K) : K → Option Value := fun j => if j = k then none else f j
theorem setF_same (f : K → Option Value) (k : K) (v : Value) : setF f k v k = some v := if_pos rfl
theorem setF_other (f : K → Option Value) {k j : K} (v : Value) (h : j ≠ k) : setF f k v j = f j := if_neg h
theorem delF_same (f : K → Option Value) (k : K) : delF f k k = none := if_pos rfl
theorem delF_other (f : K → Option Value) {k j : K} (h : j ≠ k) : delF f k j = f j := if_neg h
variable {P : Program} {w : World} {enc : K → Value} {b n : Nat} {f : K → Option Value} {t kt et : TypeId}
theorem MapF.lt (h : MapF w enc b f n) : b < w.heap.size := by
  obtain ⟨es, clock, L, h1, _⟩ := h
  exact (Array.getElem?_eq_some_iff.1 h1).1
theorem MapF.agree {w' : World} (h : MapF w enc b f n) (hb : w'.heap[b]? = w.heap[b]?) : MapF w' enc b f n := by
  obtain ⟨es, clock, L, h1, h2⟩ := h
  exact ⟨es, clock, L, hb.trans h1, h2⟩
theorem MapF.upd {w' : World} {S : Nat → Prop} (h : MapF w enc b f n) (hu : Upd w w' S) (hS : ¬ S b) : MapF w' enc b f n := h.agree (hu.block b h.lt hS)
theorem MapF.below {w' : World} (h : MapF w enc b f n) (hb : Below w.heap.size w w') : MapF w' enc b f n := h.agree (hb.block b h.lt)
theorem MapF.congr {g : K → Option Value} (h : MapF w enc b f n) (hg : ∀ k, g k = f k) : MapF w enc b g n := by
  obtain ⟨es, clock, L, h1, h2, h3, h4, h5⟩ := h
  exact ⟨es, clock, L, h1, h2, h3, h4, fun k => (hg k).trans (h5 k)⟩
theorem MapF.made (w : World) (enc : K → Value) : MapF (w.alloc (.map #[] 0)) enc w.heap.size (fun _ => none) 0 := ⟨#[], 0, [], by rw [← World.alloc_eq]; simp, rfl, List.nodup_nil, rfl, fun _ => rfl⟩
theorem MapF.look (h : MapF w enc b f n) (K' : KLaw P kt enc) (ht : P.underlying t = some (.map kt et)) {z : Value} (hz : (zeroValue et).run P w = .ok z w) (k : K) (c : Bool) :
    (Instr.lookup t (.map (some b)) (enc k) c).run P w = .ok (if c then .tuple #[(f k).getD z, .bool (f k).isSome] else (f k).getD z) w := by
  obtain ⟨es, clock, L, h1, h2, h3, h4, h5⟩ := h
  have hf := K'.fnd k es.toList L w h2
  rcases findA_split k L 0 h3 with ⟨e, hm⟩ | ⟨A, v, B, e, e2, hA, hB⟩
  · rw [e] at hf
    have : f k = none := by rw [h5]; exact getA_not hm
    rw [this]
    cases c <;> simp [Instr.lookup, run_underlying ht, MapKept.run_getObj_map h1, K'.chk, hf, hz, Result.andThen]
  · rw [e2] at hf
    have : f k = some v := by rw [h5, e]; exact getA_mid hA
    rw [this]
    cases c <;> simp [Instr.lookup, run_underlying ht, MapKept.run_getObj_map h1, K'.chk, hf, Result.andThen]
theorem MapF.len (h : MapF w enc b f n) (ht : P.underlying t = some (.map kt et)) (ty : TypeId) : (Builtin.len_ #[t] ty #[.map (some b)]).run P w = .ok (.int .i64 n) w := by
  obtain ⟨es, clock, L, h1, h2, h3, h4, h5⟩ := h
  have : es.size = n := by
    have := congrArg List.length h2
    simpa [h4] using this
  simp [Builtin.len_, run_underlying ht, MapKept.run_getObj_map h1, goInt, Result.andThen, this]
theorem upd_turned {w w' : World} {b : Nat} (h : w.mapTurned w' b) : Upd w w' (fun k => k = b) := by
  obtain ⟨es, clock, es', clock', h1, rfl⟩ := h
  exact ⟨rfl, rfl, rfl, by simp [ChangeMaps.setBlock], fun k hk hS => by simp [ChangeMaps.setBlock, Array.getElem?_setIfInBounds_ne (Ne.symm hS)]⟩
theorem heap_set {w : World} {b : Nat} {o o' : Obj} (h : w.heap[b]? = some o) : (ChangeMaps.setBlock w b o').heap[b]? = some o' := by
  simp [ChangeMaps.setBlock, (Array.getElem?_eq_some_iff.1 h).1]
theorem MapF.set (h : MapF w enc b f n) (K' : KLaw P kt enc) (ht : P.underlying t = some (.map kt et)) (k : K) (v : Value) :
    ∃ w', (Instr.mapUpdate t (.map (some b)) (enc k) v).run P w = .ok () w' ∧ MapF w' enc b (setF f k v) (if (f k).isSome then n else n + 1) ∧ Upd w w' (fun j => j = b) := by
  obtain ⟨es, clock, L, h1, h2, h3, h4, h5⟩ := h
  have hf := K'.fnd k es.toList L w h2
  rcases findA_split k L 0 h3 with ⟨e, hm⟩ | ⟨A, u, B, rfl, e2, hA, hB⟩
  · rw [e] at hf
    have hk : f k = none := by rw [h5]; exact getA_not hm
    refine ⟨ChangeMaps.setBlock w b (.map (es.push ⟨enc k, v, clock⟩) (clock + 1)), ?_, ⟨_, _, L ++ [(k, v)], heap_set h1, by simp [h2], ?_, ?_, ?_⟩, upd_turned ⟨_, _, _, _, h1, rfl⟩⟩
    · simp [Instr.mapUpdate, run_underlying ht, MapKept.run_getObj_map h1, K'.chk, hf, MapKept.run_setObj_map _ h1, Result.andThen, ChangeMaps.setBlock]
    · rw [List.map_append, List.nodup_append]
      refine ⟨h3, by simp, ?_⟩
      intro x hx y hy
      have : y = k := by simpa using hy
      subst this
      exact fun e' => hm (e' ▸ hx)
    · rw [hk]; simp [h4]
    · intro j
      by_cases hj : j = k
      · subst hj; rw [setF_same, getA_mid hm]
      · rw [setF_other _ _ hj, getA_end hj, h5]
  · rw [e2] at hf
    have hk : f k = some u := by rw [h5]; exact getA_mid hA
    have hAl : ((es.toList.map (fun e => (e.key, e.val)))[A.length]?) = some (enc k, u) := by rw [h2]; simp
    rw [List.getElem?_map] at hAl
    obtain ⟨e0, he0, hee⟩ := Option.map_eq_some_iff.1 hAl
    have hj : es[A.length]? = some e0 := by simpa using he0
    have hke : e0.key = enc k := congrArg Prod.fst hee
    have hst : (Instr.keyThatStays (enc k) (enc k)).run P w = .ok (enc k) w := by simp [Instr.keyThatStays, K'.bits]
    refine ⟨ChangeMaps.setBlock w b (.map (es.modify A.length (fun e' => { e' with key := enc k, val := v })) clock), ?_, ⟨_, _, A ++ (k, v) :: B, heap_set h1, ?_, ?_, ?_, ?_⟩, upd_turned ⟨_, _, _, _, h1, rfl⟩⟩
    · simp [Instr.mapUpdate, run_underlying ht, MapKept.run_getObj_map h1, K'.chk, hf, hj, hke, hst, MapKept.run_setObj_map _ h1, Result.andThen, ChangeMaps.setBlock]
    · rw [Array.toList_modify, ChangeMaps.modify_eq_set _ _ _ _ he0, List.map_set, h2]
      simp
    · simpa using h3
    · rw [hk]; simpa using h4
    · intro j
      by_cases hj : j = k
      · subst hj; rw [setF_same, getA_mid hA]
      · rw [setF_other _ _ hj, h5, getA_skip hj, getA_skip hj]
theorem MapF.del (h : MapF w enc b f n) (K' : KLaw P kt enc) (ht : P.underlying t = some (.map kt et)) (k : K) (ty : TypeId) :
    ∃ w', (Builtin.delete_ #[t, kt] ty #[.map (some b), enc k]).run P w = .ok (.tuple #[]) w' ∧ MapF w' enc b (delF f k) (if (f k).isSome then n - 1 else n) ∧ Upd w w' (fun j => j = b) := by
  obtain ⟨es, clock, L, h1, h2, h3, h4, h5⟩ := h
  have hf := K'.fnd k es.toList L w h2
  rcases findA_split k L 0 h3 with ⟨e, hm⟩ | ⟨A, u, B, rfl, e2, hA, hB⟩
  · rw [e] at hf
    have hk : f k = none := by rw [h5]; exact getA_not hm
    refine ⟨ChangeMaps.setBlock w b (.map es clock), ?_, ⟨_, _, L, heap_set h1, h2, h3, ?_, ?_⟩, upd_turned ⟨_, _, _, _, h1, rfl⟩⟩
    · simp [Builtin.delete_, run_underlying ht, MapKept.run_getObj_map h1, K'.chk, hf, MapKept.run_setObj_map _ h1, Result.andThen, ChangeMaps.setBlock]
    · rw [hk]; simp [h4]
    · intro j
      by_cases hj : j = k
      · subst hj; rw [delF_same, getA_not hm]
      · rw [delF_other _ hj, h5]
  · rw [e2] at hf
    have hk : f k = some u := by rw [h5]; exact getA_mid hA
    have hlen : A.length < es.size := by
      have := congrArg List.length h2
      simp at this
      omega
    refine ⟨ChangeMaps.setBlock w b (.map (es.eraseIdxIfInBounds A.length) clock), ?_, ⟨_, _, A ++ B, heap_set h1, ?_, ?_, ?_, ?_⟩, upd_turned ⟨_, _, _, _, h1, rfl⟩⟩
    · simp [Builtin.delete_, run_underlying ht, MapKept.run_getObj_map h1, K'.chk, hf, MapKept.run_setObj_map _ h1, Result.andThen, ChangeMaps.setBlock]
    · have e3 : (es.eraseIdxIfInBounds A.length).toList = es.toList.eraseIdx A.length := by simp [Array.eraseIdxIfInBounds, hlen]
      rw [e3, ChangeMaps.map_eraseIdx, h2]
      simp [List.eraseIdx_append_of_length_le]
    · simp only [List.map_append, List.map_cons] at h3 ⊢
      exact h3.sublist ((List.Sublist.refl _).append (List.sublist_cons_self _ _))
    · rw [hk]
      simp at h4 ⊢
      omega
    · intro j
      by_cases hj : j = k
      · subst hj
        rw [delF_same, getA_not]
        simp only [List.map_append, List.mem_append, not_or]
        exact ⟨hA, hB⟩
      · rw [delF_other _ hj, h5, getA_skip hj]
end

/-- A look where keys are told apart at once. -/
theorem KLaw.now {P : Program} {kt : TypeId} {K : Type} [DecidableEq K] {enc : K → Value} {d : TypeDesc} (hd : P.underlying kt = some d) (h1 : ∀ k j, Instr.sameNow d (enc k) (enc j) = some (decide (k = j))) (h2 : ∀ k, Instr.sameBits 10000 (enc k) (enc k) = true) (h3 : ∀ (e : Bool) (k : K) (w : World), (Instr.checkKey e 10000 kt (enc k)).run P w = .ok () w) : KLaw P kt enc where
  chk := h3
  bits := h2
  fnd := fun k es L w he => by
    refine MapKept.run_findKey hd ?_
    have : ∀ (es : List MapEntry) (L : List (K × Value)) (i : Nat), es.map (fun e => (e.key, e.val)) = L.map (fun p => (enc p.1, p.2)) → Instr.findNow d (enc k) es i = some (findA k L i) := by
      intro es
      induction es with
      | nil =>
        intro L i he
        cases L with
        | nil => rfl
        | cons p L => cases he
      | cons e es ih =>
        intro L i he
        cases L with
        | nil => cases he
        | cons p L =>
          obtain ⟨q1, q2⟩ := List.cons.inj he
          have k1 : e.key = enc p.1 := congrArg Prod.fst q1
          have k2 : e.val = p.2 := congrArg Prod.snd q1
          rw [Instr.findNow, k1, h1, findA]
          by_cases hk : k = p.1
          · simp [hk, k2]
          · simp [hk, ih L (i + 1) q2]
    exact this es L 0 he
/-- A look where == is asked. -/
theorem KLaw.asks {P : Program} {kt : TypeId} {K : Type} [DecidableEq K] {enc : K → Value} {d : TypeDesc} (hd : P.underlying kt = some d) (h0 : ∀ k j, Instr.sameNow d (enc k) (enc j) = none) (h1 : ∀ k j w, (Op.equal kt (enc k) (enc j)).run P w = .ok (decide (k = j)) w) (h2 : ∀ k, Instr.sameBits 10000 (enc k) (enc k) = true) (h3 : ∀ (e : Bool) (k : K) (w : World), (Instr.checkKey e 10000 kt (enc k)).run P w = .ok () w) : KLaw P kt enc where
  chk := h3
  bits := h2
  fnd := fun k es L w he => by
    have ha : ∀ (es : List MapEntry) (L : List (K × Value)) (i : Nat), es.map (fun e => (e.key, e.val)) = L.map (fun p => (enc p.1, p.2)) → (Instr.findAsking kt (enc k) es i).run P w = .ok (findA k L i) w := by
      intro es
      induction es with
      | nil =>
        intro L i he
        cases L with
        | nil => rfl
        | cons p L => cases he
      | cons e es ih =>
        intro L i he
        cases L with
        | nil => cases he
        | cons p L =>
          obtain ⟨q1, q2⟩ := List.cons.inj he
          have k1 : e.key = enc p.1 := congrArg Prod.fst q1
          have k2 : e.val = p.2 := congrArg Prod.snd q1
          rw [Instr.findAsking, k1, findA]
          by_cases hk : k = p.1
          · simp [h1, hk, k2, Result.andThen]
          · simp [h1, hk, ih L (i + 1) q2, Result.andThen]
    cases es with
    | nil =>
      cases L with
      | nil => simp [Instr.findKey, run_underlying hd, Instr.findNow, Result.andThen, findA]
      | cons p L => cases he
    | cons e es =>
      have hn : Instr.findNow d (enc k) (e :: es) 0 = none := by
        cases L with
        | nil => cases he
        | cons p L =>
          have k1 : e.key = enc p.1 := congrArg Prod.fst (List.cons.inj he).1
          rw [Instr.findNow, k1, h0]
      simp only [Instr.findKey, Sem.run_bind, run_underlying hd, Result.andThen, hn]
      exact ha _ _ _ he
theorem KLaw.plain {P : Program} {kt : TypeId} {K : Type} [DecidableEq K] {enc : K → Value} {d : TypeDesc} (hd : P.underlying kt = some d) (hk : ∀ k, MapKept.IsKey d (enc k)) (inj : ∀ k j, enc k = enc j → k = j) (h2 : ∀ k, Instr.sameBits 10000 (enc k) (enc k) = true) : KLaw P kt enc :=
  KLaw.now hd (fun k j => by
    obtain ⟨r, h, hr⟩ := MapKept.sameNow_of_keys (hk k) (hk j)
    rw [h]
    congr 1
    by_cases e : k = j
    · subst e; simp [hr.2 rfl]
    · have : ¬ r = true := fun h' => e (inj _ _ (hr.1 h'))
      simp [e, this]) h2 (fun e k w => MapKept.run_checkKey hd (hk k) e 9999)
theorem law_string {P : Program} {kt : TypeId} (hk : P.underlying kt = some .string) : KLaw P kt (fun s : ByteArray => Value.string s) :=
  KLaw.plain hk (fun _ => trivial) (fun k j h => by cases h; rfl) (fun k => by simp only [Instr.sameBits]; exact (MapKept.bytes_beq k k).2 rfl)
theorem law_int {P : Program} {kt : TypeId} (hk : P.underlying kt = some (.int .i64)) : KLaw P kt (fun a : Int => Value.int .i64 a) :=
  KLaw.plain hk (fun _ => rfl) (fun k j h => by cases h; rfl) (fun k => by simp [Instr.sameBits])
end Go.Proofs.YtgbobegoknmiaaaGreat
/- A store in memory, and a write of it. -/
namespace Go.Proofs.YtgbobegoknmiaaaGreat
open Go Go.RowKit

/-- The kinds of blocks that the index has. -/
def Kind (w : World) (k : Nat) (ts : List Nat) : Prop := ∃ c t f, w.heap[k]? = some (.cells c t f) ∧ t ∈ ts
abbrev own7 : List Nat := [128, 183, 167, 126, 156]
theorem Kind.of_row {w : World} {B e s n : Nat} {v : Value} {xs : List Value} (h : w.ownsRow B e s v n xs) {k : Nat} (hk : v.ownBlock = some k) {ts : List Nat} (he : e ∈ ts) : Kind w k ts := by
  obtain ⟨_, c, f, hh⟩ := ownBlock_ge h hk
  exact ⟨c, e, f, hh, he⟩
theorem Nod.kind {w : World} {b : Nat} {iv kv : Value} {its : List Itm} {ks : List Nat} (h : Nod w b iv kv its ks) : ∀ k ∈ nf b iv kv, Kind w k own7 := fun k hk => by
  simp only [nf, List.mem_cons, List.mem_append, Option.mem_toList] at hk
  rcases hk with rfl | hk | hk
  · exact ⟨_, _, _, h.blk, by simp⟩
  · exact Kind.of_row h.items hk (by simp)
  · exact Kind.of_row h.kids hk (by simp)
theorem Tre.kind {w : World} : ∀ {h b : Nat} {its L : List Itm} {F : List Nat}, Tre w h b its L F → ∀ k ∈ F, Kind w k own7
  | 0, _, _, _, _, ⟨iv, kv, hN, _, hF⟩, k, hk => hN.kind k (by rw [← hF]; exact hk)
  | h + 1, _, _, _, _, ⟨iv, kv, ks, hN, hl, hks, hL, hF⟩, k, hk => by
    rw [hF, List.mem_append] at hk
    rcases hk with hk | hk
    · exact hN.kind k hk
    · obtain ⟨a, ha, hk⟩ := List.mem_flatMap.1 hk
      exact (hks a ha).1.kind k hk
theorem Xd.kind {w : World} {x : Nat} {D : Dat} {F : List Nat} (h : Xd w x D F) : ∀ k ∈ F, Kind w k own7 := fun k hk => by
  obtain ⟨R, h1, _⟩ := h
  obtain ⟨rp, Ft, hx, hR, hF⟩ := h1.ex
  rw [hF] at hk
  rcases List.mem_cons.1 hk with rfl | hk
  · exact ⟨_, _, _, hx, by simp⟩
  · rcases List.mem_append.1 hk with hk | hk
    · rcases hR with ⟨_, _, rfl⟩ | ⟨h, b, its, _, ht, _⟩
      · cases hk
      · exact ht.kind k hk
    · obtain ⟨r, hr, hk⟩ := List.mem_flatMap.1 hk
      simp only [ownM, Option.mem_toList] at hk
      exact Kind.of_row (h1.mks r hr).1 hk (by simp)
theorem Kind.ne {w : World} {k : Nat} (h : Kind w k own7) {c : Array Value} {t : Nat} {f : Nat × Nat} {b : Nat} (hb : w.heap[b]? = some (.cells c t f)) (ht : t ∉ own7) : k ≠ b := fun e => by
  obtain ⟨c', t', f', h1, h2⟩ := h
  rw [e, hb] at h1
  cases h1
  exact ht h2
theorem Kind.ne_map {w : World} {k : Nat} (h : Kind w k own7) {es : Array MapEntry} {c b : Nat} (hb : w.heap[b]? = some (.map es c)) : k ≠ b := fun e => by
  obtain ⟨c', t', f', h1, h2⟩ := h
  rw [e, hb] at h1
  cases h1

abbrev encB : ByteArray → Value := fun k => .string k
abbrev encI : Int → Value := fun r => .int .i64 r
abbrev encP : Int × ByteArray → Value := fun p => .agg #[.int .i64 p.1, .string p.2]
/-- A change as it is kept: a put, or a deletion. -/
def encC (k : ByteArray) : Option KVd → Value
  | some kv => .iface 124 (encKV kv)
  | none => .iface 158 (.agg #[.string k])
/-- A store as data: its revisions, the keys that it knows (rising), what was done to each, the keys of each revision, how many are there. -/
structure Sto where
  rev : Nat
  past : Nat
  ks : List ByteArray
  kh : ByteArray → Hs
  lg : Int → List ByteArray
  nth : Nat
def markOf (p : Int × Option KVd) : Mk := (p.1, p.2.isNone)
def datS (S : Sto) : Dat := S.ks.map fun k => (k, (S.kh k).map markOf)
def chF (S : Sto) : Int × ByteArray → Option Value := fun p => ((S.kh p.2).find? fun q => decide (q.1 = p.1)).map fun q => encC p.2 q.2
def thF (S : Sto) : ByteArray → Option Value := fun k => (thereH (S.kh k)).map fun kv => .int .i64 kv.mod
/-- Its blocks: the index, three maps, the rows of its log. -/
structure Sg where
  x : Nat
  bc : Nat
  bl : Nat
  bt : Nat
  Fi : List Nat
  lv : Int → Option Value
  nc : Nat
  nl : Nat
structure St (n : Nat) (w : World) (s : Nat) (S : Sto) (g : Sg) (o : Value) : Prop where
  blk : w.heap[s]? = some (.cells #[.int .i64 S.rev, .int .i64 S.past, ptr g.x, .map (some g.bc), .map (some g.bl), .map (some g.bt), o] 79 (0, 0))
  ix : Xd w g.x (datS S) g.Fi
  bd : Bd n (datS S)
  ch : MapF w encP g.bc (chF S) g.nc
  lg : MapF w encI g.bl g.lv g.nl
  th : MapF w encB g.bt (thF S) S.nth
  ne : g.bc ≠ g.bl ∧ g.bc ≠ g.bt ∧ g.bl ≠ g.bt
  rows : ∀ r v, g.lv r = some v → r ≤ S.rev ∧ w.ownsRow 0 9 1 v (S.lg r).length (strs (S.lg r))
  hok : ∀ k, HOk k S.rev (S.kh k)
  mem : ∀ k, k ∈ S.ks ↔ S.kh k ≠ []
  sz : ∀ k ∈ S.ks, 0 < k.size ∧ k.size ≤ 100
  past : S.past ≤ S.rev
/-- A store's blocks. -/
def ftS (s : Nat) (g : Sg) (k : Nat) : Prop := k = s ∨ k = g.bc ∨ k = g.bl ∨ k = g.bt ∨ k ∈ g.Fi ∨ ∃ r v, g.lv r = some v ∧ v.ownBlock = some k
theorem St.upd {n : Nat} {w w' : World} {s : Nat} {S : Sto} {g : Sg} {o : Value} {T : Nat → Prop} (h : St n w s S g o) (hu : Upd w w' T) (hT : ∀ k, ftS s g k → ¬ T k) : St n w' s S g o :=
  ⟨(hu.block s (Array.getElem?_eq_some_iff.1 h.blk).1 (hT s (.inl rfl))).trans h.blk, h.ix.upd hu (fun k hk => hT k (.inr (.inr (.inr (.inr (.inl hk)))))), h.bd,
   h.ch.upd hu (hT _ (.inr (.inl rfl))), h.lg.upd hu (hT _ (.inr (.inr (.inl rfl)))), h.th.upd hu (hT _ (.inr (.inr (.inr (.inl rfl))))), h.ne,
   fun r v hv => ⟨(h.rows r v hv).1, ownsRow_upd (h.rows r v hv).2 hu (fun k hk => hT k (.inr (.inr (.inr (.inr (.inr ⟨r, v, hv, hk⟩))))))⟩, h.hok, h.mem, h.sz, h.past⟩
theorem St.below {n : Nat} {w w' : World} {s : Nat} {S : Sto} {g : Sg} {o : Value} (h : St n w s S g o) (hb : Below w.heap.size w w') : St n w' s S g o := h.upd (T := fun _ => False) (Upd.ofBelow hb) (fun _ _ h => h)
theorem St.lt {n : Nat} {w : World} {s : Nat} {S : Sto} {g : Sg} {o : Value} (h : St n w s S g o) {k : Nat} (hk : ftS s g k) : k < w.heap.size := by
  rcases hk with rfl | rfl | rfl | rfl | hk | ⟨r, v, hv, hk⟩
  · exact (Array.getElem?_eq_some_iff.1 h.blk).1
  · exact h.ch.lt
  · exact h.lg.lt
  · exact h.th.lt
  · exact h.ix.lt k hk
  · exact ((h.rows r v hv).2.lt k hk).2
/-- A write as data: the keys that it changed, in order; their changes; how many keys there will be. -/
structure Wri where
  keys : List ByteArray
  ch : ByteArray → Option (Option KVd)
  count : Int
def wcF (W : Wri) : ByteArray → Option Value := fun k => (W.ch k).map (encC k)
structure Wg where
  bw : Nat
  v : Value
  nw : Nat
structure Wm (w : World) (b s : Nat) (W : Wri) (h : Wg) : Prop where
  blk : w.heap[b]? = some (.cells #[ptr s, h.v, .map (some h.bw), .int .i64 W.count] 118 (0, 0))
  mp : MapF w encB h.bw (wcF W) h.nw
  row : w.ownsRow 0 9 1 h.v W.keys.length (strs W.keys)
  cov : ∀ k, W.ch k ≠ none ↔ k ∈ W.keys
  nd : W.keys.Nodup
def ftW (b : Nat) (h : Wg) (k : Nat) : Prop := k = b ∨ k = h.bw ∨ h.v.ownBlock = some k
theorem Wm.upd {w w' : World} {b s : Nat} {W : Wri} {h : Wg} {T : Nat → Prop} (H : Wm w b s W h) (hu : Upd w w' T) (hT : ∀ k, ftW b h k → ¬ T k) : Wm w' b s W h :=
  ⟨(hu.block b (Array.getElem?_eq_some_iff.1 H.blk).1 (hT b (.inl rfl))).trans H.blk, H.mp.upd hu (hT _ (.inr (.inl rfl))), ownsRow_upd H.row hu (fun k hk => hT k (.inr (.inr hk))), H.cov, H.nd⟩
theorem Wm.below {w w' : World} {b s : Nat} {W : Wri} {h : Wg} (H : Wm w b s W h) (hb : Below w.heap.size w w') : Wm w' b s W h := H.upd (T := fun _ => False) (Upd.ofBelow hb) (fun _ _ h => h)
theorem Wm.lt {w : World} {b s : Nat} {W : Wri} {h : Wg} (H : Wm w b s W h) {k : Nat} (hk : ftW b h k) : k < w.heap.size := by
  rcases hk with rfl | rfl | hk
  · exact (Array.getElem?_eq_some_iff.1 H.blk).1
  · exact H.mp.lt
  · exact (H.row.lt k hk).2
/-- A store with its open write. -/
structure Ow (n : Nat) (w : World) (s b : Nat) (S : Sto) (W : Wri) (g : Sg) (h : Wg) : Prop where
  st : St n w s S g (ptr b)
  wr : Wm w b s W h
  ap : ∀ k, ftS s g k → ¬ ftW b h k
theorem Ow.below {n : Nat} {w w' : World} {s b : Nat} {S : Sto} {W : Wri} {g : Sg} {h : Wg} (H : Ow n w s b S W g h) (hb : Below w.heap.size w w') : Ow n w' s b S W g h := ⟨H.st.below hb, H.wr.below hb, H.ap⟩
theorem law65 : KLaw Tryz.prog 9 encB := law_string Tryz.underlying9
theorem law61 : KLaw Tryz.prog 3 encI := law_int Tryz.underlying3
theorem zero71 (w : World) : (zeroValue 120).run Tryz.prog w = .ok .nilIface w := by kernel_rfl
theorem zero3 (w : World) : (zeroValue 3).run Tryz.prog w = .ok (.int .i64 0) w := by kernel_rfl
theorem zero66 (w : World) : (zeroValue 53).run Tryz.prog w = .ok (.slice none 0 0) w := by kernel_rfl
theorem stood88 : Tryz.prog.stoodInHeld 148 = false := by kernel_rfl
theorem part0 (a k : Value) (w : World) : (part 3 #[a, k] 0).run Tryz.prog w = .ok a w := by kernel_rfl
theorem part1 (a k : Value) (w : World) : (part 9 #[a, k] 1).run Tryz.prog w = .ok k w := by kernel_rfl
theorem eqInt (n : Nat) (a b : Int) (w : World) : (Op.equalIn (n + 1) 3 (.int .i64 a) (.int .i64 b)).run Tryz.prog w = .ok (a == b) w := by
  unfold Op.equalIn
  simp [run_underlying Tryz.underlying3, Result.andThen]
theorem eqStr (n : Nat) (a b : ByteArray) (w : World) : (Op.equalIn (n + 1) 9 (.string a) (.string b)).run Tryz.prog w = .ok (a == b) w := by
  unfold Op.equalIn
  simp [run_underlying Tryz.underlying9, Result.andThen]
theorem eq88 (p q : Int × ByteArray) (w : World) : (Op.equal 148 (encP p) (encP q)).run Tryz.prog w = .ok (decide (p = q)) w := by
  obtain ⟨a, k⟩ := p
  obtain ⟨b, j⟩ := q
  show (Op.equalIn (9999 + 1) 148 _ _).run Tryz.prog w = _
  unfold Op.equalIn
  simp only [Sem.run_bind, run_underlying Tryz.underlying148, Result.andThen, run_program, stood88]
  simp [part0, eqInt, Result.andThen]
  by_cases h : a = b
  · have e9 := eqStr 9998 k j w
    by_cases hk : k = j
    · subst hk
      have hb : (k == k) = true := (MapKept.bytes_beq k k).2 rfl
      simp [h, part1, e9, hb, Result.andThen]
    · have hb : (k == j) = false := Bool.eq_false_iff.2 (fun e => hk ((MapKept.bytes_beq k j).1 e))
      simp [h, hk, part1, e9, hb, Result.andThen]
  · simp [h]
theorem chk88 (e : Bool) (p : Int × ByteArray) (w : World) : (Instr.checkKey e 10000 148 (encP p)).run Tryz.prog w = .ok () w := by
  obtain ⟨a, k⟩ := p
  show (Instr.checkKey e (9999 + 1) 148 _).run Tryz.prog w = _
  have c3 : ∀ a, (Instr.checkKey e 9999 3 (.int .i64 a)).run Tryz.prog w = .ok () w := fun a => MapKept.run_checkKey (k := .int .i64 a) Tryz.underlying3 rfl e 9998
  have c9 : ∀ k, (Instr.checkKey e 9999 9 (.string k)).run Tryz.prog w = .ok () w := fun k => MapKept.run_checkKey (k := .string k) Tryz.underlying9 trivial e 9998
  unfold Instr.checkKey
  simp [run_underlying Tryz.underlying148, Result.andThen, part0, part1, c3, c9]
theorem law60 : KLaw Tryz.prog 148 encP :=
  KLaw.asks Tryz.underlying148 (fun k j => rfl) eq88 (fun k => by simp [Instr.sameBits]; exact (MapKept.bytes_beq _ _).2 rfl) chk88
end Go.Proofs.YtgbobegoknmiaaaGreat
/- Small calls of a store and of a write: Rev, isOpen, isKey, rev. -/
namespace Go.Proofs.YtgbobegoknmiaaaGreat
open Go Go.RowKit

theorem St.cells {n : Nat} {w : World} {s : Nat} {S : Sto} {g : Sg} {o : Value} (h : St n w s S g o) : w.cell? ⟨s, 0, none⟩ = some (.int .i64 S.rev) ∧ w.cell? ⟨s, 1, none⟩ = some (.int .i64 S.past) ∧ w.cell? ⟨s, 2, none⟩ = some (ptr g.x) ∧ w.cell? ⟨s, 3, none⟩ = some (.map (some g.bc)) ∧ w.cell? ⟨s, 4, none⟩ = some (.map (some g.bl)) ∧ w.cell? ⟨s, 5, none⟩ = some (.map (some g.bt)) ∧ w.cell? ⟨s, 6, none⟩ = some o :=
  ⟨cell_of_row _ _ _ _ _ _ h.blk, cell_of_row _ _ _ _ _ _ h.blk, cell_of_row _ _ _ _ _ _ h.blk, cell_of_row _ _ _ _ _ _ h.blk, cell_of_row _ _ _ _ _ _ h.blk, cell_of_row _ _ _ _ _ _ h.blk, cell_of_row _ _ _ _ _ _ h.blk⟩
theorem Wm.cells {w : World} {b s : Nat} {W : Wri} {h : Wg} (H : Wm w b s W h) : w.cell? ⟨b, 0, none⟩ = some (ptr s) ∧ w.cell? ⟨b, 1, none⟩ = some h.v ∧ w.cell? ⟨b, 2, none⟩ = some (.map (some h.bw)) ∧ w.cell? ⟨b, 3, none⟩ = some (.int .i64 W.count) :=
  ⟨cell_of_row _ _ _ _ _ _ H.blk, cell_of_row _ _ _ _ _ _ H.blk, cell_of_row _ _ _ _ _ _ H.blk, cell_of_row _ _ _ _ _ _ H.blk⟩
set_option maxRecDepth 100000 in
set_option maxHeartbeats 400000 in
theorem rev_st {n : Nat} {w : World} {s : Nat} {S : Sto} {g : Sg} {o : Value} (h : St n w s S g o) : Calls Tryz.prog 20 #[ptr s] w fun e w' => e = .returned (.int .i64 S.rev) ∧ w' = w := by
  obtain ⟨c0, -⟩ := h.cells
  clear h
  go_enter Tryz.func20, Tryz.ntmps20
  go_wp2
  go_ret
  exact ⟨rfl, rfl⟩
theorem ptr_eqIn (n b : Nat) (W : World) : (Op.equalIn (n + 1) 70 (ptr b) (ptr b)).run Tryz.prog W = .ok true W := by
  unfold Op.equalIn
  have hs : (Go.sizeOf 118).run Tryz.prog W = .ok 4 W := by kernel_rfl
  simp [run_underlying Tryz.underlying70, Result.andThen, hs, run_sameAddr_same]
theorem ptr_eq (b : Nat) (W : World) : (binOp BinOp.eql 70 (ptr b) (ptr b)).run Tryz.prog W = .ok (.bool true) W := by
  have := ptr_eqIn 9999 b W
  simp only [Nat.reduceAdd] at this
  simp [binOp, Op.equal, Op.maxDepth, this, Result.andThen]
set_option maxRecDepth 100000 in
set_option maxHeartbeats 400000 in
theorem open_st {n : Nat} {w : World} {s b : Nat} {S : Sto} {W : Wri} {g : Sg} {h : Wg} (H : Ow n w s b S W g h) : Calls Tryz.prog 53 #[ptr b] w fun e w' => e = .returned (.bool true) ∧ w' = w := by
  obtain ⟨c0, -⟩ := H.wr.cells
  obtain ⟨-, -, -, -, -, -, d6⟩ := H.st.cells
  clear H
  have hpe := ptr_eq b
  go_enter Tryz.func53, Tryz.ntmps53
  go_wp2
  go_ret
  exact ⟨rfl, rfl⟩
set_option maxRecDepth 100000 in
set_option maxHeartbeats 400000 in
theorem iskey_any (k : ByteArray) (w : World) (hk : k.size ≤ 9223372036854775807) : Calls Tryz.prog 54 #[.string k] w fun e w' => e = .returned (.bool (decide (0 < k.size ∧ k.size ≤ 100))) ∧ w' = w := by
  by_cases h0 : 0 < k.size
  · by_cases h1 : k.size ≤ 100
    · rw [decide_eq_true ⟨h0, h1⟩]
      go_enter Tryz.func54, Tryz.ntmps54
      go_wp2
      go_ret
      exact ⟨ret_bool (a := decide ((k.size : Int) ≤ 100)) (decide_eq_true (by omega)), rfl⟩
    · rw [decide_eq_false (fun h => h1 h.2)]
      go_enter Tryz.func54, Tryz.ntmps54
      go_wp2
      go_ret
      exact ⟨ret_bool (a := decide ((k.size : Int) ≤ 100)) (decide_eq_false (by omega)), rfl⟩
  · rw [decide_eq_false (fun h => h0 h.1)]
    go_enter Tryz.func54, Tryz.ntmps54
    go_wp2
    go_ret
    exact ⟨rfl, rfl⟩
set_option maxRecDepth 100000 in
set_option maxHeartbeats 400000 in
theorem wrev_st {n : Nat} {w : World} {s b : Nat} {S : Sto} {W : Wri} {g : Sg} {h : Wg} (H : Ow n w s b S W g h) (hr : S.rev ≤ 1000000) : Calls Tryz.prog 56 #[ptr b] w fun e w' => e = .returned (.int .i64 ((S.rev : Int) + 1)) ∧ w' = w := by
  obtain ⟨c0, -⟩ := H.wr.cells
  obtain ⟨d0, -⟩ := H.st.cells
  clear H
  go_enter Tryz.func56, Tryz.ntmps56
  go_wp2
  go_ret
  exact ⟨rfl, rfl⟩
end Go.Proofs.YtgbobegoknmiaaaGreat
/- Boxes of six cells (a key as it was put), and results that lie in them. -/
namespace Go.Proofs.YtgbobegoknmiaaaGreat
open Go Go.RowKit

theorem results_ct {P : Program} {fn : Func} {u q : Tmp} {ty : TypeId} (h : fn.results = #[.cell u ty, .tmp q]) (tmps : Array Value) (w : World) (g : Nat) (t : TypeId) (cs : Array Value) (fr : Nat × Nat) (d : TypeDesc)
    (hp : tmps.getD u undef = .pointer (some ⟨g, 0, none⟩)) (hg : w.heap[g]? = some (.cells cs t fr))
    (hu : P.underlying ty = some d) (hd : (match d with | .struct _ | .array _ _ => true | _ => false) = true) (hi : (P.info? ty).map (·.size) = some cs.size) :
    (results fn tmps).run P w = .ok (.tuple #[.agg cs, tmps.getD q undef]) w := by
  have hp' : tmps[u]?.getD undef = .pointer (some ⟨g, 0, none⟩) := by simpa using hp
  simp [results, h, hp', asAddr, run_loadVar_row w g t ty cs fr d hg hu hd hi]
theorem size56 : (Tryz.prog.info? 62).map (·.size) = some 6 := by kernel_rfl
theorem size76 : (Tryz.prog.info? 124).map (·.size) = some 6 := by kernel_rfl
section
variable {W : World} {gb t : Nat} {a0 a1 a2 a3 a4 a5 : Value} (h : W.heap[gb]? = some (.cells #[a0, a1, a2, a3, a4, a5] t (0, 0)))
include h
theorem box6 : (W.cell? ⟨gb, 0, none⟩ = some a0 ∧ W.cell? ⟨gb, 1, none⟩ = some a1 ∧ W.cell? ⟨gb, 2, none⟩ = some a2 ∧ W.cell? ⟨gb, 3, none⟩ = some a3 ∧ W.cell? ⟨gb, 4, none⟩ = some a4 ∧ W.cell? ⟨gb, 5, none⟩ = some a5) ∧
    W.frozen? ⟨gb, 0, none⟩ = false ∧ W.frozen? ⟨gb, 1, none⟩ = false ∧ W.frozen? ⟨gb, 2, none⟩ = false ∧ W.frozen? ⟨gb, 3, none⟩ = false ∧ W.frozen? ⟨gb, 4, none⟩ = false ∧ W.frozen? ⟨gb, 5, none⟩ = false :=
  ⟨⟨cell_of_row _ _ _ _ _ _ h, cell_of_row _ _ _ _ _ _ h, cell_of_row _ _ _ _ _ _ h, cell_of_row _ _ _ _ _ _ h, cell_of_row _ _ _ _ _ _ h, cell_of_row _ _ _ _ _ _ h⟩, frozen_of_row _ _ _ _ _ h, frozen_of_row _ _ _ _ _ h, frozen_of_row _ _ _ _ _ h, frozen_of_row _ _ _ _ _ h, frozen_of_row _ _ _ _ _ h, frozen_of_row _ _ _ _ _ h⟩
theorem set6 (v0 v1 v2 v3 v4 v5 : Value) : ((((((W.setCell ⟨gb, 0, none⟩ v0).setCell ⟨gb, 1, none⟩ v1).setCell ⟨gb, 2, none⟩ v2).setCell ⟨gb, 3, none⟩ v3).setCell ⟨gb, 4, none⟩ v4).setCell ⟨gb, 5, none⟩ v5).heap[gb]? = some (.cells #[v0, v1, v2, v3, v4, v5] t (0, 0)) :=
  heap_setCell_row (heap_setCell_row (heap_setCell_row (heap_setCell_row (heap_setCell_row (heap_setCell_row h v0) v1) v2) v3) v4) v5
end
theorem below6 {B : Nat} {w W : World} (h : Below B w W) {gb : Nat} (hg : B ≤ gb) (v0 v1 v2 v3 v4 v5 : Value) : Below B w ((((((W.setCell ⟨gb, 0, none⟩ v0).setCell ⟨gb, 1, none⟩ v1).setCell ⟨gb, 2, none⟩ v2).setCell ⟨gb, 3, none⟩ v3).setCell ⟨gb, 4, none⟩ v4).setCell ⟨gb, 5, none⟩ v5) :=
  (((((h.setCell hg _).setCell hg _).setCell hg _).setCell hg _).setCell hg _).setCell hg _
theorem cell6 {W : World} {k i gb : Nat} {v : Value} (h : W.cell? ⟨k, i, none⟩ = some v) (hne : ¬ k = gb) (v0 v1 v2 v3 v4 v5 : Value) : ((((((W.setCell ⟨gb, 0, none⟩ v0).setCell ⟨gb, 1, none⟩ v1).setCell ⟨gb, 2, none⟩ v2).setCell ⟨gb, 3, none⟩ v3).setCell ⟨gb, 4, none⟩ v4).setCell ⟨gb, 5, none⟩ v5).cell? ⟨k, i, none⟩ = some v := by
  have hn : ∀ j, (⟨k, i, none⟩ : Addr) ≠ ⟨gb, j, none⟩ := fun j e => hne (by cases e; rfl)
  rw [World.cell?_setCell_other _ _ _ _ (by first | exact hn _ | exact (hn _).symm), World.cell?_setCell_other _ _ _ _ (by first | exact hn _ | exact (hn _).symm), World.cell?_setCell_other _ _ _ _ (by first | exact hn _ | exact (hn _).symm), World.cell?_setCell_other _ _ _ _ (by first | exact hn _ | exact (hn _).symm), World.cell?_setCell_other _ _ _ _ (by first | exact hn _ | exact (hn _).symm), World.cell?_setCell_other _ _ _ _ (by first | exact hn _ | exact (hn _).symm)]
  exact h
theorem ta_must (x : Value) (W : World) : (Instr.typeAssert (.iface 124 x) 120 124 false).run Tryz.prog W = .ok x W := by kernel_rfl
theorem ta_yes (x : Value) (W : World) : (Instr.typeAssert (.iface 124 x) 120 124 true).run Tryz.prog W = .ok (.tuple #[x, .bool true]) W := by kernel_rfl
theorem ta_no (x : Value) (W : World) : (Instr.typeAssert (.iface 158 x) 120 124 true).run Tryz.prog W = .ok (.tuple #[.agg #[.string ⟨#[]⟩, .string ⟨#[]⟩, .int .i64 0, .int .i64 0, .int .i64 0, .int .i64 0], .bool false]) W := by kernel_rfl
end Go.Proofs.YtgbobegoknmiaaaGreat
