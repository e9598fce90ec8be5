/- A map in memory as a function: look-up, store, delete, len, for keys of any kind. -/
import Derived.Test.YteeflkkoifgcbaaRW
import Derived.Maps.OwnSet
namespace Go.Proofs.Yteeflkkoifgcbaa
open Go Go.RowKit

def findA {K : Type} [DecidableEq K] (k : K) : List (K × Value) → Nat → Option (Nat × Value)
  | [], _ => none
  | p :: L, i => if k = p.1 then some (i, p.2) else findA k L (i + 1)
/-- Keys of a kind: how they are laid, and that a look among them goes by equality. -/
structure KLaw (P : Program) (kt : TypeId) {K : Type} [DecidableEq K] (enc : K → Value) : Prop where
  chk : ∀ (e : Bool) (k : K) (w : World), (Instr.checkKey e 10000 kt (enc k)).run P w = .ok () w
  fnd : ∀ (k : K) (es : List MapEntry) (L : List (K × Value)) (w : World), es.map (fun e => (e.key, e.val)) = L.map (fun p => (enc p.1, p.2)) → (Instr.findKey kt (enc k) es).run P w = .ok (findA k L 0) w
  bits : ∀ k, Instr.sameBits 10000 (enc k) (enc k) = true
section
variable {K : Type} [DecidableEq K]
def getA (L : List (K × Value)) (k : K) : Option Value := (L.find? (fun p => decide (p.1 = k))).map Prod.snd
/-- Where a key stands, and all others do not. -/
theorem findA_split (k : K) : ∀ (L : List (K × Value)) (i : Nat), (L.map Prod.fst).Nodup → (findA k L i = none ∧ k ∉ L.map Prod.fst) ∨ ∃ A v B, L = A ++ (k, v) :: B ∧ findA k L i = some (i + A.length, v) ∧ k ∉ A.map Prod.fst ∧ k ∉ B.map Prod.fst
  | [], _, _ => .inl ⟨rfl, by simp⟩
  | p :: L, i, hn => by
    obtain ⟨h1, h2⟩ := List.nodup_cons.1 (by simpa using hn : (p.1 :: L.map Prod.fst).Nodup)
    by_cases hk : k = p.1
    · subst hk
      exact .inr ⟨[], p.2, L, rfl, by simp [findA], by simp, h1⟩
    · rcases findA_split k L (i + 1) h2 with ⟨e, hm⟩ | ⟨A, v, B, e, h3, h4, h5⟩
      · exact .inl ⟨by rw [findA, if_neg hk, e], by simp only [List.map_cons, List.mem_cons, not_or]; exact ⟨hk, hm⟩⟩
      · refine .inr ⟨p :: A, v, B, by rw [e]; rfl, ?_, ?_, h5⟩
        · rw [findA, if_neg hk, h3, List.length_cons]
          congr 2
          omega
        · simp only [List.map_cons, List.mem_cons, not_or]; exact ⟨hk, h4⟩
theorem getA_not {L : List (K × Value)} {k : K} (h : k ∉ L.map Prod.fst) : getA L k = none := by
  unfold getA
  rw [List.find?_eq_none.2]
  · rfl
  · intro p hp e
    exact h (List.mem_map.2 ⟨p, hp, by simpa using e⟩)
theorem getA_mid {A B : List (K × Value)} {k : K} {v : Value} (h : k ∉ A.map Prod.fst) : getA (A ++ (k, v) :: B) k = some v := by
  unfold getA
  rw [List.find?_append, List.find?_eq_none.2]
  · simp
  · intro p hp e
    exact h (List.mem_map.2 ⟨p, hp, by simpa using e⟩)
theorem getA_skip {A B : List (K × Value)} {k j : K} {v : Value} (h : j ≠ k) : getA (A ++ (k, v) :: B) j = getA (A ++ B) j := by
  unfold getA
  rw [List.find?_append, List.find?_append, List.find?_cons_of_neg (by simpa using Ne.symm h)]
theorem getA_end {A : List (K × Value)} {k j : K} {v : Value} (h : j ≠ k) : getA (A ++ [(k, v)]) j = getA A j := by
  rw [getA_skip h, List.append_nil]
/-- A map in memory, as a function of its keys, and how many it has. -/
def MapF (w : World) (enc : K → Value) (b : Nat) (f : K → Option Value) (n : Nat) : Prop :=
  ∃ (es : Array MapEntry) (clock : Nat) (L : List (K × Value)), w.heap[b]? = some (.map es clock) ∧ es.toList.map (fun e => (e.key, e.val)) = L.map (fun p => (enc p.1, p.2)) ∧ (L.map Prod.fst).Nodup ∧ L.length = n ∧ ∀ k, f k = getA L k
def setF (f : K → Option Value) (k : K) (v : Value) : K → Option Value := fun j => if j = k then some v else f j
def delF (f : K → Option Value) (k : K) : K → Option Value := fun j => if j = k then none else f j
theorem setF_same (f : K → Option Value) (k : K) (v : Value) : setF f k v k = some v := if_pos rfl
theorem setF_other (f : K → Option Value) {k j : K} (v : Value) (h : j ≠ k) : setF f k v j = f j := if_neg h
theorem delF_same (f : K → Option Value) (k : K) : delF f k k = none := if_pos rfl
theorem delF_other (f : K → Option Value) {k j : K} (h : j ≠ k) : delF f k j = f j := if_neg h
variable {P : Program} {w : World} {enc : K → Value} {b n : Nat} {f : K → Option Value} {t kt et : TypeId}
theorem MapF.lt (h : MapF w enc b f n) : b < w.heap.size := by
  obtain ⟨es, clock, L, h1, _⟩ := h
  exact (Array.getElem?_eq_some_iff.1 h1).1
theorem MapF.agree {w' : World} (h : MapF w enc b f n) (hb : w'.heap[b]? = w.heap[b]?) : MapF w' enc b f n := by
  obtain ⟨es, clock, L, h1, h2⟩ := h
  exact ⟨es, clock, L, hb.trans h1, h2⟩
theorem MapF.upd {w' : World} {S : Nat → Prop} (h : MapF w enc b f n) (hu : Upd w w' S) (hS : ¬ S b) : MapF w' enc b f n := h.agree (hu.block b h.lt hS)
theorem MapF.below {w' : World} (h : MapF w enc b f n) (hb : Below w.heap.size w w') : MapF w' enc b f n := h.agree (hb.block b h.lt)
theorem MapF.congr {g : K → Option Value} (h : MapF w enc b f n) (hg : ∀ k, g k = f k) : MapF w enc b g n := by
  obtain ⟨es, clock, L, h1, h2, h3, h4, h5⟩ := h
  exact ⟨es, clock, L, h1, h2, h3, h4, fun k => (hg k).trans (h5 k)⟩
theorem MapF.made (w : World) (enc : K → Value) : MapF (w.alloc (.map #[] 0)) enc w.heap.size (fun _ => none) 0 := ⟨#[], 0, [], by rw [← World.alloc_eq]; simp, rfl, List.nodup_nil, rfl, fun _ => rfl⟩
theorem MapF.look (h : MapF w enc b f n) (K' : KLaw P kt enc) (ht : P.underlying t = some (.map kt et)) {z : Value} (hz : (zeroValue et).run P w = .ok z w) (k : K) (c : Bool) :
    (Instr.lookup t (.map (some b)) (enc k) c).run P w = .ok (if c then .tuple #[(f k).getD z, .bool (f k).isSome] else (f k).getD z) w := by
  obtain ⟨es, clock, L, h1, h2, h3, h4, h5⟩ := h
  have hf := K'.fnd k es.toList L w h2
  rcases findA_split k L 0 h3 with ⟨e, hm⟩ | ⟨A, v, B, e, e2, hA, hB⟩
  · rw [e] at hf
    have : f k = none := by rw [h5]; exact getA_not hm
    rw [this]
    cases c <;> simp [Instr.lookup, run_underlying ht, MapKept.run_getObj_map h1, K'.chk, hf, hz, Result.andThen]
  · rw [e2] at hf
    have : f k = some v := by rw [h5, e]; exact getA_mid hA
    rw [this]
    cases c <;> simp [Instr.lookup, run_underlying ht, MapKept.run_getObj_map h1, K'.chk, hf, Result.andThen]
theorem MapF.len (h : MapF w enc b f n) (ht : P.underlying t = some (.map kt et)) (ty : TypeId) : (Builtin.len_ #[t] ty #[.map (some b)]).run P w = .ok (.int .i64 n) w := by
  obtain ⟨es, clock, L, h1, h2, h3, h4, h5⟩ := h
  have : es.size = n := by
    have := congrArg List.length h2
    simpa [h4] using this
  simp [Builtin.len_, run_underlying ht, MapKept.run_getObj_map h1, goInt, Result.andThen, this]
theorem upd_turned {w w' : World} {b : Nat} (h : w.mapTurned w' b) : Upd w w' (fun k => k = b) := by
  obtain ⟨es, clock, es', clock', h1, rfl⟩ := h
  exact ⟨rfl, rfl, rfl, by simp [ChangeMaps.setBlock], fun k hk hS => by simp [ChangeMaps.setBlock, Array.getElem?_setIfInBounds_ne (Ne.symm hS)]⟩
theorem heap_set {w : World} {b : Nat} {o o' : Obj} (h : w.heap[b]? = some o) : (ChangeMaps.setBlock w b o').heap[b]? = some o' := by
  simp [ChangeMaps.setBlock, (Array.getElem?_eq_some_iff.1 h).1]
theorem MapF.set (h : MapF w enc b f n) (K' : KLaw P kt enc) (ht : P.underlying t = some (.map kt et)) (k : K) (v : Value) :
    ∃ w', (Instr.mapUpdate t (.map (some b)) (enc k) v).run P w = .ok () w' ∧ MapF w' enc b (setF f k v) (if (f k).isSome then n else n + 1) ∧ Upd w w' (fun j => j = b) := by
  obtain ⟨es, clock, L, h1, h2, h3, h4, h5⟩ := h
  have hf := K'.fnd k es.toList L w h2
  rcases findA_split k L 0 h3 with ⟨e, hm⟩ | ⟨A, u, B, rfl, e2, hA, hB⟩
  · rw [e] at hf
    have hk : f k = none := by rw [h5]; exact getA_not hm
    refine ⟨ChangeMaps.setBlock w b (.map (es.push ⟨enc k, v, clock⟩) (clock + 1)), ?_, ⟨_, _, L ++ [(k, v)], heap_set h1, by simp [h2], ?_, ?_, ?_⟩, upd_turned ⟨_, _, _, _, h1, rfl⟩⟩
    · simp [Instr.mapUpdate, run_underlying ht, MapKept.run_getObj_map h1, K'.chk, hf, MapKept.run_setObj_map _ h1, Result.andThen, ChangeMaps.setBlock]
    · rw [List.map_append, List.nodup_append]
      refine ⟨h3, by simp, ?_⟩
      intro x hx y hy
      have : y = k := by simpa using hy
      subst this
      exact fun e' => hm (e' ▸ hx)
    · rw [hk]; simp [h4]
    · intro j
      by_cases hj : j = k
      · subst hj; rw [setF_same, getA_mid hm]
      · rw [setF_other _ _ hj, getA_end hj, h5]
  · rw [e2] at hf
    have hk : f k = some u := by rw [h5]; exact getA_mid hA
    have hAl : ((es.toList.map (fun e => (e.key, e.val)))[A.length]?) = some (enc k, u) := by rw [h2]; simp
    rw [List.getElem?_map] at hAl
    obtain ⟨e0, he0, hee⟩ := Option.map_eq_some_iff.1 hAl
    have hj : es[A.length]? = some e0 := by simpa using he0
    have hke : e0.key = enc k := congrArg Prod.fst hee
    have hst : (Instr.keyThatStays (enc k) (enc k)).run P w = .ok (enc k) w := by simp [Instr.keyThatStays, K'.bits]
    refine ⟨ChangeMaps.setBlock w b (.map (es.modify A.length (fun e' => { e' with key := enc k, val := v })) clock), ?_, ⟨_, _, A ++ (k, v) :: B, heap_set h1, ?_, ?_, ?_, ?_⟩, upd_turned ⟨_, _, _, _, h1, rfl⟩⟩
    · simp [Instr.mapUpdate, run_underlying ht, MapKept.run_getObj_map h1, K'.chk, hf, hj, hke, hst, MapKept.run_setObj_map _ h1, Result.andThen, ChangeMaps.setBlock]
    · rw [Array.toList_modify, ChangeMaps.modify_eq_set _ _ _ _ he0, List.map_set, h2]
      simp
    · simpa using h3
    · rw [hk]; simpa using h4
    · intro j
      by_cases hj : j = k
      · subst hj; rw [setF_same, getA_mid hA]
      · rw [setF_other _ _ hj, h5, getA_skip hj, getA_skip hj]
theorem MapF.del (h : MapF w enc b f n) (K' : KLaw P kt enc) (ht : P.underlying t = some (.map kt et)) (k : K) (ty : TypeId) :
    ∃ w', (Builtin.delete_ #[t, kt] ty #[.map (some b), enc k]).run P w = .ok (.tuple #[]) w' ∧ MapF w' enc b (delF f k) (if (f k).isSome then n - 1 else n) ∧ Upd w w' (fun j => j = b) := by
  obtain ⟨es, clock, L, h1, h2, h3, h4, h5⟩ := h
  have hf := K'.fnd k es.toList L w h2
  rcases findA_split k L 0 h3 with ⟨e, hm⟩ | ⟨A, u, B, rfl, e2, hA, hB⟩
  · rw [e] at hf
    have hk : f k = none := by rw [h5]; exact getA_not hm
    refine ⟨ChangeMaps.setBlock w b (.map es clock), ?_, ⟨_, _, L, heap_set h1, h2, h3, ?_, ?_⟩, upd_turned ⟨_, _, _, _, h1, rfl⟩⟩
    · simp [Builtin.delete_, run_underlying ht, MapKept.run_getObj_map h1, K'.chk, hf, MapKept.run_setObj_map _ h1, Result.andThen, ChangeMaps.setBlock]
    · rw [hk]; simp [h4]
    · intro j
      by_cases hj : j = k
      · subst hj; rw [delF_same, getA_not hm]
      · rw [delF_other _ hj, h5]
  · rw [e2] at hf
    have hk : f k = some u := by rw [h5]; exact getA_mid hA
    have hlen : A.length < es.size := by
      have := congrArg List.length h2
      simp at this
      omega
    refine ⟨ChangeMaps.setBlock w b (.map (es.eraseIdxIfInBounds A.length) clock), ?_, ⟨_, _, A ++ B, heap_set h1, ?_, ?_, ?_, ?_⟩, upd_turned ⟨_, _, _, _, h1, rfl⟩⟩
    · simp [Builtin.delete_, run_underlying ht, MapKept.run_getObj_map h1, K'.chk, hf, MapKept.run_setObj_map _ h1, Result.andThen, ChangeMaps.setBlock]
    · have e3 : (es.eraseIdxIfInBounds A.length).toList = es.toList.eraseIdx A.length := by simp [Array.eraseIdxIfInBounds, hlen]
      rw [e3, ChangeMaps.map_eraseIdx, h2]
      simp [List.eraseIdx_append_of_length_le]
    · simp only [List.map_append, List.map_cons] at h3 ⊢
      exact h3.sublist ((List.Sublist.refl _).append (List.sublist_cons_self _ _))
    · rw [hk]
      simp at h4 ⊢
      omega
    · intro j
      by_cases hj : j = k
      · subst hj
        rw [delF_same, getA_not]
        simp only [List.map_append, List.mem_append, not_or]
        exact ⟨hA, hB⟩
      · rw [delF_other _ hj, h5, getA_skip hj]
end

/-- A look where keys are told apart at once. -/
theorem KLaw.now {P : Program} {kt : TypeId} {K : Type} [DecidableEq K] {enc : K → Value} {d : TypeDesc} (hd : P.underlying kt = some d) (h1 : ∀ k j, Instr.sameNow d (enc k) (enc j) = some (decide (k = j))) (h2 : ∀ k, Instr.sameBits 10000 (enc k) (enc k) = true) (h3 : ∀ (e : Bool) (k : K) (w : World), (Instr.checkKey e 10000 kt (enc k)).run P w = .ok () w) : KLaw P kt enc where
  chk := h3
  bits := h2
  fnd := fun k es L w he => by
    refine MapKept.run_findKey hd ?_
    have : ∀ (es : List MapEntry) (L : List (K × Value)) (i : Nat), es.map (fun e => (e.key, e.val)) = L.map (fun p => (enc p.1, p.2)) → Instr.findNow d (enc k) es i = some (findA k L i) := by
      intro es
      induction es with
      | nil =>
        intro L i he
        cases L with
        | nil => rfl
        | cons p L => cases he
      | cons e es ih =>
        intro L i he
        cases L with
        | nil => cases he
        | cons p L =>
          obtain ⟨q1, q2⟩ := List.cons.inj he
          have k1 : e.key = enc p.1 := congrArg Prod.fst q1
          have k2 : e.val = p.2 := congrArg Prod.snd q1
          rw [Instr.findNow, k1, h1, findA]
          by_cases hk : k = p.1
          · simp [hk, k2]
          · simp [hk, ih L (i + 1) q2]
    exact this es L 0 he
/-- A look where == is asked. -/
theorem KLaw.asks {P : Program} {kt : TypeId} {K : Type} [DecidableEq K] {enc : K → Value} {d : TypeDesc} (hd : P.underlying kt = some d) (h0 : ∀ k j, Instr.sameNow d (enc k) (enc j) = none) (h1 : ∀ k j w, (Op.equal kt (enc k) (enc j)).run P w = .ok (decide (k = j)) w) (h2 : ∀ k, Instr.sameBits 10000 (enc k) (enc k) = true) (h3 : ∀ (e : Bool) (k : K) (w : World), (Instr.checkKey e 10000 kt (enc k)).run P w = .ok () w) : KLaw P kt enc where
  chk := h3
  bits := h2
  fnd := fun k es L w he => by
    have ha : ∀ (es : List MapEntry) (L : List (K × Value)) (i : Nat), es.map (fun e => (e.key, e.val)) = L.map (fun p => (enc p.1, p.2)) → (Instr.findAsking kt (enc k) es i).run P w = .ok (findA k L i) w := by
      intro es
      induction es with
      | nil =>
        intro L i he
        cases L with
        | nil => rfl
        | cons p L => cases he
      | cons e es ih =>
        intro L i he
        cases L with
        | nil => cases he
        | cons p L =>
          obtain ⟨q1, q2⟩ := List.cons.inj he
          have k1 : e.key = enc p.1 := congrArg Prod.fst q1
          have k2 : e.val = p.2 := congrArg Prod.snd q1
          rw [Instr.findAsking, k1, findA]
          by_cases hk : k = p.1
          · simp [h1, hk, k2, Result.andThen]
          · simp [h1, hk, ih L (i + 1) q2, Result.andThen]
    cases es with
    | nil =>
      cases L with
      | nil => simp [Instr.findKey, run_underlying hd, Instr.findNow, Result.andThen, findA]
      | cons p L => cases he
    | cons e es =>
      have hn : Instr.findNow d (enc k) (e :: es) 0 = none := by
        cases L with
        | nil => cases he
        | cons p L =>
          have k1 : e.key = enc p.1 := congrArg Prod.fst (List.cons.inj he).1
          rw [Instr.findNow, k1, h0]
      simp only [Instr.findKey, Sem.run_bind, run_underlying hd, Result.andThen, hn]
      exact ha _ _ _ he
theorem KLaw.plain {P : Program} {kt : TypeId} {K : Type} [DecidableEq K] {enc : K → Value} {d : TypeDesc} (hd : P.underlying kt = some d) (hk : ∀ k, MapKept.IsKey d (enc k)) (inj : ∀ k j, enc k = enc j → k = j) (h2 : ∀ k, Instr.sameBits 10000 (enc k) (enc k) = true) : KLaw P kt enc :=
  KLaw.now hd (fun k j => by
    obtain ⟨r, h, hr⟩ := MapKept.sameNow_of_keys (hk k) (hk j)
    rw [h]
    congr 1
    by_cases e : k = j
    · subst e; simp [hr.2 rfl]
    · have : ¬ r = true := fun h' => e (inj _ _ (hr.1 h'))
      simp [e, this]) h2 (fun e k w => MapKept.run_checkKey hd (hk k) e 9999)
theorem law_string {P : Program} {kt : TypeId} (hk : P.underlying kt = some .string) : KLaw P kt (fun s : ByteArray => Value.string s) :=
  KLaw.plain hk (fun _ => trivial) (fun k j h => by cases h; rfl) (fun k => by simp only [Instr.sameBits]; exact (MapKept.bytes_beq k k).2 rfl)
theorem law_int {P : Program} {kt : TypeId} (hk : P.underlying kt = some (.int .i64)) : KLaw P kt (fun a : Int => Value.int .i64 a) :=
  KLaw.plain hk (fun _ => rfl) (fun k j h => by cases h; rfl) (fun k => by simp [Instr.sameBits])
end Go.Proofs.Yteeflkkoifgcbaa
