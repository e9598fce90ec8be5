/- A store that is put to, one key a revision. -/
import Derived.Test.YtjdmgmnndfhmgaaGreatGRQ
import Derived.Test.YtjdmgmnndfhmgaaGreatGRR
import Derived.Test.YtjdmgmnndfhmgaaGreatGRW
namespace Go.Proofs.YtjdmgmnndfhmgaaGreat
open Go Go.RowKit
/-- A store of single puts, compacted at a: its changes. -/
structure PE (S : Sto) (E : List Evd) (a : Nat) : Prop where
  rev : S.rev = E.length
  past : S.past = a
  lg : ∀ (i : Nat) (e : Evd), a ≤ i → E[i]? = some e → S.lg ((i : Int) + 1) = [e.2.1] ∧ chgAt (S.kh e.2.1) ((i : Int) + 1) = e.2.2
  ev : ∀ (i : Nat) (e : Evd), E[i]? = some e → e.1 = (i : Int) + 1 ∧ ∃ kv, e.2.2 = some kv
  one : ∀ r, (S.lg r).length ≤ 1
  nth : S.nth ≤ E.length
theorem PE.none_ : PE noS [] 0 := ⟨rfl, rfl, fun i e _ h => (by simp at h), fun i e h => (by simp at h), fun _ => Nat.zero_le _, Nat.le_refl _⟩
theorem PE.at_ {S : Sto} {E : List Evd} {a : Nat} (h : PE S E a) {i : Nat} {e : Evd} (ha : a ≤ i) (hi : E[i]? = some e) : evAt S ((i : Int) + 1) = [e] := by
  obtain ⟨h2, h4⟩ := h.lg i e ha hi
  unfold evAt
  rw [h2, List.map_cons, List.map_nil, h4, ← (h.ev i e hi).1]
theorem PE.evs {S : Sto} {E : List Evd} {a : Nat} (h : PE S E a) (p : Nat) (ha : a ≤ p) : ∀ j, p + j ≤ E.length → evN S ((p : Int) + 1) j = (E.drop p).take j
  | 0, _ => by simp [evN]
  | j + 1, hj => by
    rw [evN_succ, h.evs p ha j (by omega)]
    have hlt : p + j < E.length := by omega
    have e1 : ((p : Int) + 1 + (j : Int)) = ((p + j : Nat) : Int) + 1 := by omega
    rw [e1, h.at_ (by omega) (List.getElem?_eq_getElem hlt), List.take_add_one]
    congr 1
    rw [List.getElem?_drop, List.getElem?_eq_getElem hlt]
    rfl
theorem PE.since {S : Sto} {E : List Evd} {a : Nat} (h : PE S E a) (p : Int) (hp : (a : Int) < p) : sinceL S p = E.drop (p - 1).toNat := by
  unfold sinceL
  obtain ⟨q, hq⟩ : ∃ q : Nat, p = (q : Int) + 1 := ⟨(p - 1).toNat, by omega⟩
  subst hq
  have e1 : ((q : Int) + 1 - 1).toNat = q := by omega
  rw [e1, h.rev]
  rcases Nat.le_total q E.length with hl | hl
  · have e2 : ((E.length : Int) + 1 - ((q : Int) + 1)).toNat = E.length - q := by omega
    rw [e2, h.evs q (by omega) _ (by omega), List.take_of_length_le (by rw [List.length_drop]; omega)]
  · have e2 : ((E.length : Int) + 1 - ((q : Int) + 1)).toNat = 0 := by omega
    rw [e2, List.drop_of_length_le hl]
    simp [evN]
theorem PE.few {S : Sto} {E : List Evd} {a : Nat} (h : PE S E a) (p : Int) (hp : 1 ≤ p) : (sinceL S p).length ≤ E.length := by
  have h1 : ∀ j, (evN S p j).length ≤ j := fun j => by
    induction j with
    | zero => simp [evN]
    | succ j ih =>
      rw [evN_succ, List.length_append]
      have : (evAt S (p + j)).length ≤ 1 := by unfold evAt; rw [List.length_map]; exact h.one _
      omega
  unfold sinceL
  have := h1 ((S.rev : Int) + 1 - p).toNat
  have := h.rev
  omega
theorem chg_old {h : Hs} {r r' : Int} {c : Option KVd} {kv : KVd} (e : chgAt h r = some kv) : chgAt (h ++ [(r', c)]) r = some kv := by
  unfold chgAt at e ⊢
  rw [List.find?_append]
  cases hf : h.find? (fun q => decide (q.1 = r)) with
  | none => rw [hf] at e; cases e
  | some q => rw [hf] at e; exact e
theorem chg_new {h : Hs} {r : Int} {c : Option KVd} (hn : ∀ p ∈ h, p.1 < r) : chgAt (h ++ [(r, c)]) r = c := by
  unfold chgAt
  rw [List.find?_append, List.find?_eq_none.2 (fun p hp => by have := hn p hp; simp; omega)]
  simp
theorem PE.put {S : Sto} {E : List Evd} {a : Nat} (h : PE S E a) (hok : ∀ k, HOk k S.rev (S.kh k)) (k : ByteArray) (kv : KVd) : PE (layS (nextS S [k]) ((S.rev : Int) + 1) k (some kv)) (E ++ [((S.rev : Int) + 1, k, some kv)]) a where
  rev := by show S.rev + 1 = _; rw [h.rev, List.length_append]; rfl
  past := h.past
  ev := fun i e hi => by
    rcases Nat.lt_or_ge i E.length with hl | hl
    · rw [List.getElem?_append_left hl] at hi
      exact h.ev i e hi
    · have hi2 : i = E.length := by
        have := (List.getElem?_eq_some_iff.1 hi).1
        rw [List.length_append] at this
        simp at this
        omega
      subst hi2
      rw [List.getElem?_append_right (Nat.le_refl _), Nat.sub_self] at hi
      simp at hi
      subst hi
      have er : (S.rev : Int) = (E.length : Int) := by rw [h.rev]
      exact ⟨by dsimp only; omega, kv, rfl⟩
  lg := fun i e ha hi => by
    have hlg : ∀ x, (layS (nextS S [k]) ((S.rev : Int) + 1) k (some kv)).lg x = if x = (S.rev : Int) + 1 then [k] else S.lg x := fun x => rfl
    rw [hlg]
    rcases Nat.lt_or_ge i E.length with hl | hl
    · rw [List.getElem?_append_left hl] at hi
      obtain ⟨h2, h4⟩ := h.lg i e ha hi
      obtain ⟨h1, kv', h3⟩ := h.ev i e hi
      refine ⟨?_, ?_⟩
      · rw [if_neg (by rw [h.rev]; omega)]; exact h2
      · by_cases ek : e.2.1 = k
        · rw [ek, layS_same]
          show chgAt (S.kh k ++ _) _ = _
          rw [h3]
          rw [ek, h3] at h4
          exact chg_old h4
        · rw [layS_other _ _ _ ek]; exact h4
    · have hi2 : i = E.length := by
        have := (List.getElem?_eq_some_iff.1 hi).1
        rw [List.length_append] at this
        simp at this
        omega
      subst hi2
      rw [List.getElem?_append_right (Nat.le_refl _), Nat.sub_self] at hi
      simp at hi
      subst hi
      have er : (S.rev : Int) = (E.length : Int) := by rw [h.rev]
      refine ⟨by rw [if_pos (by omega)], ?_⟩
      dsimp only
      rw [layS_same, ← er]
      show chgAt (S.kh k ++ _) _ = _
      exact chg_new (fun p hp => by have := ((hok k).pos p hp).2; omega)
  one := fun r => by
    show (if r = (S.rev : Int) + 1 then [k] else S.lg r).length ≤ 1
    split
    · simp
    · exact h.one r
  nth := by
    rw [List.length_append]
    have := h.nth
    have e : (layS (nextS S [k]) ((S.rev : Int) + 1) k (some kv)).nth ≤ S.nth + 1 := by
      unfold layS
      dsimp only
      have e2 : (nextS S [k]).nth = S.nth := rfl
      rw [e2]
      split <;> split <;> omega
    simp only [List.length_cons, List.length_nil]
    omega
theorem chg_memE {h : Hs} {r : Int} {kv : KVd} (e : chgAt h r = some kv) : (r, some kv) ∈ h := by
  unfold chgAt at e
  cases hf : h.find? (fun q => decide (q.1 = r)) with
  | none => rw [hf] at e; cases e
  | some q =>
    rw [hf] at e
    have h1 := List.find?_some hf
    have h2 := List.mem_of_find?_eq_some hf
    have h3 : q.1 = r := by simpa using h1
    have h4 : q.2 = some kv := e
    have : q = (r, some kv) := by rw [← h3, ← h4]
    rw [← this]; exact h2
theorem PE.comp {S : Sto} {E : List Evd} (h : PE S E 0) (hok : ∀ k, HOk k S.rev (S.kh k)) (a : Nat) : PE (compS S a) E a where
  rev := h.rev
  past := rfl
  ev := h.ev
  lg := fun i e ha hi => by
    obtain ⟨h2, h4⟩ := h.lg i e (Nat.zero_le _) hi
    obtain ⟨h1, kv, h3⟩ := h.ev i e hi
    refine ⟨?_, ?_⟩
    · show (if (i : Int) + 1 ≤ (a : Int) then [] else S.lg ((i : Int) + 1)) = _
      rw [if_neg (by omega)]; exact h2
    · show chgAt (keepH (S.kh e.2.1) a) ((i : Int) + 1) = _
      rw [h3] at h4 ⊢
      have hm := chg_memE h4
      exact chgAt_mem ((hok e.2.1).keep a).asc (List.mem_filter.2 ⟨hm, decide_eq_true (.inl (by dsimp only; omega))⟩)
  one := fun r => by
    show (if r ≤ (a : Int) then [] else S.lg r).length ≤ 1
    split
    · simp
    · exact h.one r
  nth := h.nth
/-- Such a store in memory. -/
structure SS (n : Nat) (w : World) (s : Nat) (S : Sto) (g : Sg) (o : Value) (E : List Evd) (a : Nat) : Prop where
  sk : Sk n w s S g o
  pe : PE S E a
  n : n ≤ E.length
  la : LgAll S g
theorem SS.upd {n : Nat} {w w' : World} {s : Nat} {S : Sto} {g : Sg} {o : Value} {E : List Evd} {a : Nat} {T : Nat → Prop} (h : SS n w s S g o E a) (hu : Upd w w' T) (hT : ∀ k, ftS s g k → ¬ T k) : SS n w' s S g o E a := ⟨h.sk.upd hu hT, h.pe, h.n, h.la⟩
/-- What a write of a store leaves. -/
structure Wo (w w' : World) (n s b : Nat) (S : Sto) (g : Sg) (W : Wri) : Prop where
  ex : ∃ hh, Ow n w' s b S W g hh ∧ Upd w w' (ftS s g) ∧ (∀ k, ftW b hh k → w.heap.size ≤ k)
/-- What a put leaves, when it is done. -/
def Pu (w w' : World) (s : Nat) (g : Sg) (E : List Evd) (a : Nat) (k : ByteArray) : Prop :=
  ∃ n S g' o kv, SS n w' s S g' o (E ++ [((E.length : Int) + 1, k, some kv)]) a ∧ kv.key = k ∧ Upd w w' (ftS s g) ∧ ∀ j, ftS s g' j → ftS s g j ∨ w.heap.size ≤ j
section
variable {n : Nat} {w : World} {s : Nat} {S : Sto} {g : Sg} {o : Value} {E : List Evd} {a : Nat}
theorem ss_new (w : World) : Calls Tryz.prog 7 #[] w fun e w' => ∃ s g, e = .returned (ptr s) ∧ Hid (SS 0 w' s noS g (.pointer none) [] 0 ∧ Below w.heap.size w w' ∧ ∀ k, ftS s g k → w.heap.size ≤ k) := by
  refine (new_lg w).mono ?_
  rintro e w' ⟨s, g, rfl, h1, h2, h3, hlv⟩
  have hok : LgOk noS g := fun r h4 h5 => by
    exfalso
    have : (noS.past : Int) = 0 := rfl
    have : (noS.rev : Int) = 0 := rfl
    omega
  exact ⟨s, g, rfl, ⟨⟨h1, hok, Nat.zero_le _, fun p hp => Nat.le_trans (PE.none_.few p hp) (Nat.zero_le _)⟩, PE.none_, Nat.le_refl _, ⟨hok, fun k r c hc _ => (by cases hc), fun r _ => hlv r, fun k => rfl⟩⟩, h2, h3⟩
theorem ss_write (H : SS n w s S g o E a) : Calls Tryz.prog 11 #[ptr s] w fun e w' => ∃ b, e = .returned (ptr b) ∧ Hid (Wo w w' n s b S g (noW S.nth)) := by
  refine (write_st H.sk.st).mono ?_
  rintro e w' ⟨rfl, hO, hu⟩
  refine ⟨_, rfl, ⟨_, hO, hu.mono (fun k _ e => .inl e), ?_⟩⟩
  rintro j (rfl | rfl | hj)
  · exact Nat.le_succ _
  · exact Nat.le_refl _
  · cases hj
/-- The write that puts one key. -/
def Ow1 (S : Sto) (W : Wri) (k : ByteArray) : Prop := W.keys = [k] ∧ ∃ kv, W.ch k = some (some kv) ∧ kv.key = k ∧ Wok S W
theorem ss_put (H : SS n w s S g o E a) {w1 : World} {b : Nat} (hW : Wo w w1 n s b S g (noW S.nth)) (hE : E.length ≤ 1000) (k v : ByteArray) (hk : 0 < k.size ∧ k.size ≤ 100) (hv : ¬ 4096 < v.size) :
    Calls Tryz.prog 15 #[ptr b, .string k, .string v, .int .i64 0] w1 fun e w' => e = .returned (.int .i64 0) ∧ Hid (∃ W, Wo w w' n s b S g W ∧ Ow1 S W k) := by
  obtain ⟨hh, h1, h2, h3⟩ := hW.ex
  have hrev : S.rev ≤ 1000 := by rw [H.pe.rev]; exact hE
  have hnth : S.nth ≤ 1000 := Nat.le_trans H.pe.nth hE
  have fin : ∀ (w' : World) (h' : Wg) (W : Wri) (kv : KVd), (W = (noW S.nth).note k (some kv) ∨ W = ({ (noW S.nth) with count := (noW S.nth).count + 1 } : Wri).note k (some kv)) → kv.key = k → kv.mod = (S.rev : Int) + 1 → 1 ≤ kv.version → kv.version ≤ (S.rev : Int) + 1 → Ow n w' s b S W g h' → KpW w1 w' b hh h' → ∃ W, Wo w w' n s b S g W ∧ Ow1 S W k := by
    intro w' h' W kv hW a1 a2 a3 a4 hO hK
    have hch : W.keys = [k] ∧ W.ch k = some (some kv) ∧ ∀ j, ¬ j = k → W.ch j = none := by
      rcases hW with rfl | rfl
      · exact ⟨by simp [Wri.note, noW], by simp [Wri.note], fun j hj => by simp [Wri.note, hj, noW]⟩
      · exact ⟨by simp [Wri.note, noW], by simp [Wri.note], fun j hj => by simp [Wri.note, hj, noW]⟩
    refine ⟨W, ⟨h', hO, h2.trans hK.1 (fun j hj e => absurd (h3 j e) (by omega)), fun j hj => (hK.2 j hj).elim (h3 j) (fun e => Nat.le_trans h2.size e)⟩, hch.1, kv, hch.2.1, a1, fun j c hc => ?_⟩
    by_cases e : j = k
    · subst e
      rw [hch.2.1] at hc
      cases hc
      exact ⟨hk, fun v hv => (by cases hv; exact ⟨a1, a2, a3, a4⟩), fun hv => (by cases hv)⟩
    · rw [hch.2.2 j e] at hc; cases hc
  cases e : thereH (S.kh k) with
  | none =>
    refine (wput_new h1 k v 0 hk hv (by decide) rfl (by simp [noW]) (by omega) e (by show (S.nth : Int) < 4096 ∧ _ ≤ (S.nth : Int); omega)).mono ?_
    rintro e' w' ⟨rfl, h', q1, q2⟩
    exact ⟨rfl, fin w' h' _ _ (.inr rfl) rfl rfl (by dsimp only; omega) (by dsimp only; omega) q1 q2⟩
  | some kv =>
    obtain ⟨r, hm, _⟩ := thereH_mem e
    obtain ⟨_, _, p1, p2⟩ := (h1.st.hok k).kv r kv hm
    have p3 := ((h1.st.hok k).pos _ hm).2
    dsimp only at p3
    refine (wput_there h1 k v 0 hk hv (by decide) rfl (by simp [noW]) (by omega) e (by omega)).mono ?_
    rintro e' w' ⟨rfl, h', q1, q2⟩
    exact ⟨rfl, fin w' h' _ _ (.inl rfl) rfl rfl (by dsimp only; omega) (by dsimp only; omega) q1 q2⟩
theorem ss_done (H : SS n w s S g o E a) {w1 : World} {b : Nat} {W : Wri} (hW : Wo w w1 n s b S g W) (hE : E.length ≤ 1000) (k : ByteArray) (h1 : Ow1 S W k) :
    Calls Tryz.prog 17 #[ptr b] w1 fun e w' => ∃ r, e = .returned (.int .i64 r) ∧ Hid (Pu w w' s g E a k) := by
  obtain ⟨hh, a1, a2, a3⟩ := hW.ex
  obtain ⟨b1, kv, b2, b3, b4⟩ := h1
  have hpast := H.pe.past
  have hrev : S.rev ≤ 1000 := by rw [H.pe.rev]; exact hE
  have hn := H.n
  refine (done_lg a1 b4 (by rw [b1]; simp; omega) (by omega)).mono ?_
  rintro e w' ⟨rfl, g', q1, ⟨q2, q3⟩, q4⟩
  have e1 : doneS S W = layS (nextS S [k]) ((S.rev : Int) + 1) k (some kv) := by
    unfold doneS
    rw [if_neg (by rw [b1]; simp)]
    unfold takeS layAll chG
    rw [b1]
    show layS (nextS S [k]) ((S.rev : Int) + 1) k ((W.ch k).getD none) = _
    rw [b2]
    rfl
  have hP := H.pe.put H.sk.st.hok k kv
  have hL := H.la.lay H.sk.st.past H.sk.st.hok k (some kv) (g' := g') (v := hh.v) (by rw [q4]; unfold doneLv; rw [if_neg (by rw [b1]; simp)])
  rw [e1] at q1
  have er : (S.rev : Int) = (E.length : Int) := by rw [H.pe.rev]
  rw [er] at hP q1 hL
  refine ⟨_, rfl, _, _, g', _, kv, ⟨⟨q1, hL.ok, ?_, fun p hp => ?_⟩, hP, ?_, hL⟩, b3, a2.trans q2 (fun j hj e => ?_), fun j hj => ?_⟩
  · rw [hP.rev, List.length_append]; simp; omega
  · refine Nat.le_trans (hP.few p hp) ?_
    rw [List.length_append]; simp; omega
  · rw [b1, List.length_append]; simp; omega
  · rcases e with e | e
    · exact e
    · have := a3 j e; omega
  · rcases q3 j hj with (e | e) | e
    · exact .inl e
    · exact .inr (a3 j e)
    · exact .inr (Nat.le_trans a2.size e)
end
end Go.Proofs.YtjdmgmnndfhmgaaGreat
