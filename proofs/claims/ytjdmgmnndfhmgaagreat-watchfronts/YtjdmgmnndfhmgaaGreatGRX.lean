/- A store that is put to, one key a revision. -/
import Derived.Test.YtjdmgmnndfhmgaaGreatGRQ
import Derived.Test.YtjdmgmnndfhmgaaGreatGRR
import Derived.Test.YtjdmgmnndfhmgaaGreatGRW
import Derived.Test.YtjdmgmnndfhmgaaGreatGRP
namespace Go.Proofs.YtjdmgmnndfhmgaaGreat
open Go Go.RowKit
/-- A store of single puts, compacted at a: its changes. -/
structure PE (S : Sto) (E : List Evd) (a : Nat) : Prop where
  rev : S.rev = E.length
  past : S.past = a
  lg : ∀ (i : Nat) (e : Evd), a ≤ i → E[i]? = some e → S.lg ((i : Int) + 1) = [e.2.1] ∧ chgAt (S.kh e.2.1) ((i : Int) + 1) = e.2.2
  ev : ∀ (i : Nat) (e : Evd), E[i]? = some e → e.1 = (i : Int) + 1 ∧ ∃ kv, e.2.2 = some kv
  one : ∀ r, (S.lg r).length ≤ 1
  nth : S.nth ≤ E.length
theorem PE.none_ : PE noS [] 0 := ⟨rfl, rfl, fun i e _ h => (by simp at h), fun i e h => (by simp at h), fun _ => Nat.zero_le _, Nat.le_refl _⟩
theorem PE.at_ {S : Sto} {E : List Evd} {a : Nat} (h : PE S E a) {i : Nat} {e : Evd} (ha : a ≤ i) (hi : E[i]? = some e) : evAt S ((i : Int) + 1) = [e] := by
  obtain ⟨h2, h4⟩ := h.lg i e ha hi
  unfold evAt
  rw [h2, List.map_cons, List.map_nil, h4, ← (h.ev i e hi).1]
theorem PE.evs {S : Sto} {E : List Evd} {a : Nat} (h : PE S E a) (p : Nat) (ha : a ≤ p) : ∀ j, p + j ≤ E.length → evN S ((p : Int) + 1) j = (E.drop p).take j
  | 0, _ => by simp [evN]
  | j + 1, hj => by
    rw [evN_succ, h.evs p ha j (by omega)]
    have hlt : p + j < E.length := by omega
    have e1 : ((p : Int) + 1 + (j : Int)) = ((p + j : Nat) : Int) + 1 := by omega
    rw [e1, h.at_ (by omega) (List.getElem?_eq_getElem hlt), List.take_add_one]
    congr 1
    rw [List.getElem?_drop, List.getElem?_eq_getElem hlt]
    rfl
theorem PE.since {S : Sto} {E : List Evd} {a : Nat} (h : PE S E a) (p : Int) (hp : (a : Int) < p) : sinceL S p = E.drop (p - 1).toNat := by
  unfold sinceL
  obtain ⟨q, hq⟩ : ∃ q : Nat, p = (q : Int) + 1 := ⟨(p - 1).toNat, by omega⟩
  subst hq
  have e1 : ((q : Int) + 1 - 1).toNat = q := by omega
  rw [e1, h.rev]
  rcases Nat.le_total q E.length with hl | hl
  · have e2 : ((E.length : Int) + 1 - ((q : Int) + 1)).toNat = E.length - q := by omega
    rw [e2, h.evs q (by omega) _ (by omega), List.take_of_length_le (by rw [List.length_drop]; omega)]
  · have e2 : ((E.length : Int) + 1 - ((q : Int) + 1)).toNat = 0 := by omega
    rw [e2, List.drop_of_length_le hl]
    simp [evN]
theorem PE.few {S : Sto} {E : List Evd} {a : Nat} (h : PE S E a) (p : Int) (hp : 1 ≤ p) : (sinceL S p).length ≤ E.length := by
  have h1 : ∀ j, (evN S p j).length ≤ j := fun j => by
    induction j with
    | zero => simp [evN]
    | succ j ih =>
      rw [evN_succ, List.length_append]
      have : (evAt S (p + j)).length ≤ 1 := by unfold evAt; rw [List.length_map]; exact h.one _
      omega
  unfold sinceL
  have := h1 ((S.rev : Int) + 1 - p).toNat
  have := h.rev
  omega
theorem chg_old {h : Hs} {r r' : Int} {c : Option KVd} {kv : KVd} (e : chgAt h r = some kv) : chgAt (h ++ [(r', c)]) r = some kv := by
  unfold chgAt at e ⊢
  rw [List.find?_append]
  cases hf : h.find? (fun q => decide (q.1 = r)) with
  | none => rw [hf] at e; cases e
  | some q => rw [hf] at e; exact e
theorem chg_new {h : Hs} {r : Int} {c : Option KVd} (hn : ∀ p ∈ h, p.1 < r) : chgAt (h ++ [(r, c)]) r = c := by
  unfold chgAt
  rw [List.find?_append, List.find?_eq_none.2 (fun p hp => by have := hn p hp; simp; omega)]
  simp
theorem PE.put {S : Sto} {E : List Evd} {a : Nat} (h : PE S E a) (hok : ∀ k, HOk k S.rev (S.kh k)) (k : ByteArray) (kv : KVd) : PE (layS (nextS S [k]) ((S.rev : Int) + 1) k (some kv)) (E ++ [((S.rev : Int) + 1, k, some kv)]) a where
  rev := by show S.rev + 1 = _; rw [h.rev, List.length_append]; rfl
  past := h.past
  ev := fun i e hi => by
    rcases Nat.lt_or_ge i E.length with hl | hl
    · rw [List.getElem?_append_left hl] at hi
      exact h.ev i e hi
    · have hi2 : i = E.length := by
        have := (List.getElem?_eq_some_iff.1 hi).1
        rw [List.length_append] at this
        simp at this
        omega
      subst hi2
      rw [List.getElem?_append_right (Nat.le_refl _), Nat.sub_self] at hi
      simp at hi
      subst hi
      have er : (S.rev : Int) = (E.length : Int) := by rw [h.rev]
      exact ⟨by dsimp only; omega, kv, rfl⟩
  lg := fun i e ha hi => by
    have hlg : ∀ x, (layS (nextS S [k]) ((S.rev : Int) + 1) k (some kv)).lg x = if x = (S.rev : Int) + 1 then [k] else S.lg x := fun x => rfl
    rw [hlg]
    rcases Nat.lt_or_ge i E.length with hl | hl
    · rw [List.getElem?_append_left hl] at hi
      obtain ⟨h2, h4⟩ := h.lg i e ha hi
      obtain ⟨h1, kv', h3⟩ := h.ev i e hi
      refine ⟨?_, ?_⟩
      · rw [if_neg (by rw [h.rev]; omega)]; exact h2
      · by_cases ek : e.2.1 = k
        · rw [ek, layS_same]
          show chgAt (S.kh k ++ _) _ = _
          rw [h3]
          rw [ek, h3] at h4
          exact chg_old h4
        · rw [layS_other _ _ _ ek]; exact h4
    · have hi2 : i = E.length := by
        have := (List.getElem?_eq_some_iff.1 hi).1
        rw [List.length_append] at this
        simp at this
        omega
      subst hi2
      rw [List.getElem?_append_right (Nat.le_refl _), Nat.sub_self] at hi
      simp at hi
      subst hi
      have er : (S.rev : Int) = (E.length : Int) := by rw [h.rev]
      refine ⟨by rw [if_pos (by omega)], ?_⟩
      dsimp only
      rw [layS_same, ← er]
      show chgAt (S.kh k ++ _) _ = _
      exact chg_new (fun p hp => by have := ((hok k).pos p hp).2; omega)
  one := fun r => by
    show (if r = (S.rev : Int) + 1 then [k] else S.lg r).length ≤ 1
    split
    · simp
    · exact h.one r
  nth := by
    rw [List.length_append]
    have := h.nth
    have e : (layS (nextS S [k]) ((S.rev : Int) + 1) k (some kv)).nth ≤ S.nth + 1 := by
      unfold layS
      dsimp only
      have e2 : (nextS S [k]).nth = S.nth := rfl
      rw [e2]
      split <;> split <;> omega
    simp only [List.length_cons, List.length_nil]
    omega
theorem chg_memE {h : Hs} {r : Int} {kv : KVd} (e : chgAt h r = some kv) : (r, some kv) ∈ h := by
  unfold chgAt at e
  cases hf : h.find? (fun q => decide (q.1 = r)) with
  | none => rw [hf] at e; cases e
  | some q =>
    rw [hf] at e
    have h1 := List.find?_some hf
    have h2 := List.mem_of_find?_eq_some hf
    have h3 : q.1 = r := by simpa using h1
    have h4 : q.2 = some kv := e
    have : q = (r, some kv) := by rw [← h3, ← h4]
    rw [← this]; exact h2
theorem PE.comp {S : Sto} {E : List Evd} (h : PE S E 0) (hok : ∀ k, HOk k S.rev (S.kh k)) (a : Nat) : PE (compS S a) E a where
  rev := h.rev
  past := rfl
  ev := h.ev
  lg := fun i e ha hi => by
    obtain ⟨h2, h4⟩ := h.lg i e (Nat.zero_le _) hi
    obtain ⟨h1, kv, h3⟩ := h.ev i e hi
    refine ⟨?_, ?_⟩
    · show (if (i : Int) + 1 ≤ (a : Int) then [] else S.lg ((i : Int) + 1)) = _
      rw [if_neg (by omega)]; exact h2
    · show chgAt (keepH (S.kh e.2.1) a) ((i : Int) + 1) = _
      rw [h3] at h4 ⊢
      have hm := chg_memE h4
      exact chgAt_mem ((hok e.2.1).keep a).asc (List.mem_filter.2 ⟨hm, decide_eq_true (.inl (by dsimp only; omega))⟩)
  one := fun r => by
    show (if r ≤ (a : Int) then [] else S.lg r).length ≤ 1
    split
    · simp
    · exact h.one r
  nth := h.nth
/-- Such a store in memory. -/
structure SS (n : Nat) (w : World) (s : Nat) (S : Sto) (g : Sg) (o : Value) (E : List Evd) (a : Nat) : Prop where
  sk : Sk n w s S g o
  pe : PE S E a
  n : n ≤ E.length
  la : LgAll S g
theorem SS.upd {n : Nat} {w w' : World} {s : Nat} {S : Sto} {g : Sg} {o : Value} {E : List Evd} {a : Nat} {T : Nat → Prop} (h : SS n w s S g o E a) (hu : Upd w w' T) (hT : ∀ k, ftS s g k → ¬ T k) : SS n w' s S g o E a := ⟨h.sk.upd hu hT, h.pe, h.n, h.la⟩
/-- What a write of a store leaves. -/
structure Wo (w w' : World) (n s b : Nat) (S : Sto) (g : Sg) (W : Wri) : Prop where
  ex : ∃ hh, Ow n w' s b S W g hh ∧ Upd w w' (ftS s g) ∧ (∀ k, ftW b hh k → w.heap.size ≤ k)
/-- What a put leaves, when it is done. -/
def Pu (w w' : World) (s : Nat) (g : Sg) (E : List Evd) (a : Nat) (k : ByteArray) : Prop :=
  ∃ n S g' o kv, SS n w' s S g' o (E ++ [((E.length : Int) + 1, k, some kv)]) a ∧ kv.key = k ∧ Upd w w' (ftS s g) ∧ ∀ j, ftS s g' j → ftS s g j ∨ w.heap.size ≤ j
section
variable {n : Nat} {w : World} {s : Nat} {S : Sto} {g : Sg} {o : Value} {E : List Evd} {a : Nat}
theorem ss_new (w : World) : Calls Tryz.prog 7 #[] w fun e w' => ∃ s g, e = .returned (ptr s) ∧ Hid (SS 0 w' s noS g (.pointer none) [] 0 ∧ Below w.heap.size w w' ∧ ∀ k, ftS s g k → w.heap.size ≤ k) := by
  refine (new_lg w).mono ?_
  rintro e w' ⟨s, g, rfl, h1, h2, h3, hlv⟩
  have hok : LgOk noS g := fun r h4 h5 => by
    exfalso
    have : (noS.past : Int) = 0 := rfl
    have : (noS.rev : Int) = 0 := rfl
    omega
  exact ⟨s, g, rfl, ⟨⟨h1, hok, Nat.zero_le _, fun p hp => Nat.le_trans (PE.none_.few p hp) (Nat.zero_le _)⟩, PE.none_, Nat.le_refl _, ⟨hok, fun k r c hc _ => (by cases hc), fun r _ => hlv r, fun k => rfl⟩⟩, h2, h3⟩
theorem ss_write (H : SS n w s S g o E a) : Calls Tryz.prog 11 #[ptr s] w fun e w' => ∃ b, e = .returned (ptr b) ∧ Hid (Wo w w' n s b S g (noW S.nth)) := by
  refine (write_st H.sk.st).mono ?_
  rintro e w' ⟨rfl, hO, hu⟩
  refine ⟨_, rfl, ⟨_, hO, hu.mono (fun k _ e => .inl e), ?_⟩⟩
  rintro j (rfl | rfl | hj)
  · exact Nat.le_succ _
  · exact Nat.le_refl _
  · cases hj
/-- The write that puts one key. -/
def Ow1 (S : Sto) (W : Wri) (k : ByteArray) : Prop := W.keys = [k] ∧ ∃ kv, W.ch k = some (some kv) ∧ kv.key = k ∧ Wok S W
theorem ss_put (H : SS n w s S g o E a) {w1 : World} {b : Nat} (hW : Wo w w1 n s b S g (noW S.nth)) (hE : E.length ≤ 1000) (k v : ByteArray) (hk : 0 < k.size ∧ k.size ≤ 100) (hv : ¬ 4096 < v.size) :
    Calls Tryz.prog 15 #[ptr b, .string k, .string v, .int .i64 0] w1 fun e w' => e = .returned (.int .i64 0) ∧ Hid (∃ W, Wo w w' n s b S g W ∧ Ow1 S W k) := by
  obtain ⟨hh, h1, h2, h3⟩ := hW.ex
  have hrev : S.rev ≤ 1000 := by rw [H.pe.rev]; exact hE
  have hnth : S.nth ≤ 1000 := Nat.le_trans H.pe.nth hE
  have fin : ∀ (w' : World) (h' : Wg) (W : Wri) (kv : KVd), (W = (noW S.nth).note k (some kv) ∨ W = ({ (noW S.nth) with count := (noW S.nth).count + 1 } : Wri).note k (some kv)) → kv.key = k → kv.mod = (S.rev : Int) + 1 → 1 ≤ kv.version → kv.version ≤ (S.rev : Int) + 1 → Ow n w' s b S W g h' → KpW w1 w' b hh h' → ∃ W, Wo w w' n s b S g W ∧ Ow1 S W k := by
    intro w' h' W kv hW a1 a2 a3 a4 hO hK
    have hch : W.keys = [k] ∧ W.ch k = some (some kv) ∧ ∀ j, ¬ j = k → W.ch j = none := by
      rcases hW with rfl | rfl
      · exact ⟨by simp [Wri.note, noW], by simp [Wri.note], fun j hj => by simp [Wri.note, hj, noW]⟩
      · exact ⟨by simp [Wri.note, noW], by simp [Wri.note], fun j hj => by simp [Wri.note, hj, noW]⟩
    refine ⟨W, ⟨h', hO, h2.trans hK.1 (fun j hj e => absurd (h3 j e) (by omega)), fun j hj => (hK.2 j hj).elim (h3 j) (fun e => Nat.le_trans h2.size e)⟩, hch.1, kv, hch.2.1, a1, fun j c hc => ?_⟩
    by_cases e : j = k
    · subst e
      rw [hch.2.1] at hc
      cases hc
      exact ⟨hk, fun v hv => (by cases hv; exact ⟨a1, a2, a3, a4⟩), fun hv => (by cases hv)⟩
    · rw [hch.2.2 j e] at hc; cases hc
  cases e : thereH (S.kh k) with
  | none =>
    refine (wput_new h1 k v 0 hk hv (by decide) rfl (by simp [noW]) (by omega) e (by show (S.nth : Int) < 4096 ∧ _ ≤ (S.nth : Int); omega)).mono ?_
    rintro e' w' ⟨rfl, h', q1, q2⟩
    exact ⟨rfl, fin w' h' _ _ (.inr rfl) rfl rfl (by dsimp only; omega) (by dsimp only; omega) q1 q2⟩
  | some kv =>
    obtain ⟨r, hm, _⟩ := thereH_mem e
    obtain ⟨_, _, p1, p2⟩ := (h1.st.hok k).kv r kv hm
    have p3 := ((h1.st.hok k).pos _ hm).2
    dsimp only at p3
    refine (wput_there h1 k v 0 hk hv (by decide) rfl (by simp [noW]) (by omega) e (by omega)).mono ?_
    rintro e' w' ⟨rfl, h', q1, q2⟩
    exact ⟨rfl, fin w' h' _ _ (.inl rfl) rfl rfl (by dsimp only; omega) (by dsimp only; omega) q1 q2⟩
theorem ss_done (H : SS n w s S g o E a) {w1 : World} {b : Nat} {W : Wri} (hW : Wo w w1 n s b S g W) (hE : E.length ≤ 1000) (k : ByteArray) (h1 : Ow1 S W k) :
    Calls Tryz.prog 17 #[ptr b] w1 fun e w' => ∃ r, e = .returned (.int .i64 r) ∧ Hid (Pu w w' s g E a k) := by
  obtain ⟨hh, a1, a2, a3⟩ := hW.ex
  obtain ⟨b1, kv, b2, b3, b4⟩ := h1
  have hpast := H.pe.past
  have hrev : S.rev ≤ 1000 := by rw [H.pe.rev]; exact hE
  have hn := H.n
  refine (done_lg a1 b4 (by rw [b1]; simp; omega) (by omega)).mono ?_
  rintro e w' ⟨rfl, g', q1, ⟨q2, q3⟩, q4⟩
  have e1 : doneS S W = layS (nextS S [k]) ((S.rev : Int) + 1) k (some kv) := by
    unfold doneS
    rw [if_neg (by rw [b1]; simp)]
    unfold takeS layAll chG
    rw [b1]
    show layS (nextS S [k]) ((S.rev : Int) + 1) k ((W.ch k).getD none) = _
    rw [b2]
    rfl
  have hP := H.pe.put H.sk.st.hok k kv
  have hL := H.la.lay H.sk.st.past H.sk.st.hok k (some kv) (g' := g') (v := hh.v) (by rw [q4]; unfold doneLv; rw [if_neg (by rw [b1]; simp)])
  rw [e1] at q1
  have er : (S.rev : Int) = (E.length : Int) := by rw [H.pe.rev]
  rw [er] at hP q1 hL
  refine ⟨_, rfl, _, _, g', _, kv, ⟨⟨q1, hL.ok, ?_, fun p hp => ?_⟩, hP, ?_, hL⟩, b3, a2.trans q2 (fun j hj e => ?_), fun j hj => ?_⟩
  · rw [hP.rev, List.length_append]; simp; omega
  · refine Nat.le_trans (hP.few p hp) ?_
    rw [List.length_append]; simp; omega
  · rw [b1, List.length_append]; simp; omega
  · rcases e with e | e
    · exact e
    · have := a3 j e; omega
  · rcases q3 j hj with (e | e) | e
    · exact .inl e
    · exact .inr (a3 j e)
    · exact .inr (Nat.le_trans a2.size e)
end
end Go.Proofs.YtjdmgmnndfhmgaaGreat
/- What a watcher has yet to hear, cut at a place; revisions as whole ones. -/
namespace Go.Proofs.YtjdmgmnndfhmgaaGreat
open Go Go.RowKit
theorem evAt_rev {S : Sto} {r : Int} {e : Evd} (h : e ∈ evAt S r) : e.1 = r := by
  unfold evAt at h
  obtain ⟨k, _, rfl⟩ := List.mem_map.1 h
  rfl
theorem evN_up (S : Sto) (p : Int) : ∀ j, (evN S p j).Pairwise (fun a b => a.1 ≤ b.1)
  | 0 => by simp [evN]
  | j + 1 => by
    rw [evN_succ, List.pairwise_append]
    refine ⟨evN_up S p j, ?_, fun a ha b hb => ?_⟩
    · refine List.Pairwise.imp_of_mem ?_ (List.pairwise_of_forall (R := fun _ _ => True) (fun _ _ => trivial))
      intro a b ha hb _
      rw [evAt_rev ha, evAt_rev hb]
      exact Int.le_refl _
    · have := evN_rev ha
      rw [evAt_rev hb]
      omega
theorem newsL_up (S : Sto) (lo hi : ByteArray) (p : Int) : (newsL S lo hi p).Pairwise (fun a b => a.1 ≤ b.1) := List.Pairwise.filter _ (evN_up S p _)
theorem evN_cut (S : Sto) (p p' : Int) (d : Nat) (hd : p' = p + d) : ∀ j, (evN S p j).filter (fun e => decide (p' ≤ e.1)) = evN S p' (j - d)
  | 0 => by simp [evN]
  | j + 1 => by
    rw [evN_succ, List.filter_append, evN_cut S p p' d hd j]
    rcases Nat.lt_or_ge j d with h | h
    · have e1 : (evAt S (p + j)).filter (fun e => decide (p' ≤ e.1)) = [] := by
        rw [List.filter_eq_nil_iff]
        intro e he
        rw [evAt_rev he]
        simp
        omega
      rw [e1, List.append_nil]
      congr 1
      omega
    · have e1 : (evAt S (p + j)).filter (fun e => decide (p' ≤ e.1)) = evAt S (p + j) := by
        rw [List.filter_eq_self]
        intro e he
        rw [evAt_rev he]
        simp
        omega
      have e2 : j + 1 - d = (j - d) + 1 := by omega
      rw [e1, e2, evN_succ]
      congr 2
      omega
theorem newsL_cut (S : Sto) (lo hi : ByteArray) (p p' : Int) (h : p ≤ p') : newsL S lo hi p' = (newsL S lo hi p).filter (fun e => decide (p' ≤ e.1)) := by
  unfold newsL
  rw [List.filter_filter]
  have e1 : sinceL S p' = (sinceL S p).filter (fun e => decide (p' ≤ e.1)) := by
    unfold sinceL
    rw [evN_cut S p p' (p' - p).toNat (by omega)]
    congr 1
    omega
  rw [e1, List.filter_filter]
  congr 1
  funext e
  exact Bool.and_comm _ _
/-- A place between two revisions. -/
def Bd_ (L : List Evd) (m : Nat) : Prop := ∀ e f, L[m - 1]? = some e → L[m]? = some f → e.1 ≠ f.1
theorem wholeGo_bd (most : Int) (L : List Evd) : ∀ (r : List Evd) (i n : Nat), r = L.drop i → (n = 0 ∨ Bd_ L n) → wholeGo most r i n = 0 ∨ Bd_ L (wholeGo most r i n)
  | [], i, n, _, hn => hn
  | e :: r, i, n, hr, hn => by
    have hi : L[i]? = some e := by
      have := congrArg (fun l => l[0]?) hr
      simp only [List.getElem?_cons_zero, List.getElem?_drop, Nat.add_zero] at this
      exact this.symm
    have hr2 : r = L.drop (i + 1) := by
      have := congrArg (List.drop 1) hr
      simpa [List.drop_drop, Nat.add_comm] using this
    unfold wholeGo
    split
    · rename_i hla
      split
      · exact hn
      · refine wholeGo_bd most L r (i + 1) (i + 1) hr2 (.inr fun x f hx hf => ?_)
        have hx' : x = e := by
          have : L[i]? = some x := hx
          rw [hi] at this
          exact (Option.some.inj this).symm
        subst hx'
        have hrf : r[0]? = some f := by rw [hr2, List.getElem?_drop]; exact hf
        cases r with
        | nil => cases hrf
        | cons y r =>
          have : y = f := by simpa using hrf
          subst this
          simp [lastOf] at hla
          exact fun h => hla h.symm
    · exact wholeGo_bd most L r (i + 1) n hr2 hn
theorem wholeN_bd (most : Int) (L : List Evd) : wholeN most L = 0 ∨ Bd_ L (wholeN most L) := wholeGo_bd most L L 0 0 rfl (.inl rfl)
theorem cut_drop {L : List Evd} (hs : L.Pairwise (fun a b => a.1 ≤ b.1)) {n : Nat} {e : Evd} (h0 : 0 < n) (he : L[n - 1]? = some e) (hb : Bd_ L n) : L.filter (fun x => decide (e.1 + 1 ≤ x.1)) = L.drop n := by
  have hn := (List.getElem?_eq_some_iff.1 he).1
  rw [← List.take_append_drop n L, List.filter_append]
  have hp := List.pairwise_iff_getElem.1 hs
  have e1 : (L.take n).filter (fun x => decide (e.1 + 1 ≤ x.1)) = [] := by
    rw [List.filter_eq_nil_iff]
    intro x hx
    obtain ⟨j, hj, hjx⟩ := List.getElem_of_mem hx
    rw [List.length_take] at hj
    rw [List.getElem_take] at hjx
    have h1 : x.1 ≤ e.1 := by
      have he' : L[n - 1] = e := (List.getElem?_eq_some_iff.1 he).2
      rcases Nat.lt_or_ge j (n - 1) with h | h
      · have := hp j (n - 1) (by omega) hn h
        rw [hjx, he'] at this
        exact this
      · obtain rfl : j = n - 1 := by omega
        rw [← hjx, he']
        exact Int.le_refl _
    simp
    omega
  have e2 : (L.drop n).filter (fun x => decide (e.1 + 1 ≤ x.1)) = L.drop n := by
    rw [List.filter_eq_self]
    intro x hx
    obtain ⟨j, hj, hjx⟩ := List.getElem_of_mem hx
    rw [List.length_drop] at hj
    rw [List.getElem_drop] at hjx
    have he' : L[n - 1] = e := (List.getElem?_eq_some_iff.1 he).2
    have h1 := hp (n - 1) n hn (by omega) (by omega)
    rw [he'] at h1
    have h2 := hb e L[n] he (List.getElem?_eq_getElem (by omega))
    have h3 : L[n].1 ≤ x.1 := by
      rcases Nat.eq_zero_or_pos j with h | h
      · subst h
        simp only [Nat.add_zero] at hjx
        rw [hjx]
        exact Int.le_refl _
      · have := hp n (n + j) (by omega) (by omega) (by omega)
        rw [hjx] at this
        exact this
    simp
    omega
  rw [e1, e2, List.nil_append, List.take_append_drop]
/-- The place behind whole revisions: what is left is what was not told. -/
theorem news_next (S : Sto) (lo hi : ByteArray) (p most : Int) (n : Nat) (L : List Evd) (hL : L = newsL S lo hi p) (hn : n = wholeN most L) (hlt : n < L.length) : ∃ e, L[n - 1]? = some e ∧ p ≤ e.1 ∧ e.1 ≤ S.rev ∧ newsL S lo hi (e.1 + 1) = L.drop n := by
  have h0 : 0 < n := by rw [hn]; exact wholeN_pos most L (by rw [← hn]; exact hlt)
  obtain ⟨e, he⟩ : ∃ e, L[n - 1]? = some e := ⟨_, List.getElem?_eq_getElem (by omega)⟩
  have hm := List.mem_of_getElem? he
  rw [hL] at hm
  have hrv := newsL_rev hm
  refine ⟨e, he, hrv.1, hrv.2, ?_⟩
  have hb : Bd_ L n := by
    rcases wholeN_bd most L with h | h
    · rw [← hn] at h; omega
    · rw [hn]; exact h
  rw [newsL_cut S lo hi p (e.1 + 1) (by omega), ← hL]
  exact cut_drop (by rw [hL]; exact newsL_up S lo hi p) h0 he hb
theorem wholeGo_all (most : Int) : ∀ (r : List Evd) (i n : Nat), ((i + r.length : Nat) : Int) ≤ most → (r = [] → n = i) → wholeGo most r i n = i + r.length
  | [], i, n, _, h => by simpa [wholeGo] using h rfl
  | e :: r, i, n, h, _ => by
    rw [List.length_cons] at h ⊢
    unfold wholeGo
    split
    · rw [if_neg (by omega), wholeGo_all most r (i + 1) (i + 1) (by omega) (fun _ => rfl)]
      omega
    · rename_i h2
      rw [wholeGo_all most r (i + 1) n (by omega) (fun e => by subst e; exact absurd rfl h2)]
      omega
theorem wholeN_all (most : Int) (L : List Evd) (h : (L.length : Int) ≤ most) : wholeN most L = L.length := by
  unfold wholeN
  rw [wholeGo_all most L 0 0 (by omega) (fun _ => rfl)]
  omega
end Go.Proofs.YtjdmgmnndfhmgaaGreat
/- A store of any writes: its changes, its log. -/
namespace Go.Proofs.YtjdmgmnndfhmgaaGreat
open Go Go.RowKit
section
variable {S : Sto} {W : Wri} {g : Sg}
structure DF (S S' : Sto) (W : Wri) : Prop where
  rev : S'.rev = S.rev + 1
  past : S'.past = S.past
  lg : ∀ r, S'.lg r = if r = (S.rev : Int) + 1 then W.keys else S.lg r
  kin : ∀ k, k ∈ W.keys → S'.kh k = S.kh k ++ [((S.rev : Int) + 1, chG W k)]
  kout : ∀ k, k ∉ W.keys → S'.kh k = S.kh k
theorem doneS_none (hk : W.keys = []) : doneS S W = S := if_pos hk
theorem doneS_df (hk : W.keys ≠ []) (hnd : W.keys.Nodup) : DF S (doneS S W) W := by
  have e1 : doneS S W = takeS S W W.keys.length := if_neg hk
  obtain ⟨t1, t2, t3⟩ := takeS_rev S W W.keys.length
  rw [e1]
  refine ⟨t1, t2, fun r => by rw [t3]; rfl, fun k hm => ?_, fun k hm => ?_⟩
  · unfold takeS
    rw [List.take_length]
    exact layAll_in _ _ hnd hm
  · unfold takeS
    rw [List.take_length]
    exact layAll_not _ _ hm
theorem chg_app {h l : Hs} {r : Int} (e : ∃ c, (r, c) ∈ h) : chgAt (h ++ l) r = chgAt h r := by
  obtain ⟨c, hc⟩ := e
  unfold chgAt
  rw [List.find?_append]
  cases hf : h.find? (fun q => decide (q.1 = r)) with
  | none => have := List.find?_eq_none.1 hf (r, c) hc; simp at this
  | some q => rfl
theorem evAt_old {S' : Sto} (D : DF S S' W) (L : LgOk S g) {r : Int} (h1 : (S.past : Int) < r) (h2 : r ≤ S.rev) : evAt S' r = evAt S r := by
  unfold evAt
  rw [D.lg, if_neg (by omega)]
  refine List.map_congr_left fun k hk => ?_
  by_cases hm : k ∈ W.keys
  · rw [D.kin k hm, chg_app ((L r h1 h2).2 k hk)]
  · rw [D.kout k hm]
theorem evN_congr {S S' : Sto} {p : Int} : ∀ j, (∀ i : Nat, i < j → evAt S' (p + i) = evAt S (p + i)) → evN S' p j = evN S p j
  | 0, _ => by simp [evN]
  | j + 1, h => by rw [evN_succ, evN_succ, evN_congr j (fun i hi => h i (by omega)), h j (by omega)]
theorem newsL_done {S' : Sto} (D : DF S S' W) (L : LgOk S g) (lo hi : ByteArray) {p : Int} (hp : (S.past : Int) < p) :
    newsL S' lo hi p = newsL S lo hi p ++ (if p ≤ (S.rev : Int) + 1 then (evAt S' ((S.rev : Int) + 1)).filter (heard lo hi) else []) := by
  unfold newsL sinceL
  rw [D.rev]
  by_cases h : p ≤ (S.rev : Int) + 1
  · rw [if_pos h]
    have e1 : (((S.rev + 1 : Nat) : Int) + 1 - p).toNat = ((S.rev : Int) + 1 - p).toNat + 1 := by omega
    rw [e1, evN_succ, evN_congr (S := S) _ (fun i hi => evAt_old D L (by omega) (by omega)), List.filter_append]
    congr 3
    omega
  · rw [if_neg h]
    have e1 : (((S.rev + 1 : Nat) : Int) + 1 - p).toNat = 0 := by omega
    have e2 : ((S.rev : Int) + 1 - p).toNat = 0 := by omega
    rw [e1, e2]
    simp [evN]
theorem newsL_comp (L : LgAll S g) (hok : ∀ k, HOk k S.rev (S.kh k)) (c : Nat) (hc : S.past ≤ c) (lo hi : ByteArray) {p : Int} (hp : (c : Int) < p) : newsL (compS S c) lo hi p = newsL S lo hi p := by
  unfold newsL sinceL
  show List.filter _ (evN (compS S c) p ((S.rev : Int) + 1 - p).toNat) = _
  rw [evN_congr (S := S) _ (fun i hi => ?_)]
  unfold evAt
  show List.map _ (if p + (i : Int) ≤ (c : Int) then [] else S.lg (p + i)) = _
  rw [if_neg (by omega)]
  refine List.map_congr_left fun k hk => ?_
  obtain ⟨x, hx⟩ := (L.ok (p + i) (by omega) (by omega)).2 k hk
  show (p + (i : Int), k, chgAt (keepH (S.kh k) c) (p + i)) = _
  rw [chgAt_mem (hok k).asc hx, chgAt_mem ((hok k).keep c).asc (List.mem_filter.2 ⟨hx, decide_eq_true (.inl (by dsimp only; omega))⟩)]
theorem LgAll.done {g' : Sg} {h : Wg} (L : LgAll S g) (hp : S.past ≤ S.rev) (hok : ∀ k, HOk k S.rev (S.kh k)) (hnd : W.keys.Nodup) (hlv : g'.lv = doneLv S W g h) : LgAll (doneS S W) g' := by
  have hO := L.ok.done hnd hlv
  by_cases hk : W.keys = []
  · rw [doneS_none hk] at hO ⊢
    have e : g'.lv = g.lv := by rw [hlv]; unfold doneLv; rw [if_pos hk]
    exact ⟨hO, L.all, fun r hr => by rw [e]; exact L.none_ r hr, L.past⟩
  · have D := doneS_df (S := S) hk hnd
    refine ⟨hO, fun k r c hc h1 => ?_, fun r hr => ?_, fun k => ?_⟩
    · rw [D.past] at h1
      rw [D.lg]
      by_cases hm : k ∈ W.keys
      · rw [D.kin k hm] at hc
        rcases List.mem_append.1 hc with hc | hc
        · have := ((hok k).pos _ hc).2
          dsimp only at this
          rw [if_neg (by omega)]
          exact L.all k r c hc h1
        · have er : r = (S.rev : Int) + 1 := by
            have : (r, c) = ((S.rev : Int) + 1, chG W k) := by simpa using hc
            exact congrArg Prod.fst this
          rw [if_pos er]; exact hm
      · rw [D.kout k hm] at hc
        have := ((hok k).pos _ hc).2
        dsimp only at this
        rw [if_neg (by omega)]
        exact L.all k r c hc h1
    · rw [D.past] at hr
      rw [hlv]; unfold doneLv; rw [if_neg hk, setF_other _ _ (by omega)]
      exact L.none_ r hr
    · show keepH _ ((doneS S W).past : Int) = _
      rw [D.past]
      by_cases hm : k ∈ W.keys
      · rw [D.kin k hm, keep_snoc (by omega)]
        have := L.past k
        rw [this]
      · rw [D.kout k hm]
        exact L.past k
end
theorem nodup_le {α : Type} : ∀ {l m : List α}, l.Nodup → (∀ x ∈ l, x ∈ m) → l.length ≤ m.length
  | [], _, _, _ => Nat.zero_le _
  | x :: l, m, hn, hm => by
    obtain ⟨h1, h2⟩ := List.nodup_cons.1 hn
    obtain ⟨A, B, rfl⟩ := List.append_of_mem (hm x (by simp))
    have := nodup_le (m := A ++ B) h2 (fun y hy => by
      have h3 := hm y (by simp [hy])
      have h4 : ¬ y = x := fun e => h1 (e ▸ hy)
      simp only [List.mem_append, List.mem_cons] at h3 ⊢
      rcases h3 with h | h | h
      · exact .inl h
      · exact absurd h h4
      · exact .inr h)
    simp only [List.length_cons, List.length_append] at this ⊢
    omega
theorem layAll_nth (f : ByteArray → Option KVd) (r : Int) : ∀ (l : List ByteArray) (S : Sto), (layAll f r S l).nth ≤ S.nth + l.length
  | [], S => Nat.le_refl _
  | k :: l, S => by
    have h1 := layAll_nth f r l (layS S r k (f k))
    have h2 : (layS S r k (f k)).nth ≤ S.nth + 1 := by
      unfold layS
      dsimp only
      split <;> split <;> omega
    have h3 : layAll f r S (k :: l) = layAll f r (layS S r k (f k)) l := rfl
    rw [h3, List.length_cons]
    omega
/-- A store of i writes of thirty keys each. -/
structure GS (n : Nat) (w : World) (s : Nat) (S : Sto) (g : Sg) (o : Value) (i : Nat) : Prop where
  st : St n w s S g o
  n : n ≤ 30 * i
  rev : S.rev ≤ i
  ks : S.ks.length ≤ 30 * i
  nth : S.nth ≤ 30 * i
  lgl : ∀ r, (S.lg r).length ≤ 30
  la : LgAll S g
section
variable {n : Nat} {w : World} {s : Nat} {S : Sto} {g : Sg} {o : Value} {i : Nat}
theorem GS.since (H : GS n w s S g o i) (p : Int) (hp : 1 ≤ p) : (sinceL S p).length ≤ 30 * S.rev := by
  have h1 : ∀ j, (evN S p j).length ≤ 30 * j := fun j => by
    induction j with
    | zero => simp [evN]
    | succ j ih =>
      rw [evN_succ, List.length_append]
      have : (evAt S (p + j)).length ≤ 30 := by unfold evAt; rw [List.length_map]; exact H.lgl _
      omega
  unfold sinceL
  have := h1 ((S.rev : Int) + 1 - p).toNat
  have : ((S.rev : Int) + 1 - p).toNat ≤ S.rev := by omega
  omega
theorem GS.sk (H : GS n w s S g o i) (hi : i ≤ 100) : Sk n w s S g o := ⟨H.st, H.la.ok, by have := H.rev; omega, fun p hp => Nat.le_trans (H.since p hp) (by have := H.rev; omega)⟩
theorem GS.upd {w' : World} {T : Nat → Prop} (H : GS n w s S g o i) (hu : Upd w w' T) (hT : ∀ k, ftS s g k → ¬ T k) : GS n w' s S g o i := ⟨H.st.upd hu hT, H.n, H.rev, H.ks, H.nth, H.lgl, H.la⟩
theorem GS.more (H : GS n w s S g o i) : GS n w s S g o (i + 1) := ⟨H.st, by have := H.n; omega, by have := H.rev; omega, by have := H.ks; omega, by have := H.nth; omega, H.lgl, H.la⟩
theorem gs_new (w : World) : Calls Tryz.prog 7 #[] w fun e w' => ∃ s g, e = .returned (ptr s) ∧ Hid (GS 0 w' s noS g (.pointer none) 0 ∧ Below w.heap.size w w' ∧ ∀ k, ftS s g k → w.heap.size ≤ k) := by
  refine (new_lg w).mono ?_
  rintro e w' ⟨s, g, rfl, h1, h2, h3, hlv⟩
  have hok : LgOk noS g := fun r h4 h5 => by
    exfalso
    have : (noS.past : Int) = 0 := rfl
    have : (noS.rev : Int) = 0 := rfl
    omega
  exact ⟨s, g, rfl, ⟨h1, Nat.le_refl _, Nat.le_refl _, Nat.le_refl _, Nat.le_refl _, fun r => Nat.zero_le _, ⟨hok, fun k r c hc _ => (by cases hc), fun r _ => hlv r, fun k => rfl⟩⟩, h2, h3⟩
/-- A write under way, of j parts. -/
structure GW (w1 w : World) (n s b : Nat) (S : Sto) (g : Sg) (W : Wri) (j : Nat) : Prop where
  wo : Wo w1 w n s b S g W
  ok : Wok S W
  len : W.keys.length ≤ j
  lo : (S.nth : Int) - j ≤ W.count
  hi : W.count ≤ (S.nth : Int) + j
end
section
variable {n : Nat} {w1 w : World} {s b : Nat} {S : Sto} {g : Sg} {o : Value} {i j : Nat} {W : Wri}
theorem gw_write (H : GS n w s S g o i) : Calls Tryz.prog 11 #[ptr s] w fun e w' => ∃ b, e = .returned (ptr b) ∧ Hid (∃ W, GW w w' n s b S g W 0) := by
  refine (write_st H.st).mono ?_
  rintro e w' ⟨rfl, hO, hu⟩
  refine ⟨_, rfl, _, ⟨_, hO, hu.mono (fun k _ e => .inl e), ?_⟩, fun k c hc => (by cases hc), Nat.le_refl _, ?_, ?_⟩
  · rintro j (rfl | rfl | hj)
    · exact Nat.le_succ _
    · exact Nat.le_refl _
    · cases hj
  · show (S.nth : Int) - ((0 : Nat) : Int) ≤ (S.nth : Int); omega
  · show (S.nth : Int) ≤ (S.nth : Int) + ((0 : Nat) : Int); omega
theorem GW.same {w' : World} (H : GW w1 w n s b S g W j) (hb : Below w.heap.size w w') : GW w1 w' n s b S g W (j + 1) := by
  obtain ⟨hh, h1, h2, h3⟩ := H.wo.ex
  exact ⟨⟨hh, h1.below hb, h2.trans (Upd.ofBelow (S := fun _ => False) hb) (fun _ _ e => e.elim), h3⟩, H.ok, by have := H.len; omega, by have := H.lo; omega, by have := H.hi; omega⟩
theorem gw_put (G : GS n w1 s S g o i) (H : GW w1 w n s b S g W j) (hi : i ≤ 90) (hj : j < 30) (key value : ByteArray) (hks : key.size ≤ 140737488355328) (hv : ¬ 4096 < value.size) :
    Calls Tryz.prog 15 #[ptr b, .string key, .string value, .int .i64 0] w fun e w' => ∃ r, e = .returned (.int .i64 r) ∧ Hid (∃ W', GW w1 w' n s b S g W' (j + 1)) := by
  obtain ⟨hh, h1, h2, h3⟩ := H.wo.ex
  have hrev := G.rev
  have hnth := G.nth
  have hlo := H.lo
  have hhi := H.hi
  have hlen := H.len
  have fin : ∀ (w' : World) (h' : Wg) (W' : Wri) (kv : KVd), (W' = W.note key (some kv) ∨ W' = ({ W with count := W.count + 1 } : Wri).note key (some kv)) → (0 < key.size ∧ key.size ≤ 100) → kv.key = key → kv.mod = (S.rev : Int) + 1 → 1 ≤ kv.version → kv.version ≤ (S.rev : Int) + 1 → Ow n w' s b S W' g h' → KpW w w' b hh h' → GW w1 w' n s b S g W' (j + 1) := by
    intro w' h' W' kv hW hk a1 a2 a3 a4 hO hK
    have hch : (∀ k, W'.ch k = if k = key then some (some kv) else W.ch k) ∧ W'.keys = W.keys ++ [key] ∧ W.count ≤ W'.count ∧ W'.count ≤ W.count + 1 := by
      rcases hW with rfl | rfl
      · exact ⟨fun _ => rfl, rfl, by show W.count ≤ W.count; omega, by show W.count ≤ W.count + 1; omega⟩
      · exact ⟨fun _ => rfl, rfl, by show W.count ≤ W.count + 1; omega, by show W.count + 1 ≤ W.count + 1; omega⟩
    obtain ⟨c1, c2, c3, c4⟩ := hch
    refine ⟨⟨h', hO, h2.trans hK.1 (fun k hk e => absurd (h3 k e) (by omega)), fun k hk => (hK.2 k hk).elim (h3 k) (fun e => Nat.le_trans h2.size e)⟩, fun k c hc => ?_, by rw [c2, List.length_append]; simp; omega, by omega, by omega⟩
    rw [c1 k] at hc
    by_cases e : k = key
    · rw [if_pos e] at hc
      cases hc
      subst e
      exact ⟨hk, fun v hv => (by cases hv; exact ⟨a1, a2, a3, a4⟩), fun hv => (by cases hv)⟩
    · rw [if_neg e] at hc
      exact H.ok k c hc
  by_cases hk : 0 < key.size ∧ key.size ≤ 100
  · cases hc : W.ch key with
    | some o =>
      refine (wput_twice h1 key value 0 (by omega) (by omega) hk (by omega) hv hc).mono ?_
      rintro e w' ⟨rfl, hw'⟩
      obtain rfl := hw'.symm
      exact ⟨_, rfl, W, H.same (Below.refl _ _)⟩
    | none =>
      cases ht : thereH (S.kh key) with
      | some kv =>
        obtain ⟨r, hm, _⟩ := thereH_mem ht
        obtain ⟨_, _, p1, p2⟩ := (h1.st.hok key).kv r kv hm
        have p3 := ((h1.st.hok key).pos _ hm).2
        dsimp only at p3
        refine (wput_there h1 key value 0 hk hv (by omega) hc (by omega) (by omega) ht (by omega)).mono ?_
        rintro e w' ⟨rfl, h', q1, q2⟩
        exact ⟨_, rfl, _, fin w' h' _ _ (.inl rfl) hk rfl rfl (by show 1 ≤ kv.version + 1; omega) (by show kv.version + 1 ≤ _; omega) q1 q2⟩
      | none =>
        by_cases hf : 4096 ≤ W.count
        · refine (wput_full h1 key value 0 (by omega) (by omega) hk (by omega) hv hc ht hf).mono ?_
          rintro e w' ⟨rfl, hb⟩
          exact ⟨_, rfl, W, H.same hb⟩
        · refine (wput_new h1 key value 0 hk hv (by omega) hc (by omega) (by omega) ht (by omega)).mono ?_
          rintro e w' ⟨rfl, h', q1, q2⟩
          exact ⟨_, rfl, _, fin w' h' _ _ (.inr rfl) hk rfl rfl (by show (1 : Int) ≤ 0 + 1; omega) (by show (0 : Int) + 1 ≤ _; omega) q1 q2⟩
  · refine (wput_arg h1 key value 0 (by omega) (.inl hk)).mono ?_
    rintro e w' ⟨rfl, hw'⟩
    obtain rfl := hw'.symm
    exact ⟨_, rfl, W, H.same (Below.refl _ _)⟩
theorem gw_del (G : GS n w1 s S g o i) (H : GW w1 w n s b S g W j) (hi : i ≤ 90) (hj : j < 30) (key : ByteArray) (hks : key.size ≤ 140737488355328) :
    Calls Tryz.prog 13 #[ptr b, .string key, .string ⟨#[]⟩] w fun e w' => ∃ r, e = .returned (.int .i64 r) ∧ Hid (∃ W', GW w1 w' n s b S g W' (j + 1)) := by
  obtain ⟨hh, h1, h2, h3⟩ := H.wo.ex
  have hn := G.n
  have hnth := G.nth
  have hlo := H.lo
  have hhi := H.hi
  have hlen := H.len
  refine (delete_st h1 (by omega) key ⟨#[]⟩ hks (by decide) (by omega) (by omega)).mono ?_
  rintro e w' ⟨rfl, h', q1, q2⟩
  have hG1 : ((rangeK S key ⟨#[]⟩).filter (goesP S W)).length ≤ 1 := by
    refine Nat.le_trans (List.length_filter_le _ _) ?_
    unfold rangeK
    have ha : Asc S.ks := by have := h1.st.bd.asc; rw [datS_keys] at this; exact this
    have hnd : (S.ks.filter (inR key ⟨#[]⟩)).Nodup := List.Nodup.sublist List.filter_sublist (asc_nodup ha)
    exact nodup_le (m := [key]) hnd (fun x hx => by
      have := (List.mem_filter.1 hx).2
      unfold inR at this
      rw [if_pos (show (⟨#[]⟩ : ByteArray) = ByteArray.empty from rfl)] at this
      simp at this
      simp [this])
  refine ⟨_, rfl, _, ⟨h', q1, h2.trans q2.1 (fun k hk e => absurd (h3 k e) (by omega)), fun k hk => (q2.2 k hk).elim (h3 k) (fun e => Nat.le_trans h2.size e)⟩, ?_, ?_, ?_, ?_⟩
  all_goals generalize hG : (rangeK S key ⟨#[]⟩).filter (goesP S W) = G' at *
  · intro k c hc
    have hc : (if hasK G' k then some none else W.ch k) = some c := hc
    cases hk : hasK G' k with
    | true =>
      rw [hk, if_pos rfl] at hc
      cases hc
      have hm := hasK_iff.1 hk
      rw [← hG] at hm
      obtain ⟨m1, m2⟩ := List.mem_filter.1 hm
      have m3 : k ∈ S.ks := (List.mem_filter.1 m1).1
      refine ⟨h1.st.sz k m3, (fun v hv => by cases hv), fun _ => ?_⟩
      unfold goesP at m2
      simp only [Bool.and_eq_true] at m2
      exact m2.2
    | false =>
      rw [hk] at hc
      exact H.ok k c (by simpa using hc)
  · show (W.keys ++ G').length ≤ j + 1
    rw [List.length_append]; omega
  · show (S.nth : Int) - ((j + 1 : Nat) : Int) ≤ W.count - G'.length
    omega
  · show W.count - G'.length ≤ (S.nth : Int) + ((j + 1 : Nat) : Int)
    omega
theorem gw_done (G : GS n w1 s S g o i) (H : GW w1 w n s b S g W j) (hi : i ≤ 90) (hj : j ≤ 30) :
    Calls Tryz.prog 17 #[ptr b] w fun e w' => e = .returned (.int .i64 (doneS S W).rev) ∧ Hid (∃ n' g', GS n' w' s (doneS S W) g' (.pointer none) (i + 1) ∧ KpM w1 w' s g g' ∧ W.keys.Nodup) := by
  obtain ⟨hh, h1, h2, h3⟩ := H.wo.ex
  have hn := G.n
  have hrev := G.rev
  have hks := G.ks
  have hnth := G.nth
  have hlen := H.len
  refine (done_lg h1 H.ok (by omega) (by omega)).mono ?_
  rintro e w' ⟨rfl, g', q1, ⟨q2, q3⟩, q4⟩
  have hnd := h1.wr.nd
  have hL := G.la.done G.st.past G.st.hok hnd q4
  refine ⟨rfl, _, g', ⟨q1, by omega, ?_, ?_, ?_, ?_, hL⟩, ⟨h2.trans q2 (fun k hk e => e.elim (fun e => e) (fun e => absurd (h3 k e) (by omega))), fun k hk => ?_⟩, hnd⟩
  · by_cases hk : W.keys = []
    · rw [doneS_none hk]; omega
    · rw [(doneS_df hk hnd).rev]; omega
  · by_cases hk : W.keys = []
    · rw [doneS_none hk]; omega
    · have D := doneS_df (S := S) hk hnd
      have ha : Asc (doneS S W).ks := by have := q1.bd.asc; rw [datS_keys] at this; exact this
      have := nodup_le (m := S.ks ++ W.keys) (asc_nodup ha) (fun k hm => by
        have h5 := (q1.mem k).1 hm
        by_cases hw : k ∈ W.keys
        · exact List.mem_append_right _ hw
        · rw [D.kout k hw] at h5
          exact List.mem_append_left _ ((G.st.mem k).2 h5))
      rw [List.length_append] at this
      omega
  · by_cases hk : W.keys = []
    · rw [doneS_none hk]; omega
    · have e1 : doneS S W = takeS S W W.keys.length := if_neg hk
      rw [e1]
      have h5 := layAll_nth (chG W) ((S.rev : Int) + 1) (W.keys.take W.keys.length) (nextS S W.keys)
      rw [List.take_length] at h5
      have h6 : (takeS S W W.keys.length).nth ≤ S.nth + W.keys.length := by
        unfold takeS
        rw [List.take_length]
        exact h5
      omega
  · intro r
    by_cases hk : W.keys = []
    · rw [doneS_none hk]; exact G.lgl r
    · rw [(doneS_df hk hnd).lg]
      split
      · omega
      · exact G.lgl r
  · rcases q3 k hk with (e | e) | e
    · exact .inl e
    · exact .inr (h3 k e)
    · exact .inr (Nat.le_trans h2.size e)
theorem gs_compact (G : GS n w s S g o i) (hi : i ≤ 90) (c : Nat) (_h1 : 1 ≤ c) (h2 : c ≤ S.rev) (h3 : S.past < c) : Calls Tryz.prog 28 #[ptr s, .int .i64 c] w fun e w' => e = .returned (.int .i64 0) ∧ Hid (∃ g', GS n w' s (compS S c) g' o i ∧ KpM w w' s g g') := by
  have hn := G.n
  have hrev := G.rev
  have hchg : ∀ j, (chg S j).length ≤ 30 * j := fun j => by
    induction j with
    | zero => simp [chg]
    | succ j ih => rw [chg_succ, List.length_append]; have := G.lgl ((S.past : Int) + 1 + j); omega
  refine (compact_any G.st G.la (by omega) c (c - S.past) (by omega) (by omega) (by omega) (by omega) (Nat.le_trans (hchg (c - S.past)) (by omega))).mono ?_
  rintro e w' ⟨rfl, g', q1, q2, q3⟩
  refine ⟨rfl, g', ⟨q1, hn, hrev, ?_, G.nth, fun r => ?_, q3⟩, q2⟩
  · show (S.ks.filter _).length ≤ _
    exact Nat.le_trans (List.length_filter_le _ _) G.ks
  · show (if r ≤ (c : Int) then [] else S.lg r).length ≤ 30
    split
    · simp
    · exact G.lgl r
end
end Go.Proofs.YtjdmgmnndfhmgaaGreat
/- What a watcher was told, and what it is yet to be told. -/
namespace Go.Proofs.YtjdmgmnndfhmgaaGreat
open Go Go.RowKit
/-- A watcher from f on, of which al are the changes and told what it was told; L: it may lag. -/
structure FI (S : Sto) (x : Wd) (lo hi : ByteArray) (f : Int) (al told : List Evd) (L : Prop) : Prop where
  elo : x.lo = lo
  ehi : x.hi = hi
  one : 1 ≤ f
  fin : x.fin = 0 ∨ x.fin = 14 ∨ x.fin = 16
  bad : x.fin ≠ 0 → L
  past : S.past ≠ 0 → L
  beh : x.fd = false → f ≤ x.place ∧ (x.place = f ∨ x.place ≤ (S.rev : Int) + 1) ∧ ((S.past : Int) < x.place → al = told ++ newsL S lo hi x.place) ∧ ∃ R, al = told ++ R
  fed : x.fd = true → ∃ R, al = told ++ x.buf ++ R ∧ (x.fin = 0 → R = [] ∧ x.place = max f ((S.rev : Int) + 1))
/-- The changes of one revision that belong to a watcher. -/
def mine (lo hi : ByteArray) (f : Int) (e : Evd) : Bool := decide (f ≤ e.1) && heard lo hi e
section
variable {S S' : Sto} {x : Wd} {lo hi : ByteArray} {f : Int} {al told : List Evd} {L L' : Prop} {W : Wri} {g : Sg}
theorem newsL_none {p : Int} (h : (S.rev : Int) < p) : newsL S lo hi p = [] := by
  unfold newsL sinceL
  have e : ((S.rev : Int) + 1 - p).toNat = 0 := by omega
  rw [e]
  simp [evN]
theorem mine_evs (S : Sto) (r : Int) : (evAt S r).filter (mine lo hi f) = if f ≤ r then (evAt S r).filter (heard lo hi) else [] := by
  by_cases h : f ≤ r
  · rw [if_pos h]
    refine List.filter_congr fun e he => ?_
    unfold mine
    rw [evAt_rev he, decide_eq_true h, Bool.true_and]
  · rw [if_neg h, List.filter_eq_nil_iff]
    intro e he
    unfold mine
    rw [evAt_rev he, decide_eq_false h, Bool.false_and]
    decide
theorem FI.mono (H : FI S x lo hi f al told L) (h : L → L') : FI S x lo hi f al told L' := ⟨H.elo, H.ehi, H.one, H.fin, fun e => h (H.bad e), fun e => h (H.past e), H.beh, H.fed⟩
theorem FI.pre (H : FI S x lo hi f al told L) : ∃ R, al = told ++ R := by
  cases h : x.fd with
  | false => exact (H.beh h).2.2.2
  | true =>
    obtain ⟨R, h1, _⟩ := H.fed h
    exact ⟨x.buf ++ R, by rw [h1, List.append_assoc]⟩
theorem FI.start (hf : 1 ≤ f) : FI noS ⟨lo, hi, max f 1, false, [], 0⟩ lo hi f [] [] L := by
  have e : (noS.rev : Int) = 0 := rfl
  refine ⟨rfl, rfl, hf, .inl rfl, fun h => absurd rfl h, fun h => absurd rfl h, fun _ => ⟨?_, ?_, fun _ => ?_, [], rfl⟩, fun h => (by cases h)⟩
  · show f ≤ max f 1; omega
  · show max f 1 = f ∨ _; omega
  · show [] = [] ++ newsL noS lo hi (max f 1)
    rw [newsL_none (by omega)]
    rfl
theorem FI.same (H : FI S x lo hi f al told L) (hp : S.past ≤ S.rev) : FI S (feedX S x) lo hi f al told (L ∨ 16 < al.length - told.length) := by
  unfold feedX
  by_cases h : x.fd = true ∧ x.fin = 0
  · obtain ⟨R, h1, h2⟩ := H.fed h.1
    obtain ⟨rfl, h3⟩ := h2 h.2
    rw [List.append_nil] at h1
    have hn : newsL S x.lo x.hi x.place = [] := newsL_none (by omega)
    rw [if_pos h, if_neg (by omega), hn]
    split
    · rename_i h4
      refine ⟨H.elo, H.ehi, H.one, .inr (.inl rfl), fun _ => .inr ?_, fun e => .inl (H.past e), fun e => ?_, fun _ => ⟨[], by rw [List.append_nil]; exact h1, fun e => ?_⟩⟩
      · rw [h1, List.length_append]
        simp only [List.length_nil, Nat.add_zero] at h4
        omega
      · first | cases e | (have e : x.fd = false := e; rw [h.1] at e; cases e)
      · have e : (14 : Int) = 0 := e
        omega
    · refine ⟨H.elo, H.ehi, H.one, .inl h.2, fun e => absurd h.2 e, fun e => .inl (H.past e), fun e => ?_, fun _ => ⟨[], by rw [List.append_nil]; show al = told ++ (x.buf ++ []); rw [List.append_nil]; exact h1, fun _ => ⟨rfl, ?_⟩⟩⟩
      · first | cases e | (have e : x.fd = false := e; rw [h.1] at e; cases e)
      · show max x.place ((S.rev : Int) + 1) = _
        omega
  · rw [if_neg h]
    exact H.mono .inl
theorem FI.done (H : FI S x lo hi f al told L) (D : DF S S' W) (hL : LgOk S g) (hp : S.past ≤ S.rev) :
    FI S' (feedX S' x) lo hi f (al ++ (evAt S' ((S.rev : Int) + 1)).filter (mine lo hi f)) told (L ∨ 16 < (al ++ (evAt S' ((S.rev : Int) + 1)).filter (mine lo hi f)).length - told.length) := by
  rw [mine_evs]
  have hnd := fun (p : Int) (hp : (S.past : Int) < p) => newsL_done (S' := S') D hL lo hi hp
  have hr : (S'.rev : Int) = (S.rev : Int) + 1 := by rw [D.rev]; omega
  have hpp : S'.past = S.past := D.past
  unfold feedX
  cases hfd : x.fd with
  | false =>
    rw [if_neg (by simp)]
    obtain ⟨b1, b2, b3, R, b4⟩ := H.beh hfd
    refine ⟨H.elo, H.ehi, H.one, H.fin, fun e => .inl (H.bad e), fun e => .inl (H.past (by rw [hpp] at e; exact e)), fun _ => ⟨b1, ?_, fun h => ?_, ?_⟩, fun e => (by rw [hfd] at e; cases e)⟩
    · rcases b2 with h | h
      · exact .inl h
      · exact .inr (by omega)
    · rw [hpp] at h
      rw [b3 h, hnd _ h, List.append_assoc]
      congr 2
      by_cases h5 : f ≤ (S.rev : Int) + 1
      · rw [if_pos h5, if_pos (by omega)]
      · rw [if_neg h5, if_neg (by omega)]
    · exact ⟨R ++ _, by rw [b4, List.append_assoc]⟩
  | true =>
    obtain ⟨R, h1, h2⟩ := H.fed hfd
    by_cases h0 : x.fin = 0
    · obtain ⟨rfl, h3⟩ := h2 h0
      rw [List.append_nil] at h1
      have hn : newsL S' x.lo x.hi x.place = if f ≤ (S.rev : Int) + 1 then (evAt S' ((S.rev : Int) + 1)).filter (heard lo hi) else [] := by
        rw [H.elo, H.ehi, hnd _ (by omega), newsL_none (by omega), List.nil_append]
        by_cases h5 : f ≤ (S.rev : Int) + 1
        · rw [if_pos h5, if_pos (by omega)]
        · rw [if_neg h5, if_neg (by omega)]
      rw [if_pos ⟨rfl, h0⟩, if_neg (by rw [hpp]; omega), hn]
      generalize (if f ≤ (S.rev : Int) + 1 then (evAt S' ((S.rev : Int) + 1)).filter (heard lo hi) else []) = N
      split
      · rename_i h4
        refine ⟨H.elo, H.ehi, H.one, .inr (.inl rfl), fun _ => .inr ?_, fun e => .inl (H.past (by rw [hpp] at e; exact e)), fun e => ?_, fun _ => ⟨N, by rw [h1], fun e => ?_⟩⟩
        · rw [h1, List.length_append, List.length_append]
          omega
        · first | cases e | (have e : x.fd = false := e; rw [hfd] at e; cases e)
        · have e : (14 : Int) = 0 := e
          omega
      · refine ⟨H.elo, H.ehi, H.one, .inl h0, fun e => absurd h0 e, fun e => .inl (H.past (by rw [hpp] at e; exact e)), fun e => ?_, fun _ => ⟨[], by rw [h1, List.append_nil, List.append_assoc], fun _ => ⟨rfl, ?_⟩⟩⟩
        · first | cases e | (have e : x.fd = false := e; rw [hfd] at e; cases e)
        · show max x.place ((S'.rev : Int) + 1) = _
          omega
    · rw [if_neg (fun e => h0 e.2)]
      exact ⟨H.elo, H.ehi, H.one, H.fin, fun e => .inl (H.bad e), fun e => .inl (H.bad h0), fun e => (by rw [hfd] at e; cases e), fun _ => ⟨R ++ _, by rw [h1, List.append_assoc], fun e => absurd e h0⟩⟩
theorem FI.poll (H : FI S x lo hi f al told L) (mo : Int) (he : pollE S x = 0) : FI S (pollX S x mo) lo hi f al (told ++ pollL S x mo) L := by
  unfold pollX pollL
  unfold pollE at he
  cases hfd : x.fd with
  | true =>
    rw [hfd] at he
    obtain ⟨R, h1, h2⟩ := H.fed hfd
    dsimp only
    refine ⟨H.elo, H.ehi, H.one, H.fin, H.bad, H.past, fun e => ?_, fun _ => ⟨R, ?_, h2⟩⟩
    · first | cases e | (have e : x.fd = false := e; rw [hfd] at e; cases e)
    · show al = told ++ x.buf.take mo.toNat ++ x.buf.drop mo.toNat ++ R
      rw [List.append_assoc told, List.take_append_drop]
      exact h1
  | false =>
    rw [hfd] at he
    dsimp only at he ⊢
    obtain ⟨b1, b2, b3, R, b4⟩ := H.beh hfd
    have hp : ¬ x.place ≤ (S.past : Int) := fun h => by rw [if_pos h] at he; cases he
    rw [if_neg hp, if_neg hp]
    rw [H.elo, H.ehi]
    have b5 := b3 (by omega)
    obtain ⟨N, hN⟩ : ∃ N, N = newsL S lo hi x.place := ⟨_, rfl⟩
    rw [← hN] at b5 ⊢
    split
    · rename_i h
      rw [h, List.take_length]
      refine ⟨rfl, rfl, H.one, .inl rfl, fun e => absurd rfl e, H.past, fun e => (by cases e), fun _ => ⟨[], by rw [b5]; simp, fun _ => ⟨rfl, ?_⟩⟩⟩
      show max x.place ((S.rev : Int) + 1) = _
      omega
    · rename_i h
      have hle := wholeN_le mo N
      obtain ⟨e, e1, e2, e3, e4⟩ := news_next S lo hi x.place mo (wholeN mo N) N hN rfl (by omega)
      have epl : placeN S x.place N (wholeN mo N) = e.1 + 1 := by
        unfold placeN
        rw [if_neg h, e1]
        rfl
      rw [epl]
      refine ⟨rfl, rfl, H.one, H.fin, H.bad, H.past, fun _ => ⟨?_, .inr ?_, fun _ => ?_, N.drop (wholeN mo N), ?_⟩, fun e => ?_⟩
      · show f ≤ e.1 + 1; omega
      · show e.1 + 1 ≤ (S.rev : Int) + 1; omega
      · show al = told ++ N.take (wholeN mo N) ++ newsL S lo hi (e.1 + 1)
        rw [e4, List.append_assoc, List.take_append_drop]
        exact b5
      · rw [List.append_assoc, List.take_append_drop]
        exact b5
      · first | cases e | (have e : x.fd = true := e; rw [hfd] at e; cases e)
theorem FI.pollEnd (H : FI S x lo hi f al told L) (mo : Int) (he : pollE S x ≠ 0) : (pollE S x = 14 ∨ pollE S x = 16) ∧ pollL S x mo = [] ∧ L := by
  unfold pollE at he ⊢
  unfold pollL
  cases hfd : x.fd with
  | true =>
    rw [hfd] at he
    dsimp only at he ⊢
    by_cases hb : x.buf = []
    · rw [if_pos hb] at he ⊢
      rw [hb]
      have := H.fin
      exact ⟨by omega, by simp, H.bad he⟩
    · rw [if_neg hb] at he
      exact absurd rfl he
  | false =>
    rw [hfd] at he
    dsimp only at he ⊢
    by_cases hp : x.place ≤ (S.past : Int)
    · rw [if_pos hp, if_pos hp]
      obtain ⟨b1, _⟩ := H.beh hfd
      have := H.one
      exact ⟨.inr rfl, rfl, H.past (by omega)⟩
    · rw [if_neg hp] at he
      exact absurd rfl he
theorem FI.comp (H : FI S x lo hi f al told L) (hL : LgAll S g) (hok : ∀ k, HOk k S.rev (S.kh k)) (c : Nat) (hc : S.past ≤ c) (hl : L') : FI (compS S c) x lo hi f al told L' := by
  refine ⟨H.elo, H.ehi, H.one, H.fin, fun _ => hl, fun _ => hl, fun e => ?_, H.fed⟩
  obtain ⟨b1, b2, b3, b4⟩ := H.beh e
  refine ⟨b1, b2, fun h => ?_, b4⟩
  have h : (c : Int) < x.place := h
  rw [newsL_comp hL hok c hc lo hi h]
  exact b3 (by omega)
theorem FI.last (H : FI S x lo hi f al told L) (hl : ¬ L) (h16 : al.length - told.length ≤ 16) : pollE S x = 0 ∧ told ++ pollL S x 100 = al := by
  have h0 : S.past = 0 := Nat.eq_zero_of_not_pos (fun e => hl (H.past (by omega)))
  have hf0 : x.fin = 0 := by
    rcases H.fin with h | h | h
    · exact h
    · exact absurd (H.bad (by omega)) hl
    · exact absurd (H.bad (by omega)) hl
  have h1 := H.one
  unfold pollE pollL
  cases hfd : x.fd with
  | true =>
    obtain ⟨R, e1, e2⟩ := H.fed hfd
    obtain ⟨rfl, _⟩ := e2 hf0
    rw [List.append_nil] at e1
    rw [e1, List.length_append] at h16
    dsimp only
    refine ⟨by
      split
      · exact hf0
      · rfl, ?_⟩
    have e100 : (100 : Int).toNat = 100 := rfl
    rw [e100, List.take_of_length_le (by omega), e1]
  | false =>
    obtain ⟨b1, b2, b3, R, b4⟩ := H.beh hfd
    have hp : ¬ x.place ≤ (S.past : Int) := by omega
    dsimp only
    rw [if_neg hp, if_neg hp, H.elo, H.ehi]
    have b5 := b3 (by omega)
    refine ⟨rfl, ?_⟩
    have hlen : (newsL S lo hi x.place).length ≤ 16 := by rw [b5, List.length_append] at h16; omega
    rw [wholeN_all 100 _ (by omega), List.take_length]
    exact b5.symm
end
end Go.Proofs.YtjdmgmnndfhmgaaGreat
