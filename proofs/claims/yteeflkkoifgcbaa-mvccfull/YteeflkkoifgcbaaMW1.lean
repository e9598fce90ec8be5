/- A store that one write of puts has made: its calls in the law's words. -/
import Derived.Test.YteeflkkoifgcbaaMV2
namespace Go.Proofs.Yteeflkkoifgcbaa
open Go Go.RowKit

def nkv (k : ByteArray) : KVd := ⟨k, ByteArray.empty, 1, 1, 1, 0⟩
/-- An open write of puts of ks upon a new store; the law's own row of texts beside it. -/
def R1 (w0 w : World) (s b : Nat) (ks : List ByteArray) (v : Value) (vs : List ByteArray) : Prop :=
  ∃ g W hw, Ow 0 w s b noS W g hw ∧ Below w0.heap.size w0 w ∧ (∀ j, ftS s g j → w0.heap.size ≤ j) ∧ (∀ j, ftW b hw j → w0.heap.size ≤ j) ∧
    W.keys = ks ∧ (∀ k, W.ch k = if hasK ks k then some (some (nkv k)) else none) ∧ W.count = ks.length ∧ Wok noS W ∧
    w.ownsRow w0.heap.size 9 1 v vs.length (strs vs) ∧ ∀ k, v.ownBlock = some k → ¬ ftS s g k ∧ ¬ ftW b hw k
theorem R1.below {w0 w : World} {s b : Nat} {ks vs : List ByteArray} {v : Value} (H : R1 w0 w s b ks v vs) : Below w0.heap.size w0 w := by
  obtain ⟨g, W, hw, h1, h2, -⟩ := H
  exact h2
theorem R1.row {w0 w : World} {s b : Nat} {ks vs : List ByteArray} {v : Value} (H : R1 w0 w s b ks v vs) : w.ownsRow w0.heap.size 9 1 v vs.length (strs vs) := by
  obtain ⟨g, W, hw, h1, h2, h3, h4, h5, h6, h7, h8, h9, h10⟩ := H
  exact h9
theorem hasK_snoc (ks : List ByteArray) (key k : ByteArray) : hasK (ks ++ [key]) k = (hasK ks k || decide (key = k)) := by
  unfold hasK
  rw [List.any_append]
  simp
theorem r1_start (w0 w : World) {s : Nat} {g : Sg} {o : Value} (hb : Below w0.heap.size w0 w) (h : St 0 w s noS g o) (hf : ∀ k, ftS s g k → w0.heap.size ≤ k) : Calls Try.prog 9 #[ptr s] w fun e w' => ∃ b, e = .returned (ptr b) ∧ Hid (R1 w0 w' s b [] (.slice none 0 0) []) := by
  refine (write_st h).mono ?_
  rintro e w' ⟨rfl, hO, hu⟩
  refine ⟨_, rfl, g, _, _, hO, hb.trans (hu.below hb.size (fun j hj e => by have := hf j (.inl e); omega)), hf, ?_, rfl, fun k => rfl, rfl, fun j c hc => (by cases hc), World.ownsRow_nil _ _ _ _, fun k hk => by cases hk⟩
  rintro j (rfl | rfl | hj)
  · exact Nat.le_succ_of_le hb.size
  · exact hb.size
  · cases hj
def putR (ks : List ByteArray) (key : ByteArray) : Int := if ¬ (0 < key.size ∧ key.size ≤ 100) then 1 else if hasK ks key then 18 else 0
theorem R1.put {w0 w : World} {s b : Nat} {ks vs : List ByteArray} {v : Value} (H : R1 w0 w s b ks v vs) (hk : ks.length ≤ 4095) (key : ByteArray) (hkl : key.size ≤ 9223372036854775807) :
    Calls Try.prog 10 #[ptr b, .string key, .string ByteArray.empty, .int .i64 0] w fun e w' => e = .returned (.int .i64 (putR ks key)) ∧ Hid (R1 w0 w' s b (if putR ks key = 0 then ks ++ [key] else ks) v vs) := by
  have H0 := H
  obtain ⟨g, W, hw, h1, h2, h3, h4, h5, h6, h7, h8, h9, h10⟩ := H
  by_cases hsz : 0 < key.size ∧ key.size ≤ 100
  · by_cases hm : hasK ks key = true
    · have e1 : putR ks key = 18 := by unfold putR; rw [if_neg (fun h => h hsz), if_pos hm]
      rw [e1, if_neg (by decide)]
      refine (wput_twice h1 key ByteArray.empty 0 hkl (by show 0 ≤ _; omega) hsz (by decide) (by show ¬ 4096 < 0; omega) (o := some (nkv key)) (by rw [h6, if_pos hm])).mono ?_
      rintro e w' ⟨rfl, rfl⟩
      exact ⟨rfl, H0⟩
    · have e1 : putR ks key = 0 := by unfold putR; rw [if_neg (fun h => h hsz), if_neg hm]
      rw [e1, if_pos rfl]
      have hch : W.ch key = none := by rw [h6, if_neg hm]
      refine (wput_new h1 key ByteArray.empty 0 hsz (by show ¬ 4096 < 0; omega) (by decide) hch (by rw [h5]; omega) (by decide) rfl (by rw [h7]; omega)).mono ?_
      rintro e w' ⟨rfl, h', q1, q2⟩
      refine ⟨rfl, g, _, h', q1, h2.trans (q2.1.below h2.size (fun j hj e => by have := h4 j e; omega)), h3, fun j hj => (q2.2 j hj).elim (h4 j) (fun e => Nat.le_trans h2.size e), ?_, ?_, ?_, ?_, ownsRow_upd h9 q2.1 (fun k hk => (h10 k hk).2), fun k hk => ⟨(h10 k hk).1, fun hf => (q2.2 k hf).elim (h10 k hk).2 (fun e => by have := (h9.lt k hk).2; omega)⟩⟩
      · show W.keys ++ [key] = ks ++ [key]
        rw [h5]
      · intro k
        show (if k = key then some (some _) else W.ch k) = _
        rw [hasK_snoc, h6]
        by_cases e : k = key
        · subst e; simp [nkv, noS]
        · have : ¬ key = k := fun h => e h.symm
          simp [e, this]
      · show W.count + 1 = _
        rw [h7]; simp
      · intro k c hc
        have hc' : (if k = key then some (some _) else W.ch k) = some c := hc
        by_cases e : k = key
        · subst e
          rw [if_pos rfl] at hc'
          cases hc'
          refine ⟨hsz, fun v hv => ?_, fun hv => by cases hv⟩
          cases hv
          exact ⟨rfl, rfl, by show (1 : Int) ≤ 0 + 1; decide, by show (0 : Int) + 1 ≤ ((0 : Nat) : Int) + 1; decide⟩
        · rw [if_neg e] at hc'
          exact h8 k c hc'
  · have e1 : putR ks key = 1 := by unfold putR; rw [if_pos hsz]
    rw [e1, if_neg (by decide)]
    refine (wput_arg h1 key ByteArray.empty 0 hkl (.inl hsz)).mono ?_
    rintro e w' ⟨rfl, rfl⟩
    exact ⟨rfl, H0⟩
/-- The law's row has grown. -/
theorem R1.app {w0 w w1 w2 : World} {s b : Nat} {ks vs vs' : List ByteArray} {v v' : Value} (H : R1 w0 w s b ks v vs) (hb : Below w.heap.size w w1) (hu : Upd w1 w2 (fun k => some k = v.ownBlock)) (hv : v'.ownBlock = v.ownBlock ∨ v'.ownBlock = some w1.heap.size) (ho : w2.ownsRow w0.heap.size 9 1 v' vs'.length (strs vs')) : R1 w0 w2 s b ks v' vs' := by
  obtain ⟨g, W, hw, h1, h2, h3, h4, h5, h6, h7, h8, h9, h10⟩ := H
  have hO1 := h1.below hb
  have hst := hO1.st.upd hu (fun k hk e => (h10 k e.symm).1 hk)
  have hwr := hO1.wr.upd hu (fun k hk e => (h10 k e.symm).2 hk)
  have hb1 : Below w0.heap.size w0 w1 := h2.trans (hb.mono h2.size)
  refine ⟨g, W, hw, ⟨hst, hwr, h1.ap⟩, hb1.trans (hu.below hb1.size (fun j hj e => by have := (h9.lt j e.symm).1; omega)), h3, h4, h5, h6, h7, h8, ho, fun k hk => ?_⟩
  rcases hv with e | e
  · exact h10 k (by rw [← e]; exact hk)
  · rw [e] at hk
    cases hk
    have hz := hb.size
    exact ⟨fun hf => by have := h1.st.lt hf; omega, fun hf => by have := h1.wr.lt hf; omega⟩
/-- The store that the write has made. -/
def R2 (w0 w : World) (s : Nat) (ks : List ByteArray) (v : Value) (vs : List ByteArray) : Prop :=
  ∃ n g o S, n ≤ ks.length ∧ St n w s S g o ∧ S.past = 0 ∧ (S.rev = 0 ∨ S.rev = 1) ∧ (∀ k, S.kh k = if hasK ks k then [(1, some (nkv k))] else []) ∧ (hasK ks = (fun _ => false) ∨ S.rev = 1) ∧ Below w0.heap.size w0 w ∧ w.ownsRow w0.heap.size 9 1 v vs.length (strs vs) ∧ S.nth = ks.length ∧ ∀ j, ftS s g j → w0.heap.size ≤ j
theorem layAll_nth (f : ByteArray → Option KVd) (r : Int) : ∀ {l : List ByteArray} {S : Sto}, l.Nodup → (∀ k ∈ l, (f k).isSome = true ∧ thereH (S.kh k) = none) → (layAll f r S l).nth = S.nth + l.length
  | [], _, _, _ => rfl
  | k :: l, S, hn, h => by
    obtain ⟨h1, h2⟩ := List.nodup_cons.1 hn
    obtain ⟨q1, q2⟩ := h k (by simp)
    have := layAll_nth f r (l := l) (S := layS S r k (f k)) h2 (fun j hj => ⟨(h j (List.mem_cons_of_mem _ hj)).1, by
      have hne : ¬ j = k := fun e => h1 (by rw [← e]; exact hj)
      rw [layS_other _ _ _ hne]; exact (h j (List.mem_cons_of_mem _ hj)).2⟩)
    have e : (layS S r k (f k)).nth = S.nth + 1 := by
      show (if (f k).isSome then (if (thereH (S.kh k)).isSome then S.nth else S.nth + 1) else _) = _
      rw [q1, q2]; rfl
    rw [e] at this
    show (layAll f r (layS S r k (f k)) l).nth = _
    rw [this, List.length_cons]
    omega
theorem R1.done {w0 w : World} {s b : Nat} {ks vs : List ByteArray} {v : Value} (H : R1 w0 w s b ks v vs) (hk : ks.length ≤ 5000) : Calls Try.prog 12 #[ptr b] w fun e w' => e = .returned (.int .i64 (if ks = [] then 0 else 1)) ∧ Hid (R2 w0 w' s ks v vs) ∧ Hid ks.Nodup := by
  obtain ⟨g, W, hw, h1, h2, h3, h4, h5, h6, h7, h8, h9, h10⟩ := H
  have hnd : ks.Nodup := by rw [← h5]; exact h1.wr.nd
  refine (done_st h1 h8 (by rw [h5]; omega) (by decide)).mono ?_
  rintro e w' ⟨rfl, g', q1, q2, q3⟩
  have hb' : Below w0.heap.size w0 w' := h2.trans (q2.below h2.size (fun j hj e => e.elim (fun e => by have := h3 j e; omega) (fun e => by have := h4 j e; omega)))
  have hrow := ownsRow_upd h9 q2 (fun k hk e => e.elim (h10 k hk).1 (h10 k hk).2)
  have hrv : (doneS noS W).rev = if ks = [] then 0 else 1 := by
    unfold doneS
    rw [h5]
    split
    · rfl
    · rw [← h5]; exact (takeS_rev noS W _).1
  have hf' : ∀ j, ftS s g' j → w0.heap.size ≤ j := fun j hj => by
    rcases q3 j hj with (e | e) | e
    · exact h3 j e
    · exact h4 j e
    · exact Nat.le_trans h2.size e
  refine ⟨by rw [hrv]; split <;> rfl, ⟨0 + W.keys.length, g', _, doneS noS W, by rw [h5]; omega, q1, ?_, ?_, ?_, ?_, hb', hrow, ?_, hf'⟩, hnd⟩
  · unfold doneS; split
    · rfl
    · exact (takeS_rev noS W _).2.1
  · unfold doneS; split
    · exact .inl rfl
    · exact .inr (takeS_rev noS W _).1
  · intro k
    by_cases e : W.keys = []
    · have e1 : doneS noS W = noS := if_pos e
      have e2 : hasK ks k = false := by rw [← h5, e]; rfl
      rw [e1, e2]; rfl
    · have e1 : doneS noS W = takeS noS W W.keys.length := if_neg e
      rw [e1]
      unfold takeS
      rw [List.take_length]
      by_cases hm : hasK ks k = true
      · rw [if_pos hm, layAll_in _ _ (by rw [h5]; exact hnd) (by rw [h5]; exact hasK_iff.1 hm)]
        have : chG W k = some (nkv k) := by unfold chG; rw [h6, if_pos hm]; rfl
        rw [this]; rfl
      · rw [if_neg hm, layAll_not _ _ (by rw [h5]; exact fun h => hm (hasK_iff.2 h))]
        rfl
  · by_cases e : W.keys = []
    · left
      funext k
      rw [← h5, e]; rfl
    · right
      have e1 : doneS noS W = takeS noS W W.keys.length := if_neg e
      rw [e1]
      exact (takeS_rev noS W _).1
  · by_cases e : W.keys = []
    · have e1 : doneS noS W = noS := if_pos e
      rw [e1, ← h5, e]; rfl
    · have e1 : doneS noS W = takeS noS W W.keys.length := if_neg e
      rw [e1]
      unfold takeS
      rw [List.take_length, layAll_nth _ _ (by rw [h5]; exact hnd) (fun k hk => ⟨by unfold chG; rw [h6, if_pos (hasK_iff.2 (h5 ▸ hk))]; rfl, rfl⟩), h5]
      show 0 + _ = _
      omega
theorem nodup_le : ∀ {l m : List ByteArray}, l.Nodup → (∀ a ∈ l, a ∈ m) → l.length ≤ m.length
  | [], _, _, _ => Nat.zero_le _
  | a :: l, m, hn, h => by
    obtain ⟨h1, h2⟩ := List.nodup_cons.1 hn
    obtain ⟨A, B, rfl⟩ := List.append_of_mem (h a (by simp))
    have := nodup_le (l := l) (m := A ++ B) h2 (fun x hx => by
      have := h x (List.mem_cons_of_mem _ hx)
      simp only [List.mem_append, List.mem_cons] at this ⊢
      rcases this with h' | rfl | h'
      · exact .inl h'
      · exact absurd hx h1
      · exact .inr h')
    simp only [List.length_append, List.length_cons] at this ⊢
    omega
theorem nodup_len {l m : List ByteArray} (hl : l.Nodup) (hm : m.Nodup) (h : ∀ a, a ∈ l ↔ a ∈ m) : l.length = m.length := Nat.le_antisymm (nodup_le hl (fun a ha => (h a).1 ha)) (nodup_le hm (fun a ha => (h a).2 ha))
/-- The keys that a range tells. -/
structure Tk (ks : List ByteArray) (lo hi : ByteArray) (T : List ByteArray) : Prop where
  asc : Asc T
  len : T.length = (ks.filter (inR lo hi)).length
  inr : ∀ k ∈ T, inR lo hi k = true
theorem R2.range {w0 w : World} {s : Nat} {ks vs : List ByteArray} {v : Value} (H : R2 w0 w s ks v vs) (hnd : ks.Nodup) (hk : ks.length ≤ 1000) (lo hi : ByteArray) (limit : Int) (hl : lo.size ≤ 140737488355328) (hh : hi.size ≤ 140737488355328) :
    Calls Try.prog 15 #[ptr s, .string lo, .string hi, .int .i64 0, .int .i64 limit] w fun e w' => ∃ T p c, Hid (Tk ks lo hi T) ∧ e = .returned (.tuple #[.slice p (toldL limit (T.map nkv)).length c, .int .i64 T.length, .int .i64 0]) ∧ Hid (w'.ownsRow w.heap.size 56 6 (.slice p (toldL limit (T.map nkv)).length c) (toldL limit (T.map nkv)).length (kvsC (toldL limit (T.map nkv)))) ∧ Hid (w'.ownsRow w0.heap.size 9 1 v vs.length (strs vs) ∧ Below w0.heap.size w0 w') := by
  obtain ⟨n, g, o, S, h1, h2, h3, h4, h5, h6, h7, h8, -⟩ := H
  have hro := range_ok h2 (by omega) lo hi 0 limit hl hh (by omega) (by omega) (.inl rfl)
  have hmem : ∀ k, k ∈ S.ks ↔ k ∈ ks := fun k => by
    rw [h2.mem k, h5 k]
    by_cases e : hasK ks k = true
    · rw [if_pos e]; simp [hasK_iff.1 e]
    · rw [if_neg e]
      have hn : k ∉ ks := fun h => e (hasK_iff.2 h)
      simp [hn]
  have hasc : Asc S.ks := by have := h2.bd.asc; rw [datS_keys] at this; exact this
  have hv : rangeV S lo hi 0 = (rangeK S lo hi).map nkv := by
    unfold rangeV
    have e1 : revOf S 0 = S.rev := if_pos rfl
    rw [e1]
    have : ∀ l : List ByteArray, (∀ k ∈ l, k ∈ S.ks) → l.filterMap (fun k => atH (S.kh k) S.rev) = l.map nkv := by
      intro l
      induction l with
      | nil => intro _; rfl
      | cons k l ih =>
        intro hl
        have hk1 : hasK ks k = true := hasK_iff.2 ((hmem k).1 (hl k (by simp)))
        have hr1 : S.rev = 1 := h6.resolve_left (fun e => by rw [e] at hk1; cases hk1)
        have ha : atH (S.kh k) S.rev = some (nkv k) := by
          rw [h5 k, if_pos hk1, hr1]
          rfl
        rw [List.filterMap_cons, ha, List.map_cons, ih (fun j hj => hl j (List.mem_cons_of_mem _ hj))]
    exact this _ (fun k hk => (List.mem_filter.1 hk).1)
  rw [hv] at hro
  refine hro.mono ?_
  rintro e w' ⟨p, c, rfl, hK⟩
  refine ⟨rangeK S lo hi, p, c, ⟨asc_sublist List.filter_sublist hasc, ?_, fun k hk => (List.mem_filter.1 hk).2⟩, by rw [List.length_map], hK.out.1, ownsRow_upd h8 (Upd.ofBelow (S := fun _ => False) hK.out.2) (fun _ _ h => h), h7.trans (hK.out.2.mono h7.size)⟩
  unfold rangeK
  refine nodup_len (asc_nodup (asc_sublist List.filter_sublist hasc)) (hnd.sublist List.filter_sublist) (fun a => ?_)
  rw [List.mem_filter, List.mem_filter, hmem a]
end Go.Proofs.Yteeflkkoifgcbaa
