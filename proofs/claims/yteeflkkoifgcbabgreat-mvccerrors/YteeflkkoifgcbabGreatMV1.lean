/- A store of one key: its calls in the laws' words. -/
import Derived.Test.YteeflkkoifgcbabGreatMR3
namespace Go.Proofs.YteeflkkoifgcbabGreat
open Go Go.RowKit

/-- A store as data that knows one key at most. -/
structure One (S : Sto) (k : ByteArray) (rv : Nat) (h : Hs) : Prop where
  rev : S.rev = rv
  past : S.past = 0
  kh : S.kh k = h
  no : ∀ j, ¬ j = k → S.kh j = []
  nth : S.nth = if (thereH h).isSome then 1 else 0
/-- Such a store in memory. -/
def V1 (w0 w : World) (s : Nat) (k : ByteArray) (rv : Nat) (h : Hs) : Prop := ∃ n g o S, n ≤ rv ∧ St n w s S g o ∧ One S k rv h ∧ Below w0.heap.size w0 w ∧ ∀ j, ftS s g j → w0.heap.size ≤ j
def nx (rv : Nat) : Option (Option KVd) → Nat
  | none => rv
  | some _ => rv + 1
def nh (rv : Nat) (h : Hs) : Option (Option KVd) → Hs
  | none => h
  | some x => h ++ [((rv : Int) + 1, x)]
def ky (k : ByteArray) : Option (Option KVd) → List ByteArray
  | none => []
  | some _ => [k]
def cu : Option (Option KVd) → Int
  | none => 100
  | some _ => 200
def cl : Option (Option KVd) → Int
  | none => 0
  | some _ => -100
/-- It with an open write, which has changed the key, or not. -/
def V1o (w0 w : World) (s b : Nat) (k : ByteArray) (rv : Nat) (h : Hs) (c : Option (Option KVd)) : Prop :=
  ∃ n g S W hw, n ≤ rv ∧ Ow n w s b S W g hw ∧ One S k rv h ∧ Below w0.heap.size w0 w ∧ (∀ j, ftS s g j → w0.heap.size ≤ j) ∧ (∀ j, ftW b hw j → w0.heap.size ≤ j) ∧
    W.ch k = c ∧ W.keys = ky k c ∧ (∀ j, ¬ j = k → W.ch j = none) ∧ Wok S W ∧ cl c ≤ W.count ∧ W.count ≤ cu c
theorem V1.later {w0 w W : World} {s : Nat} {k : ByteArray} {rv : Nat} {h : Hs} (H : V1 w0 w s k rv h) (hb : Below w.heap.size w W) : V1 w0 W s k rv h := by
  obtain ⟨n, g, o, S, h1, h2, h3, h4, h5⟩ := H
  exact ⟨n, g, o, S, h1, h2.below hb, h3, h4.trans (hb.mono h4.size), h5⟩
theorem V1.below {w0 w : World} {s : Nat} {k : ByteArray} {rv : Nat} {h : Hs} (H : V1 w0 w s k rv h) : Below w0.heap.size w0 w := by
  obtain ⟨n, g, o, S, h1, h2, h3, h4, h5⟩ := H
  exact h4
theorem ks_one {n : Nat} {w : World} {s : Nat} {S : Sto} {g : Sg} {o : Value} (H : St n w s S g o) {k : ByteArray} {rv : Nat} {h : Hs} (O : One S k rv h) : S.ks = if h = [] then [] else [k] := by
  have ha : Asc S.ks := by have := H.bd.asc; rw [datS_keys] at this; exact this
  have hall : ∀ j ∈ S.ks, j = k := fun j hj => Classical.byContradiction fun hn => (H.mem j).1 hj (O.no j hn)
  have hm := H.mem k
  rw [O.kh] at hm
  cases hks : S.ks with
  | nil =>
    rw [hks] at hm
    by_cases e : h = []
    · rw [if_pos e]
    · have := hm.2 e; cases this
  | cons j l =>
    rw [hks] at hm hall ha
    have hj : j = k := hall j (by simp)
    subst hj
    have hl : l = [] := by
      cases l with
      | nil => rfl
      | cons i l =>
        have hi := hall i (by simp)
        have := ha.1 i (by simp)
        rw [hi, klt_irrefl] at this
        cases this
    subst hl
    rw [if_neg (hm.1 (by simp))]
theorem range_one {n : Nat} {w : World} {s : Nat} {S : Sto} {g : Sg} {o : Value} (H : St n w s S g o) {k : ByteArray} {rv : Nat} {h : Hs} (O : One S k rv h) : rangeK S k ByteArray.empty = if h = [] then [] else [k] := by
  unfold rangeK
  rw [ks_one H O]
  split
  · rfl
  · simp [inR]
theorem layS_one {S : Sto} {k : ByteArray} {rv : Nat} {h : Hs} (O : One S k rv h) (c : Option KVd) (hd : c = none → (thereH h).isSome = true) : One (layS (nextS S [k]) ((S.rev : Int) + 1) k c) k (rv + 1) (h ++ [((rv : Int) + 1, c)]) where
  rev := by show S.rev + 1 = _; rw [O.rev]
  past := O.past
  kh := by rw [layS_same]; show S.kh k ++ _ = _; rw [O.kh, O.rev]
  no := fun j hj => by rw [layS_other _ _ _ hj]; exact O.no j hj
  nth := by
    rw [thereH_snoc]
    show (if c.isSome then (if (thereH (S.kh k)).isSome then S.nth else S.nth + 1) else (if (thereH (S.kh k)).isSome then S.nth - 1 else S.nth)) = _
    rw [O.kh, O.nth]
    cases c with
    | none => rw [hd rfl]; rfl
    | some v => cases (thereH h).isSome <;> rfl
theorem V1.write {w0 w : World} {s : Nat} {k : ByteArray} {rv : Nat} {h : Hs} (H : V1 w0 w s k rv h) : Calls Tryz.prog 7 #[ptr s] w fun e w' => ∃ b, e = .returned (ptr b) ∧ Hid (V1o w0 w' s b k rv h none) ∧ Hid (Upd w w' (fun j => j = s) ∧ s < w.heap.size) := by
  obtain ⟨n, g, o, S, h1, h2, h3, h4, h5⟩ := H
  refine (write_st h2).mono ?_
  rintro e w' ⟨rfl, hO, hu⟩
  refine ⟨_, rfl, ⟨n, g, S, _, _, h1, hO, h3, h4.trans (hu.below h4.size (fun j hj e => by have := h5 j (.inl e); omega)), h5, ?_, rfl, rfl, fun _ _ => rfl, fun j c hc => (by cases hc), ?_, ?_⟩, hu, h2.lt (.inl rfl)⟩
  · rintro j (rfl | rfl | hj)
    · exact Nat.le_succ_of_le h4.size
    · exact h4.size
    · cases hj
  · show (0 : Int) ≤ (S.nth : Int); omega
  · show ((S.nth : Nat) : Int) ≤ 100
    rw [h3.nth]
    split <;> decide
section
variable {w0 w : World} {s b : Nat} {k : ByteArray} {rv : Nat} {h : Hs} (hrv : rv ≤ 1000)
include hrv
omit hrv in
theorem V1.rev (H : V1 w0 w s k rv h) : Calls Tryz.prog 13 #[ptr s] w fun e w' => e = .returned (.int .i64 rv) ∧ w' = w := by
  obtain ⟨n, g, o, S, h1, h2, h3, h4, h5⟩ := H
  have := rev_st h2
  rw [h3.rev] at this
  exact this
theorem V1o.done {c : Option (Option KVd)} (H : V1o w0 w s b k rv h c) : Calls Tryz.prog 9 #[ptr b] w fun e w' => e = .returned (.int .i64 (nx rv c)) ∧ Hid (V1 w0 w' s k (nx rv c) (nh rv h c)) := by
  obtain ⟨n, g, S, W, hw, h1, h2, h3, h4, h5, h6, h7, h8, h9, h10, h11, h12⟩ := H
  have hkl : W.keys.length ≤ 1 := by rw [h8]; cases c <;> simp [ky]
  refine (done_st h2 h10 (by omega) (by rw [h3.rev]; omega)).mono ?_
  rintro e w' ⟨rfl, g', q1, q2, q3⟩
  have hb' : Below w0.heap.size w0 w' := h4.trans (q2.below h4.size (fun j hj e => e.elim (fun e => by have := h5 j e; omega) (fun e => by have := h6 j e; omega)))
  have hf' : ∀ j, ftS s g' j → w0.heap.size ≤ j := fun j hj => by
    rcases q3 j hj with (e | e) | e
    · exact h5 j e
    · exact h6 j e
    · exact Nat.le_trans h4.size e
  cases c with
  | none =>
    have e1 : doneS S W = S := if_pos h8
    rw [e1] at q1 ⊢
    refine ⟨by rw [h3.rev]; rfl, n + W.keys.length, g', _, S, ?_, q1, h3, hb', hf'⟩
    rw [h8]; exact h1
  | some x =>
    have h8 : W.keys = [k] := h8
    have e1 : doneS S W = layS (nextS S [k]) ((S.rev : Int) + 1) k x := by
      unfold doneS
      rw [if_neg (by rw [h8]; simp)]
      unfold takeS layAll chG
      rw [h8]
      show layS (nextS S [k]) ((S.rev : Int) + 1) k ((W.ch k).getD none) = _
      rw [h7]
      rfl
    have O := layS_one h3 x (fun e => by have := (h10 k x h7).2.2 e; rw [h3.kh] at this; exact this)
    rw [e1] at q1 ⊢
    refine ⟨by rw [O.rev]; rfl, n + W.keys.length, g', _, _, by rw [h8]; show n + 1 ≤ rv + 1; omega, q1, O, hb', hf'⟩
/-- What a put makes. -/
def putKV (k value : ByteArray) (rv : Nat) (h : Hs) (lease : Int) : KVd := ⟨k, value, ((thereH h).map KVd.create).getD ((rv : Int) + 1), (rv : Int) + 1, ((thereH h).map KVd.version).getD 0 + 1, lease⟩
theorem V1o.put (H : V1o w0 w s b k rv h none) (value : ByteArray) (lease : Int) (hk : 0 < k.size ∧ k.size ≤ 100) (hv : ¬ 4096 < value.size) (hl : ¬ lease < 0) : Calls Tryz.prog 8 #[ptr b, .string k, .string value, .int .i64 lease] w fun e w' => e = .returned (.int .i64 0) ∧ Hid (V1o w0 w' s b k rv h (some (some (putKV k value rv h lease)))) := by
  obtain ⟨n, g, S, W, hw, h1, h2, h3, h4, h5, h6, h7, h8, h9, h10, h11, h12⟩ := H
  have hct : W.count ≤ 100 := h12
  have hcl : 0 ≤ W.count := h11
  have h8 : W.keys = [] := h8
  have hwk : W.keys.length ≤ 100000 := by rw [h8]; simp
  have fin : ∀ (w' : World) (h' : Wg) (W' : Wri) (kv : KVd), W' = W.note k (some kv) ∨ W' = ({ W with count := W.count + 1 } : Wri).note k (some kv) → kv = putKV k value rv h lease → Ow n w' s b S W' g h' → KpW w w' b hw h' → V1o w0 w' s b k rv h (some (some (putKV k value rv h lease))) := by
    intro w' h' W' kv hW hkv hO hK
    subst hkv
    have hver : 1 ≤ (putKV k value rv h lease).version ∧ (putKV k value rv h lease).version ≤ (S.rev : Int) + 1 := by
      unfold putKV
      dsimp only
      rw [h3.rev]
      cases e : thereH h with
      | none => dsimp only [Option.map_none, Option.getD_none]; omega
      | some v =>
        dsimp only [Option.map_some, Option.getD_some]
        obtain ⟨r, hm, _⟩ := thereH_mem e
        rw [← h3.kh] at hm
        obtain ⟨_, _, q1, q2⟩ := (h2.st.hok k).kv r v hm
        have q3 := ((h2.st.hok k).pos _ hm).2
        rw [h3.rev] at q3
        dsimp only at q3
        omega
    have hch : W'.ch k = some (some (putKV k value rv h lease)) ∧ W'.keys = [k] ∧ (∀ j, ¬ j = k → W'.ch j = none) ∧ -100 ≤ W'.count ∧ W'.count ≤ 101 := by
      rcases hW with rfl | rfl
      · exact ⟨by simp [Wri.note], by simp [Wri.note, h8], fun j hj => by simp [Wri.note, hj, h9 j hj], by show (-100 : Int) ≤ W.count; omega, by show W.count ≤ 101; omega⟩
      · exact ⟨by simp [Wri.note], by simp [Wri.note, h8], fun j hj => by simp [Wri.note, hj, h9 j hj], by show (-100 : Int) ≤ W.count + 1; omega, by show W.count + 1 ≤ 101; omega⟩
    refine ⟨n, g, S, W', h', h1, hO, h3, h4.trans (hK.1.below h4.size (fun j hj e => by have := h6 j e; omega)), h5, fun j hj => (hK.2 j hj).elim (h6 j) (fun e => Nat.le_trans h4.size e), hch.1, hch.2.1, hch.2.2.1, ?_, hch.2.2.2.1, ?_⟩
    · intro j c hc
      by_cases e : j = k
      · subst e
        rw [hch.1] at hc
        cases hc
        refine ⟨hk, fun v hv => ?_, fun hv => by cases hv⟩
        cases hv
        exact ⟨rfl, by rw [h3.rev]; rfl, hver⟩
      · rw [hch.2.2.1 j e] at hc
        cases hc
    · show W'.count ≤ 200
      omega
  cases e : thereH h with
  | none =>
    have e2 : thereH (S.kh k) = none := by rw [h3.kh]; exact e
    refine (wput_new h2 k value lease hk hv hl h7 hwk (by rw [h3.rev]; omega) e2 (by omega)).mono ?_
    rintro e' w' ⟨rfl, h', q1, q2⟩
    exact ⟨rfl, fin w' h' _ _ (.inr rfl) (by unfold putKV; rw [e, h3.rev]; rfl) q1 q2⟩
  | some v =>
    have e2 : thereH (S.kh k) = some v := by rw [h3.kh]; exact e
    obtain ⟨r, hm, _⟩ := thereH_mem e2
    obtain ⟨_, _, p1, p2⟩ := (h2.st.hok k).kv r v hm
    have p3 := ((h2.st.hok k).pos _ hm).2
    rw [h3.rev] at p3
    dsimp only at p3
    refine (wput_there h2 k value lease hk hv hl h7 hwk (by rw [h3.rev]; omega) e2 (by omega)).mono ?_
    rintro e' w' ⟨rfl, h', q1, q2⟩
    exact ⟨rfl, fin w' h' _ _ (.inl rfl) (by unfold putKV; rw [e, h3.rev]; rfl) q1 q2⟩
theorem V1o.del (H : V1o w0 w s b k rv h none) (hk : 0 < k.size ∧ k.size ≤ 100) : Calls Tryz.prog 14 #[ptr b, .string k, .string ByteArray.empty] w fun e w' => e = .returned (.int .i64 (if (thereH h).isSome then 1 else 0)) ∧ Hid (V1o w0 w' s b k rv h (if (thereH h).isSome then some none else none)) := by
  obtain ⟨n, g, S, W, hw, h1, h2, h3, h4, h5, h6, h7, h8, h9, h10, h11, h12⟩ := H
  have hct : W.count ≤ 100 := h12
  have hcl : 0 ≤ W.count := h11
  have h8 : W.keys = [] := h8
  have hgo : (rangeK S k ByteArray.empty).filter (goesP S W) = if (thereH h).isSome then [k] else [] := by
    rw [range_one h2.st h3]
    by_cases e : h = []
    · subst e; rfl
    · rw [if_neg e, List.filter_cons]
      have : goesP S W k = (thereH h).isSome := by unfold goesP; rw [h7, h3.kh]; rfl
      rw [this]
      cases (thereH h).isSome <;> rfl
  have hdel := delete_st h2 (by omega) k ByteArray.empty (by omega) (by show 0 ≤ _; omega) (by rw [h8]; simp) (by omega)
  rw [hgo] at hdel
  refine hdel.mono ?_
  rintro e w' ⟨rfl, h', q1, q2⟩
  refine ⟨by cases (thereH h).isSome <;> rfl, n, g, S, _, h', h1, q1, h3, h4.trans (q2.1.below h4.size (fun j hj e => by have := h6 j e; omega)), h5, fun j hj => (q2.2 j hj).elim (h6 j) (fun e => Nat.le_trans h4.size e), ?_⟩
  cases e : (thereH h).isSome with
  | false =>
    simp only [Bool.false_eq_true, if_false]
    rw [Wri.notes_nil]
    refine ⟨h7, h8, h9, ?_, ?_, ?_⟩
    · exact h10
    · show (0 : Int) ≤ W.count - _; simp; omega
    · show W.count - _ ≤ (100 : Int); simp; omega
  | true =>
    simp only [if_true]
    refine ⟨by simp [Wri.notes, hasK], by simp [Wri.notes, h8, ky], fun j hj => ?_, ?_, ?_, ?_⟩
    · have : ¬ k = j := fun e => hj e.symm
      simp [Wri.notes, hasK, this, h9 j hj]
    · intro j c hc
      by_cases ej : j = k
      · subst ej
        have hc' : (some none : Option (Option KVd)) = some c := by
          rw [← hc]; simp [Wri.notes, hasK]
        cases hc'
        exact ⟨hk, fun v hv => (by cases hv), fun _ => by rw [h3.kh]; exact e⟩
      · exfalso
        have : ¬ k = j := fun e => ej e.symm
        simp [Wri.notes, hasK, this, h9 j ej] at hc
    · show (-100 : Int) ≤ W.count - _; simp; omega
    · show W.count - _ ≤ (200 : Int); simp; omega
end
theorem V1.range {w0 w : World} {s : Nat} {k : ByteArray} {rv : Nat} {h : Hs} (hrv : rv ≤ 1000) (H : V1 w0 w s k rv h) (rev : Nat) (hr : rev ≤ rv) (hk : 0 < k.size ∧ k.size ≤ 100) :
    Calls Tryz.prog 11 #[ptr s, .string k, .string ByteArray.empty, .int .i64 rev, .int .i64 0] w fun e w' => ∃ p c, e = .returned (.tuple #[.slice p (atH h (if rev = 0 then rv else rev)).toList.length c, .int .i64 (atH h (if rev = 0 then rv else rev)).toList.length, .int .i64 0]) ∧ Hid (w'.ownsRow w.heap.size 40 6 (.slice p (atH h (if rev = 0 then rv else rev)).toList.length c) (atH h (if rev = 0 then rv else rev)).toList.length (kvsC (atH h (if rev = 0 then rv else rev)).toList)) ∧ Hid (V1 w0 w' s k rv h) := by
  obtain ⟨n, g, o, S, h1, h2, h3, h4, h5⟩ := H
  have hrg : rangeV S k ByteArray.empty rev = (atH h (if rev = 0 then rv else rev)).toList := by
    unfold rangeV
    rw [range_one h2 h3]
    have e1 : revOf S (rev : Int) = if rev = 0 then (rv : Int) else (rev : Int) := by
      unfold revOf
      rw [h3.rev]
      by_cases e : rev = 0
      · subst e; rfl
      · rw [if_neg (by omega), if_neg e]
    rw [e1]
    by_cases e : h = []
    · subst e
      rw [if_pos rfl]
      rfl
    · rw [if_neg e]
      simp only [List.filterMap_cons, List.filterMap_nil, h3.kh]
      cases atH h _ <;> rfl
  have hro := range_ok h2 (by omega) k ByteArray.empty rev 0 (by omega) (by show 0 ≤ _; omega) (by omega) (by rw [h3.rev]; omega) (by rw [h3.past]; omega)
  have et : toldL 0 (rangeV S k ByteArray.empty rev) = rangeV S k ByteArray.empty rev := if_pos (by decide)
  rw [et, hrg] at hro
  refine hro.mono ?_
  rintro e w' ⟨p, c, rfl, hK⟩
  exact ⟨p, c, rfl, hK.out.1, n, g, o, S, h1, h2.below hK.out.2, h3, h4.trans (hK.out.2.mono h4.size), h5⟩
theorem v1_new (w0 w : World) (hb : Below w0.heap.size w0 w) (k : ByteArray) : Calls Tryz.prog 5 #[] w fun e w' => ∃ s, e = .returned (ptr s) ∧ Hid (V1 w0 w' s k 0 []) := by
  refine (new_st w).mono ?_
  rintro e w' ⟨s, g, rfl, h1, h2, h3⟩
  exact ⟨s, rfl, 0, g, _, noS, Nat.le_refl _, h1, ⟨rfl, rfl, rfl, fun _ _ => rfl, rfl⟩, hb.trans (h2.mono hb.size), fun j hj => Nat.le_trans hb.size (h3 j hj)⟩
theorem kv_cells {w : World} {B : Nat} {v : Value} {kv : KVd} (h : w.ownsRow B 40 6 v 1 (kvsC [kv])) : ∃ g c, v = .slice (some ⟨g, 0, none⟩) 1 c ∧ B ≤ g ∧ g < w.heap.size ∧ w.cell? ⟨g, 0, none⟩ = some (.string kv.key) ∧ w.cell? ⟨g, 1, none⟩ = some (.string kv.value) ∧ w.cell? ⟨g, 2, none⟩ = some (.int .i64 kv.create) ∧ w.cell? ⟨g, 3, none⟩ = some (.int .i64 kv.mod) ∧ w.cell? ⟨g, 4, none⟩ = some (.int .i64 kv.version) ∧ w.cell? ⟨g, 5, none⟩ = some (.int .i64 kv.lease) := by
  obtain ⟨g, c, hv, _, _⟩ := owns_formB h (by omega)
  have hc := h.cells (g := g) (by rw [hv]; rfl)
  have hl := h.lt g (by rw [hv]; rfl)
  have c0 := hc 0 (.string kv.key) rfl
  have c1 := hc 1 (.string kv.value) rfl
  have c2 := hc 2 (.int .i64 kv.create) rfl
  have c3 := hc 3 (.int .i64 kv.mod) rfl
  have c4 := hc 4 (.int .i64 kv.version) rfl
  have c5 := hc 5 (.int .i64 kv.lease) rfl
  simp only [Addr.add_lit, Nat.zero_add] at c0 c1 c2 c3 c4 c5
  exact ⟨g, c, hv, hl.1, hl.2, c0, c1, c2, c3, c4, c5⟩
end Go.Proofs.YteeflkkoifgcbabGreat
