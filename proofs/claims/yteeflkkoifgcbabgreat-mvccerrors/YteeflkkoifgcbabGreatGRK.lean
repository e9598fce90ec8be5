/- A store of one key, with its log: its calls in the law's words. -/
import Derived.Test.YteeflkkoifgcbabGreatCX
import Derived.Test.YteeflkkoifgcbabGreatMV1
namespace Go.Proofs.YteeflkkoifgcbabGreat
open Go Go.RowKit

theorem keep_snoc {h : Hs} {past r : Int} {x : Option KVd} (hr : past < r) : keepH (h ++ [(r, x)]) past = keepH h past ++ [(r, x)] := by
  unfold keepH
  rw [atH_snoc_lt hr, List.filter_append]
  congr 1
  rw [List.filter_cons, if_pos (decide_eq_true (.inl hr))]
  rfl
theorem LgAll.lay {S : Sto} {g g' : Sg} {v : Value} (L : LgAll S g) (hp : S.past ≤ S.rev) (hok : ∀ j, HOk j S.rev (S.kh j)) (k : ByteArray) (x : Option KVd) (hlv : g'.lv = setF g.lv ((S.rev : Int) + 1) v) : LgAll (layS (nextS S [k]) ((S.rev : Int) + 1) k x) g' := by
  have hsame : (layS (nextS S [k]) ((S.rev : Int) + 1) k x).kh k = S.kh k ++ [((S.rev : Int) + 1, x)] := layS_same _ _ _ _
  have hother : ∀ j, ¬ j = k → (layS (nextS S [k]) ((S.rev : Int) + 1) k x).kh j = S.kh j := fun j hj => layS_other _ _ _ hj
  have hlg : ∀ r, (layS (nextS S [k]) ((S.rev : Int) + 1) k x).lg r = if r = (S.rev : Int) + 1 then [k] else S.lg r := fun r => by
    show (nextS S [k]).lg r = _
    unfold nextS
    rfl
  have hmem : ∀ j p, p ∈ S.kh j → p ∈ (layS (nextS S [k]) ((S.rev : Int) + 1) k x).kh j := fun j p hm => by
    by_cases e : j = k
    · subst e; rw [hsame]; exact List.mem_append_left _ hm
    · rw [hother j e]; exact hm
  refine ⟨fun r h1 h2 => ?_, fun j r c hc h1 => ?_, fun r hr => ?_, fun j => ?_⟩
  · have h1' : (S.past : Int) < r := h1
    have h2' : r ≤ ((S.rev + 1 : Nat) : Int) := h2
    rw [hlv, hlg]
    by_cases e : r = (S.rev : Int) + 1
    · subst e
      refine ⟨⟨v, setF_same _ _ _⟩, fun j hj => ?_⟩
      rw [if_pos rfl] at hj
      obtain rfl : j = k := by simpa using hj
      exact ⟨x, by rw [hsame]; simp⟩
    · obtain ⟨⟨u, hu⟩, hks⟩ := L.ok r h1' (by omega)
      refine ⟨⟨u, by rw [setF_other _ _ e]; exact hu⟩, fun j hj => ?_⟩
      rw [if_neg e] at hj
      obtain ⟨c, hc⟩ := hks j hj
      exact ⟨c, hmem j _ hc⟩
  · have h1' : (S.past : Int) < r := h1
    rw [hlg]
    by_cases e : j = k
    · subst e
      rw [hsame] at hc
      rcases List.mem_append.1 hc with hc | hc
      · by_cases er : r = (S.rev : Int) + 1
        · rw [if_pos er]; simp
        · rw [if_neg er]; exact L.all j r c hc h1'
      · have er : r = (S.rev : Int) + 1 := by
          have : (r, c) = ((S.rev : Int) + 1, x) := by simpa using hc
          exact congrArg Prod.fst this
        rw [if_pos er]; simp
    · rw [hother j e] at hc
      have er : ¬ r = (S.rev : Int) + 1 := fun er => by have := (hok j).pos _ hc; dsimp only at this; omega
      rw [if_neg er]
      exact L.all j r c hc h1'
  · have hr' : r ≤ (S.past : Int) := hr
    rw [hlv, setF_other _ _ (by omega)]
    exact L.none_ r hr'
  · show keepH _ (S.past : Int) = _
    by_cases e : j = k
    · subst e
      rw [hsame, keep_snoc (by omega)]
      have := L.past j
      rw [this]
    · rw [hother j e]
      exact L.past j
/-- The log of a store of one key. -/
def LgO (S : Sto) (g : Sg) : Prop := LgAll S g ∧ ∀ r, (S.lg r).length ≤ 1
/-- Such a store with its log. -/
def V2 (w0 w : World) (s : Nat) (k : ByteArray) (rv : Nat) (h : Hs) : Prop := ∃ n g o S, n ≤ rv ∧ St n w s S g o ∧ One S k rv h ∧ Below w0.heap.size w0 w ∧ (∀ j, ftS s g j → w0.heap.size ≤ j) ∧ LgO S g
def V2o (w0 w : World) (s b : Nat) (k : ByteArray) (rv : Nat) (h : Hs) (c : Option (Option KVd)) : Prop :=
  ∃ n g S W hw, n ≤ rv ∧ Ow n w s b S W g hw ∧ One S k rv h ∧ Below w0.heap.size w0 w ∧ (∀ j, ftS s g j → w0.heap.size ≤ j) ∧ (∀ j, ftW b hw j → w0.heap.size ≤ j) ∧
    W.ch k = c ∧ W.keys = ky k c ∧ (∀ j, ¬ j = k → W.ch j = none) ∧ Wok S W ∧ cl c ≤ W.count ∧ W.count ≤ cu c ∧ LgO S g
theorem V2.later {w0 w W : World} {s : Nat} {k : ByteArray} {rv : Nat} {h : Hs} (H : V2 w0 w s k rv h) (hb : Below w.heap.size w W) : V2 w0 W s k rv h := by
  obtain ⟨n, g, o, S, h1, h2, h3, h4, h5, h6⟩ := H
  exact ⟨n, g, o, S, h1, h2.below hb, h3, h4.trans (hb.mono h4.size), h5, h6⟩
theorem V2.write {w0 w : World} {s : Nat} {k : ByteArray} {rv : Nat} {h : Hs} (H : V2 w0 w s k rv h) : Calls Tryz.prog 7 #[ptr s] w fun e w' => ∃ b, e = .returned (ptr b) ∧ Hid (V2o w0 w' s b k rv h none) ∧ Hid (Upd w w' (fun j => j = s) ∧ s < w.heap.size) := by
  obtain ⟨n, g, o, S, h1, h2, h3, h4, h5, hL⟩ := H
  refine (write_st h2).mono ?_
  rintro e w' ⟨rfl, hO, hu⟩
  refine ⟨_, rfl, ⟨n, g, S, _, _, h1, hO, h3, h4.trans (hu.below h4.size (fun j hj e => by have := h5 j (.inl e); omega)), h5, ?_, rfl, rfl, fun _ _ => rfl, fun j c hc => (by cases hc), ?_, ?_, hL⟩, hu, h2.lt (.inl rfl)⟩
  · rintro j (rfl | rfl | hj)
    · exact Nat.le_succ_of_le h4.size
    · exact h4.size
    · cases hj
  · show (0 : Int) ≤ (S.nth : Int); omega
  · show ((S.nth : Nat) : Int) ≤ 100
    rw [h3.nth]
    split <;> decide
section
variable {w0 w : World} {s b : Nat} {k : ByteArray} {rv : Nat} {h : Hs} (hrv : rv ≤ 1000)
include hrv
theorem V2o.done {c : Option (Option KVd)} (H : V2o w0 w s b k rv h c) : Calls Tryz.prog 9 #[ptr b] w fun e w' => e = .returned (.int .i64 (nx rv c)) ∧ Hid (V2 w0 w' s k (nx rv c) (nh rv h c)) := by
  obtain ⟨n, g, S, W, hw, h1, h2, h3, h4, h5, h6, h7, h8, h9, h10, h11, h12, hL⟩ := H
  have hkl : W.keys.length ≤ 1 := by rw [h8]; cases c <;> simp [ky]
  refine (done_lg h2 h10 (by omega) (by rw [h3.rev]; omega)).mono ?_
  rintro e w' ⟨rfl, g', q1, ⟨q2, q3⟩, q4⟩
  have hb' : Below w0.heap.size w0 w' := h4.trans (q2.below h4.size (fun j hj e => e.elim (fun e => by have := h5 j e; omega) (fun e => by have := h6 j e; omega)))
  have hf' : ∀ j, ftS s g' j → w0.heap.size ≤ j := fun j hj => by
    rcases q3 j hj with (e | e) | e
    · exact h5 j e
    · exact h6 j e
    · exact Nat.le_trans h4.size e
  cases c with
  | none =>
    have e1 : doneS S W = S := if_pos h8
    rw [e1] at q1 ⊢
    refine ⟨by rw [h3.rev]; rfl, n + W.keys.length, g', _, S, ?_, q1, h3, hb', hf', ?_⟩
    · rw [h8]; exact h1
    · have e2 : g'.lv = g.lv := q4.trans (if_pos h8)
      exact ⟨⟨fun r a b => by rw [e2]; exact hL.1.ok r a b, hL.1.all, fun r a => by rw [e2]; exact hL.1.none_ r a, hL.1.past⟩, hL.2⟩
  | some x =>
    have h8 : W.keys = [k] := h8
    have e1 : doneS S W = layS (nextS S [k]) ((S.rev : Int) + 1) k x := by
      unfold doneS
      rw [if_neg (by rw [h8]; simp)]
      unfold takeS layAll chG
      rw [h8]
      show layS (nextS S [k]) ((S.rev : Int) + 1) k ((W.ch k).getD none) = _
      rw [h7]
      rfl
    have O := layS_one h3 x (fun e => by have := (h10 k x h7).2.2 e; rw [h3.kh] at this; exact this)
    rw [e1] at q1 ⊢
    refine ⟨by rw [O.rev]; rfl, n + W.keys.length, g', _, _, by rw [h8]; show n + 1 ≤ rv + 1; omega, q1, O, hb', hf', ?_⟩
    refine ⟨hL.1.lay h2.st.past h2.st.hok k x (q4.trans (if_neg (by rw [h8]; simp))), fun r => ?_⟩
    show ((nextS S [k]).lg r).length ≤ 1
    unfold nextS
    dsimp only
    split
    · exact Nat.le_refl _
    · exact hL.2 r
theorem V2o.put (H : V2o w0 w s b k rv h none) (value : ByteArray) (lease : Int) (hk : 0 < k.size ∧ k.size ≤ 100) (hv : ¬ 4096 < value.size) (hl : ¬ lease < 0) : Calls Tryz.prog 8 #[ptr b, .string k, .string value, .int .i64 lease] w fun e w' => e = .returned (.int .i64 0) ∧ Hid (V2o w0 w' s b k rv h (some (some (putKV k value rv h lease)))) := by
  obtain ⟨n, g, S, W, hw, h1, h2, h3, h4, h5, h6, h7, h8, h9, h10, h11, h12, hL⟩ := H
  have hct : W.count ≤ 100 := h12
  have hcl : 0 ≤ W.count := h11
  have h8 : W.keys = [] := h8
  have hwk : W.keys.length ≤ 100000 := by rw [h8]; simp
  have fin : ∀ (w' : World) (h' : Wg) (W' : Wri) (kv : KVd), W' = W.note k (some kv) ∨ W' = ({ W with count := W.count + 1 } : Wri).note k (some kv) → kv = putKV k value rv h lease → Ow n w' s b S W' g h' → KpW w w' b hw h' → V2o w0 w' s b k rv h (some (some (putKV k value rv h lease))) := by
    intro w' h' W' kv hW hkv hO hK
    subst hkv
    have hver : 1 ≤ (putKV k value rv h lease).version ∧ (putKV k value rv h lease).version ≤ (S.rev : Int) + 1 := by
      unfold putKV
      dsimp only
      rw [h3.rev]
      cases e : thereH h with
      | none => dsimp only [Option.map_none, Option.getD_none]; omega
      | some v =>
        dsimp only [Option.map_some, Option.getD_some]
        obtain ⟨r, hm, _⟩ := thereH_mem e
        rw [← h3.kh] at hm
        obtain ⟨_, _, q1, q2⟩ := (h2.st.hok k).kv r v hm
        have q3 := ((h2.st.hok k).pos _ hm).2
        rw [h3.rev] at q3
        dsimp only at q3
        omega
    have hch : W'.ch k = some (some (putKV k value rv h lease)) ∧ W'.keys = [k] ∧ (∀ j, ¬ j = k → W'.ch j = none) ∧ -100 ≤ W'.count ∧ W'.count ≤ 101 := by
      rcases hW with rfl | rfl
      · exact ⟨by simp [Wri.note], by simp [Wri.note, h8], fun j hj => by simp [Wri.note, hj, h9 j hj], by show (-100 : Int) ≤ W.count; omega, by show W.count ≤ 101; omega⟩
      · exact ⟨by simp [Wri.note], by simp [Wri.note, h8], fun j hj => by simp [Wri.note, hj, h9 j hj], by show (-100 : Int) ≤ W.count + 1; omega, by show W.count + 1 ≤ 101; omega⟩
    refine ⟨n, g, S, W', h', h1, hO, h3, h4.trans (hK.1.below h4.size (fun j hj e => by have := h6 j e; omega)), h5, fun j hj => (hK.2 j hj).elim (h6 j) (fun e => Nat.le_trans h4.size e), hch.1, hch.2.1, hch.2.2.1, ?_, hch.2.2.2.1, ?_, hL⟩
    · intro j c hc
      by_cases e : j = k
      · subst e
        rw [hch.1] at hc
        cases hc
        refine ⟨hk, fun v hv => ?_, fun hv => by cases hv⟩
        cases hv
        exact ⟨rfl, by rw [h3.rev]; rfl, hver⟩
      · rw [hch.2.2.1 j e] at hc
        cases hc
    · show W'.count ≤ 200
      omega
  cases e : thereH h with
  | none =>
    have e2 : thereH (S.kh k) = none := by rw [h3.kh]; exact e
    refine (wput_new h2 k value lease hk hv hl h7 hwk (by rw [h3.rev]; omega) e2 (by omega)).mono ?_
    rintro e' w' ⟨rfl, h', q1, q2⟩
    exact ⟨rfl, fin w' h' _ _ (.inr rfl) (by unfold putKV; rw [e, h3.rev]; rfl) q1 q2⟩
  | some v =>
    have e2 : thereH (S.kh k) = some v := by rw [h3.kh]; exact e
    obtain ⟨r, hm, _⟩ := thereH_mem e2
    obtain ⟨_, _, p1, p2⟩ := (h2.st.hok k).kv r v hm
    have p3 := ((h2.st.hok k).pos _ hm).2
    rw [h3.rev] at p3
    dsimp only at p3
    refine (wput_there h2 k value lease hk hv hl h7 hwk (by rw [h3.rev]; omega) e2 (by omega)).mono ?_
    rintro e' w' ⟨rfl, h', q1, q2⟩
    exact ⟨rfl, fin w' h' _ _ (.inl rfl) (by unfold putKV; rw [e, h3.rev]; rfl) q1 q2⟩
end
set_option maxRecDepth 100000 in
set_option maxHeartbeats 2000000 in
theorem new_lg (w : World) : Calls Tryz.prog 5 #[] w fun e w' => ∃ s g, e = .returned (ptr s) ∧ St 0 w' s noS g (.pointer none) ∧ Below w.heap.size w w' ∧ (∀ k, ftS s g k → w.heap.size ≤ k) ∧ ∀ r, g.lv r = none := by
  have hmm := @run_makeMap Tryz.prog
  have hx := new_xd w
  go_enter Tryz.func5, Tryz.ntmps5
  go_wp2_with (go_at_call 15; refine hx.mono ?_; rintro e w1 ⟨rfl, hx1, hb1, hs1⟩)
  go_ret
  obtain ⟨m1, hm1⟩ : ∃ m1, m1 = w1.alloc (.map #[] 0) := ⟨_, rfl⟩
  obtain ⟨m2, hm2⟩ : ∃ m2, m2 = m1.alloc (.map #[] 0) := ⟨_, rfl⟩
  obtain ⟨m3, hm3⟩ : ∃ m3, m3 = m2.alloc (.map #[] 0) := ⟨_, rfl⟩
  obtain ⟨m4, hm4⟩ : ∃ m4, m4 = m3.alloc (.cells #[.int .i64 0, .int .i64 0, ptr w.heap.size, .map (some (w.heap.size + 1)), .map (some (w.heap.size + 1 + 1)), .map (some (w.heap.size + 1 + 1 + 1)), .pointer none] 49) := ⟨_, rfl⟩
  rw [← hm1, ← hm2, ← hm3, ← hm4]
  have z1 : m1.heap.size = w.heap.size + 2 := by rw [hm1]; simp; omega
  have z2 : m2.heap.size = w.heap.size + 3 := by rw [hm2]; simp; omega
  have z3 : m3.heap.size = w.heap.size + 4 := by rw [hm3]; simp; omega
  have b1 : Below w1.heap.size w1 m1 := by rw [hm1]; exact (Below.refl _ _).alloc (Nat.le_refl _) _
  have b2 : Below m1.heap.size m1 m2 := by rw [hm2]; exact (Below.refl _ _).alloc (Nat.le_refl _) _
  have b3 : Below m2.heap.size m2 m3 := by rw [hm3]; exact (Below.refl _ _).alloc (Nat.le_refl _) _
  have b4 : Below m3.heap.size m3 m4 := by rw [hm4]; exact (Below.refl _ _).alloc (Nat.le_refl _) _
  have b34 := b3.trans (b4.mono b3.size)
  have b24 := b2.trans (b34.mono b2.size)
  have b14 := b1.trans (b24.mono b1.size)
  have f1 : MapF m1 encP w1.heap.size (fun _ => none) 0 := by rw [hm1]; exact MapF.made w1 encP
  have f2 : MapF m2 encI m1.heap.size (fun _ => none) 0 := by rw [hm2]; exact MapF.made m1 encI
  have f3 : MapF m3 encB m2.heap.size (fun _ => none) 0 := by rw [hm3]; exact MapF.made m2 encB
  have r4 : m4.heap[m3.heap.size]? = some (.cells #[.int .i64 0, .int .i64 0, ptr w.heap.size, .map (some (w.heap.size + 1)), .map (some (w.heap.size + 1 + 1)), .map (some (w.heap.size + 1 + 1 + 1)), .pointer none] 49 (0, 0)) := by rw [hm4]; exact row_alloc m3 _ _
  rw [hs1] at f1
  rw [z1] at f2
  rw [z2] at f3
  rw [z3] at r4
  refine ⟨w.heap.size + 4, ⟨w.heap.size, w.heap.size + 1, w.heap.size + 2, w.heap.size + 3, [w.heap.size], fun _ => none, 0, 0⟩, rfl, ⟨r4, hx1.below b14, Bd.nil, (f1.below b24).congr (fun _ => rfl), (f2.below b34).congr (fun _ => rfl), (f3.below b4).congr (fun _ => rfl), by dsimp only; omega, fun r v hv => (by cases hv), fun k => HOk.nil k _, fun k => (by simp [noS]), fun k hk => (by cases hk), Nat.le_refl _⟩, hb1.trans (b14.mono (by omega)), ?_, fun _ => rfl⟩
  rintro k (rfl | rfl | rfl | rfl | hk | ⟨r, v, hv, _⟩)
  · omega
  · dsimp only; omega
  · dsimp only; omega
  · dsimp only; omega
  · have : k = w.heap.size := by simpa using hk
    omega
  · cases hv
theorem v2_new (w0 w : World) (hb : Below w0.heap.size w0 w) (k : ByteArray) : Calls Tryz.prog 5 #[] w fun e w' => ∃ s, e = .returned (ptr s) ∧ Hid (V2 w0 w' s k 0 []) := by
  refine (new_lg w).mono ?_
  rintro e w' ⟨s, g, rfl, h1, h2, h3, hlv⟩
  refine ⟨s, rfl, 0, g, _, noS, Nat.le_refl _, h1, ⟨rfl, rfl, rfl, fun _ _ => rfl, rfl⟩, hb.trans (h2.mono hb.size), fun j hj => Nat.le_trans hb.size (h3 j hj), ⟨fun r a b => ?_, fun k r c hc _ => (by cases hc), fun r _ => hlv r, fun k => rfl⟩, fun r => Nat.zero_le _⟩
  have a' : (0 : Int) < r := a
  have b' : r ≤ (0 : Int) := b
  omega
/-- A store of one key that was compacted. -/
structure One3 (S : Sto) (k : ByteArray) (rv : Nat) (h : Hs) (a : Nat) : Prop where
  rev : S.rev = rv
  past : S.past = a
  kh : S.kh k = h
  no : ∀ j, ¬ j = k → S.kh j = []
def V3 (w0 w : World) (s : Nat) (k : ByteArray) (rv : Nat) (h : Hs) (a : Nat) : Prop := ∃ n g o S, n ≤ rv ∧ St n w s S g o ∧ One3 S k rv h a ∧ Below w0.heap.size w0 w ∧ (∀ j, ftS s g j → w0.heap.size ≤ j) ∧ LgO S g
theorem V3.below {w0 w : World} {s : Nat} {k : ByteArray} {rv a : Nat} {h : Hs} (H : V3 w0 w s k rv h a) : Below w0.heap.size w0 w := by
  obtain ⟨n, g, o, S, h1, h2, h3, h4, h5⟩ := H
  exact h4
theorem chg_one {S : Sto} (h : ∀ r, (S.lg r).length ≤ 1) : ∀ m, (chg S m).length ≤ m
  | 0 => Nat.le_refl _
  | m + 1 => by
    rw [chg_succ, List.length_append]
    have := chg_one h m
    have := h ((S.past : Int) + 1 + m)
    omega
theorem evN_one {S : Sto} (h : ∀ r, (S.lg r).length ≤ 1) (rev : Int) : ∀ m, (evN S rev m).length ≤ m
  | 0 => Nat.le_refl _
  | m + 1 => by
    rw [evN_succ, List.length_append]
    have h1 := evN_one h rev m
    have h2 : (evAt S (rev + m)).length ≤ 1 := by unfold evAt; rw [List.length_map]; exact h _
    omega
theorem V2.compact {w0 w : World} {s : Nat} {k : ByteArray} {rv : Nat} {h : Hs} (hrv : rv ≤ 1000) (H : V2 w0 w s k rv h) (a : Nat) (h1a : 1 ≤ a) (har : a ≤ rv) : Calls Tryz.prog 10 #[ptr s, .int .i64 a] w fun e w' => e = .returned (.int .i64 0) ∧ Hid (V3 w0 w' s k rv (keepH h a) a) := by
  obtain ⟨n, g, o, S, h1, h2, h3, h4, h5, h6⟩ := H
  refine (compact_any h2 h6.1 (by omega) a a (by rw [h3.past]; omega) (by omega) (by rw [h3.rev]; exact har) (by rw [h3.rev]; omega) (by have := chg_one h6.2 a; omega)).mono ?_
  rintro e w' ⟨rfl, g', q1, q2, q3⟩
  refine ⟨rfl, n, g', o, _, h1, q1, ⟨h3.rev, rfl, by show keepH (S.kh k) a = _; rw [h3.kh], fun j hj => by show keepH (S.kh j) a = []; rw [h3.no j hj]; rfl⟩, h4.trans (q2.1.below h4.size (fun j hj e => by have := h5 j e; omega)), fun j hj => (q2.2 j hj).elim (h5 j) (fun e => Nat.le_trans h4.size e), q3, fun r => ?_⟩
  show (if r ≤ (a : Int) then ([] : List ByteArray) else S.lg r).length ≤ 1
  split
  · exact Nat.zero_le _
  · exact h6.2 r
section
variable {w0 w : World} {s : Nat} {k : ByteArray} {rv a : Nat} {h : Hs} (H : V3 w0 w s k rv h a)
include H
theorem V3.cpast (ha : 1 ≤ a) (har : a ≤ rv) : Calls Tryz.prog 10 #[ptr s, .int .i64 a] w fun e w' => e = .returned (.int .i64 16) ∧ w' = w := by
  obtain ⟨n, g, o, S, h1, h2, h3, h4, h5, h6⟩ := H
  exact compact_past h2 a (by omega) (by rw [h3.rev]; omega) (by rw [h3.past]; omega)
theorem V3.cfuture (r : Int) (hr : (rv : Int) < r) : Calls Tryz.prog 10 #[ptr s, .int .i64 r] w fun e w' => e = .returned (.int .i64 17) ∧ w' = w := by
  obtain ⟨n, g, o, S, h1, h2, h3, h4, h5, h6⟩ := H
  exact compact_future h2 r (by omega) (by rw [h3.rev]; exact hr)
theorem V3.spast (r : Int) (hr : 1 ≤ r) (hra : r ≤ a) : Calls Tryz.prog 12 #[ptr s, .int .i64 r] w fun e w' => e = .returned (.tuple #[.slice none 0 0, .int .i64 16]) ∧ w' = w := by
  obtain ⟨n, g, o, S, h1, h2, h3, h4, h5, h6⟩ := H
  exact since_past h2 r (by omega) (by rw [h3.past]; exact hra)
theorem V3.sok (hrv : rv ≤ 1000) (r : Nat) (hr : 1 ≤ r) (hra : a < r) (hrm : r ≤ 2000) : Calls Tryz.prog 12 #[ptr s, .int .i64 r] w fun e w' => ∃ v, e = .returned (.tuple #[v, .int .i64 0]) ∧ Hid (Below w0.heap.size w0 w') := by
  obtain ⟨n, g, o, S, h1, h2, h3, h4, h5, h6⟩ := H
  refine (since_any h2 (r : Int) (by omega) (by rw [h3.past]; omega) (by omega) (by rw [h3.rev]; omega) h6.1.ok (by have := evN_one h6.2 (r : Int) ((S.rev : Int) + 1 - (r : Int)).toNat; rw [h3.rev] at this ⊢; omega)).mono ?_
  rintro e w' ⟨p, c, rfl, hE⟩
  exact ⟨_, rfl, h4.trans (hE.2.mono h4.size)⟩
end
theorem ks_one3 {n : Nat} {w : World} {s : Nat} {S : Sto} {g : Sg} {o : Value} (H : St n w s S g o) {k : ByteArray} {rv : Nat} {h : Hs} {a : Nat} (O : One3 S k rv h a) : S.ks = if h = [] then [] else [k] := by
  have ha : Asc S.ks := by have := H.bd.asc; rw [datS_keys] at this; exact this
  have hall : ∀ j ∈ S.ks, j = k := fun j hj => Classical.byContradiction fun hn => (H.mem j).1 hj (O.no j hn)
  have hm := H.mem k
  rw [O.kh] at hm
  cases hks : S.ks with
  | nil =>
    rw [hks] at hm
    by_cases e : h = []
    · rw [if_pos e]
    · have := hm.2 e; cases this
  | cons j l =>
    rw [hks] at hm hall ha
    have hj : j = k := hall j (by simp)
    subst hj
    have hl : l = [] := by
      cases l with
      | nil => rfl
      | cons i l =>
        have hi := hall i (by simp)
        have := ha.1 i (by simp)
        rw [hi, klt_irrefl] at this
        cases this
    subst hl
    rw [if_neg (hm.1 (by simp))]
theorem range_one3 {n : Nat} {w : World} {s : Nat} {S : Sto} {g : Sg} {o : Value} (H : St n w s S g o) {k : ByteArray} {rv : Nat} {h : Hs} {a : Nat} (O : One3 S k rv h a) : rangeK S k ByteArray.empty = if h = [] then [] else [k] := by
  unfold rangeK
  rw [ks_one3 H O]
  split
  · rfl
  · simp [inR]
theorem V3.range {w0 w : World} {s : Nat} {k : ByteArray} {rv a : Nat} {h : Hs} (hrv : rv ≤ 1000) (H : V3 w0 w s k rv h a) (rev : Nat) (hr : rev ≤ rv) (hra : rev = 0 ∨ a ≤ rev) (hk : 0 < k.size ∧ k.size ≤ 100) :
    Calls Tryz.prog 11 #[ptr s, .string k, .string ByteArray.empty, .int .i64 rev, .int .i64 0] w fun e w' => ∃ p c, e = .returned (.tuple #[.slice p (atH h (if rev = 0 then rv else rev)).toList.length c, .int .i64 (atH h (if rev = 0 then rv else rev)).toList.length, .int .i64 0]) ∧ Hid (w'.ownsRow w.heap.size 40 6 (.slice p (atH h (if rev = 0 then rv else rev)).toList.length c) (atH h (if rev = 0 then rv else rev)).toList.length (kvsC (atH h (if rev = 0 then rv else rev)).toList)) ∧ Hid (V3 w0 w' s k rv h a) := by
  obtain ⟨n, g, o, S, h1, h2, h3, h4, h5, h6⟩ := H
  have hrg : rangeV S k ByteArray.empty rev = (atH h (if rev = 0 then rv else rev)).toList := by
    unfold rangeV
    rw [range_one3 h2 h3]
    have e1 : revOf S (rev : Int) = if rev = 0 then (rv : Int) else (rev : Int) := by
      unfold revOf
      rw [h3.rev]
      by_cases e : rev = 0
      · subst e; rfl
      · rw [if_neg (by omega), if_neg e]
    rw [e1]
    by_cases e : h = []
    · subst e
      rw [if_pos rfl]
      rfl
    · rw [if_neg e]
      simp only [List.filterMap_cons, List.filterMap_nil, h3.kh]
      cases atH h _ <;> rfl
  have hro := range_ok h2 (by omega) k ByteArray.empty rev 0 (by omega) (by show 0 ≤ _; omega) (by omega) (by rw [h3.rev]; omega) (by rw [h3.past]; omega)
  have et : toldL 0 (rangeV S k ByteArray.empty rev) = rangeV S k ByteArray.empty rev := if_pos (by decide)
  rw [et, hrg] at hro
  refine hro.mono ?_
  rintro e w' ⟨p, c, rfl, hK⟩
  exact ⟨p, c, rfl, hK.out.1, n, g, o, S, h1, h2.below hK.out.2, h3, h4.trans (hK.out.2.mono h4.size), h5, h6⟩
end Go.Proofs.YteeflkkoifgcbabGreat
/- Range of what has not come, or is gone. -/
namespace Go.Proofs.YteeflkkoifgcbabGreat
open Go Go.RowKit

section
variable {n : Nat} {w : World} {s : Nat} {S : Sto} {g : Sg} {o : Value} (h : St n w s S g o)
include h
set_option maxRecDepth 100000 in
set_option maxHeartbeats 1000000 in
theorem range_future (lo hi : ByteArray) (rev limit : Int) (h0 : ¬ rev < 0) (h1 : (S.rev : Int) < rev) :
    Calls Tryz.prog 11 #[ptr s, .string lo, .string hi, .int .i64 rev, .int .i64 limit] w fun e w' => e = .returned (.tuple #[.slice none 0 0, .int .i64 0, .int .i64 17]) ∧ Below w.heap.size w w' := by
  obtain ⟨w2, hw2⟩ : ∃ w2, w2 = (w.alloc (.cells #[ptr s] 23)).alloc (.cells #[.int .i64 rev] 3) := ⟨_, rfl⟩
  have hb2 : Below w.heap.size w w2 := by rw [hw2]; exact ((Below.refl _ w).alloc (Nat.le_refl _) _).alloc (by simp) _
  have ra : w2.heap[w.heap.size]? = some (.cells #[ptr s] 23 (0, 0)) := by rw [hw2]; exact (heap_alloc_old _ _ (by simp)).trans (row_alloc w _ _)
  have rq : w2.heap[w.heap.size + 1]? = some (.cells #[.int .i64 rev] 3 (0, 0)) := by rw [hw2]; have := row_alloc (w.alloc (.cells #[ptr s] 23)) #[.int .i64 rev] 3; simpa using this
  have ca : w2.cell? ⟨w.heap.size, 0, none⟩ = some (ptr s) := cell_of_row _ _ _ _ _ _ ra
  have cq : w2.cell? ⟨w.heap.size + 1, 0, none⟩ = some (.int .i64 rev) := cell_of_row _ _ _ _ _ _ rq
  obtain ⟨c0, -⟩ := (h.below hb2).cells
  have HB2 := Hid.mk'' hb2
  clear h hb2 ra rq
  go_enter Tryz.func11, Tryz.ntmps11
  go_upto_region 1 with fail
  rw [← hw2]
  clear hw2
  go_upto_region 3 with fail
  go_quiet (fail)
  go_wp2
  refine bodyPost_ret (results_tmp3 rfl _ _ _) rfl ?_
  exact ⟨rfl, below_drewQ HB2.out nq⟩
set_option maxRecDepth 100000 in
set_option maxHeartbeats 1000000 in
theorem range_past (lo hi : ByteArray) (rev limit : Int) (h0 : 0 < rev) (h1 : ¬ (S.rev : Int) < rev) (h2 : rev < S.past) :
    Calls Tryz.prog 11 #[ptr s, .string lo, .string hi, .int .i64 rev, .int .i64 limit] w fun e w' => e = .returned (.tuple #[.slice none 0 0, .int .i64 0, .int .i64 16]) ∧ Below w.heap.size w w' := by
  obtain ⟨w2, hw2⟩ : ∃ w2, w2 = (w.alloc (.cells #[ptr s] 23)).alloc (.cells #[.int .i64 rev] 3) := ⟨_, rfl⟩
  have hb2 : Below w.heap.size w w2 := by rw [hw2]; exact ((Below.refl _ w).alloc (Nat.le_refl _) _).alloc (by simp) _
  have ra : w2.heap[w.heap.size]? = some (.cells #[ptr s] 23 (0, 0)) := by rw [hw2]; exact (heap_alloc_old _ _ (by simp)).trans (row_alloc w _ _)
  have rq : w2.heap[w.heap.size + 1]? = some (.cells #[.int .i64 rev] 3 (0, 0)) := by rw [hw2]; have := row_alloc (w.alloc (.cells #[ptr s] 23)) #[.int .i64 rev] 3; simpa using this
  have ca : w2.cell? ⟨w.heap.size, 0, none⟩ = some (ptr s) := cell_of_row _ _ _ _ _ _ ra
  have cq : w2.cell? ⟨w.heap.size + 1, 0, none⟩ = some (.int .i64 rev) := cell_of_row _ _ _ _ _ _ rq
  obtain ⟨c0, c1, -⟩ := (h.below hb2).cells
  have HB2 := Hid.mk'' hb2
  clear h hb2 ra rq
  go_enter Tryz.func11, Tryz.ntmps11
  go_upto_region 1 with fail
  rw [← hw2]
  clear hw2
  go_upto_region 3 with fail
  go_quiet (fail)
  obtain ⟨N, hN⟩ : ∃ N, N = nq := ⟨_, rfl⟩
  rw [← hN]
  clear hN
  go_upto_region 5 with fail
  go_quiet (fail)
  go_wp2
  refine bodyPost_ret (results_tmp3 rfl _ _ _) rfl ?_
  exact ⟨rfl, below_drewQ HB2.out (N + nq)⟩
end
theorem V3.later {w0 w W : World} {s : Nat} {k : ByteArray} {rv a : Nat} {h : Hs} (H : V3 w0 w s k rv h a) (hb : Below w.heap.size w W) : V3 w0 W s k rv h a := by
  obtain ⟨n, g, o, S, h1, h2, h3, h4, h5, h6⟩ := H
  exact ⟨n, g, o, S, h1, h2.below hb, h3, h4.trans (hb.mono h4.size), h5, h6⟩
section
variable {w0 w : World} {s : Nat} {k : ByteArray} {rv a : Nat} {h : Hs} (H : V3 w0 w s k rv h a)
include H
theorem V3.rfuture (lo hi : ByteArray) (r limit : Int) (hr : (rv : Int) < r) : Calls Tryz.prog 11 #[ptr s, .string lo, .string hi, .int .i64 r, .int .i64 limit] w fun e w' => e = .returned (.tuple #[.slice none 0 0, .int .i64 0, .int .i64 17]) ∧ Hid (V3 w0 w' s k rv h a) := by
  have H' := H
  obtain ⟨n, g, o, S, h1, h2, h3, h4, h5, h6⟩ := H
  refine (range_future h2 lo hi r limit (by omega) (by rw [h3.rev]; exact hr)).mono ?_
  rintro e w' ⟨rfl, hb⟩
  exact ⟨rfl, H'.later hb⟩
theorem V3.rpast (lo hi : ByteArray) (r limit : Int) (h0 : 0 < r) (hra : r < a) (har : a ≤ rv) : Calls Tryz.prog 11 #[ptr s, .string lo, .string hi, .int .i64 r, .int .i64 limit] w fun e w' => e = .returned (.tuple #[.slice none 0 0, .int .i64 0, .int .i64 16]) ∧ Hid (V3 w0 w' s k rv h a) := by
  have H' := H
  obtain ⟨n, g, o, S, h1, h2, h3, h4, h5, h6⟩ := H
  refine (range_past h2 lo hi r limit h0 (by rw [h3.rev]; omega) (by rw [h3.past]; exact hra)).mono ?_
  rintro e w' ⟨rfl, hb⟩
  exact ⟨rfl, H'.later hb⟩
end
end Go.Proofs.YteeflkkoifgcbabGreat
/- The chapter's example of a store. -/
namespace Go.Proofs.YteeflkkoifgcbabGreat
open Go Go.RowKit

theorem V1.lt {w0 w : World} {s : Nat} {k : ByteArray} {rv : Nat} {h : Hs} (H : V1 w0 w s k rv h) : s < w.heap.size := by
  obtain ⟨n, g, o, S, h1, h2, h3, h4, h5⟩ := H
  exact h2.lt (.inl rfl)
def aK : ByteArray := ⟨#[97]⟩
def xV : ByteArray := ⟨#[120]⟩
def hsA : Nat → Hs
  | 0 => []
  | i + 1 => hsA i ++ [((i : Int) + 1, some (putKV aK xV i (hsA i) 0))]
set_option maxRecDepth 100000 in
set_option maxHeartbeats 2000000 in
theorem known_st (w : World) : Calls Tryz.prog 4 #[] w fun e w' => e = .returned (.bool true) ∧ Below w.heap.size w w' := by
  have hnew := v1_new w w (Below.refl _ _) aK
  go_enter Tryz.func4, Tryz.ntmps4
  go_upto_region 5 with (go_at_call 5; refine hnew.mono ?_; rintro e w1 ⟨s, rfl, HV⟩)
  clear hnew
  go_wp2
  go_loopg [2] 3 (fun kx s2 wr => ∃ i : Nat, s2 = .int .i64 i ∧ kx + i = 3 ∧ i ≤ 2 ∧ Hid (V1 w wr s aK i (hsA i)))
  case atStart => exact ⟨0, rfl, rfl, by omega, HV⟩
  case round =>
    clear HV
    obtain ⟨i, rfl, hk, hi, HM⟩ := hrel
    by_cases hlt : i < 2
    · have hw := HM.out.write
      have HP : Hid (∀ W b, V1o w W s b aK i (hsA i) none → Calls Tryz.prog 8 #[ptr b, .string ⟨#[97]⟩, .string ⟨#[120]⟩, .int .i64 0] W fun e w' => e = .returned (.int .i64 0) ∧ Hid (V1o w w' s b aK i (hsA i) (some (some (putKV aK xV i (hsA i) 0))))) := fun W b q => q.put (by omega) xV 0 (by decide) (by decide) (by omega)
      have HD : Hid (∀ W b c, V1o w W s b aK i (hsA i) (some c) → Calls Tryz.prog 9 #[ptr b] W fun e w' => e = .returned (.int .i64 ((i + 1 : Nat) : Int)) ∧ Hid (V1 w w' s aK (i + 1) (hsA i ++ [((i : Int) + 1, c)]))) := fun W b c q => V1o.done (by omega) q
      clear HM
      go_wp2_with (first | (go_at_call 7; refine hw.mono ?_; rintro e w2 ⟨b, rfl, HO, -⟩; have hp := HP.out _ _ HO.out) | (go_at_call 8; refine hp.mono ?_; rintro e w3 ⟨rfl, HO3⟩; have hd := HD.out _ _ _ HO3.out) | (go_at_call 9; refine hd.mono ?_; rintro e w4 ⟨rfl, HV4⟩))
      go_roundg (2 - i)
      case measure => omega
      case rel => exact ⟨i + 1, by congr 1, by omega, by omega, HV4⟩
    · obtain rfl : i = 2 := by omega
      have e1 : atH (hsA 2) 1 = some (putKV aK xV 0 [] 0) := by
        show atH (hsA 1 ++ [((1 : Int) + 1, _)]) 1 = _
        rw [atH_snoc_lt (by decide)]
        show atH ([] ++ [((0 : Int) + 1, _)]) 1 = _
        rw [atH_snoc_le (by decide)]
        rfl
      have e2 : (thereH (hsA 2)).isSome = true := by
        show (thereH (hsA 1 ++ [_])).isSome = true
        rw [thereH_snoc]; rfl
      have hr := HM.out.range (by omega) 1 (by omega) (by decide)
      simp only [Nat.one_ne_zero, if_false, Int.natCast_one] at hr
      rw [e1] at hr
      dsimp only [Option.toList_some, List.length_cons, List.length_nil] at hr
      have HW : Hid (∀ W, V1 w W s aK 2 (hsA 2) → Calls Tryz.prog 7 #[ptr s] W fun e w' => ∃ b, e = .returned (ptr b) ∧ Hid (V1o w w' s b aK 2 (hsA 2) none) ∧ Hid (Upd W w' (fun j => j = s) ∧ s < W.heap.size)) := fun W q => q.write
      have HDL : Hid (∀ W b, V1o w W s b aK 2 (hsA 2) none → Calls Tryz.prog 14 #[ptr b, .string ⟨#[97]⟩, .string ⟨#[]⟩] W fun e w' => e = .returned (.int .i64 1) ∧ Hid (V1o w w' s b aK 2 (hsA 2) (some none))) := fun W b q => by
        have := q.del (by omega) (by decide)
        rw [e2] at this
        exact this
      have HDN : Hid (∀ W b, V1o w W s b aK 2 (hsA 2) (some none) → Calls Tryz.prog 9 #[ptr b] W fun e w' => e = .returned (.int .i64 3) ∧ Hid (Below w.heap.size w w')) := fun W b q => by
        refine (V1o.done (by omega) q).mono ?_
        rintro e w' ⟨rfl, hv⟩
        exact ⟨rfl, hv.out.below⟩
      have HRV : Hid (∀ W b, V1o w W s b aK 2 (hsA 2) none → Calls Tryz.prog 13 #[ptr s] W fun e w' => e = .returned (.int .i64 2) ∧ w' = W) := fun W b q => by
        obtain ⟨n, g, S, W', hw, h1, h2, h3, -⟩ := q
        have := rev_st h2.st
        rw [h3.rev] at this
        exact this
      have hve : (putKV aK xV 0 [] 0).version = 1 := rfl
      have hsl := HM.out.lt
      clear e1 e2 HM
      go_upto_region 11 with (go_at_call 11; refine hr.mono ?_; rintro e w2 ⟨p, c, rfl, HR, HV2⟩)
      obtain ⟨g, cg, hv, hB, hgl, -, -, -, -, k4, -⟩ := kv_cells HR.out
      have hpp : p = some ⟨g, 0, none⟩ := by cases hv; rfl
      subst hpp
      rw [hve] at k4
      have hw := HW.out _ HV2.out
      go_upto_region 12 with (go_at_call 7; refine hw.mono ?_; rintro e w3 ⟨b, rfl, HO, HU⟩)
      have hgs : g ≠ s := by omega
      have k4' := (HU.out.1.cell (p := ⟨g, 4, none⟩) hgl hgs).trans k4
      have hrev := HRV.out _ _ HO.out
      have hdl := HDL.out _ _ HO.out
      clear HR HV2 hw HW HRV HU k4
      go_wp2_with (first | (go_at_call 13; refine hrev.mono ?_; rintro e w' ⟨rfl, hw'⟩; obtain rfl := hw'.symm) | (go_at_call 14; refine hdl.mono ?_; rintro e w4 ⟨rfl, HO4⟩; have hdn := HDN.out _ _ HO4.out) | (go_at_call 9; refine hdn.mono ?_; rintro e w5 ⟨rfl, HB5⟩))
      go_ret
      exact ⟨rfl, HB5.out⟩
end Go.Proofs.YteeflkkoifgcbabGreat
