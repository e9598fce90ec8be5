/- An index by what it says: its calls. -/
import Derived.Test.YtilginghgigiiaaN4
import Derived.Test.YtilginghgigiiaaG5
import Derived.Test.YtilginghgigiiaaK1
namespace Go.Proofs.Ytilginghgigiiaa
open Go Go.RowKit

/-- An index in memory that says D. -/
def Xd (w : World) (x : Nat) (D : Dat) (F : List Nat) : Prop := ∃ R, Ix w x R F ∧ dat R = D
/-- Its keys and marks are at most n; marks rise. -/
structure Bd (n : Nat) (D : Dat) : Prop where
  len : D.length ≤ n
  ms : ∀ p ∈ D, p.2.length ≤ n ∧ MAsc p.2 ∧ 0 < p.2.length
  asc : Asc (D.map Prod.fst)
theorem Xd.upd {w w' : World} {S : Nat → Prop} (hu : Upd w w' S) {x : Nat} {D : Dat} {F : List Nat} (h : Xd w x D F) (hS : ∀ k ∈ F, ¬ S k) : Xd w' x D F := by
  obtain ⟨R, h1, h2⟩ := h
  exact ⟨R, h1.upd hu hS, h2⟩
theorem Xd.below {w w' : World} (hb : Below w.heap.size w w') {x : Nat} {D : Dat} {F : List Nat} (h : Xd w x D F) : Xd w' x D F := h.upd (S := fun _ => False) (Upd.ofBelow hb) (fun _ _ h => h)
theorem Xd.lt {w : World} {x : Nat} {D : Dat} {F : List Nat} (h : Xd w x D F) : ∀ k ∈ F, k < w.heap.size := by
  obtain ⟨R, h1, _⟩ := h
  exact h1.lt
theorem Xd.nd {w : World} {x : Nat} {D : Dat} {F : List Nat} (h : Xd w x D F) : F.Nodup := by
  obtain ⟨R, h1, _⟩ := h
  exact h1.nd
theorem Bd.nil : Bd 0 [] := ⟨Nat.le_refl _, fun p hp => (by cases hp), trivial⟩
theorem Bd.mono {n m : Nat} {D : Dat} (h : Bd n D) (hm : n ≤ m) : Bd m D := ⟨Nat.le_trans h.len hm, fun p hp => ⟨Nat.le_trans (h.ms p hp).1 hm, (h.ms p hp).2⟩, h.asc⟩
theorem setD_mem : ∀ {D : Dat} {key : ByteArray} {ms : List Mk} {p : ByteArray × List Mk}, p ∈ setD D key ms → p = (key, ms) ∨ p ∈ D
  | [], key, ms, p, h => by simp [setD] at h; exact .inl h
  | (k, m) :: D, key, ms, p, h => by
    unfold setD at h
    split at h
    · rcases List.mem_cons.1 h with rfl | h
      · exact .inr (by simp)
      · exact (setD_mem h).imp id (List.mem_cons_of_mem _)
    · split at h
      · rcases List.mem_cons.1 h with rfl | h
        · exact .inl rfl
        · exact .inr (List.mem_cons_of_mem _ h)
      · rcases List.mem_cons.1 h with rfl | h
        · exact .inl rfl
        · exact .inr h
theorem setD_len : ∀ (D : Dat) (key : ByteArray) (ms : List Mk), (setD D key ms).length ≤ D.length + 1
  | [], _, _ => by simp [setD]
  | (k, m) :: D, key, ms => by
    unfold setD
    have := setD_len D key ms
    split
    · simp; omega
    · split <;> simp
theorem setD_asc : ∀ {D : Dat} {key : ByteArray} {ms : List Mk}, Asc (D.map Prod.fst) → Asc ((setD D key ms).map Prod.fst)
  | [], _, _, _ => by simp [setD, Asc]
  | (k, m) :: D, key, ms, h => by
    obtain ⟨h1, h2⟩ : (∀ j ∈ D.map Prod.fst, klt k j = true) ∧ Asc (D.map Prod.fst) := h
    unfold setD
    split
    · rename_i hk
      refine ⟨fun j hj => ?_, setD_asc h2⟩
      obtain ⟨p, hp, rfl⟩ := List.mem_map.1 hj
      rcases setD_mem hp with rfl | hp
      · exact hk
      · exact h1 _ (List.mem_map_of_mem hp)
    · rename_i hk
      split
      · rename_i e
        subst e
        exact ⟨h1, h2⟩
      · rename_i hne
        have hkk : klt key k = true := by
          cases hq : klt key k
          · exact absurd (klt_tri (by simpa using hk) hq) hne
          · rfl
        refine ⟨fun j hj => ?_, h1, h2⟩
        rcases List.mem_cons.1 hj with rfl | hj
        · exact hkk
        · exact klt_trans hkk (h1 j hj)
theorem lookD_mem : ∀ {D : Dat} {key : ByteArray} {ms : List Mk}, lookD D key = some ms → (key, ms) ∈ D
  | [], _, _, h => by cases h
  | (k, m) :: D, key, ms, h => by
    unfold lookD at h
    split at h
    · rename_i e; cases h; rw [← e]; simp
    · exact List.mem_cons_of_mem _ (lookD_mem h)
theorem masc_snoc {ms : List Mk} {m : Mk} (h : MAsc ms) (hm : ms ≠ [] → (lastM ms).1 < m.1) : MAsc (ms ++ [m]) := by
  refine List.pairwise_append.2 ⟨h, by simp, fun a ha b hb => ?_⟩
  obtain rfl : b = m := by simpa using hb
  have hne : ms ≠ [] := fun e => by rw [e] at ha; cases ha
  have hl := hm hne
  obtain ⟨ini, l, rfl⟩ : ∃ ini l, ms = ini ++ [l] := ⟨ms.dropLast, ms.getLast hne, (List.dropLast_concat_getLast _).symm⟩
  have e : lastM (ini ++ [l]) = l := by simp [lastM]
  rw [e] at hl
  rcases List.mem_append.1 ha with ha | ha
  · have := (List.pairwise_append.1 h).2.2 a ha l (by simp)
    omega
  · obtain rfl : a = l := by simpa using ha
    exact hl
theorem Bd.put {n : Nat} {D : Dat} (h : Bd n D) (key : ByteArray) (rev : Int) (del : Bool) : Bd (n + 1) (putD D key rev del) := by
  unfold putD
  split
  · rename_i he
    refine ⟨Nat.le_trans (setD_len _ _ _) (by have := h.len; omega), fun p hp => ?_, setD_asc h.asc⟩
    rcases setD_mem hp with rfl | hp
    · cases hl : lookD D key with
      | none => simp
      | some ms =>
        obtain ⟨q1, q2, q3⟩ := h.ms _ (lookD_mem hl)
        dsimp only at q1 q2 q3
        refine ⟨by simp; omega, masc_snoc q2 (fun _ => ?_), by simp⟩
        unfold putE at he
        rw [hl] at he
        split at he
        · cases he
        · dsimp only at he
          split at he
          · cases he
          · show (lastM ms).1 < rev
            omega
    · exact ⟨Nat.le_succ_of_le (h.ms p hp).1, (h.ms p hp).2⟩
  · exact h.mono (Nat.le_succ _)
theorem Bd.trim {n : Nat} {D : Dat} (h : Bd n D) (rev : Int) : Bd n (trimD rev D) := by
  unfold trimD
  refine ⟨Nat.le_trans (List.length_filter_le _ _) (by simpa using h.len), fun p hp => ?_, ?_⟩
  · obtain ⟨h1, h2⟩ := List.mem_filter.1 hp
    obtain ⟨q, hq, rfl⟩ := List.mem_map.1 h1
    obtain ⟨q1, q2, q3⟩ := h.ms q hq
    refine ⟨by simp [cutL]; omega, q2.sublist (List.drop_sublist _ _), ?_⟩
    dsimp only at h2 ⊢
    cases hc : cutL rev q.2 with
    | nil => rw [hc] at h2; simp at h2
    | cons a l => simp
  · refine asc_sublist ((List.filter_sublist).map _) ?_
    rw [List.map_map]
    exact h.asc

theorem new_xd (w : World) : Calls Try.prog 9 #[] w fun e w' => e = .returned (ptr w.heap.size) ∧ Xd w' w.heap.size [] [w.heap.size] ∧ Below w.heap.size w w' ∧ w'.heap.size = w.heap.size + 1 :=
  (new_any w).mono fun _ _ ⟨h1, h2, h3, h4⟩ => ⟨h1, ⟨[], h2, rfl⟩, h3, h4⟩
section
variable {w : World} {x : Nat} {D : Dat} {F : List Nat} {n : Nat} (H : Xd w x D F) (hB : Bd n D) (hn : n ≤ 1000000)
include H
theorem len_xd : Calls Try.prog 18 #[ptr x] w fun e w' => e = .returned (.int .i64 D.length) ∧ w' = w := by
  obtain ⟨R, h1, rfl⟩ := H
  rw [dat_len]
  exact len_any h1
include hB hn
theorem put_xd (key : ByteArray) (rev : Int) (del : Bool) (hk : key.size ≤ 9223372036854775807) (hrv : -9223372036854775808 ≤ rev ∧ rev ≤ 9223372036854775807) :
    Calls Try.prog 10 #[ptr x, .string key, .agg #[.int .i64 rev, .bool del]] w fun e w' => e = .returned (.int .i64 (putE D key rev del)) ∧ ∃ F', Xd w' x (putD D key rev del) F' ∧ Step w w' F F' := by
  obtain ⟨R, h1, rfl⟩ := H
  refine (put_any h1 key rev del hk hrv (by have := hB.len; rw [dat_len] at this; omega) (fun r hr => by have := (hB.ms _ (mem_dat hr)).1; dsimp only at this; omega)).mono ?_
  rintro e w' ⟨rfl, R', F', q1, q2, q3⟩
  exact ⟨rfl, F', ⟨R', q1, q2⟩, q3⟩
theorem trim_xd (rev : Int) : Calls Try.prog 12 #[ptr x, .int .i64 rev] w fun e w' => e = .returned (.tuple #[]) ∧ ∃ F', Xd w' x (trimD rev D) F' ∧ Step w w' F F' := by
  obtain ⟨R, h1, rfl⟩ := H
  refine (trim_any h1 (fun r hr => by obtain ⟨q1, q2, _⟩ := hB.ms _ (mem_dat hr); dsimp only at q1 q2; exact ⟨q2, by omega⟩) rev (by have := hB.len; rw [dat_len] at this; omega)).mono ?_
  rintro e w' ⟨rfl, R', F', q1, q2, q3⟩
  exact ⟨rfl, F', ⟨R', q1, q2⟩, q3⟩
theorem marks_xd (key : ByteArray) : Calls Try.prog 14 #[ptr x, .string key] w fun e w' => ∃ v, e = .returned v ∧ MarksPost w w' v ((lookD D key).getD []) := by
  obtain ⟨R, h1, rfl⟩ := H
  cases hl : lookD (dat R) key with
  | none =>
    have hno : key ∉ keysR R := fun hm => by
      rw [← dat_keys] at hm
      obtain ⟨p, hp, rfl⟩ := List.mem_map.1 hm
      obtain ⟨A, B, hAB⟩ := List.append_of_mem hp
      have := hB.asc
      rw [hAB] at this hl
      rw [lookD_at (X := A) (Z := B) (key := p.1) (ms := p.2) this] at hl
      cases hl
    refine (marks_no h1 key hno).mono ?_
    rintro e w' ⟨rfl, hb⟩
    exact ⟨_, rfl, ⟨none, 0, rfl, fun g hg => by cases hg⟩, World.ownsRow_nil _ _ _ _, hb⟩
  | some ms => exact marks_yes h1 key ms hl (by have := (hB.ms _ (lookD_mem hl)).1; dsimp only at this; omega)
end
/-- The keys of a range. -/
def keysD (lo hi : ByteArray) (D : Dat) : List ByteArray := (D.map Prod.fst).filter fun k => !klt k lo && inHi hi k
theorem keysD_dat (lo hi : ByteArray) (R : List IM) : keysL lo hi (R.map IM.it) = keysD lo hi (dat R) := by
  unfold keysL keysD filt
  rw [List.filter_filter, dat_keys]
  induction R with
  | nil => rfl
  | cons r R ih =>
    simp only [keysR, List.map_cons, List.filter_cons]
    rw [Bool.and_comm]
    by_cases hq : (!klt r.it.key lo && inHi hi r.it.key) = true
    · rw [if_pos hq, if_pos hq, List.map_cons, ih]
    · rw [if_neg hq, if_neg hq, ih]
theorem keys_xd {w : World} {x : Nat} {D : Dat} {F : List Nat} (H : Xd w x D F) (hD : D.length ≤ 1000000) (lo hi : ByteArray) : Calls Try.prog 16 #[ptr x, .string lo, .string hi] w fun e w' => ∃ v, e = .returned v ∧ KeysPost w w' v (keysD lo hi D) := by
  obtain ⟨R, h1, rfl⟩ := H
  have := keys_any h1 lo hi (by rw [dat_len] at hD; exact hD)
  rw [keysD_dat] at this
  exact this
end Go.Proofs.Ytilginghgigiiaa
