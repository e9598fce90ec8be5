/- An index by what it says: its calls. -/
import Derived.Test.YtilginghgigiiaaN4
import Derived.Test.YtilginghgigiiaaG5
import Derived.Test.YtilginghgigiiaaKL
import Derived.Deep.LoopGhost
namespace Go.Proofs.Ytilginghgigiiaa
open Go Go.RowKit

/-- An index in memory that says D. -/
def Xd (w : World) (x : Nat) (D : Dat) (F : List Nat) : Prop := ∃ R, Ix w x R F ∧ dat R = D
/-- Its keys and marks are at most n; marks rise. -/
structure Bd (n : Nat) (D : Dat) : Prop where
  len : D.length ≤ n
  ms : ∀ p ∈ D, p.2.length ≤ n ∧ MAsc p.2 ∧ 0 < p.2.length
  asc : Asc (D.map Prod.fst)
theorem Xd.upd {w w' : World} {S : Nat → Prop} (hu : Upd w w' S) {x : Nat} {D : Dat} {F : List Nat} (h : Xd w x D F) (hS : ∀ k ∈ F, ¬ S k) : Xd w' x D F := by
  obtain ⟨R, h1, h2⟩ := h
  exact ⟨R, h1.upd hu hS, h2⟩
theorem Xd.below {w w' : World} (hb : Below w.heap.size w w') {x : Nat} {D : Dat} {F : List Nat} (h : Xd w x D F) : Xd w' x D F := h.upd (S := fun _ => False) (Upd.ofBelow hb) (fun _ _ h => h)
theorem Xd.lt {w : World} {x : Nat} {D : Dat} {F : List Nat} (h : Xd w x D F) : ∀ k ∈ F, k < w.heap.size := by
  obtain ⟨R, h1, _⟩ := h
  exact h1.lt
theorem Xd.nd {w : World} {x : Nat} {D : Dat} {F : List Nat} (h : Xd w x D F) : F.Nodup := by
  obtain ⟨R, h1, _⟩ := h
  exact h1.nd
theorem Bd.nil : Bd 0 [] := ⟨Nat.le_refl _, fun p hp => (by cases hp), trivial⟩
theorem Bd.mono {n m : Nat} {D : Dat} (h : Bd n D) (hm : n ≤ m) : Bd m D := ⟨Nat.le_trans h.len hm, fun p hp => ⟨Nat.le_trans (h.ms p hp).1 hm, (h.ms p hp).2⟩, h.asc⟩
theorem setD_mem : ∀ {D : Dat} {key : ByteArray} {ms : List Mk} {p : ByteArray × List Mk}, p ∈ setD D key ms → p = (key, ms) ∨ p ∈ D
  | [], key, ms, p, h => by simp [setD] at h; exact .inl h
  | (k, m) :: D, key, ms, p, h => by
    unfold setD at h
    split at h
    · rcases List.mem_cons.1 h with rfl | h
      · exact .inr (by simp)
      · exact (setD_mem h).imp id (List.mem_cons_of_mem _)
    · split at h
      · rcases List.mem_cons.1 h with rfl | h
        · exact .inl rfl
        · exact .inr (List.mem_cons_of_mem _ h)
      · rcases List.mem_cons.1 h with rfl | h
        · exact .inl rfl
        · exact .inr h
theorem setD_len : ∀ (D : Dat) (key : ByteArray) (ms : List Mk), (setD D key ms).length ≤ D.length + 1
  | [], _, _ => by simp [setD]
  | (k, m) :: D, key, ms => by
    unfold setD
    have := setD_len D key ms
    split
    · simp; omega
    · split <;> simp
theorem setD_asc : ∀ {D : Dat} {key : ByteArray} {ms : List Mk}, Asc (D.map Prod.fst) → Asc ((setD D key ms).map Prod.fst)
  | [], _, _, _ => by simp [setD, Asc]
  | (k, m) :: D, key, ms, h => by
    obtain ⟨h1, h2⟩ : (∀ j ∈ D.map Prod.fst, klt k j = true) ∧ Asc (D.map Prod.fst) := h
    unfold setD
    split
    · rename_i hk
      refine ⟨fun j hj => ?_, setD_asc h2⟩
      obtain ⟨p, hp, rfl⟩ := List.mem_map.1 hj
      rcases setD_mem hp with rfl | hp
      · exact hk
      · exact h1 _ (List.mem_map_of_mem hp)
    · rename_i hk
      split
      · rename_i e
        subst e
        exact ⟨h1, h2⟩
      · rename_i hne
        have hkk : klt key k = true := by
          cases hq : klt key k
          · exact absurd (klt_tri (by simpa using hk) hq) hne
          · rfl
        refine ⟨fun j hj => ?_, h1, h2⟩
        rcases List.mem_cons.1 hj with rfl | hj
        · exact hkk
        · exact klt_trans hkk (h1 j hj)
theorem lookD_mem : ∀ {D : Dat} {key : ByteArray} {ms : List Mk}, lookD D key = some ms → (key, ms) ∈ D
  | [], _, _, h => by cases h
  | (k, m) :: D, key, ms, h => by
    unfold lookD at h
    split at h
    · rename_i e; cases h; rw [← e]; simp
    · exact List.mem_cons_of_mem _ (lookD_mem h)
theorem masc_snoc {ms : List Mk} {m : Mk} (h : MAsc ms) (hm : ms ≠ [] → (lastM ms).1 < m.1) : MAsc (ms ++ [m]) := by
  refine List.pairwise_append.2 ⟨h, by simp, fun a ha b hb => ?_⟩
  obtain rfl : b = m := by simpa using hb
  have hne : ms ≠ [] := fun e => by rw [e] at ha; cases ha
  have hl := hm hne
  obtain ⟨ini, l, rfl⟩ : ∃ ini l, ms = ini ++ [l] := ⟨ms.dropLast, ms.getLast hne, (List.dropLast_concat_getLast _).symm⟩
  have e : lastM (ini ++ [l]) = l := by simp [lastM]
  rw [e] at hl
  rcases List.mem_append.1 ha with ha | ha
  · have := (List.pairwise_append.1 h).2.2 a ha l (by simp)
    omega
  · obtain rfl : a = l := by simpa using ha
    exact hl
theorem Bd.put {n : Nat} {D : Dat} (h : Bd n D) (key : ByteArray) (rev : Int) (del : Bool) : Bd (n + 1) (putD D key rev del) := by
  unfold putD
  split
  · rename_i he
    refine ⟨Nat.le_trans (setD_len _ _ _) (by have := h.len; omega), fun p hp => ?_, setD_asc h.asc⟩
    rcases setD_mem hp with rfl | hp
    · cases hl : lookD D key with
      | none => simp
      | some ms =>
        obtain ⟨q1, q2, q3⟩ := h.ms _ (lookD_mem hl)
        dsimp only at q1 q2 q3
        refine ⟨by simp; omega, masc_snoc q2 (fun _ => ?_), by simp⟩
        unfold putE at he
        rw [hl] at he
        split at he
        · cases he
        · dsimp only at he
          split at he
          · cases he
          · show (lastM ms).1 < rev
            omega
    · exact ⟨Nat.le_succ_of_le (h.ms p hp).1, (h.ms p hp).2⟩
  · exact h.mono (Nat.le_succ _)
theorem Bd.trim {n : Nat} {D : Dat} (h : Bd n D) (rev : Int) : Bd n (trimD rev D) := by
  unfold trimD
  refine ⟨Nat.le_trans (List.length_filter_le _ _) (by simpa using h.len), fun p hp => ?_, ?_⟩
  · obtain ⟨h1, h2⟩ := List.mem_filter.1 hp
    obtain ⟨q, hq, rfl⟩ := List.mem_map.1 h1
    obtain ⟨q1, q2, q3⟩ := h.ms q hq
    refine ⟨by simp [cutL]; omega, q2.sublist (List.drop_sublist _ _), ?_⟩
    dsimp only at h2 ⊢
    cases hc : cutL rev q.2 with
    | nil => rw [hc] at h2; simp at h2
    | cons a l => simp
  · refine asc_sublist ((List.filter_sublist).map _) ?_
    rw [List.map_map]
    exact h.asc

theorem new_xd (w : World) : Calls Try.prog 9 #[] w fun e w' => e = .returned (ptr w.heap.size) ∧ Xd w' w.heap.size [] [w.heap.size] ∧ Below w.heap.size w w' ∧ w'.heap.size = w.heap.size + 1 :=
  (new_any w).mono fun _ _ ⟨h1, h2, h3, h4⟩ => ⟨h1, ⟨[], h2, rfl⟩, h3, h4⟩
section
variable {w : World} {x : Nat} {D : Dat} {F : List Nat} {n : Nat} (H : Xd w x D F) (hB : Bd n D) (hn : n ≤ 1000000)
include H
theorem len_xd : Calls Try.prog 18 #[ptr x] w fun e w' => e = .returned (.int .i64 D.length) ∧ w' = w := by
  obtain ⟨R, h1, rfl⟩ := H
  rw [dat_len]
  exact len_any h1
include hB hn
theorem put_xd (key : ByteArray) (rev : Int) (del : Bool) (hk : key.size ≤ 9223372036854775807) (hrv : -9223372036854775808 ≤ rev ∧ rev ≤ 9223372036854775807) :
    Calls Try.prog 10 #[ptr x, .string key, .agg #[.int .i64 rev, .bool del]] w fun e w' => e = .returned (.int .i64 (putE D key rev del)) ∧ ∃ F', Xd w' x (putD D key rev del) F' ∧ Step w w' F F' := by
  obtain ⟨R, h1, rfl⟩ := H
  refine (put_any h1 key rev del hk hrv (by have := hB.len; rw [dat_len] at this; omega) (fun r hr => by have := (hB.ms _ (mem_dat hr)).1; dsimp only at this; omega)).mono ?_
  rintro e w' ⟨rfl, R', F', q1, q2, q3⟩
  exact ⟨rfl, F', ⟨R', q1, q2⟩, q3⟩
theorem trim_xd (rev : Int) : Calls Try.prog 12 #[ptr x, .int .i64 rev] w fun e w' => e = .returned (.tuple #[]) ∧ ∃ F', Xd w' x (trimD rev D) F' ∧ Step w w' F F' := by
  obtain ⟨R, h1, rfl⟩ := H
  refine (trim_any h1 (fun r hr => by obtain ⟨q1, q2, _⟩ := hB.ms _ (mem_dat hr); dsimp only at q1 q2; exact ⟨q2, by omega⟩) rev (by have := hB.len; rw [dat_len] at this; omega)).mono ?_
  rintro e w' ⟨rfl, R', F', q1, q2, q3⟩
  exact ⟨rfl, F', ⟨R', q1, q2⟩, q3⟩
theorem marks_xd (key : ByteArray) : Calls Try.prog 14 #[ptr x, .string key] w fun e w' => ∃ v, e = .returned v ∧ MarksPost w w' v ((lookD D key).getD []) := by
  obtain ⟨R, h1, rfl⟩ := H
  cases hl : lookD (dat R) key with
  | none =>
    have hno : key ∉ keysR R := fun hm => by
      rw [← dat_keys] at hm
      obtain ⟨p, hp, rfl⟩ := List.mem_map.1 hm
      obtain ⟨A, B, hAB⟩ := List.append_of_mem hp
      have := hB.asc
      rw [hAB] at this hl
      rw [lookD_at (X := A) (Z := B) (key := p.1) (ms := p.2) this] at hl
      cases hl
    refine (marks_no h1 key hno).mono ?_
    rintro e w' ⟨rfl, hb⟩
    exact ⟨_, rfl, ⟨none, 0, rfl, fun g hg => by cases hg⟩, World.ownsRow_nil _ _ _ _, hb⟩
  | some ms => exact marks_yes h1 key ms hl (by have := (hB.ms _ (lookD_mem hl)).1; dsimp only at this; omega)
end
/-- The keys of a range. -/
def keysD (lo hi : ByteArray) (D : Dat) : List ByteArray := (D.map Prod.fst).filter fun k => !klt k lo && inHi hi k
theorem keysD_dat (lo hi : ByteArray) (R : List IM) : keysL lo hi (R.map IM.it) = keysD lo hi (dat R) := by
  unfold keysL keysD filt
  rw [List.filter_filter, dat_keys]
  induction R with
  | nil => rfl
  | cons r R ih =>
    simp only [keysR, List.map_cons, List.filter_cons]
    rw [Bool.and_comm]
    by_cases hq : (!klt r.it.key lo && inHi hi r.it.key) = true
    · rw [if_pos hq, if_pos hq, List.map_cons, ih]
    · rw [if_neg hq, if_neg hq, ih]
theorem keys_xd {w : World} {x : Nat} {D : Dat} {F : List Nat} (H : Xd w x D F) (hD : D.length ≤ 1000000) (lo hi : ByteArray) : Calls Try.prog 16 #[ptr x, .string lo, .string hi] w fun e w' => ∃ v, e = .returned v ∧ KeysPost w w' v (keysD lo hi D) := by
  obtain ⟨R, h1, rfl⟩ := H
  have := keys_any h1 lo hi (by rw [dat_len] at hD; exact hD)
  rw [keysD_dat] at this
  exact this
end Go.Proofs.Ytilginghgigiiaa
/- The chapter's example. -/
namespace Go.Proofs.Ytilginghgigiiaa
open Go Go.RowKit

theorem putE_a1 : putE [] ⟨#[97]⟩ 1 false = 0 := by decide +kernel
theorem putD_a1 : putD [] ⟨#[97]⟩ 1 false = [(⟨#[97]⟩, [(1, false)])] := by decide +kernel
theorem putD_a3 : putD [(⟨#[97]⟩, [(1, false)])] ⟨#[97]⟩ 3 true = [(⟨#[97]⟩, [(1, false), (3, true)])] := by decide +kernel
theorem trimD_a3 : trimD 3 [(⟨#[97]⟩, [(1, false), (3, true)])] = [] := by decide +kernel
set_option maxHeartbeats 1000000 in
theorem known_any (w : World) : Calls Try.prog 8 #[] w fun e w' => e = .returned (.bool true) ∧ Below w.heap.size w w' := by
  have b1 : Bd 1 [((⟨#[97]⟩ : ByteArray), [((1 : Int), false)])] := by have := Bd.nil.put ⟨#[97]⟩ 1 false; rw [putD_a1] at this; exact this
  have b2 : Bd 2 [((⟨#[97]⟩ : ByteArray), [((1 : Int), false), (3, true)])] := by have := b1.put ⟨#[97]⟩ 3 true; rw [putD_a3] at this; exact this
  have HP1 : Hid (∀ W F, Xd W w.heap.size [] F → Calls Try.prog 10 #[ptr w.heap.size, .string ⟨#[97]⟩, .agg #[.int .i64 1, .bool false]] W fun e w' => (∃ z, e = .returned (.int .i64 z)) ∧ ∃ F', Xd w' w.heap.size [(⟨#[97]⟩, [(1, false)])] F' ∧ Step W w' F F') := fun W F h => by
    have := put_xd h Bd.nil (by omega) ⟨#[97]⟩ 1 false (by decide) (by omega)
    rw [putD_a1] at this
    exact this.mono fun e w' h => ⟨⟨_, h.1⟩, h.2⟩
  have HP2 : Hid (∀ W F, Xd W w.heap.size [(⟨#[97]⟩, [(1, false)])] F → Calls Try.prog 10 #[ptr w.heap.size, .string ⟨#[97]⟩, .agg #[.int .i64 3, .bool true]] W fun e w' => (∃ z, e = .returned (.int .i64 z)) ∧ ∃ F', Xd w' w.heap.size [(⟨#[97]⟩, [(1, false), (3, true)])] F' ∧ Step W w' F F') := fun W F h => by
    have := put_xd h b1 (by omega) ⟨#[97]⟩ 3 true (by decide) (by omega)
    rw [putD_a3] at this
    exact this.mono fun e w' h => ⟨⟨_, h.1⟩, h.2⟩
  have HL2 : Hid (∀ W F, Xd W w.heap.size [(⟨#[97]⟩, [(1, false), (3, true)])] F → Calls Try.prog 18 #[ptr w.heap.size] W fun e w' => e = .returned (.int .i64 1) ∧ w' = W) := fun W F h => len_xd h
  have HT : Hid (∀ W F, Xd W w.heap.size [(⟨#[97]⟩, [(1, false), (3, true)])] F → Calls Try.prog 12 #[ptr w.heap.size, .int .i64 3] W fun e w' => e = .returned (.tuple #[]) ∧ ∃ F', Xd w' w.heap.size [] F' ∧ Step W w' F F') := fun W F h => by
    have := trim_xd h b2 (by omega) 3
    rw [trimD_a3] at this
    exact this
  have HL0 : Hid (∀ W F, Xd W w.heap.size [] F → Calls Try.prog 18 #[ptr w.heap.size] W fun e w' => e = .returned (.int .i64 0) ∧ w' = W) := fun W F h => len_xd h
  clear b1 b2
  go_enter Try.func8, Try.ntmps8
  go_upto_region 4 with (go_at_call 9; refine (new_xd w).mono ?_; rintro e w1 ⟨rfl, h1, hb1, _⟩)
  have X1 := Hid.mk'' h1
  clear h1
  go_upto_region 5 with (go_at_call 10; refine (HP1.out _ _ X1.out).mono ?_; rintro e w2 ⟨⟨z2, rfl⟩, F2, h2, s2⟩)
  have X2 := Hid.mk'' h2
  clear h2
  go_upto_region 6 with (go_at_call 10; refine (HP2.out _ _ X2.out).mono ?_; rintro e w3 ⟨⟨z3, rfl⟩, F3, h3, s3⟩)
  have X3 := Hid.mk'' h3
  clear h3
  go_upto_region 7 with (go_at_call 18; refine (HL2.out _ _ X3.out).mono ?_; rintro e w4 ⟨rfl, rfl⟩)
  go_upto_region 8 with (go_at_call 12; refine (HT.out _ _ X3.out).mono ?_; rintro e w5 ⟨rfl, F5, h5, s5⟩)
  have X5 := Hid.mk'' h5
  clear h5
  go_wp2_with (go_at_call 18; refine (HL0.out _ _ X5.out).mono ?_; rintro e w6 ⟨rfl, rfl⟩)
  go_ret
  refine ⟨rfl, ?_⟩
  have S := (s2.trans s3).trans s5
  exact hb1.trans (S.upd.below hb1.size (fun k hk hm => by simp only [List.mem_singleton] at hm; omega))
end Go.Proofs.Ytilginghgigiiaa
/- What comes in; within. -/
namespace Go.Proofs.Ytilginghgigiiaa
open Go Go.RowKit

def SeesI (w : World) (v : Value) (zs : List Int) : Prop :=
  (zs = [] ∧ ∃ ao cap, v = .slice ao 0 cap) ∨ ∃ b off cap, v = .slice (some ⟨b, off, none⟩) zs.length cap ∧ 0 < zs.length ∧ b < w.heap.size ∧ ∀ i, i < zs.length → w.cell? ⟨b, off + i, none⟩ = some (.int .i64 (zs.getD i 0))
def SeesT (w : World) (v : Value) (zs : List Bool) : Prop :=
  (zs = [] ∧ ∃ ao cap, v = .slice ao 0 cap) ∨ ∃ b off cap, v = .slice (some ⟨b, off, none⟩) zs.length cap ∧ 0 < zs.length ∧ b < w.heap.size ∧ ∀ i, i < zs.length → w.cell? ⟨b, off + i, none⟩ = some (.bool (zs.getD i false))
theorem SeesI.form {w : World} {v : Value} {zs : List Int} (h : SeesI w v zs) : ∃ ao cap, v = .slice ao zs.length cap := by
  rcases h with ⟨rfl, ao, cap, rfl⟩ | ⟨b, off, cap, rfl, _⟩ <;> exact ⟨_, _, rfl⟩
theorem SeesT.form {w : World} {v : Value} {zs : List Bool} (h : SeesT w v zs) : ∃ ao cap, v = .slice ao zs.length cap := by
  rcases h with ⟨rfl, ao, cap, rfl⟩ | ⟨b, off, cap, rfl, _⟩ <;> exact ⟨_, _, rfl⟩
theorem SeesI.at {w : World} {a : Option Addr} {cap : Nat} {zs : List Int} (h : SeesI w (.slice a zs.length cap) zs) {j : Nat} (hj : j < zs.length) : ∃ b off, a = some ⟨b, off, none⟩ ∧ b < w.heap.size ∧ w.cell? ⟨b, off + j, none⟩ = some (.int .i64 (zs.getD j 0)) := by
  rcases h with ⟨h, _⟩ | ⟨b, off, c, he, _, hb, hc⟩
  · subst h; simp at hj
  · cases he; exact ⟨b, off, rfl, hb, hc j hj⟩
theorem SeesT.at {w : World} {a : Option Addr} {cap : Nat} {zs : List Bool} (h : SeesT w (.slice a zs.length cap) zs) {j : Nat} (hj : j < zs.length) : ∃ b off, a = some ⟨b, off, none⟩ ∧ b < w.heap.size ∧ w.cell? ⟨b, off + j, none⟩ = some (.bool (zs.getD j false)) := by
  rcases h with ⟨h, _⟩ | ⟨b, off, c, he, _, hb, hc⟩
  · subst h; simp at hj
  · cases he; exact ⟨b, off, rfl, hb, hc j hj⟩
def withinF (a n : Int) : Int := if a.tmod n < 0 then a.tmod n + n else a.tmod n
theorem withinF_bd (a n : Int) (hn : 0 < n) : 0 ≤ withinF a n ∧ withinF a n < n := by
  have h1 := Int.lt_tmod_of_pos a (b := n) hn
  have h2 := Int.tmod_lt_of_pos a (b := n) hn
  unfold withinF
  split <;> omega
theorem withinF_nat (a : Nat) (n : Nat) : withinF a n = ((a % n : Nat) : Int) := by
  have h : ((a : Int).tmod (n : Int)) = ((a % n : Nat) : Int) := by rw [Int.ofNat_tmod]
  unfold withinF
  rw [h, if_neg (by omega)]
set_option maxHeartbeats 1000000 in
theorem within_any (a n : Int) (w : World) (hn : 0 < n) (hm : n ≤ 1000000000000000) :
    Calls Try.prog 19 #[.int .i64 a, .int .i64 n] w fun e w' => e = .returned (.int .i64 (withinF a n)) ∧ w' = w := by
  have h1 := Int.lt_tmod_of_pos a (b := n) hn
  have h2 := Int.tmod_lt_of_pos a (b := n) hn
  have hn0 : (n == 0) = false := by simp; omega
  by_cases h : a.tmod n < 0
  · have HW : Hid (withinF a n = a.tmod n + n) := by show _ = _; rw [withinF, if_pos h]
    go_enter Try.func19, Try.ntmps19
    go_wp2
    go_ret
    exact ⟨ret_int HW.out.symm, rfl⟩
  · have HW : Hid (withinF a n = a.tmod n) := by show _ = _; rw [withinF, if_neg h]
    go_enter Try.func19, Try.ntmps19
    go_wp2
    go_ret
    exact ⟨ret_int HW.out.symm, rfl⟩
end Go.Proofs.Ytilginghgigiiaa
