/- IndexGrows: what the index says, as data. -/
import Derived.Test.YtilginghgigiiaaY2
namespace Go.Proofs.Ytilginghgigiiaa
open Go Go.RowKit

/-- The keys, by their numbers. -/
def keyN (s i : Nat) : ByteArray := nameB (i * s % 17576)
theorem keyN_size (s i : Nat) : (keyN s i).size = 3 := rfl
/-- An index that says, of the first m numbers' keys, g. -/
def Gd (s m : Nat) (g : Nat → List Mk) (D : Dat) : Prop := D.Perm ((List.range m).map fun i => (keyN s i, g i))
structure StepOK (s : Nat) : Prop where
  lt : s < 1210
  odd : s % 2 = 1
  no13 : s % 13 ≠ 0
theorem Gd.len {s m : Nat} {g : Nat → List Mk} {D : Dat} (h : Gd s m g D) : D.length = m := by
  have := h.length_eq
  simpa using this
theorem Gd.new {s m : Nat} {g : Nat → List Mk} {D : Dat} (hs : StepOK s) (h : Gd s m g D) (hm : m < 700) : keyN s m ∉ D.map Prod.fst := fun hk => by
  obtain ⟨p, hp, he⟩ := List.mem_map.1 hk
  obtain ⟨i, hi, rfl⟩ := List.mem_map.1 (h.mem_iff.1 hp)
  have hil := List.mem_range.1 hi
  have := key_inj hs.lt hs.odd hs.no13 (by omega) hm he
  omega
theorem Gd.look {s m : Nat} {g : Nat → List Mk} {D : Dat} (h : Gd s m g D) (ha : Asc (D.map Prod.fst)) {i : Nat} (hi : i < m) : lookD D (keyN s i) = some (g i) := by
  have hm : (keyN s i, g i) ∈ D := h.mem_iff.2 (List.mem_map.2 ⟨i, List.mem_range.2 hi, rfl⟩)
  obtain ⟨A, B, rfl⟩ := List.append_of_mem hm
  exact lookD_at ha
theorem Gd.add {s m : Nat} {g : Nat → List Mk} {D : Dat} (hs : StepOK s) (h : Gd s m g D) (hm : m < 700) (rev : Int) (hr : 1 ≤ rev) (hg : g m = [(rev, false)]) : putE D (keyN s m) rev false = 0 ∧ Gd s (m + 1) g (putD D (keyN s m) rev false) := by
  have hn := h.new hs hm
  have hl : lookD D (keyN s m) = none := lookD_none hn
  have hE : putE D (keyN s m) rev false = 0 := by
    unfold putE
    rw [keyN_size, if_neg (by omega), hl]
    rfl
  refine ⟨hE, ?_⟩
  unfold Gd putD
  rw [if_pos hE, hl, setD_new hn, List.range_succ, List.map_append]
  refine List.perm_middle.trans ?_
  rw [List.takeWhile_append_dropWhile]
  have h1 : (List.map (fun i => (keyN s i, g i)) [m]) = [(keyN s m, (none : Option (List Mk)).getD [] ++ [(rev, false)])] := by simp [hg]
  rw [h1]
  exact (List.Perm.cons _ h).trans (List.perm_append_singleton _ _).symm
theorem Gd.del {s m : Nat} {g : Nat → List Mk} {D : Dat} (h : Gd s m g D) (ha : Asc (D.map Prod.fst)) {j : Nat} (hj : j < m) {a rev : Int} (hg : g j = [(a, false)]) (hr : 1 ≤ rev) (hra : a < rev) : putE D (keyN s j) rev true = 0 ∧ Gd s m (fun i => if i = j then [(a, false), (rev, true)] else g i) (putD D (keyN s j) rev true) := by
  have hl := h.look ha hj
  rw [hg] at hl
  have hE : putE D (keyN s j) rev true = 0 := by
    unfold putE
    rw [keyN_size, if_neg (by omega), hl]
    show (if rev ≤ a then (15 : Int) else if (true && false) = true then 2 else 0) = 0
    rw [if_neg (by omega)]; rfl
  refine ⟨hE, ?_⟩
  have hm : (keyN s j, [(a, false)]) ∈ D := lookD_mem hl
  obtain ⟨X, Z, rfl⟩ := List.append_of_mem hm
  have hD : putD (X ++ (keyN s j, [(a, false)]) :: Z) (keyN s j) rev true = X ++ (keyN s j, [(a, false), (rev, true)]) :: Z := by
    unfold putD
    rw [if_pos hE, hl, setD_at ha]
    rfl
  rw [hD]
  have hjr : j ∈ List.range m := List.mem_range.2 hj
  have hnd : (List.range m).Nodup := List.nodup_range
  obtain ⟨A, B, hAB⟩ := List.append_of_mem hjr
  rw [hAB] at hnd
  unfold Gd at h ⊢
  rw [hAB] at h ⊢
  simp only [List.nodup_append, List.nodup_cons] at hnd
  obtain ⟨_, ⟨hjB, _⟩, hAj⟩ := hnd
  have eA : A.map (fun i => (keyN s i, if i = j then [(a, false), (rev, true)] else g i)) = A.map (fun i => (keyN s i, g i)) := List.map_congr_left fun i hi => by
    rw [if_neg (fun e => hAj i hi j (by simp) e)]
  have eB : B.map (fun i => (keyN s i, if i = j then [(a, false), (rev, true)] else g i)) = B.map (fun i => (keyN s i, g i)) := List.map_congr_left fun i hi => by
    have hij : i ≠ j := fun e => hjB (by rw [← e]; exact hi)
    rw [if_neg hij]
  rw [List.map_append, List.map_cons, eA, eB]
  simp only [if_true]
  rw [List.map_append, List.map_cons, hg] at h
  have hc : (X ++ Z).Perm (A.map (fun i => (keyN s i, g i)) ++ B.map (fun i => (keyN s i, g i))) := (List.perm_middle.symm.trans (h.trans List.perm_middle)).cons_inv
  exact List.perm_middle.trans ((List.Perm.cons _ hc).trans List.perm_middle.symm)
theorem cut_gone {a b r : Int} (hab : a < b) (hb : b ≤ r) : cutL r [(a, false), (b, true)] = [] := by
  have ha : a < r := by omega
  unfold cutL cutM
  rcases Int.lt_or_eq_of_le hb with h | h
  · have hp : plm [(a, false), (b, true)] r = 2 := by simp [plm, ha, h]
    have hh : hrm [(a, false), (b, true)] r = false := by unfold hrm; rw [hp]; rfl
    rw [hh, hp]
    rfl
  · subst h
    have hp : plm [(a, false), (b, true)] b = 1 := by simp [plm, ha]
    have hh : hrm [(a, false), (b, true)] b = true := by unfold hrm; rw [hp]; simp
    rw [hh, hp]
    rfl
theorem cut_stays {a r : Int} (ha : a ≤ r) : cutL r [(a, false)] = [(a, false)] := by
  unfold cutL cutM
  rcases Int.lt_or_eq_of_le ha with h | h
  · have hp : plm [(a, false)] r = 1 := by simp [plm, h]
    have hh : hrm [(a, false)] r = false := by unfold hrm; rw [hp]; rfl
    rw [hh, hp]
    rfl
  · subst h
    have hp : plm [(a, false)] a = 0 := by simp [plm]
    have hh : hrm [(a, false)] a = true := by unfold hrm; rw [hp]; simp
    rw [hh, hp]
    rfl
theorem range_count (k : Nat) : ∀ n, ((List.range n).filter fun i => decide (k ≤ i)).length = n - k
  | 0 => by simp
  | n + 1 => by
    have ih := range_count k n
    rw [List.range_succ, List.filter_append, List.length_append, ih]
    by_cases h : k ≤ n
    · simp [h]; omega
    · simp [h]; omega
/-- The marks at the end: the first k keys went. -/
def gEnd (n k : Nat) (i : Nat) : List Mk := if i < k then [((i : Int) + 1, false), ((n : Int) + 1 + i, true)] else [((i : Int) + 1, false)]
theorem gEnd_zero (n : Nat) : gEnd n 0 = fun i : Nat => [((i : Int) + 1, false)] := by funext i; simp [gEnd]
theorem gEnd_succ (n k : Nat) : (fun i => if i = k then [((k : Int) + 1, false), ((n : Int) + 1 + k, true)] else gEnd n k i) = gEnd n (k + 1) := by
  funext i
  unfold gEnd
  by_cases h1 : i = k
  · subst h1; simp
  · by_cases h2 : i < k
    · rw [if_neg h1, if_pos h2, if_pos (by omega)]
    · rw [if_neg h1, if_neg h2, if_neg (by omega)]
theorem Gd.trim {s n k : Nat} {D : Dat} (h : Gd s n (gEnd n k) D) : (trimD ((n : Int) + k) D).length = n - k := by
  unfold trimD
  have hp : ((D.map fun p => (p.1, cutL ((n : Int) + k) p.2)).filter fun p => !p.2.isEmpty).Perm ((((List.range n).map fun i => (keyN s i, gEnd n k i)).map fun p => (p.1, cutL ((n : Int) + k) p.2)).filter fun p => !p.2.isEmpty) := (h.map _).filter _
  rw [hp.length_eq, List.map_map, List.filter_map, List.length_map, ← range_count k n]
  congr 1
  refine List.filter_congr fun i hi => ?_
  have hin := List.mem_range.1 hi
  simp only [Function.comp]
  unfold gEnd
  by_cases hik : i < k
  · rw [if_pos hik, cut_gone (by omega) (by omega)]
    simp; omega
  · rw [if_neg hik, cut_stays (by omega)]
    simp; omega
end Go.Proofs.Ytilginghgigiiaa
