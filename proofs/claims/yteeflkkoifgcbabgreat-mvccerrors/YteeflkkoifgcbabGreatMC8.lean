/- The keys of a range that a store knows. -/
import Derived.Test.YteeflkkoifgcbabGreatGRF
import Derived.Test.YteeflkkoifgcbabGreatXQ
namespace Go.Proofs.YteeflkkoifgcbabGreat
open Go Go.RowKit

theorem bl_nil : ∀ a : List UInt8, Op.bytesLess a [] = false
  | [] => rfl
  | _ :: _ => rfl
theorem bl_zero : ∀ a b : List UInt8, Op.bytesLess a b = false → Op.bytesLess a (b ++ [0]) = true → a = b
  | [], [], _, _ => rfl
  | [], _ :: _, h, _ => by simp [Op.bytesLess] at h
  | x :: a, [], _, h => by
    simp only [List.nil_append, Op.bytesLess, bl_nil, Bool.and_false, Bool.or_false, decide_eq_true_eq] at h
    exact absurd h (UInt8.not_lt.2 (UInt8.zero_le))
  | x :: a, y :: b, h1, h2 => by
    simp only [List.cons_append, Op.bytesLess, Bool.or_eq_false_iff, Bool.or_eq_true, decide_eq_false_iff_not, decide_eq_true_eq, Bool.and_eq_false_iff, Bool.and_eq_true, beq_eq_false_iff_ne, beq_iff_eq] at h1 h2
    rcases h2 with h2 | ⟨rfl, h2⟩
    · exact absurd h2 h1.1
    · rw [bl_zero a b (h1.2.resolve_left (fun h => h rfl)) h2]
theorem bl_snoc : ∀ a : List UInt8, Op.bytesLess a (a ++ [0]) = true
  | [] => rfl
  | x :: a => by simp [Op.bytesLess, bl_snoc a]
/-- A key is one of the range from lo to hi. -/
def inR (lo hi k : ByteArray) : Bool := if hi = ByteArray.empty then decide (k = lo) else !klt k lo && klt k hi
def rangeK (S : Sto) (lo hi : ByteArray) : List ByteArray := S.ks.filter (inR lo hi)
theorem datS_keys (S : Sto) : (datS S).map Prod.fst = S.ks := by
  unfold datS
  rw [List.map_map]
  exact List.map_id _
theorem rangeK_hi {S : Sto} {lo hi : ByteArray} (h : ¬ hi = ByteArray.empty) : keysD lo hi (datS S) = rangeK S lo hi := by
  unfold keysD rangeK
  rw [datS_keys]
  apply List.filter_congr
  intro k _
  unfold inR inHi
  rw [if_neg h]
  simp [h]
theorem rangeK_one {S : Sto} {lo : ByteArray} : keysD lo (lo ++ ⟨#[0]⟩) (datS S) = rangeK S lo ByteArray.empty := by
  unfold keysD rangeK
  rw [datS_keys]
  apply List.filter_congr
  intro k _
  unfold inR inHi
  have hd : (lo ++ (⟨#[0]⟩ : ByteArray)).data.toList = lo.data.toList ++ [0] := by simp
  have hne : ¬ (lo ++ (⟨#[0]⟩ : ByteArray)) = ByteArray.empty := fun e => by
    rw [e] at hd
    simp at hd
  rw [if_pos rfl]
  simp only [hne, decide_false, Bool.false_or]
  by_cases e : k = lo
  · subst e
    rw [klt_irrefl]
    unfold klt
    rw [hd, bl_snoc]
    simp
  · simp only [e, decide_false]
    cases h1 : klt k lo
    · cases h2 : klt k (lo ++ ⟨#[0]⟩)
      · rfl
      · exfalso
        unfold klt at h1 h2
        rw [hd] at h2
        exact e (bytes_ext (bl_zero _ _ h1 h2))
    · rfl
set_option maxRecDepth 100000 in
set_option maxHeartbeats 1000000 in
theorem keys_st {n : Nat} {w : World} {s : Nat} {S : Sto} {g : Sg} {o : Value} (h : St n w s S g o) (hn : n ≤ 1000000) (lo hi : ByteArray) (hl : lo.size ≤ 140737488355328) (hh : hi.size ≤ 140737488355328) :
    Calls Tryz.prog 28 #[ptr s, .string lo, .string hi] w fun e w' => ∃ p c, e = .returned (.slice p (rangeK S lo hi).length c) ∧ KeysPost w w' (.slice p (rangeK S lo hi).length c) (rangeK S lo hi) := by
  obtain ⟨-, -, c2, -⟩ := h.cells
  have hlen : (datS S).length ≤ 1000000 := Nat.le_trans h.bd.len hn
  by_cases e : hi = ByteArray.empty
  · subst e
    have hk := keys_xd h.ix hlen lo (lo ++ ⟨#[0]⟩)
    rw [rangeK_one] at hk
    clear h hlen
    have hs : lo.size + 1 ≤ 9223372036854775807 := by omega
    go_enter Tryz.func28, Tryz.ntmps28
    go_wp2_with (go_at_call 41; refine hk.mono ?_; rintro e w1 ⟨v, rfl, hP⟩)
    obtain ⟨p, c, rfl⟩ := hP.row.form
    go_ret
    exact ⟨p, c, rfl, hP⟩
  · have hk := keys_xd h.ix hlen lo hi
    rw [rangeK_hi e] at hk
    clear h hlen
    have he : hi.toList.isEmpty = false := by
      cases hq : hi.toList.isEmpty
      · rfl
      · exfalso
        apply e
        apply bytes_ext
        rw [← toList_data]
        simpa using hq
    go_enter Tryz.func28, Tryz.ntmps28
    go_wp2_with (go_at_call 41; refine hk.mono ?_; rintro e w1 ⟨v, rfl, hP⟩)
    obtain ⟨p, c, rfl⟩ := hP.row.form
    go_ret
    exact ⟨p, c, rfl, hP⟩
end Go.Proofs.YteeflkkoifgcbabGreat
