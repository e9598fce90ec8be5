/- Frames one behind the other: plain laws. -/
import Derived.Test.YtamgoknoapcnjaaDoorTurns
namespace Go.Proofs.YtamgoknoapcnjaaDoor
open Go Go.RowKit
theorem rd_low4 (u : Int) (h0 : 0 ≤ u) (h1 : u < 4294967296) : rd ((be u).drop 4) = u := by
  simp only [be, rd, List.drop_succ_cons, List.drop_zero, List.foldl_cons, List.foldl_nil]
  omega
theorem frame_parts (z R : List Int) : frameB z ++ R = (be z.length).drop 4 ++ ((be (crc z : Nat)).drop 4 ++ (z ++ R)) := by simp [frameB]
theorem len4 (u : Int) : ((be u).drop 4).length = 4 := rfl
theorem take_len {α : Type} (A B : List α) (n : Nat) (h : A.length = n) : (A ++ B).take n = A := by subst h; simp
theorem drop_len {α : Type} (A B : List α) (n : Nat) (h : A.length = n) : (A ++ B).drop n = B := by subst h; simp
theorem unfL_frame (z R : List Int) (hz : z.length ≤ 100000) : unfL (frameB z ++ R) = z.length := by
  unfold unfL
  rw [frame_parts, take_len _ _ 4 (len4 _), rd_low4 _ (by omega) (by omega)]
  omega
theorem unfS_frame (z R : List Int) : unfS (frameB z ++ R) = crc z := by
  unfold unfS
  have := crc_lt z
  rw [frame_parts, drop_len _ _ 4 (len4 _), take_len _ _ 4 (len4 _), rd_low4 _ (by omega) (by omega)]
theorem unfB_frame (z R : List Int) (hz : z.length ≤ 100000) : unfB (frameB z ++ R) = z := by
  unfold unfB
  rw [unfL_frame z R hz, frame_parts, ← List.append_assoc, drop_len _ _ 8 (by rw [List.length_append, len4, len4]), take_len _ _ _ rfl]
theorem unfE_frame (z R : List Int) (hz : z.length ≤ 100000) : unfE (frameB z ++ R) = 0 := by
  have hl : (frameB z ++ R).length = z.length + 8 + R.length := by rw [List.length_append, frameB_len]
  rw [unfE, if_neg (by omega), unfL_frame z R hz, if_neg (by omega), if_neg (by omega), unfB_frame z R hz, unfS_frame, if_pos rfl]
theorem unfR_frame (z R : List Int) (hz : z.length ≤ 100000) : unfR (frameB z ++ R) = z := by rw [unfR, if_pos (unfE_frame z R hz), unfB_frame z R hz]
theorem unfN_frame (z R : List Int) (hz : z.length ≤ 100000) : unfN (frameB z ++ R) = z.length + 8 := by rw [unfN, if_pos (unfE_frame z R hz), unfL_frame z R hz]; omega
theorem unfE_cut (z : List Int) (hz : z.length ≤ 100000) (c : Nat) (hc : c < (frameB z).length) : unfE ((frameB z).take c) = 8 := by
  have hfl := frameB_len z
  have hl : ((frameB z).take c).length = c := by simp; omega
  rw [unfE]
  by_cases h8 : c < 8
  · rw [if_pos (by omega)]
  · have hL : unfL ((frameB z).take c) = z.length := by
      have := unfL_frame z [] hz
      unfold unfL at this ⊢
      rw [List.take_take, Nat.min_eq_left (by omega)]
      simpa using this
    rw [if_neg (by omega), hL, if_neg (by omega), if_pos (by omega)]
/-- Frames one behind the other. -/
def framesB (ls : List (List Int)) : List Int := ls.flatMap frameB
theorem framesB_snoc (ls : List (List Int)) (z : List Int) : framesB (ls ++ [z]) = framesB ls ++ frameB z := by simp [framesB]
theorem framesB_cons (z : List Int) (ls : List (List Int)) : framesB (z :: ls) = frameB z ++ framesB ls := by simp [framesB]
theorem framesB_len : ∀ (ls : List (List Int)), (∀ z ∈ ls, z.length ≤ 500) → (framesB ls).length ≤ 508 * ls.length
  | [], _ => by simp [framesB]
  | z :: ls, h => by
    have h1 := framesB_len ls (fun q hq => h q (by simp [hq]))
    have h2 := h z (by simp)
    rw [framesB_cons, List.length_append, List.length_cons, frameB_len]
    omega
theorem framesB_isB : ∀ (ls : List (List Int)), (∀ z ∈ ls, isB z ∧ z.length ≤ 500) → isB (framesB ls)
  | [], _ => fun x hx => by cases hx
  | z :: ls, h => by
    have h1 := framesB_isB ls (fun q hq => h q (by simp [hq]))
    have h2 := h z (by simp)
    intro x hx
    rw [framesB_cons] at hx
    rcases List.mem_append.1 hx with hx | hx
    · exact frameB_isB h2.1 (by omega) x hx
    · exact h1 x hx
/-- A slice value through which slices of bytes are seen. -/
def SeesS (w : World) (v : Value) (ls : List (List Int)) : Prop :=
  (ls = [] ∧ ∃ ao cap, v = .slice ao 0 cap) ∨
  ∃ b off cap, v = .slice (some ⟨b, off, none⟩) ls.length cap ∧ 0 < ls.length ∧ b < w.heap.size ∧ ∀ i, i < ls.length →
    ∃ vi, w.cell? ⟨b, off + i, none⟩ = some vi ∧ Sees w vi (ls.getD i []) ∧ isB (ls.getD i []) ∧ (ls.getD i []).length ≤ maxLen
theorem SeesS.form {w : World} {v : Value} {ls : List (List Int)} (h : SeesS w v ls) : ∃ ao cap, v = .slice ao ls.length cap := by
  rcases h with ⟨rfl, ao, cap, rfl⟩ | ⟨b, off, cap, rfl, _⟩ <;> exact ⟨_, _, rfl⟩
theorem SeesS.at {w : World} {a : Option Addr} {cap : Nat} {ls : List (List Int)} (h : SeesS w (.slice a ls.length cap) ls) {j : Nat} (hj : j < ls.length) :
    ∃ b off ai ci, a = some ⟨b, off, none⟩ ∧ b < w.heap.size ∧ w.cell? ⟨b, off + j, none⟩ = some (.slice ai (ls[j]).length ci) ∧ Sees w (.slice ai (ls[j]).length ci) ls[j] ∧ isB ls[j] ∧ (ls[j]).length ≤ maxLen := by
  rcases h with ⟨h, _⟩ | ⟨b, off, c, he, _, hb, hc⟩
  · subst h; simp at hj
  · cases he
    obtain ⟨vi, c1, c2, c3, c4⟩ := hc j hj
    have e : ls.getD j [] = ls[j] := by simp [List.getD_eq_getElem?_getD, List.getElem?_eq_getElem hj]
    rw [e] at c2 c3 c4
    obtain ⟨ai, ci, rfl, _, _⟩ := c2.form
    exact ⟨b, off, ai, ci, rfl, hb, c1, c2, c3, c4⟩
end Go.Proofs.YtamgoknoapcnjaaDoor
