/- A message that was parsed: what it is, and its frame. -/
import Derived.Test.YtamgoknoapcnjaaDoorNKB
namespace Go.Proofs.YtamgoknoapcnjaaDoor
open Go Go.RowKit
theorem rM_first {xs : List Int} (hb : isB xs) (h : rX xs = 0) : isK (rU xs (0, 0)).1 = true := by
  unfold rX at h
  split at h
  · cases h
  rename_i n1
  split at h
  · cases h
  split at h
  · rename_i n3
    exact absurd h n3
  rename_i n3
  have e14 : (sA14 xs).2 = 0 := by simpa using n3
  have hI := fun s => rI_bk hb s
  have hU := fun s => rU_bk hb s
  have c := (hI (sA0 xs)).comp ((hI (sA1 xs)).comp ((hI (sA2 xs)).comp ((hI (sA3 xs)).comp ((hI (sA4 xs)).comp ((rList_bk hb (rE xs) entB (fun s => rE_bk hb s) (sA5 xs)).comp ((hI (sA6 xs)).comp ((hI (sA7 xs)).comp ((hU (sA8 xs)).comp ((hI (sA9 xs)).comp ((hI (sA10 xs)).comp ((hI (sA11 xs)).comp ((rList_bk hb (rI xs) b8 (fun s => rI_bk hb s) (sA12 xs)).comp (rT_bk hb (sA13 xs))))))))))))))
  have e0 : (sA0 xs).2 = 0 := (c e14).1
  by_cases hk : isK (rU xs (0, 0)).1 = true
  · exact hk
  · exact absurd ⟨e0, by simpa using hk⟩ n1
theorem rMany_all {α : Type} (one : St → α × St) (q : α → Prop) (hone : ∀ s, q (one s).1) : ∀ (n : Nat) (s : St), ∀ x ∈ (rMany one n s).1, q x
  | 0, s, x, h => by simp [rMany] at h
  | n + 1, s, x, h => by
    unfold rMany at h
    split at h
    · rcases List.mem_cons.1 h with e | e
      · rw [e]; exact hone s
      · exact rMany_all one q hone n _ x e
    · simp at h
theorem isI_of_byte {n : Int} (h : 0 ≤ n ∧ n ≤ 255) : isI n := by unfold isI; omega
theorem rE_ok {xs : List Int} (hb : isB xs) (s : St) : EOk (rE xs s).1 ∧ noB (rE xs s).1 = false := by
  have h := rU_bd hb (rI xs (rI xs s).2).2
  refine ⟨⟨rI_isI _ _, rI_isI _ _, isI_of_byte h, rT_isB hb _⟩, ?_⟩
  show decide ((rU xs (rI xs (rI xs s).2).2).1 < 0 ∨ 255 < (rU xs (rI xs (rI xs s).2).2).1) = false
  exact decide_eq_false (by omega)
theorem rM_ok {xs : List Int} (hb : isB xs) : MOk (rM xs) ∧ (rM xs).es.length ≤ 255 ∧ (rM xs).vs.length ≤ 255 ∧ (rM xs).es.any noB = false := by
  have hes : ∀ e ∈ (rM xs).es, EOk e ∧ noB e = false := rMany_all (rE xs) _ (fun s => rE_ok hb s) _ _
  have hvs : ∀ x ∈ (rM xs).vs, isI x := rMany_all (rI xs) _ (fun s => rI_isI _ s) _ _
  refine ⟨⟨fun x hx => ?_, fun e he => (hes e he).1, hvs, rT_isB hb _⟩, ?_, ?_, ?_⟩
  · simp only [rM, List.mem_cons, List.not_mem_nil, or_false] at hx
    rcases hx with rfl | rfl | rfl | rfl | rfl | rfl | rfl | rfl | rfl | rfl | rfl
    · exact isI_of_byte (rU_bd hb _)
    all_goals exact rI_isI _ _
  · have h1 := rU_bd hb (sA5 xs)
    have := rMany_len (rE xs) (rU xs (sA5 xs)).1.toNat (rU xs (sA5 xs)).2
    show (rList _ _ _).1.length ≤ _
    unfold rList
    omega
  · have h1 := rU_bd hb (sA12 xs)
    have := rMany_len (rI xs) (rU xs (sA12 xs)).1.toNat (rU xs (sA12 xs)).2
    show (rList _ _ _).1.length ≤ _
    unfold rList
    omega
  · rw [List.any_eq_false]
    intro e he
    simp [(hes e he).2]
theorem unf_back {xs : List Int} (hb : isB xs) (h : unfE xs = 0) (hn : ¬ unfN xs < xs.length) : frameB (unfR xs) = xs := by
  have hR : unfR xs = unfB xs := by unfold unfR; rw [if_pos h]
  have hN : unfN xs = 8 + unfL xs := by unfold unfN; rw [if_pos h]
  unfold unfE at h
  split at h
  · cases h
  rename_i n1
  split at h
  · cases h
  rename_i n2
  split at h
  · cases h
  rename_i n3
  split at h
  · rename_i n4
    have hlen : xs.length = 8 + unfL xs := by omega
    have hBl : (unfB xs).length = unfL xs := part_len (by omega)
    have h4 : (xs.take 4).length = 4 := by simp; omega
    have hb4 : isB (xs.take 4) := fun x hx => hb x (List.mem_of_mem_take hx)
    have hr4 := rd_bd 4 _ h4 hb4
    have h44 : ((xs.drop 4).take 4).length = 4 := part_len (by omega)
    rw [hR]
    unfold frameB
    have e1 : (be ((unfB xs).length : Nat)).drop 4 = xs.take 4 := by
      rw [hBl]
      have : ((unfL xs : Nat) : Int) = rd (xs.take 4) := by unfold unfL; simp only [Int.reducePow] at hr4; omega
      rw [this]
      exact be4_rd hb4 h4
    have e2 : (be (crc (unfB xs) : Nat)).drop 4 = (xs.drop 4).take 4 := by
      rw [n4]
      exact be4_rd (isB_part hb _ _) h44
    rw [e1, e2]
    unfold unfB
    have e3 : (xs.drop 8).take (unfL xs) = xs.drop 8 := List.take_of_length_le (by simp; omega)
    rw [e3, ← drop_part xs 4 4, List.take_append_drop]
  · cases h
/-- A message that was parsed. -/
theorem pM_back {xs : List Int} (hb : isB xs) (hl : xs.length ≤ 5000) (h : pX xs = 0) : encE (pM xs) = 0 ∧ encR (pM xs) = xs ∧ Small (pM xs) ∧ MOk (pM xs) := by
  have hm : pM xs = rM (unfR xs) := by unfold pM; rw [if_pos h]
  unfold pX at h
  split at h
  · rename_i n1
    exact absurd h n1
  rename_i n1
  split at h
  · cases h
  rename_i n2
  have hyb := unfR_isB hb
  have hyl := unfR_len xs
  obtain ⟨o1, o2, o3, o4⟩ := rM_ok hyb
  have hk := rM_first hyb h
  have hms := rM_bk hyb h
  have he : encE (rM (unfR xs)) = 0 := by
    unfold encE
    have hk' : isK (rM (unfR xs)).kind = true := hk
    rw [if_neg (by rw [hk']; decide), if_neg (by omega), if_neg (by rw [o4]; decide)]
  have hlen := msgB_len (rM (unfR xs))
  rw [hms] at hlen
  rw [hm]
  refine ⟨he, ?_, ⟨by omega, by omega, by omega⟩, o1⟩
  unfold encR
  rw [if_pos he, hms]
  exact unf_back hb (by simpa using n1) n2
end Go.Proofs.YtamgoknoapcnjaaDoor
