/- What was read is written as it was: as data. -/
import Derived.Test.YtamgoknoapcnjaaDoorNJ
import Derived.Test.YtamgoknoapcnjaaDoorNTW
namespace Go.Proofs.YtamgoknoapcnjaaDoor
open Go Go.RowKit
theorem rd_inj : ∀ (n : Nat) (l l' : List Int), l.length = n → l'.length = n → isB l → isB l' → rd l = rd l' → l = l'
  | 0, l, l', h, h', _, _, _ => by
    rw [List.eq_nil_of_length_eq_zero h, List.eq_nil_of_length_eq_zero h']
  | n + 1, l, l', h, h', hb, hb', he => by
    obtain ⟨a, x, rfl⟩ : ∃ a x, l = a ++ [x] := ⟨l.dropLast, l.getLast (by intro e; subst e; simp at h), (List.dropLast_concat_getLast _).symm⟩
    obtain ⟨b, y, rfl⟩ : ∃ a x, l' = a ++ [x] := ⟨l'.dropLast, l'.getLast (by intro e; subst e; simp at h'), (List.dropLast_concat_getLast _).symm⟩
    rw [rd_snoc, rd_snoc] at he
    have hx := hb x (by simp)
    have hy := hb' y (by simp)
    have h1 : x = y := by omega
    have h2 : rd a = rd b := by omega
    rw [rd_inj n a b (by simpa using h) (by simpa using h') (fun z hz => hb z (by simp [hz])) (fun z hz => hb' z (by simp [hz])) h2, h1]
theorem take_ok8 {xs : List Int} {a : Nat} {e : Int} {n : Nat} (h : takeE xs a e n = 0) : e = 0 ∧ a + n ≤ xs.length ∧ takeB xs a e n = (xs.drop a).take n ∧ takeA xs a e n = a + n := by
  unfold takeE at h
  split at h
  · rename_i hk
    have := of_decide_eq_true hk
    exact ⟨this.1, this.2, by rw [takeB, if_pos hk], by rw [takeA, if_pos hk]⟩
  · cases h
theorem b8_rd {l : List Int} (hb : isB l) (hl : l.length = 8) : b8 (wrap64 (rd l)) = l := by
  have h1 := rd_bd 8 l hl hb
  have hw := u64_bd (wrap64 (rd l))
  have hr : IntKind.u64.wrap (wrap64 (rd l)) = rd l := by
    rw [IntKind.wrap_u64]
    unfold wrap64
    omega
  refine rd_inj 8 _ _ rfl hl (fun x hx => be_isB _ hw.1 hw.2 x (List.mem_of_mem_drop hx)) hb ?_
  show rd (be (IntKind.u64.wrap (wrap64 (rd l)))) = rd l
  rw [hr]
  simp only [Int.reducePow] at h1
  simp only [be, rd, List.foldl_cons, List.foldl_nil]
  omega
theorem be4_rd {l : List Int} (hb : isB l) (hl : l.length = 4) : (be (rd l)).drop 4 = l := by
  have h1 := rd_bd 4 l hl hb
  simp only [Int.reducePow] at h1
  exact rd_inj 4 _ _ rfl hl (fun x hx => be_isB _ h1.1 (by omega) x (List.mem_of_mem_drop hx)) hb (rd_low4 _ h1.1 (by omega))
theorem b1_rd {l : List Int} (hb : isB l) (hl : l.length = 1) : b1 (wrap64 (rd l)) = l := by
  obtain ⟨x, rfl⟩ := List.length_eq_one_iff.1 hl
  have hx := hb x (by simp)
  show (be (IntKind.u64.wrap (wrap64 (rd [x])))).drop 7 = [x]
  rw [be_last]
  have : wrap64 (rd [x]) = x := by simp [rd, wrap64]; omega
  rw [this]
  congr 1
  omega
/-- Where no error is kept behind, none was ahead, and A is what was read between. -/
def Bk (xs : List Int) (s : St) (A : List Int) (s' : St) : Prop := s'.2 = 0 → s.2 = 0 ∧ xs.drop s.1 = A ++ xs.drop s'.1 ∧ s'.1 = s.1 + A.length ∧ s'.1 ≤ xs.length
theorem Bk.comp {xs A B : List Int} {s s' s2 : St} (h : Bk xs s A s') (k : Bk xs s' B s2) : Bk xs s (A ++ B) s2 := by
  intro e
  obtain ⟨e1, h1, l1, le1⟩ := k e
  obtain ⟨e2, h2, l2, _⟩ := h e1
  exact ⟨e2, by rw [h2, h1, List.append_assoc], by rw [l1, l2, List.length_append]; omega, le1⟩
theorem drop_part (xs : List Int) (a n : Nat) : xs.drop a = (xs.drop a).take n ++ xs.drop (a + n) := by
  rw [← List.drop_drop, List.take_append_drop]
theorem part_len {xs : List Int} {a n : Nat} (h : a + n ≤ xs.length) : ((xs.drop a).take n).length = n := by simp; omega
theorem rI_bk {xs : List Int} (hb : isB xs) (s : St) : Bk xs s (b8 (rI xs s).1) (rI xs s).2 := by
  intro h
  obtain ⟨h1, h2, h3, h4⟩ := take_ok8 (n := 8) h
  have e : b8 (rI xs s).1 = (xs.drop s.1).take 8 := by
    show b8 (wrap64 (rd (takeB xs s.1 s.2 8))) = _
    rw [h3]
    exact b8_rd (isB_part hb _ _) (part_len h2)
  rw [e]
  refine ⟨h1, ?_, ?_, ?_⟩
  · show _ = _ ++ xs.drop (takeA xs s.1 s.2 8)
    rw [h4]
    exact drop_part _ _ _
  · show takeA xs s.1 s.2 8 = _
    rw [h4, part_len h2]
  · show takeA xs s.1 s.2 8 ≤ _
    omega
theorem rU_bk {xs : List Int} (hb : isB xs) (s : St) : Bk xs s (b1 (rU xs s).1) (rU xs s).2 := by
  intro h
  obtain ⟨h1, h2, h3, h4⟩ := take_ok8 (n := 1) h
  have e : b1 (rU xs s).1 = (xs.drop s.1).take 1 := by
    show b1 (wrap64 (rd (takeB xs s.1 s.2 1))) = _
    rw [h3]
    exact b1_rd (isB_part hb _ _) (part_len h2)
  rw [e]
  refine ⟨h1, ?_, ?_, ?_⟩
  · show _ = _ ++ xs.drop (takeA xs s.1 s.2 1)
    rw [h4]
    exact drop_part _ _ _
  · show takeA xs s.1 s.2 1 = _
    rw [h4, part_len h2]
  · show takeA xs s.1 s.2 1 ≤ _
    omega
theorem rT_bk {xs : List Int} (hb : isB xs) (s : St) : Bk xs s (btx (rT xs s).1) (rT xs s).2 := by
  intro h
  have hE : textE xs s.1 s.2 = 0 := h
  obtain ⟨h1, h2, h3, h4⟩ := take_ok8 hE
  obtain ⟨k1, k2, k3, k4⟩ := take_ok8 h1
  rw [k4] at h2 h4
  have hn : textN xs s.1 s.2 = (rd ((xs.drop s.1).take 4)).toNat := by unfold textN; rw [k3]
  have hl4 := part_len k2
  have hb4 := rd_bd 4 _ hl4 (isB_part hb _ _)
  have hd : (rT xs s).1 = (xs.drop (s.1 + 4)).take (textN xs s.1 s.2) := by
    show textB xs s.1 s.2 = _
    unfold textB
    rw [h3, k4]
  have hdl : (rT xs s).1.length = textN xs s.1 s.2 := by rw [hd]; exact part_len h2
  have hA : (rT xs s).2.1 = s.1 + 4 + textN xs s.1 s.2 := by
    show textA xs s.1 s.2 = _
    unfold textA
    rw [if_pos hE, k4]
    exact h4
  have e : btx (rT xs s).1 = (xs.drop s.1).take 4 ++ (xs.drop (s.1 + 4)).take (textN xs s.1 s.2) := by
    unfold btx
    rw [hdl, hd]
    congr 1
    have : IntKind.u64.wrap ((textN xs s.1 s.2 : Nat) : Int) = rd ((xs.drop s.1).take 4) := by
      rw [IntKind.wrap_u64, hn]
      simp only [Int.reducePow] at hb4
      omega
    rw [this]
    exact be4_rd (isB_part hb _ _) hl4
  rw [e, hA]
  refine ⟨k1, ?_, ?_, h2⟩
  · rw [List.append_assoc, ← drop_part xs (s.1 + 4)]
    exact drop_part _ _ _
  · rw [List.length_append, hl4, part_len h2]
    omega
theorem rE_bk {xs : List Int} (hb : isB xs) (s : St) : Bk xs s (entB (rE xs s).1) (rE xs s).2 :=
  (rI_bk hb s).comp ((rI_bk hb _).comp ((rU_bk hb _).comp (rT_bk hb _)))
theorem rMany_bk {α : Type} {xs : List Int} (one : St → α × St) (enc : α → List Int) (hone : ∀ s, Bk xs s (enc (one s).1) (one s).2) : ∀ (n : Nat) (s : St), s.1 ≤ xs.length → Bk xs s ((rMany one n s).1.flatMap enc) (rMany one n s).2 ∧ ((rMany one n s).2.2 = 0 → (rMany one n s).1.length = n)
  | 0, s, hs => ⟨fun h => ⟨h, by simp [rMany], by simp [rMany], hs⟩, fun _ => rfl⟩
  | n + 1, s, hs => by
    unfold rMany
    by_cases h0 : s.2 = 0
    · rw [if_pos h0]
      by_cases hs1 : (one s).2.1 ≤ xs.length
      · have ih := rMany_bk one enc hone n (one s).2 hs1
        exact ⟨by simpa using (hone s).comp ih.1, fun h => by simpa using ih.2 h⟩
      · -- the place is beyond the end: then an error is kept
        have hne : (one s).2.2 ≠ 0 := fun e => hs1 (hone s e).2.2.2
        have hc := rMany_cut one (n := n) hne
        refine ⟨fun h => ?_, fun h => ?_⟩
        · rw [hc] at h
          exact absurd h hne
        · rw [hc] at h
          exact absurd h hne
    · rw [if_neg h0]
      exact ⟨fun h => absurd h h0, fun h => absurd h h0⟩
theorem rU_le {xs : List Int} {s : St} (hs : s.1 ≤ xs.length) : (rU xs s).2.1 ≤ xs.length := by
  show takeA xs s.1 s.2 1 ≤ _
  unfold takeA
  split
  · rename_i h
    have := of_decide_eq_true h
    omega
  · exact hs
theorem rList_bk {α : Type} {xs : List Int} (hb : isB xs) (one : St → α × St) (enc : α → List Int) (hone : ∀ s, Bk xs s (enc (one s).1) (one s).2) (s : St) : Bk xs s (b1 ((rList one xs s).1.length : Nat) ++ (rList one xs s).1.flatMap enc) (rList one xs s).2 := by
  intro h
  have hu := rU_bd hb s
  by_cases hle : (rU xs s).2.1 ≤ xs.length
  · have hm := rMany_bk one enc hone (rU xs s).1.toNat (rU xs s).2 hle
    have hlen : (rList one xs s).1.length = (rU xs s).1.toNat := hm.2 h
    have e : b1 ((rList one xs s).1.length : Nat) = b1 (rU xs s).1 := by
      rw [hlen]
      congr 2
      omega
    rw [e]
    exact ((rU_bk hb s).comp hm.1) h
  · have hne : (rU xs s).2.2 ≠ 0 := fun e => hle (rU_bk hb s e).2.2.2
    have hc : (rList one xs s).2 = (rU xs s).2 := by unfold rList; rw [rMany_cut one hne]
    rw [hc] at h
    exact absurd h hne
/-- A message that was read: its bytes are those that were read. -/
theorem rM_bk {xs : List Int} (hb : isB xs) (h : rX xs = 0) : msgB (rM xs) = xs := by
  unfold rX at h
  split at h
  · cases h
  rename_i n1
  split at h
  · cases h
  rename_i n2
  split at h
  · rename_i n3
    exact absurd h n3
  rename_i n3
  split at h
  · cases h
  rename_i n4
  have e14 : (sA14 xs).2 = 0 := by simpa using n3
  have hok : b1 (flagI (rOk xs == 1)) = b1 (rOk xs) := by
    have := rU_bd hb (sA8 xs)
    have h0 : 0 ≤ rOk xs := this.1
    rcases (by omega : rOk xs = 0 ∨ rOk xs = 1) with e | e <;> rw [e] <;> rfl
  have hI := fun s => rI_bk hb s
  have hU := fun s => rU_bk hb s
  have c := (hU (0, 0)).comp ((hI (sA0 xs)).comp ((hI (sA1 xs)).comp ((hI (sA2 xs)).comp ((hI (sA3 xs)).comp ((hI (sA4 xs)).comp ((rList_bk hb (rE xs) entB (fun s => rE_bk hb s) (sA5 xs)).comp ((hI (sA6 xs)).comp ((hI (sA7 xs)).comp ((hU (sA8 xs)).comp ((hI (sA9 xs)).comp ((hI (sA10 xs)).comp ((hI (sA11 xs)).comp ((rList_bk hb (rI xs) b8 (fun s => rI_bk hb s) (sA12 xs)).comp (rT_bk hb (sA13 xs))))))))))))))) 
  obtain ⟨-, c2, c3, c4⟩ := c e14
  have hend : xs.drop (sA14 xs).1 = [] := List.drop_eq_nil_of_le (by omega)
  have c2' : xs = _ := c2
  rw [show (rT xs (sA13 xs)).2 = sA14 xs from rfl, hend, List.append_nil] at c2'
  refine Eq.trans ?_ c2'.symm
  show b1 (rU xs (0, 0)).1 ++ (intsB [(rI xs (sA0 xs)).1, (rI xs (sA1 xs)).1, (rI xs (sA2 xs)).1, (rI xs (sA3 xs)).1, (rI xs (sA4 xs)).1] ++ (b1 ((rList (rE xs) xs (sA5 xs)).1.length : Nat) ++ (entsB (rList (rE xs) xs (sA5 xs)).1 ++ (intsB [(rI xs (sA6 xs)).1, (rI xs (sA7 xs)).1] ++ (b1 (flagI (rOk xs == 1)) ++ (intsB [(rI xs (sA9 xs)).1, (rI xs (sA10 xs)).1, (rI xs (sA11 xs)).1] ++ (b1 ((rList (rI xs) xs (sA12 xs)).1.length : Nat) ++ (intsB (rList (rI xs) xs (sA12 xs)).1 ++ btx (rT xs (sA13 xs)).1)))))))) = _
  rw [hok]
  simp only [intsB, entsB, List.flatMap_cons, List.flatMap_nil, List.append_nil, List.append_assoc]
  rfl
end Go.Proofs.YtamgoknoapcnjaaDoor
/- A message that was parsed: what it is, and its frame. -/
namespace Go.Proofs.YtamgoknoapcnjaaDoor
open Go Go.RowKit
theorem rM_first {xs : List Int} (hb : isB xs) (h : rX xs = 0) : isK (rU xs (0, 0)).1 = true := by
  unfold rX at h
  split at h
  · cases h
  rename_i n1
  split at h
  · cases h
  split at h
  · rename_i n3
    exact absurd h n3
  rename_i n3
  have e14 : (sA14 xs).2 = 0 := by simpa using n3
  have hI := fun s => rI_bk hb s
  have hU := fun s => rU_bk hb s
  have c := (hI (sA0 xs)).comp ((hI (sA1 xs)).comp ((hI (sA2 xs)).comp ((hI (sA3 xs)).comp ((hI (sA4 xs)).comp ((rList_bk hb (rE xs) entB (fun s => rE_bk hb s) (sA5 xs)).comp ((hI (sA6 xs)).comp ((hI (sA7 xs)).comp ((hU (sA8 xs)).comp ((hI (sA9 xs)).comp ((hI (sA10 xs)).comp ((hI (sA11 xs)).comp ((rList_bk hb (rI xs) b8 (fun s => rI_bk hb s) (sA12 xs)).comp (rT_bk hb (sA13 xs))))))))))))))
  have e0 : (sA0 xs).2 = 0 := (c e14).1
  by_cases hk : isK (rU xs (0, 0)).1 = true
  · exact hk
  · exact absurd ⟨e0, by simpa using hk⟩ n1
theorem rMany_all {α : Type} (one : St → α × St) (q : α → Prop) (hone : ∀ s, q (one s).1) : ∀ (n : Nat) (s : St), ∀ x ∈ (rMany one n s).1, q x
  | 0, s, x, h => by simp [rMany] at h
  | n + 1, s, x, h => by
    unfold rMany at h
    split at h
    · rcases List.mem_cons.1 h with e | e
      · rw [e]; exact hone s
      · exact rMany_all one q hone n _ x e
    · simp at h
theorem isI_of_byte {n : Int} (h : 0 ≤ n ∧ n ≤ 255) : isI n := by unfold isI; omega
theorem rE_ok {xs : List Int} (hb : isB xs) (s : St) : EOk (rE xs s).1 ∧ noB (rE xs s).1 = false := by
  have h := rU_bd hb (rI xs (rI xs s).2).2
  refine ⟨⟨rI_isI _ _, rI_isI _ _, isI_of_byte h, rT_isB hb _⟩, ?_⟩
  show decide ((rU xs (rI xs (rI xs s).2).2).1 < 0 ∨ 255 < (rU xs (rI xs (rI xs s).2).2).1) = false
  exact decide_eq_false (by omega)
theorem rM_ok {xs : List Int} (hb : isB xs) : MOk (rM xs) ∧ (rM xs).es.length ≤ 255 ∧ (rM xs).vs.length ≤ 255 ∧ (rM xs).es.any noB = false := by
  have hes : ∀ e ∈ (rM xs).es, EOk e ∧ noB e = false := rMany_all (rE xs) _ (fun s => rE_ok hb s) _ _
  have hvs : ∀ x ∈ (rM xs).vs, isI x := rMany_all (rI xs) _ (fun s => rI_isI _ s) _ _
  refine ⟨⟨fun x hx => ?_, fun e he => (hes e he).1, hvs, rT_isB hb _⟩, ?_, ?_, ?_⟩
  · simp only [rM, List.mem_cons, List.not_mem_nil, or_false] at hx
    rcases hx with rfl | rfl | rfl | rfl | rfl | rfl | rfl | rfl | rfl | rfl | rfl
    · exact isI_of_byte (rU_bd hb _)
    all_goals exact rI_isI _ _
  · have h1 := rU_bd hb (sA5 xs)
    have := rMany_len (rE xs) (rU xs (sA5 xs)).1.toNat (rU xs (sA5 xs)).2
    show (rList _ _ _).1.length ≤ _
    unfold rList
    omega
  · have h1 := rU_bd hb (sA12 xs)
    have := rMany_len (rI xs) (rU xs (sA12 xs)).1.toNat (rU xs (sA12 xs)).2
    show (rList _ _ _).1.length ≤ _
    unfold rList
    omega
  · rw [List.any_eq_false]
    intro e he
    simp [(hes e he).2]
theorem unf_back {xs : List Int} (hb : isB xs) (h : unfE xs = 0) (hn : ¬ unfN xs < xs.length) : frameB (unfR xs) = xs := by
  have hR : unfR xs = unfB xs := by unfold unfR; rw [if_pos h]
  have hN : unfN xs = 8 + unfL xs := by unfold unfN; rw [if_pos h]
  unfold unfE at h
  split at h
  · cases h
  rename_i n1
  split at h
  · cases h
  rename_i n2
  split at h
  · cases h
  rename_i n3
  split at h
  · rename_i n4
    have hlen : xs.length = 8 + unfL xs := by omega
    have hBl : (unfB xs).length = unfL xs := part_len (by omega)
    have h4 : (xs.take 4).length = 4 := by simp; omega
    have hb4 : isB (xs.take 4) := fun x hx => hb x (List.mem_of_mem_take hx)
    have hr4 := rd_bd 4 _ h4 hb4
    have h44 : ((xs.drop 4).take 4).length = 4 := part_len (by omega)
    rw [hR]
    unfold frameB
    have e1 : (be ((unfB xs).length : Nat)).drop 4 = xs.take 4 := by
      rw [hBl]
      have : ((unfL xs : Nat) : Int) = rd (xs.take 4) := by unfold unfL; simp only [Int.reducePow] at hr4; omega
      rw [this]
      exact be4_rd hb4 h4
    have e2 : (be (crc (unfB xs) : Nat)).drop 4 = (xs.drop 4).take 4 := by
      rw [n4]
      exact be4_rd (isB_part hb _ _) h44
    rw [e1, e2]
    unfold unfB
    have e3 : (xs.drop 8).take (unfL xs) = xs.drop 8 := List.take_of_length_le (by simp; omega)
    rw [e3, ← drop_part xs 4 4, List.take_append_drop]
  · cases h
/-- A message that was parsed. -/
theorem pM_back {xs : List Int} (hb : isB xs) (hl : xs.length ≤ 5000) (h : pX xs = 0) : encE (pM xs) = 0 ∧ encR (pM xs) = xs ∧ Small (pM xs) ∧ MOk (pM xs) := by
  have hm : pM xs = rM (unfR xs) := by unfold pM; rw [if_pos h]
  unfold pX at h
  split at h
  · rename_i n1
    exact absurd h n1
  rename_i n1
  split at h
  · cases h
  rename_i n2
  have hyb := unfR_isB hb
  have hyl := unfR_len xs
  obtain ⟨o1, o2, o3, o4⟩ := rM_ok hyb
  have hk := rM_first hyb h
  have hms := rM_bk hyb h
  have he : encE (rM (unfR xs)) = 0 := by
    unfold encE
    have hk' : isK (rM (unfR xs)).kind = true := hk
    rw [if_neg (by rw [hk']; decide), if_neg (by omega), if_neg (by rw [o4]; decide)]
  have hlen := msgB_len (rM (unfR xs))
  rw [hms] at hlen
  rw [hm]
  refine ⟨he, ?_, ⟨by omega, by omega, by omega⟩, o1⟩
  unfold encR
  rw [if_pos he, hms]
  exact unf_back hb (by simpa using n1) n2
end Go.Proofs.YtamgoknoapcnjaaDoor
