/- What was written is read as it was: as data. -/
import Derived.Test.YtamgoknoapcnjaaDoorNQ
import Derived.Test.YtamgoknoapcnjaaDoorNE
namespace Go.Proofs.YtamgoknoapcnjaaDoor
open Go Go.RowKit
/-- A reader stands behind A, without error; R is to come. -/
structure At (xs A R : List Int) (s : St) : Prop where
  x : xs = A ++ R
  a : s.1 = A.length
  e : s.2 = 0
theorem At.eq {xs A R : List Int} {s : St} (h : At xs A R s) : s = (A.length, 0) := by
  obtain ⟨a, e⟩ := s
  have h1 : a = A.length := h.a
  have h2 : e = 0 := h.e
  rw [h1, h2]
theorem rI_at {xs A R : List Int} {s : St} {n : Int} (h : At xs A (b8 n ++ R) s) (hn : isI n) : (rI xs s).1 = n ∧ At xs (A ++ b8 n) R (rI xs s).2 := by
  have hx := h.x
  rw [h.eq]
  subst hx
  have h8 : (b8 n).length = 8 := rfl
  have t1 := takeB_at A (b8 n) R
  have t2 := takeA_at A (b8 n) R
  have t3 := takeE_at A (b8 n) R
  rw [h8] at t1 t2 t3
  refine ⟨?_, by simp, ?_, ?_⟩
  · show wrap64 (rd (takeB (A ++ (b8 n ++ R)) A.length 0 8)) = n
    rw [t1]
    exact rd_be0 n hn.1 hn.2
  · show takeA (A ++ (b8 n ++ R)) A.length 0 8 = (A ++ b8 n).length
    rw [t2, List.length_append, h8]
  · exact t3
theorem rU_at {xs A R : List Int} {s : St} {n : Int} (h : At xs A (b1 n ++ R) s) : (rU xs s).1 = n % 256 ∧ At xs (A ++ b1 n) R (rU xs s).2 := by
  have hx := h.x
  rw [h.eq]
  subst hx
  have h8 : (b1 n).length = 1 := rfl
  have t1 := takeB_at A (b1 n) R
  have t2 := takeA_at A (b1 n) R
  have t3 := takeE_at A (b1 n) R
  rw [h8] at t1 t2 t3
  refine ⟨?_, by simp, ?_, ?_⟩
  · show wrap64 (rd (takeB (A ++ (b1 n ++ R)) A.length 0 1)) = n % 256
    rw [t1]
    exact rd_be7 n
  · show takeA (A ++ (b1 n ++ R)) A.length 0 1 = (A ++ b1 n).length
    rw [t2, List.length_append, h8]
  · exact t3
theorem rT_at {xs A R d : List Int} {s : St} (h : At xs A (btx d ++ R) s) (hd : isB d) (hl : d.length ≤ 30000) : (rT xs s).1 = d ∧ At xs (A ++ btx d) R (rT xs s).2 := by
  have hx := h.x
  rw [h.eq]
  subst hx
  have hs : strB (strOfNums d) = d := strB_nums hd
  have hz : (strOfNums d).size = d.length := strOfNums_size d
  have t := text_at A R (strOfNums d) (by omega)
  rw [hs, hz] at t
  refine ⟨t.1, by simp, ?_, t.2.1⟩
  show textA (A ++ (btx d ++ R)) A.length 0 = (A ++ btx d).length
  rw [t.2.2]
  simp
theorem rE_at {xs A R : List Int} {s : St} {e : Ent} (h : At xs A (entB e ++ R) s) (ho : EOk e) (hk : noB e = false) (hl : e.d.length ≤ 30000) : (rE xs s).1 = e ∧ At xs (A ++ entB e) R (rE xs s).2 := by
  have h0 : At xs A (b8 e.i ++ (b8 e.t ++ (b1 e.k ++ (btx e.d ++ R)))) s := ⟨by rw [h.x]; simp [entB], h.a, h.e⟩
  obtain ⟨v1, h1⟩ := rI_at h0 ho.i
  obtain ⟨v2, h2⟩ := rI_at h1 ho.t
  obtain ⟨v3, h3⟩ := rU_at h2
  obtain ⟨v4, h4⟩ := rT_at h3 ho.d hl
  have hkb : e.k % 256 = e.k := by
    unfold noB at hk
    have := of_decide_eq_false hk
    omega
  refine ⟨?_, ?_⟩
  · unfold rE
    rw [v1, v2, v3, v4, hkb]
  · refine ⟨h.x.trans (by simp), ?_, h4.e⟩
    show (rT xs _).2.1 = _
    rw [h4.a]
    simp [entB]
theorem rMany_at {α : Type} (one : St → α × St) (enc : α → List Int) (xs : List Int) (ok : α → Prop) (hone : ∀ A R s x, ok x → At xs A (enc x ++ R) s → (one s).1 = x ∧ At xs (A ++ enc x) R (one s).2) :
    ∀ (l : List α) (A R : List Int) (s : St), (∀ x ∈ l, ok x) → At xs A (l.flatMap enc ++ R) s → (rMany one l.length s).1 = l ∧ At xs (A ++ l.flatMap enc) R (rMany one l.length s).2
  | [], A, R, s, _, h => ⟨rfl, by simpa [rMany] using h⟩
  | x :: l, A, R, s, ho, h => by
    have h0 : At xs A (enc x ++ (l.flatMap enc ++ R)) s := ⟨by rw [h.x]; simp, h.a, h.e⟩
    obtain ⟨v1, h1⟩ := hone A _ s x (ho x (List.mem_cons_self ..)) h0
    obtain ⟨v2, h2⟩ := rMany_at one enc xs ok hone l (A ++ enc x) R (one s).2 (fun y hy => ho y (List.mem_cons_of_mem _ hy)) h1
    simp only [List.length_cons, rMany, if_pos h.e]
    refine ⟨by rw [v1, v2], ?_⟩
    have e : A ++ List.flatMap enc (x :: l) = (A ++ enc x) ++ l.flatMap enc := by simp
    rw [e]
    exact h2
theorem rList_at {α : Type} (one : St → α × St) (enc : α → List Int) (xs : List Int) (ok : α → Prop) (hone : ∀ A R s x, ok x → At xs A (enc x ++ R) s → (one s).1 = x ∧ At xs (A ++ enc x) R (one s).2)
    (l : List α) (A R : List Int) (s : St) (hl : l.length ≤ 255) (ho : ∀ x ∈ l, ok x) (h : At xs A (b1 (l.length : Nat) ++ (l.flatMap enc ++ R)) s) : (rList one xs s).1 = l ∧ At xs (A ++ (b1 (l.length : Nat) ++ l.flatMap enc)) R (rList one xs s).2 := by
  obtain ⟨v1, h1⟩ := rU_at h
  have e : (rU xs s).1.toNat = l.length := by rw [v1]; omega
  have := rMany_at one enc xs ok hone l _ R _ ho h1
  unfold rList
  rw [e, ← List.append_assoc]
  exact this
/-- A message that has bytes, and its bytes are read as it was. -/
theorem read_back (m : Md) (ho : MOk m) (hf : Fit m) (he : encE m = 0) : rX (msgB m) = 0 ∧ rM (msgB m) = m := by
  have hk : isK m.kind = true := by
    cases h : isK m.kind
    · unfold encE at he; rw [if_pos h] at he; exact absurd he (by decide)
    · rfl
  have hkb : m.kind % 256 = m.kind := by
    have := of_decide_eq_true hk
    omega
  have hes : ∀ e ∈ m.es, EOk e ∧ noB e = false ∧ e.d.length ≤ 30000 := fun e h => by
    refine ⟨ho.es e h, ?_, ?_⟩
    · cases hb : noB e
      · rfl
      · exfalso
        have ha : m.es.any noB = true := List.any_eq_true.2 ⟨e, h, hb⟩
        unfold encE at he
        rw [if_neg (by simp [hk]), if_neg (by have := hf.es; have := hf.vs; omega), if_pos ha] at he
        exact absurd he (by decide)
    · obtain ⟨j, hj⟩ := List.getElem?_of_mem h
      have := entsN_mem hj
      have := hf.sum
      omega
  have hi : ∀ x ∈ [m.kind, m.src, m.dst, m.term, m.index, m.lt, m.commit, m.seq, m.mat, m.mi, m.mt], isI x := ho.n
  simp only [List.mem_cons, List.not_mem_nil, or_false, forall_eq_or_imp, forall_eq] at hi
  obtain ⟨-, i1, i2, i3, i4, i5, i6, i7, i8, i9, i10⟩ := hi
  obtain ⟨xs, hxs⟩ : ∃ xs, xs = msgB m := ⟨_, rfl⟩
  rw [← hxs]
  have h0 : At xs [] (b1 m.kind ++ (b8 m.src ++ (b8 m.dst ++ (b8 m.term ++ (b8 m.index ++ (b8 m.lt ++ (b1 (m.es.length : Nat) ++ (m.es.flatMap entB ++ (b8 m.commit ++ (b8 m.seq ++ (b1 (flagI m.ok) ++ (b8 m.mat ++ (b8 m.mi ++ (b8 m.mt ++ (b1 (m.vs.length : Nat) ++ (m.vs.flatMap (fun n => b8 n) ++ (btx m.data ++ []))))))))))))))))) (0, 0) := by
    refine ⟨?_, rfl, rfl⟩
    rw [hxs]
    simp [msgB, intsB, entsB]
  obtain ⟨v0, a0⟩ := rU_at h0
  obtain ⟨v1, a1⟩ := rI_at a0 i1
  obtain ⟨v2, a2⟩ := rI_at a1 i2
  obtain ⟨v3, a3⟩ := rI_at a2 i3
  obtain ⟨v4, a4⟩ := rI_at a3 i4
  obtain ⟨v5, a5⟩ := rI_at a4 i5
  obtain ⟨v6, a6⟩ := rList_at (rE xs) entB xs (fun e => EOk e ∧ noB e = false ∧ e.d.length ≤ 30000) (fun A R s x hx h => rE_at h hx.1 hx.2.1 hx.2.2) m.es _ _ _ hf.es hes a5
  obtain ⟨v7, a7⟩ := rI_at a6 i6
  obtain ⟨v8, a8⟩ := rI_at a7 i7
  obtain ⟨v9, a9⟩ := rU_at a8
  obtain ⟨v10, a10⟩ := rI_at a9 i8
  obtain ⟨v11, a11⟩ := rI_at a10 i9
  obtain ⟨v12, a12⟩ := rI_at a11 i10
  obtain ⟨v13, a13⟩ := rList_at (rI xs) (fun n => b8 n) xs isI (fun A R s x hx h => rI_at h hx) m.vs _ _ _ hf.vs ho.vs a12
  obtain ⟨v14, a14⟩ := rT_at a13 ho.d (by have := hf.sum; omega)
  have hok : rOk xs = flagI m.ok := by
    refine Eq.trans (show rOk xs = _ from v9) ?_
    cases m.ok <;> rfl
  have hend := a14.a
  have hx2 := a14.x
  constructor
  · unfold rX
    have hkind : (rU xs (0, 0)).1 = m.kind := v0.trans hkb
    rw [if_neg (by rw [hkind, hk]; simp), if_neg (by rw [hok]; cases m.ok <;> decide), if_neg (by simpa using (show (sA14 xs).2 = 0 from a14.e)), if_neg (by
      have e1 : (sA14 xs).1 = _ := hend
      rw [e1]
      conv => rhs; rhs; rw [hx2]
      simp)]
  · have hkind : (rU xs (0, 0)).1 = m.kind := v0.trans hkb
    have hokb : (rOk xs == 1) = m.ok := by rw [hok]; cases m.ok <;> rfl
    obtain ⟨kind, src, dst, term, index, lt, es, commit, seq, ok, mat, mi, mt, vs, data⟩ := m
    simp only [rM, Md.mk.injEq]
    exact ⟨hkind, v1, v2, v3, v4, v5, v6, v7, v8, hokb, v10, v11, v12, v13, v14⟩
end Go.Proofs.YtamgoknoapcnjaaDoor
