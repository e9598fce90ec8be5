/- How a key looks at a revision; look. -/
import Derived.Test.YtilginghgigiiaaU1
namespace Go.Proofs.Ytilginghgigiiaa
open Go Go.RowKit

def valM (m : Mk) : Int := if m.2 then 0 else m.1
def lookF (at_ : Int) : Int → List Mk → Int
  | n, [] => n
  | n, m :: ms => if m.1 ≤ at_ then lookF at_ (valM m) ms else n
theorem lookF_at {at_ : Int} : ∀ {ms : List Mk} {a : Nat} {m : Mk} {n : Int}, MAsc ms → ms[a]? = some m → m.1 ≤ at_ → lookF at_ n ms = lookF at_ (valM m) (ms.drop (a + 1))
  | [], a, m, n, _, h, _ => by simp at h
  | x :: ms, 0, m, n, _, h, hl => by
    obtain rfl : x = m := by simpa using h
    simp [lookF, hl]
  | x :: ms, a + 1, m, n, hs, h, hl => by
    have hx : x.1 < m.1 := by
      have h2 : ms[a]? = some m := by simpa using h
      exact (List.pairwise_cons.1 hs).1 m (List.mem_of_getElem? h2)
    have h2 : ms[a]? = some m := by simpa using h
    rw [lookF, if_pos (by omega), lookF_at (List.pairwise_cons.1 hs).2 h2 hl]
    simp
theorem look_cutA {at_ : Int} {ms : List Mk} (hs : MAsc ms) {a : Nat} {m : Mk} (h : ms[a]? = some m) (hl : m.1 ≤ at_) : lookF at_ 0 (ms.drop (cutA ms a)) = lookF at_ 0 ms := by
  rw [lookF_at hs h hl]
  unfold cutA
  rw [h]
  cases hd : m.2
  · have hlt := (List.getElem?_eq_some_iff.1 h).1
    have e : ms.drop a = m :: ms.drop (a + 1) := by
      rw [List.drop_eq_getElem_cons hlt]
      rw [List.getElem?_eq_getElem hlt] at h
      rw [Option.some.inj h]
    simp only [hd]
    rw [show (if false = true then a + 1 else a) = a from rfl, e, lookF, if_pos hl]
  · simp only [hd, if_true]
    have : valM m = 0 := by simp [valM, hd]
    rw [this]
/-- Behind Trim a key looks, at that revision and behind it, as ahead of it. -/
theorem look_cut {rev at_ : Int} (hr : rev ≤ at_) {ms : List Mk} (hs : MAsc ms) : lookF at_ 0 (cutL rev ms) = lookF at_ 0 ms := by
  unfold cutL cutM
  cases hh : hrm ms rev with
  | true =>
    have hlt := hrm_lt hh
    rw [if_pos rfl]
    have hm : (ms[plm ms rev]'hlt).1 = rev := by
      unfold hrm at hh
      rw [List.getElem?_eq_getElem hlt] at hh
      simpa using hh
    exact look_cutA hs (List.getElem?_eq_getElem hlt) (by omega)
  | false =>
    rw [if_neg (by simp)]
    by_cases h0 : plm ms rev = 0
    · rw [if_pos h0]; rfl
    · rw [if_neg h0]
      have hle := plm_le ms rev
      have hlt : plm ms rev - 1 < ms.length := by omega
      have hm := plm_lt (r := rev) (ms := ms) (j := plm ms rev - 1) (by omega) (List.getElem?_eq_getElem hlt)
      exact look_cutA hs (List.getElem?_eq_getElem hlt) (by omega)
theorem lookD_filter {D : Dat} (ha : Asc (D.map Prod.fst)) (rev : Int) (key : ByteArray) : (lookD (trimD rev D) key).getD [] = cutL rev ((lookD D key).getD []) := by
  induction D with
  | nil => simp [trimD, lookD, cutL]
  | cons p D ih =>
    obtain ⟨k, ms⟩ := p
    obtain ⟨h1, h2⟩ : (∀ j ∈ D.map Prod.fst, klt k j = true) ∧ Asc (D.map Prod.fst) := ha
    have ih := ih h2
    have hno : k ∉ D.map Prod.fst := fun hm => by have := h1 k hm; rw [klt_irrefl] at this; cases this
    have hno2 : k ∉ (trimD rev D).map Prod.fst := fun hm => hno (by
      obtain ⟨q, hq, rfl⟩ := List.mem_map.1 hm
      obtain ⟨q', hq', rfl⟩ := List.mem_map.1 (List.mem_filter.1 hq).1
      exact List.mem_map.2 ⟨q', hq', rfl⟩)
    by_cases hk : k = key
    · subst hk
      have e1 : lookD ((k, ms) :: D) k = some ms := by simp [lookD]
      rw [e1]
      by_cases hc : cutL rev ms = []
      · have e2 : trimD rev ((k, ms) :: D) = trimD rev D := by simp [trimD, hc]
        rw [e2, lookD_none hno2]
        simp [hc]
      · have e2 : trimD rev ((k, ms) :: D) = (k, cutL rev ms) :: trimD rev D := by
          have : (cutL rev ms).isEmpty = false := by rw [List.isEmpty_eq_false_iff]; exact hc
          simp [trimD, this]
        rw [e2]
        simp [lookD]
    · have e1 : lookD ((k, ms) :: D) key = lookD D key := by simp [lookD, hk]
      rw [e1, ← ih]
      by_cases hc : cutL rev ms = []
      · have e2 : trimD rev ((k, ms) :: D) = trimD rev D := by simp [trimD, hc]
        rw [e2]
      · have e2 : trimD rev ((k, ms) :: D) = (k, cutL rev ms) :: trimD rev D := by
          have : (cutL rev ms).isEmpty = false := by rw [List.isEmpty_eq_false_iff]; exact hc
          simp [trimD, this]
        rw [e2]
        simp [lookD, hk]
theorem look_trim {n : Nat} {D : Dat} (hB : Bd n D) {rev at_ : Int} (hr : rev ≤ at_) (key : ByteArray) : lookF at_ 0 ((lookD (trimD rev D) key).getD []) = lookF at_ 0 ((lookD D key).getD []) := by
  rw [lookD_filter hB.asc]
  refine look_cut hr ?_
  cases hl : lookD D key with
  | none => exact List.Pairwise.nil
  | some ms => exact (hB.ms _ (lookD_mem hl)).2.1
/-- What is told lies between 0 and the revision that was asked for. -/
theorem lookF_bd {at_ : Int} (h0 : 0 ≤ at_) : ∀ (ms : List Mk) (n : Int), 0 ≤ n → n ≤ at_ → (∀ m ∈ ms, 0 ≤ m.1) → 0 ≤ lookF at_ n ms ∧ lookF at_ n ms ≤ at_
  | [], n, h1, h2, _ => ⟨h1, h2⟩
  | m :: ms, n, h1, h2, h3 => by
    unfold lookF
    split
    · have := h3 m (by simp)
      refine lookF_bd h0 ms _ ?_ ?_ (fun x hx => h3 x (by simp [hx]))
      · unfold valM; split <;> omega
      · unfold valM; split <;> omega
    · exact ⟨h1, h2⟩
set_option maxHeartbeats 2000000 in
theorem look_any {w : World} {v : Value} {ms : List Mk} (hM : Mks w v ms) (hn : ms.length ≤ 1000000) (at_ : Int) : Calls Try.prog 22 #[v, .int .i64 at_] w fun e w' => e = .returned (.int .i64 (lookF at_ 0 ms)) ∧ w' = w := by
  obtain ⟨p, c, hv, _, _⟩ := owns_form hM
  have HC : Hid (∀ j m, ms[j]? = some m → ∃ g, p = some ⟨g, 0, none⟩ ∧ w.cell? ⟨g, j * 2, none⟩ = some (.int .i64 m.1) ∧ w.cell? ⟨g, j * 2 + 1, none⟩ = some (.bool m.2)) := fun j m hj => by
    obtain ⟨g, c', hv', _, _⟩ := owns_form1 hM (by have := (List.getElem?_eq_some_iff.1 hj).1; omega)
    rw [hv] at hv'
    cases hv'
    rw [hv] at hM
    exact ⟨g, rfl, (Mks.cell hM hj).1, (Mks.cell hM hj).2⟩
  subst hv
  clear hM
  go_enter Try.func22, Try.ntmps22
  go_wp2
  go_loop [5, 6] (fun a b => ∃ (i : Nat) (n : Int), i ≤ ms.length ∧ a = .int .i64 n ∧ b = .int .i64 i ∧ Hid (lookF at_ n (ms.drop i) = lookF at_ 0 ms)) (fun _ b => ms.length - (intOf b).toNat)
  case atStart => exact ⟨0, 0, Nat.zero_le _, rfl, rfl, rfl⟩
  case round =>
    obtain ⟨i, n, hi, rfl, rfl, HL⟩ := hrel
    by_cases hlt : i < ms.length
    · obtain ⟨m, hm⟩ : ∃ m, ms[i]? = some m := ⟨_, List.getElem?_eq_getElem hlt⟩
      obtain ⟨g, rfl, c0, c1⟩ := HC.out i m hm
      have e : ms.drop i = m :: ms.drop (i + 1) := by
        rw [List.drop_eq_getElem_cons hlt]
        rw [List.getElem?_eq_getElem hlt] at hm
        rw [Option.some.inj hm]
      have hL := HL.out
      rw [e, lookF] at hL
      clear HL hm e
      obtain ⟨r, d⟩ := m
      dsimp only at c0 c1 hL
      by_cases hr : r ≤ at_
      · rw [if_pos hr] at hL
        cases d
        · have HL2 : Hid (lookF at_ r (ms.drop (i + 1)) = lookF at_ 0 ms) := hL
          clear hL
          go_wp2
          go_round
          case rel => exact ⟨i + 1, r, by omega, rfl, by congr 1, HL2⟩
          case measure => simp [intOf]; omega
        · have HL2 : Hid (lookF at_ 0 (ms.drop (i + 1)) = lookF at_ 0 ms) := hL
          clear hL
          go_wp2
          go_round
          case rel => exact ⟨i + 1, 0, by omega, rfl, by congr 1, HL2⟩
          case measure => simp [intOf]; omega
      · rw [if_neg hr] at hL
        have HL2 := Hid.mk'' hL
        clear hL
        go_wp2
        go_ret
        exact ⟨ret_int HL2.out, rfl⟩
    · have hL := HL.out
      rw [List.drop_eq_nil_of_le (by omega), lookF] at hL
      have HL2 := Hid.mk'' hL
      clear hL HL
      go_wp2
      go_ret
      exact ⟨ret_int HL2.out, rfl⟩
end Go.Proofs.Ytilginghgigiiaa
