/- Where a revision stands among marks. -/
import Derived.Test.YtilginghgigiiaaE3
namespace Go.Proofs.Ytilginghgigiiaa
open Go Go.RowKit

abbrev MAsc (ms : List Mk) : Prop := ms.Pairwise fun a b => a.1 < b.1
def plm (ms : List Mk) (r : Int) : Nat := (ms.takeWhile fun m => decide (m.1 < r)).length
def hrm (ms : List Mk) (r : Int) : Bool := match ms[plm ms r]? with | some m => decide (m.1 = r) | none => false
theorem plm_le (ms : List Mk) (r : Int) : plm ms r ≤ ms.length := by
  unfold plm
  exact (List.takeWhile_sublist _).length_le
theorem plm_lt {r : Int} : ∀ {ms : List Mk} {j : Nat} {m : Mk}, j < plm ms r → ms[j]? = some m → m.1 < r
  | [], j, m, h, hj => by simp at hj
  | a :: ms, 0, m, h, hj => by
    simp only [List.getElem?_cons_zero, Option.some.injEq] at hj
    subst hj
    unfold plm at h
    rw [List.takeWhile_cons] at h
    split at h
    · rename_i hd; simpa using hd
    · simp at h
  | a :: ms, j + 1, m, h, hj => by
    unfold plm at h
    rw [List.takeWhile_cons] at h
    split at h
    · exact plm_lt (ms := ms) (j := j) (by unfold plm; simpa using h) (by simpa using hj)
    · simp at h
theorem plm_not {r : Int} : ∀ {ms : List Mk} {m : Mk}, ms[plm ms r]? = some m → r ≤ m.1
  | [], m, h => by simp at h
  | a :: ms, m, h => by
    by_cases hk : a.1 < r
    · have e : plm (a :: ms) r = plm ms r + 1 := by simp [plm, hk]
      rw [e, List.getElem?_cons_succ] at h
      exact plm_not h
    · have e : plm (a :: ms) r = 0 := by simp [plm, hk]
      rw [e] at h
      simp at h
      subst h
      omega
theorem masc_get {ms : List Mk} (h : MAsc ms) {i j : Nat} {a b : Mk} (hij : i < j) (ha : ms[i]? = some a) (hb : ms[j]? = some b) : a.1 < b.1 := by
  obtain ⟨hi, rfl⟩ := List.getElem?_eq_some_iff.1 ha
  obtain ⟨hj, rfl⟩ := List.getElem?_eq_some_iff.1 hb
  exact List.pairwise_iff_getElem.1 h i j hi hj hij
theorem plm_ge {ms : List Mk} {r : Int} (hs : MAsc ms) {j : Nat} {m : Mk} (h : plm ms r ≤ j) (hj : ms[j]? = some m) : r ≤ m.1 := by
  rcases Nat.eq_or_lt_of_le h with h | h
  · subst h; exact plm_not hj
  · have hl := (List.getElem?_eq_some_iff.1 hj).1
    have hp : plm ms r < ms.length := by omega
    have h1 := plm_not (r := r) (List.getElem?_eq_getElem hp)
    have h2 := masc_get hs h (List.getElem?_eq_getElem hp) hj
    omega
def cmpN (a b : Int) : Int := if a < b then -1 else if a > b then 1 else 0
set_option maxHeartbeats 400000 in
theorem nan_any (a : Int) (w : World) : Calls Try.prog 54 #[.int .i64 a] w fun e w' => e = .returned (.bool false) ∧ w' = w := by
  go_enter Try.func54, Try.ntmps54
  go_wp2
  go_ret
  exact ⟨ret_bool (by simp), rfl⟩
set_option maxHeartbeats 400000 in
theorem cmpN_any (a b : Int) (w : World) : Calls Try.prog 42 #[.int .i64 a, .int .i64 b] w fun e w' => e = .returned (.int .i64 (cmpN a b)) ∧ w' = w := by
  have HC : Hid (cmpN a b = if a < b then -1 else if a > b then 1 else 0) := rfl
  go_enter Try.func42, Try.ntmps42
  by_cases h1 : a < b
  · go_wp2_with (go_at_call 54; refine (nan_any _ _).mono ?_; rintro e w' ⟨rfl, rfl⟩)
    go_ret
    exact ⟨by rw [HC.out, if_pos (by omega)]; rfl, rfl⟩
  · by_cases h2 : a > b
    · go_wp2_with (go_at_call 54; refine (nan_any _ _).mono ?_; rintro e w' ⟨rfl, rfl⟩)
      go_ret
      exact ⟨by rw [HC.out, if_neg (by omega), if_pos (by omega)]; rfl, rfl⟩
    · go_wp2_with (go_at_call 54; refine (nan_any _ _).mono ?_; rintro e w' ⟨rfl, rfl⟩)
      go_ret
      exact ⟨by rw [HC.out, if_neg (by omega), if_neg (by omega)]; rfl, rfl⟩
set_option maxHeartbeats 400000 in
theorem cmpM (a b : Int) (d : Bool) (w : World) : Calls Try.prog 41 #[.agg #[.int .i64 a, .bool d], .int .i64 b] w fun e w' => e = .returned (.int .i64 (cmpN a b)) ∧ Below w.heap.size w w' := by
  go_enter Try.func41, Try.ntmps41
  go_wp2_with (go_at_call 42; refine (cmpN_any _ _ _).mono ?_; rintro e w' ⟨rfl, rfl⟩)
  go_ret
  exact ⟨rfl, (Below.refl _ _).alloc (Nat.le_refl _) _⟩
theorem cmpN_neg (a b : Int) : decide (cmpN a b < 0) = decide (a < b) := by
  unfold cmpN
  by_cases h : a < b
  · simp [h]
  · rw [if_neg h]; split <;> simp [h]
theorem cmpN_zero (a b : Int) (h : b ≤ a) : (cmpN a b == 0) = decide (a = b) := by
  unfold cmpN
  rw [if_neg (by omega)]
  by_cases e : a = b
  · subst e; simp
  · rw [if_pos (by omega)]; simp [e]
/-- Marks in a row of cells. -/
def MksAt (w : World) (g : Nat) (ms : List Mk) : Prop := ∀ j m, ms[j]? = some m → w.cell? ⟨g, j * 2, none⟩ = some (.int .i64 m.1) ∧ w.cell? ⟨g, j * 2 + 1, none⟩ = some (.bool m.2)
theorem MksAt.below {w w' : World} {g : Nat} {ms : List Mk} (h : MksAt w g ms) (hb : Below w.heap.size w w') : MksAt w' g ms := fun j it hj => by
  obtain ⟨h1, h2⟩ := h j it hj
  exact ⟨(hb.cell (p := ⟨g, j * 2, none⟩) (World.block_lt_of_cell? _ _ h1)).trans h1, (hb.cell (p := ⟨g, j * 2 + 1, none⟩) (World.block_lt_of_cell? _ _ h2)).trans h2⟩
set_option maxHeartbeats 1000000 in
theorem searchM (g c : Nat) (ms : List Mk) (r : Int) (w : World) (hc : MksAt w g ms) (hs : MAsc ms) (hn : ms.length ≤ 1000000) :
    Calls Try.prog 40 #[.slice (some ⟨g, 0, none⟩) ms.length c, .int .i64 r, .func (.func 41) #[] #[]] w fun e w' =>
      e = .returned (.tuple #[.int .i64 (plm ms r), .bool (hrm ms r)]) ∧ Below w.heap.size w w' := by
  have HS : Hid (MAsc ms) := hs
  have HC : Hid (MksAt w g ms) := hc
  have hp := plm_le ms r
  clear hs hc
  go_enter Try.func40, Try.ntmps40
  go_wp2
  go_loopw [9, 10] (fun a b W => ∃ i j : Nat, a = .int .i64 i ∧ b = .int .i64 j ∧ i ≤ plm ms r ∧ plm ms r ≤ j ∧ j ≤ ms.length ∧ Below w.heap.size w W) (fun a b _ => (intOf b).toNat - (intOf a).toNat)
  case atStart => exact ⟨0, ms.length, rfl, rfl, Nat.zero_le _, hp, Nat.le_refl _, Below.refl _ _⟩
  case round =>
    obtain ⟨i, j, rfl, rfl, h1, h2, h3, hb⟩ := hrel
    by_cases hij : i < j
    · obtain ⟨m, hit⟩ : ∃ m, ms[(i + j) / 2]? = some m := ⟨_, List.getElem?_eq_getElem (by omega)⟩
      have hcc := (HC.out.below hb) _ _ hit
      obtain ⟨c1, c2⟩ := hcc
      have hci := fun W => cmpM m.1 r m.2 W
      have hcn := cmpN_neg m.1 r
      have HI : Hid (ms[(i + j) / 2]? = some m) := hit
      clear hit
      cases hk : decide (m.1 < r)
      rotate_left
      · rw [hk] at hcn
        have hk' : m.1 < r := of_decide_eq_true hk
        have HK : Hid (m.1 < r) := hk'
        clear hk'
        clear hk
        go_wp2_with (go_at_call 41; refine (hci _).mono ?_; rintro e w' ⟨rfl, hb'⟩)
        go_roundw
        case rel =>
          refine ⟨(i + j) / 2 + 1, j, by go_num, rfl, ?_, h2, h3, hb.trans (hb'.mono hb.size)⟩
          refine Nat.le_of_not_lt fun hlt => ?_
          have := plm_ge (r := r) HS.out (by omega) HI.out
          have := HK.out
          omega
        case measure => simp [intOf]; omega
      · rw [hk] at hcn
        have hk' : ¬ m.1 < r := of_decide_eq_false hk
        have HK : Hid (¬ m.1 < r) := hk'
        clear hk'
        clear hk
        go_wp2_with (go_at_call 41; refine (hci _).mono ?_; rintro e w' ⟨rfl, hb'⟩)
        go_roundw
        case rel =>
          refine ⟨i, (i + j) / 2, rfl, rfl, h1, ?_, by omega, hb.trans (hb'.mono hb.size)⟩
          refine Nat.le_of_not_lt fun hlt => ?_
          have h1 := plm_lt hlt HI.out
          have h2 := HK.out
          omega
        case measure => simp [intOf]; omega
    · obtain rfl : i = plm ms r := by omega
      obtain rfl : j = plm ms r := by omega
      clear hij h1 h2 h3
      have HR : Hid (hrm ms r = match ms[plm ms r]? with | some m => decide (m.1 = r) | none => false) := rfl
      by_cases hlt : plm ms r < ms.length
      · obtain ⟨m, hit⟩ : ∃ m, ms[plm ms r]? = some m := ⟨_, List.getElem?_eq_getElem hlt⟩
        have hcc := (HC.out.below hb) _ _ hit
        obtain ⟨c1, c2⟩ := hcc
        have hci := fun W => cmpM m.1 r m.2 W
        have hcz := cmpN_zero m.1 r (plm_not hit)
        have HE : Hid (hrm ms r = decide (m.1 = r)) := by have := HR.out; rw [hit] at this; exact this
        clear HR hit
        go_wp2_with (go_at_call 41; refine (hci _).mono ?_; rintro e w' ⟨rfl, hb'⟩)
        go_ret2
        exact ⟨by rw [HE.out]; rfl, hb.trans (hb'.mono hb.size)⟩
      · have HE : Hid (hrm ms r = false) := by have := HR.out; rw [List.getElem?_eq_none (by omega)] at this; exact this
        clear HR
        go_wp2
        go_ret2
        exact ⟨by rw [HE.out]; rfl, hb⟩
end Go.Proofs.Ytilginghgigiiaa
