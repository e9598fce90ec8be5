/- name, low. -/
import Derived.Test.YtilginghgigiiaaU2
import Derived.Test.YtilginghgigiiaaY1
import Derived.Laws.BytesArg
namespace Go.Proofs.Ytilginghgigiiaa
open Go Go.RowKit

set_option maxRecDepth 100000 in
set_option maxHeartbeats 2000000 in
theorem name_any (m : Nat) (hm : m < 17576) (w : World) : Calls Try.prog 20 #[.int .i64 m] w fun e w' => e = .returned (.string (nameB m)) ∧ Below w.heap.size w w' := by
  have hconv : (convert 76 9 (.slice (some ⟨w.heap.size, 0, none⟩) 3 3)).run Try.prog (w.alloc (.cells #[.int .u8 (97 + (m : Int) % 26), .int .u8 (97 + (m : Int) / 26 % 26), .int .u8 (97 + (m : Int) / 676 % 26)] 5)) = .ok (.string (nameB m)) (w.alloc (.cells #[.int .u8 (97 + (m : Int) % 26), .int .u8 (97 + (m : Int) / 26 % 26), .int .u8 (97 + (m : Int) / 676 % 26)] 5)) := by
    have hn : strOfNums [97 + (m : Int) % 26, 97 + (m : Int) / 26 % 26, 97 + (m : Int) / 676 % 26] = nameB m := by
      have e1 : (97 + (m : Int) % 26).toNat = 97 + m % 26 := by omega
      have e2 : (97 + (m : Int) / 26 % 26).toNat = 97 + m / 26 % 26 := by omega
      have e3 : (97 + (m : Int) / 676 % 26).toNat = 97 + m / 676 % 26 := by omega
      simp [strOfNums, nameB, e1, e2, e3]
    rw [← hn]
    refine run_convert_bytes_arg _ 76 5 Try.underlying76 Try.underlying5 w.heap.size 0 3 3 _ rfl (fun i hi => ?_) 9 Try.underlying9
    rw [Nat.zero_add, cell_of_row _ _ _ _ _ _ (row_alloc w _ _)]
    match i, hi with
    | 0, _ => rfl
    | 1, _ => rfl
    | 2, _ => rfl
  go_enter Try.func20, Try.ntmps20
  go_wp2
  go_ret
  exact ⟨rfl, (Below.refl _ _).alloc (Nat.le_refl _) _⟩

/-- The greatest power of two that is not above a number. -/
theorem low_step {n l : Nat} (h : 2 ^ (l + 1) ≤ n + 1) (hn : n ≤ 1000) : l < 9 := by
  refine Nat.lt_of_not_le fun hl => ?_
  have : 2 ^ 10 ≤ 2 ^ (l + 1) := Nat.pow_le_pow_right (by omega) (by omega)
  omega
set_option maxRecDepth 100000 in
set_option maxHeartbeats 2000000 in
theorem low_xd {w : World} {x : Nat} {D : Dat} {F : List Nat} (H : Xd w x D F) (hD : D.length ≤ 1000) : Calls Try.prog 21 #[ptr x] w fun e w' => e = .returned (.bool true) ∧ w' = w := by
  have hln := len_xd H
  obtain ⟨R, h1, rfl⟩ := H
  rw [dat_len] at hD hln
  obtain ⟨hgt, g1, g2, g3, hh⟩ := height_ix h1 hD
  clear h1
  by_cases h0 : R.length = 0
  · have hR : R = [] := List.eq_nil_of_length_eq_zero h0
    have hg := g1 hR
    subst hg
    rw [h0] at hln
    clear g1 g2 g3 hR h0
    go_enter Try.func21, Try.ntmps21
    go_wp2_with (first | (go_at_call 18; refine hln.mono ?_; rintro e wa ⟨rfl, rfl⟩) | (go_at_call 32; refine hh.mono ?_; rintro e wb ⟨rfl, rfl⟩))
    go_ret
    exact ⟨rfl, rfl⟩
  · have hg := g2 (fun e => h0 (by rw [e]; rfl))
    generalize R.length = n at *
    clear g1 g2
    have G3 := Hid.mk'' g3
    clear g3
    have hgn : hgt ≤ 1000 := by
      have := @Nat.lt_two_pow_self hgt
      have := G3.out
      omega
    go_enter Try.func21, Try.ntmps21
    go_upto_region 5 with (first | (go_at_call 18; refine hln.mono ?_; rintro e wa ⟨rfl, rfl⟩) | (go_at_call 32; refine hh.mono ?_; rintro e wb ⟨rfl, rfl⟩))
    clear hln hh
    go_wp2
    go_loop [5] (fun a => ∃ l : Nat, a = .int .i64 l ∧ l ≤ 10 ∧ Hid (2 ^ l ≤ n + 1)) (fun a => 11 - (intOf a).toNat)
    case atStart => exact ⟨0, rfl, by omega, (show 2 ^ 0 ≤ n + 1 by omega)⟩
    case round =>
      obtain ⟨l, rfl, hl, HL⟩ := hrel
      have hlt := Nat.lt_or_ge (n + 1) (2 ^ (l + 1))
      rcases hlt with hlt | hge
      · have hgl : hgt ≤ l := by
          refine Nat.le_of_not_lt fun h => ?_
          have : 2 ^ (l + 1) ≤ 2 ^ hgt := Nat.pow_le_pow_right (by omega) h
          have := G3.out
          omega
        clear HL G3
        have h11 : l = 1 ∨ l = 2 ∨ l = 3 ∨ l = 4 ∨ l = 5 ∨ l = 6 ∨ l = 7 ∨ l = 8 ∨ l = 9 ∨ l = 10 := by omega
        rcases h11 with rfl | rfl | rfl | rfl | rfl | rfl | rfl | rfl | rfl | rfl
        all_goals
          simp only [Nat.reduceAdd, Nat.reducePow] at hlt
          go_wp2
          go_ret
          exact ⟨ret_bool (decide_eq_true (by omega)), rfl⟩
      · have hl9 := low_step hge hD
        have HL2 : Hid (2 ^ (l + 1) ≤ n + 1) := hge
        clear HL G3
        have h10 : l = 0 ∨ l = 1 ∨ l = 2 ∨ l = 3 ∨ l = 4 ∨ l = 5 ∨ l = 6 ∨ l = 7 ∨ l = 8 := by omega
        rcases h10 with rfl | rfl | rfl | rfl | rfl | rfl | rfl | rfl | rfl
        all_goals
          simp only [Nat.reduceAdd, Nat.reducePow] at hge
          go_wp2
          go_round
          case rel => exact ⟨_, rfl, by decide, HL2⟩
          case measure => simp [intOf]
end Go.Proofs.Ytilginghgigiiaa
