/- The chapter's example. -/
import Derived.Test.YtilginghgigiiaaQ1
namespace Go.Proofs.Ytilginghgigiiaa
open Go Go.RowKit

theorem putE_a1 : putE [] ⟨#[97]⟩ 1 false = 0 := by decide +kernel
theorem putD_a1 : putD [] ⟨#[97]⟩ 1 false = [(⟨#[97]⟩, [(1, false)])] := by decide +kernel
theorem putD_a3 : putD [(⟨#[97]⟩, [(1, false)])] ⟨#[97]⟩ 3 true = [(⟨#[97]⟩, [(1, false), (3, true)])] := by decide +kernel
theorem trimD_a3 : trimD 3 [(⟨#[97]⟩, [(1, false), (3, true)])] = [] := by decide +kernel
set_option maxHeartbeats 1000000 in
theorem known_any (w : World) : Calls Try.prog 8 #[] w fun e w' => e = .returned (.bool true) ∧ Below w.heap.size w w' := by
  have b1 : Bd 1 [((⟨#[97]⟩ : ByteArray), [((1 : Int), false)])] := by have := Bd.nil.put ⟨#[97]⟩ 1 false; rw [putD_a1] at this; exact this
  have b2 : Bd 2 [((⟨#[97]⟩ : ByteArray), [((1 : Int), false), (3, true)])] := by have := b1.put ⟨#[97]⟩ 3 true; rw [putD_a3] at this; exact this
  have HP1 : Hid (∀ W F, Xd W w.heap.size [] F → Calls Try.prog 10 #[ptr w.heap.size, .string ⟨#[97]⟩, .agg #[.int .i64 1, .bool false]] W fun e w' => (∃ z, e = .returned (.int .i64 z)) ∧ ∃ F', Xd w' w.heap.size [(⟨#[97]⟩, [(1, false)])] F' ∧ Step W w' F F') := fun W F h => by
    have := put_xd h Bd.nil (by omega) ⟨#[97]⟩ 1 false (by decide) (by omega)
    rw [putD_a1] at this
    exact this.mono fun e w' h => ⟨⟨_, h.1⟩, h.2⟩
  have HP2 : Hid (∀ W F, Xd W w.heap.size [(⟨#[97]⟩, [(1, false)])] F → Calls Try.prog 10 #[ptr w.heap.size, .string ⟨#[97]⟩, .agg #[.int .i64 3, .bool true]] W fun e w' => (∃ z, e = .returned (.int .i64 z)) ∧ ∃ F', Xd w' w.heap.size [(⟨#[97]⟩, [(1, false), (3, true)])] F' ∧ Step W w' F F') := fun W F h => by
    have := put_xd h b1 (by omega) ⟨#[97]⟩ 3 true (by decide) (by omega)
    rw [putD_a3] at this
    exact this.mono fun e w' h => ⟨⟨_, h.1⟩, h.2⟩
  have HL2 : Hid (∀ W F, Xd W w.heap.size [(⟨#[97]⟩, [(1, false), (3, true)])] F → Calls Try.prog 18 #[ptr w.heap.size] W fun e w' => e = .returned (.int .i64 1) ∧ w' = W) := fun W F h => len_xd h
  have HT : Hid (∀ W F, Xd W w.heap.size [(⟨#[97]⟩, [(1, false), (3, true)])] F → Calls Try.prog 12 #[ptr w.heap.size, .int .i64 3] W fun e w' => e = .returned (.tuple #[]) ∧ ∃ F', Xd w' w.heap.size [] F' ∧ Step W w' F F') := fun W F h => by
    have := trim_xd h b2 (by omega) 3
    rw [trimD_a3] at this
    exact this
  have HL0 : Hid (∀ W F, Xd W w.heap.size [] F → Calls Try.prog 18 #[ptr w.heap.size] W fun e w' => e = .returned (.int .i64 0) ∧ w' = W) := fun W F h => len_xd h
  clear b1 b2
  go_enter Try.func8, Try.ntmps8
  go_upto_region 4 with (go_at_call 9; refine (new_xd w).mono ?_; rintro e w1 ⟨rfl, h1, hb1, _⟩)
  have X1 := Hid.mk'' h1
  clear h1
  go_upto_region 5 with (go_at_call 10; refine (HP1.out _ _ X1.out).mono ?_; rintro e w2 ⟨⟨z2, rfl⟩, F2, h2, s2⟩)
  have X2 := Hid.mk'' h2
  clear h2
  go_upto_region 6 with (go_at_call 10; refine (HP2.out _ _ X2.out).mono ?_; rintro e w3 ⟨⟨z3, rfl⟩, F3, h3, s3⟩)
  have X3 := Hid.mk'' h3
  clear h3
  go_upto_region 7 with (go_at_call 18; refine (HL2.out _ _ X3.out).mono ?_; rintro e w4 ⟨rfl, rfl⟩)
  go_upto_region 8 with (go_at_call 12; refine (HT.out _ _ X3.out).mono ?_; rintro e w5 ⟨rfl, F5, h5, s5⟩)
  have X5 := Hid.mk'' h5
  clear h5
  go_wp2_with (go_at_call 18; refine (HL0.out _ _ X5.out).mono ?_; rintro e w6 ⟨rfl, rfl⟩)
  go_ret
  refine ⟨rfl, ?_⟩
  have S := (s2.trans s3).trans s5
  exact hb1.trans (S.upd.below hb1.size (fun k hk hm => by simp only [List.mem_singleton] at hm; omega))
end Go.Proofs.Ytilginghgigiiaa
