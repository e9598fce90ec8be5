/- Height. -/
import Derived.Test.YtilginghgigiiaaE67
namespace Go.Proofs.Ytilginghgigiiaa
open Go Go.RowKit

/-- A tree's first kid, or none. -/
theorem Tre.first {w : World} {h b : Nat} {its L : List Itm} {F : List Nat} (ht : Tre w h b its L F) :
    (h = 0 ∧ Calls Try.prog 34 #[ptr b, .int .i64 0] w fun e w' => e = .returned (.pointer none) ∧ w' = w) ∨ ∃ j k its' L' F', h = j + 1 ∧ Tre w j k its' L' F' ∧ Calls Try.prog 34 #[ptr b, .int .i64 0] w fun e w' => e = .returned (ptr k) ∧ w' = w := by
  cases h with
  | zero =>
    obtain ⟨iv, kv, hN, _, _⟩ := ht
    exact .inl ⟨rfl, kid_none hN 0⟩
  | succ j =>
    obtain ⟨iv, kv, ks, hN, hl, hk, _, _⟩ := ht
    cases ks with
    | nil => simp at hl
    | cons k ks => exact .inr ⟨j, k.b, k.its, k.L, k.F, rfl, (hk k (by simp)).1, kid_some (i := 0) hN (by simp)⟩
set_option maxHeartbeats 1000000 in
theorem height_tre {w : World} {x h b : Nat} {its L : List Itm} {F : List Nat} {n : Int} (hx : xrow w x (some ⟨b, 0, none⟩) n) (ht : Tre w h b its L F) (hh : h ≤ 1000000) :
    Calls Try.prog 32 #[ptr x] w fun e w' => e = .returned (.int .i64 ((h : Int) + 1)) ∧ w' = w := by
  have HT := Hid.mk'' ht
  have c0 := hx.c0
  clear hx ht
  go_enter Try.func32, Try.ntmps32
  go_wp2
  go_loop [3, 4] (fun a p => (p = .pointer none ∧ a = .int .i64 ((h : Int) + 1)) ∨ ∃ d j b' its' L' F', p = ptr b' ∧ a = .int .i64 (d : Nat) ∧ d + j = h ∧ Hid (Tre w j b' its' L' F')) (fun a _ => h + 1 - (intOf a).toNat)
  case atStart => exact .inr ⟨0, h, b, its, L, F, rfl, rfl, by omega, HT⟩
  case round =>
    clear HT
    rcases hrel with ⟨rfl, rfl⟩ | ⟨d, j, b', its', L', F', rfl, rfl, hd, H⟩
    · go_wp2
      go_ret
      exact ⟨rfl, rfl⟩
    · rcases H.out.first with ⟨hj, hc⟩ | ⟨j', k, i2, L2, F2, hj, ht, hc⟩
      · clear H
        go_wp2_with (go_at_call 34; refine hc.mono ?_; rintro e w1 ⟨rfl, rfl⟩)
        go_round
        case rel => exact .inl ⟨rfl, by congr 1; omega⟩
        case measure => simp [intOf]; omega
      · have HT2 := Hid.mk'' ht
        clear H ht
        go_wp2_with (go_at_call 34; refine hc.mono ?_; rintro e w1 ⟨rfl, rfl⟩)
        go_round
        case rel => exact .inr ⟨d + 1, j', k, i2, L2, F2, rfl, by congr 1, by omega, HT2⟩
        case measure => simp [intOf]; omega
set_option maxHeartbeats 1000000 in
theorem height_nil {w : World} {x : Nat} {n : Int} (hx : xrow w x none n) : Calls Try.prog 32 #[ptr x] w fun e w' => e = .returned (.int .i64 0) ∧ w' = w := by
  have c0 := hx.c0
  clear hx
  go_enter Try.func32, Try.ntmps32
  go_wp2
  go_loop [3, 4] (fun a p => p = .pointer none ∧ a = .int .i64 0) (fun _ _ => 0)
  case atStart => exact ⟨rfl, rfl⟩
  case round =>
    obtain ⟨rfl, rfl⟩ := hrel
    go_wp2
    go_ret
    exact ⟨rfl, rfl⟩
end Go.Proofs.Ytilginghgigiiaa
