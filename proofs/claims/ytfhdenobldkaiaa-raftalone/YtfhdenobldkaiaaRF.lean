/- The sort of one number; an entry behind the log. -/
import Derived.Test.YtfhdenobldkaiaaRE
namespace Go.Proofs.Ytfhdenobldkaiaa
open Go Go.RowKit
theorem insertion_one (w : World) (v : Value) : Calls Try.prog 64 #[v, iv 0, iv 1] w fun e w' => e = .returned (.tuple #[]) ∧ w' = w := by
  go_enter Try.func64, Try.ntmps64
  go_wp2
  go_loopg [6, 7] 1 (fun kx s6 s7 wq => s6 = iv 1 ∧ kx = 1 ∧ wq = w)
  case atStart => exact ⟨rfl, rfl, rfl⟩
  case round =>
    obtain ⟨rfl, rfl, hwr⟩ := hrel
    obtain rfl := hwr.symm
    go_wp2
    first | go_end0 | refine bodyPost_ret (results_none rfl _ _ _) rfl ?_
    exact ⟨rfl, rfl⟩
set_option maxRecDepth 100000 in
set_option maxHeartbeats 1000000 in
theorem pdq_one (w : World) (v l : Value) : Calls Try.prog 61 #[v, iv 0, iv 1, l] w fun e w' => e = .returned (.tuple #[]) ∧ w' = w := by
  have hi := insertion_one w v
  go_enter Try.func61, Try.ntmps61
  go_wp2
  go_loopg [1, 2, 3, 8, 9, 10, 11, 12, 13, 14, 15, 16, 17, 18] 1 (fun kx s1 s2 s3 s8 s9 s10 s11 s12 s13 s14 s15 s16 s17 s18 wq => s1 = iv 0 ∧ s2 = iv 1 ∧ kx = 1 ∧ wq = w)
  case atStart => exact ⟨rfl, rfl, rfl, rfl⟩
  case round =>
    obtain ⟨rfl, rfl, rfl, hwr⟩ := hrel
    obtain rfl := hwr.symm
    go_wp2_with (go_at_call 64; refine hi.mono ?_; rintro e w1 ⟨rfl, hw1⟩; obtain rfl := hw1.symm)
    first | go_end0 | refine bodyPost_ret (results_none rfl _ _ _) rfl ?_
    exact ⟨rfl, rfl⟩
set_option maxRecDepth 100000 in
theorem len64_one (w : World) : Calls Try.prog 74 #[.int .u64 1] w fun e w' => ∃ v, e = .returned v ∧ w' = w := by
  go_enter Try.func74, Try.ntmps74
  go_wp2
  go_ret
  exact ⟨_, rfl, rfl⟩
set_option maxRecDepth 100000 in
theorem len_one (w : World) : Calls Try.prog 62 #[.int .u64 1] w fun e w' => ∃ v, e = .returned v ∧ w' = w := by
  have h := len64_one w
  go_enter Try.func62, Try.ntmps62
  go_wp2_with (go_at_call 74; refine h.mono ?_; rintro e w1 ⟨v, rfl, hw1⟩; obtain rfl := hw1.symm)
  go_ret
  exact ⟨_, rfl, rfl⟩
set_option maxRecDepth 100000 in
theorem sort_one (w : World) (p : Option Addr) (c : Nat) : Calls Try.prog 53 #[.slice p 1 c] w fun e w' => e = .returned (.tuple #[]) ∧ w' = w := by
  have h := len_one w
  have hp := fun l => pdq_one w (.slice p 1 c) l
  go_enter Try.func53, Try.ntmps53
  go_wp2_with (first
    | (go_at_call 62; refine h.mono ?_; rintro e w1 ⟨v, rfl, hw1⟩; obtain rfl := hw1.symm)
    | (go_at_call 61; refine (hp _).mono ?_; rintro e w1 ⟨rfl, hw1⟩; obtain rfl := hw1.symm))
  first | go_end0 | refine bodyPost_ret (results_none rfl _ _ _) rfl ?_
  exact ⟨rfl, rfl⟩
theorem tells_no (i t k : Int) (v : Value) (hk : k ≠ 2) (hv : ∃ p n c, v = .slice p n c) (w : World) : Calls Try.prog 45 #[.agg #[iv i, iv t, iv k, v]] w fun e w' => e = .returned (.bool false) ∧ Below w.heap.size w w' := by
  obtain ⟨p, n, c, rfl⟩ := hv
  have hb : (k == 2) = false := by simpa using hk
  go_enter Try.func45, Try.ntmps45
  go_wp2
  go_ret
  exact ⟨rfl, (Below.refl _ _).alloc (Nat.le_refl _) _⟩
theorem voters_no {w : World} {g c : Nat} {i t k : Int} {dv : Value} (a0 : w.cell? ⟨g, 0, none⟩ = some (iv i)) (a1 : w.cell? ⟨g, 1, none⟩ = some (iv t)) (a2 : w.cell? ⟨g, 2, none⟩ = some (iv k)) (a3 : w.cell? ⟨g, 3, none⟩ = some dv) (hk : k ≠ 2) (hd : ∃ p n c, dv = .slice p n c) :
    Calls Try.prog 44 #[.slice (some ⟨g, 0, none⟩) 1 c, .func (.func 45) #[] #[]] w fun e w' => e = .returned (.bool false) ∧ Below w.heap.size w w' := by
  obtain ⟨dp, dn, dc, rfl⟩ := hd
  have ht := tells_no i t k (.slice dp dn dc) hk ⟨_, _, _, rfl⟩ w
  have hix : Calls Try.prog 55 #[.slice (some ⟨g, 0, none⟩) 1 c, .func (.func 45) #[] #[]] w fun e w' => e = .returned (iv (-1)) ∧ Below w.heap.size w w' := by
    go_enter Try.func55, Try.ntmps55
    go_wp2
    go_loopg [5, 8] 2 (fun kx s5 s8 wq => ∃ j : Nat, s8 = .int .i64 j ∧ kx + j = 2 ∧ j ≤ 1 ∧ Below w.heap.size w wq ∧ Hid (j = 0 → wq = w))
    case atStart => exact ⟨0, rfl, rfl, by omega, Below.refl _ _, fun _ => rfl⟩
    case round =>
      obtain ⟨j, rfl, hk, hj, hb, HJ⟩ := hrel
      by_cases h0 : j = 0
      · subst h0
        have hwr := HJ.out rfl
        obtain rfl := hwr.symm
        clear HJ
        go_wp2_with (go_at_call 45; refine ht.mono ?_; rintro e w1 ⟨rfl, hb1⟩)
        go_roundg 1
        case measure => omega
        case rel => exact ⟨1, rfl, by omega, by omega, hb1, fun e => by omega⟩
      · obtain rfl : j = 1 := by omega
        go_wp2
        go_ret
        exact ⟨rfl, hb⟩
  go_enter Try.func44, Try.ntmps44
  go_wp2_with (go_at_call 55; refine hix.mono ?_; rintro e w1 ⟨rfl, hb1⟩)
  go_ret
  exact ⟨rfl, hb1⟩
end Go.Proofs.Ytfhdenobldkaiaa
