/- mend: which neighbour helps. -/
import Derived.Test.YteeflkkoifgcbabGreatGRJ
namespace Go.Proofs.YteeflkkoifgcbabGreat
open Go Go.RowKit

section
variable {w : World} {b kg kc kn : Nat} (c1 : w.cell? ⟨b, 1, none⟩ = some (.slice (some ⟨kg, 0, none⟩) kn kc)) {Q : World → Prop}
include c1
set_option maxRecDepth 100000 in
set_option maxHeartbeats 1000000 in
/-- There is nothing to mend. -/
theorem mend_no {i k n c : Nat} {p : Option Addr} (hi : i < kn) (h0 : w.cell? ⟨kg, i, none⟩ = some (ptr k)) (h1 : w.cell? ⟨k, 0, none⟩ = some (.slice p n c)) (hn : 2 ≤ n) :
    Calls Tryz.prog 78 #[ptr b, .int .i64 i] w fun e w' => e = .returned (.tuple #[]) ∧ w' = w := by
  go_enter Tryz.func78, Tryz.ntmps78
  go_wp2
  first | go_end0 | refine bodyPost_ret (results_none rfl _ _ _) rfl ?_
  exact ⟨rfl, rfl⟩
set_option maxRecDepth 100000 in
set_option maxHeartbeats 1000000 in
theorem mend_right {j k n c k1 n1 c1' : Nat} {p p1 : Option Addr} (hi : j + 1 < kn) (hk : kn ≤ 1000) (h0 : w.cell? ⟨kg, j + 1, none⟩ = some (ptr k)) (h1 : w.cell? ⟨k, 0, none⟩ = some (.slice p n c)) (hn : n < 2) (h2 : w.cell? ⟨kg, j, none⟩ = some (ptr k1)) (h3 : w.cell? ⟨k1, 0, none⟩ = some (.slice p1 n1 c1')) (hn1 : 2 < n1)
    (hc : Calls Tryz.prog 85 #[ptr b, .int .i64 j] w fun e w' => e = .returned (.tuple #[]) ∧ Q w') :
    Calls Tryz.prog 78 #[ptr b, .int .i64 ((j : Int) + 1)] w fun e w' => e = .returned (.tuple #[]) ∧ Q w' := by
  go_enter Tryz.func78, Tryz.ntmps78
  go_wp2_with (go_at_call 85; refine hc.mono ?_; rintro e w1 ⟨rfl, hq⟩)
  first | go_end0 | refine bodyPost_ret (results_none rfl _ _ _) rfl ?_
  exact ⟨rfl, hq⟩
set_option maxRecDepth 100000 in
set_option maxHeartbeats 1000000 in
theorem mend_left0 {k n c nn ic : Nat} {p ip : Option Addr} (hi : 0 < kn) (hk : kn ≤ 1000) (c0 : w.cell? ⟨b, 0, none⟩ = some (.slice ip nn ic)) (_hnn : nn ≤ 1000) (h0 : w.cell? ⟨kg, 0, none⟩ = some (ptr k)) (h1 : w.cell? ⟨k, 0, none⟩ = some (.slice p n c)) (hn : n < 2) (hr : 0 < nn) (hkn : 1 < kn) {k2 n2 c2 : Nat} {p2 : Option Addr} (h4 : w.cell? ⟨kg, 1, none⟩ = some (ptr k2)) (h5 : w.cell? ⟨k2, 0, none⟩ = some (.slice p2 n2 c2)) (hn2 : 2 < n2)
    (hc : Calls Tryz.prog 86 #[ptr b, .int .i64 0] w fun e w' => e = .returned (.tuple #[]) ∧ Q w') :
    Calls Tryz.prog 78 #[ptr b, .int .i64 0] w fun e w' => e = .returned (.tuple #[]) ∧ Q w' := by
  go_enter Tryz.func78, Tryz.ntmps78
  go_wp2_with (go_at_call 86; refine hc.mono ?_; rintro e w1 ⟨rfl, hq⟩)
  first | go_end0 | refine bodyPost_ret (results_none rfl _ _ _) rfl ?_
  exact ⟨rfl, hq⟩
set_option maxRecDepth 100000 in
set_option maxHeartbeats 1000000 in
theorem mend_left {j k n c nn ic : Nat} {p ip : Option Addr} (_hi : j + 1 < kn) (hk : kn ≤ 1000) (c0 : w.cell? ⟨b, 0, none⟩ = some (.slice ip nn ic)) (_hnn : nn ≤ 1000) (h0 : w.cell? ⟨kg, j + 1, none⟩ = some (ptr k)) (h1 : w.cell? ⟨k, 0, none⟩ = some (.slice p n c)) (hn : n < 2) {k1 n1 c1' : Nat} {p1 : Option Addr} (h2 : w.cell? ⟨kg, j, none⟩ = some (ptr k1)) (h3 : w.cell? ⟨k1, 0, none⟩ = some (.slice p1 n1 c1')) (hn1 : n1 ≤ 2) (hr : j + 1 < nn) (hkn : j + 1 + 1 < kn) {k2 n2 c2 : Nat} {p2 : Option Addr} (h4 : w.cell? ⟨kg, j + 1 + 1, none⟩ = some (ptr k2)) (h5 : w.cell? ⟨k2, 0, none⟩ = some (.slice p2 n2 c2)) (hn2 : 2 < n2)
    (hc : Calls Tryz.prog 86 #[ptr b, .int .i64 ((j : Int) + 1)] w fun e w' => e = .returned (.tuple #[]) ∧ Q w') :
    Calls Tryz.prog 78 #[ptr b, .int .i64 ((j : Int) + 1)] w fun e w' => e = .returned (.tuple #[]) ∧ Q w' := by
  go_enter Tryz.func78, Tryz.ntmps78
  go_wp2_with (go_at_call 86; refine hc.mono ?_; rintro e w1 ⟨rfl, hq⟩)
  first | go_end0 | refine bodyPost_ret (results_none rfl _ _ _) rfl ?_
  exact ⟨rfl, hq⟩
set_option maxRecDepth 100000 in
set_option maxHeartbeats 1000000 in
theorem mend_joinE {j k n c nn ic : Nat} {p ip : Option Addr} (hi : j + 1 < kn) (hk : kn ≤ 1000) (c0 : w.cell? ⟨b, 0, none⟩ = some (.slice ip nn ic)) (_hnn : nn ≤ 1000) (h0 : w.cell? ⟨kg, j + 1, none⟩ = some (ptr k)) (h1 : w.cell? ⟨k, 0, none⟩ = some (.slice p n c)) (hn : n < 2) {k1 n1 c1' : Nat} {p1 : Option Addr} (h2 : w.cell? ⟨kg, j, none⟩ = some (ptr k1)) (h3 : w.cell? ⟨k1, 0, none⟩ = some (.slice p1 n1 c1')) (hn1 : n1 ≤ 2) (hr : nn ≤ j + 1)
    (hc : Calls Tryz.prog 87 #[ptr b, .int .i64 j] w fun e w' => e = .returned (.tuple #[]) ∧ Q w') :
    Calls Tryz.prog 78 #[ptr b, .int .i64 ((j : Int) + 1)] w fun e w' => e = .returned (.tuple #[]) ∧ Q w' := by
  go_enter Tryz.func78, Tryz.ntmps78
  go_wp2_with (go_at_call 87; refine hc.mono ?_; rintro e w1 ⟨rfl, hq⟩)
  first | go_end0 | refine bodyPost_ret (results_none rfl _ _ _) rfl ?_
  exact ⟨rfl, hq⟩
set_option maxRecDepth 100000 in
set_option maxHeartbeats 1000000 in
theorem mend_joinM {j k n c nn ic : Nat} {p ip : Option Addr} (_hi : j + 1 < kn) (hk : kn ≤ 1000) (c0 : w.cell? ⟨b, 0, none⟩ = some (.slice ip nn ic)) (_hnn : nn ≤ 1000) (h0 : w.cell? ⟨kg, j + 1, none⟩ = some (ptr k)) (h1 : w.cell? ⟨k, 0, none⟩ = some (.slice p n c)) (hn : n < 2) {k1 n1 c1' : Nat} {p1 : Option Addr} (h2 : w.cell? ⟨kg, j, none⟩ = some (ptr k1)) (h3 : w.cell? ⟨k1, 0, none⟩ = some (.slice p1 n1 c1')) (hn1 : n1 ≤ 2) (hr : j + 1 < nn) (hkn : j + 1 + 1 < kn) {k2 n2 c2 : Nat} {p2 : Option Addr} (h4 : w.cell? ⟨kg, j + 1 + 1, none⟩ = some (ptr k2)) (h5 : w.cell? ⟨k2, 0, none⟩ = some (.slice p2 n2 c2)) (hn2 : n2 ≤ 2)
    (hc : Calls Tryz.prog 87 #[ptr b, .int .i64 j] w fun e w' => e = .returned (.tuple #[]) ∧ Q w') :
    Calls Tryz.prog 78 #[ptr b, .int .i64 ((j : Int) + 1)] w fun e w' => e = .returned (.tuple #[]) ∧ Q w' := by
  go_enter Tryz.func78, Tryz.ntmps78
  go_wp2_with (go_at_call 87; refine hc.mono ?_; rintro e w1 ⟨rfl, hq⟩)
  first | go_end0 | refine bodyPost_ret (results_none rfl _ _ _) rfl ?_
  exact ⟨rfl, hq⟩
set_option maxRecDepth 100000 in
set_option maxHeartbeats 1000000 in
theorem mend_join0 {k n c nn ic : Nat} {p ip : Option Addr} (hi : 0 < kn) (hk : kn ≤ 1000) (c0 : w.cell? ⟨b, 0, none⟩ = some (.slice ip nn ic)) (_hnn : nn ≤ 1000) (h0 : w.cell? ⟨kg, 0, none⟩ = some (ptr k)) (h1 : w.cell? ⟨k, 0, none⟩ = some (.slice p n c)) (hn : n < 2) (hr : 0 < nn) (hkn : 1 < kn) {k2 n2 c2 : Nat} {p2 : Option Addr} (h4 : w.cell? ⟨kg, 1, none⟩ = some (ptr k2)) (h5 : w.cell? ⟨k2, 0, none⟩ = some (.slice p2 n2 c2)) (hn2 : n2 ≤ 2)
    (hc : Calls Tryz.prog 87 #[ptr b, .int .i64 0] w fun e w' => e = .returned (.tuple #[]) ∧ Q w') :
    Calls Tryz.prog 78 #[ptr b, .int .i64 0] w fun e w' => e = .returned (.tuple #[]) ∧ Q w' := by
  go_enter Tryz.func78, Tryz.ntmps78
  go_wp2_with (go_at_call 87; refine hc.mono ?_; rintro e w1 ⟨rfl, hq⟩)
  first | go_end0 | refine bodyPost_ret (results_none rfl _ _ _) rfl ?_
  exact ⟨rfl, hq⟩
end
end Go.Proofs.YteeflkkoifgcbabGreat
