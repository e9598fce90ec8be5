/- Put of a write. -/
import Derived.Test.YteeflkkoifgcbaaMC4
import Derived.Test.YteeflkkoifgcbaaE0
namespace Go.Proofs.Yteeflkkoifgcbaa
open Go Go.RowKit

theorem sz0 {k : ByteArray} (h : ¬ 1 ≤ k.size) : k = ByteArray.empty := by
  apply bytes_ext
  have : k.data.size = 0 := by
    have : k.size = 0 := by omega
    exact this
  have e : k.data = #[] := Array.eq_empty_of_size_eq_zero this
  rw [e]; rfl
set_option maxHeartbeats 400000 in
theorem slite_clone0 (w : World) : Calls Try.prog 34 #[.string ByteArray.empty] w fun e w' => e = .returned (.string ByteArray.empty) ∧ Below w.heap.size w w' := by
  have h0 : ByteArray.empty.size = 0 := rfl
  go_enter Try.func34, Try.ntmps34
  go_wp2
  go_ret
  exact ⟨rfl, Below.refl _ _⟩
set_option maxHeartbeats 400000 in
theorem clone_all (s : ByteArray) (h1 : s.size ≤ 1000000) (w : World) : Calls Try.prog 25 #[.string s] w fun e w' => e = .returned (.string s) ∧ Below w.heap.size w w' := by
  by_cases h0 : 1 ≤ s.size
  · exact sclone s w h0 h1
  · have := sz0 h0
    subst this
    have hs := slite_clone0 w
    go_enter Try.func25, Try.ntmps25
    go_wp2_with (go_at_call 34; refine hs.mono ?_; rintro e w1 ⟨rfl, hb⟩)
    go_ret
    exact ⟨rfl, hb⟩
end Go.Proofs.Yteeflkkoifgcbaa
