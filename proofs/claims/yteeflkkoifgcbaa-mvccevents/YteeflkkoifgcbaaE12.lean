/- New, Len, Marks. -/
import Derived.Test.YteeflkkoifgcbaaE11
namespace Go.Proofs.Yteeflkkoifgcbaa
open Go Go.RowKit

theorem new_any (w : World) : Calls Try.prog 20 #[] w fun e w' => e = .returned (ptr w.heap.size) ∧ Ix w' w.heap.size [] [w.heap.size] ∧ Below w.heap.size w w' ∧ w'.heap.size = w.heap.size + 1 := by
  have HI : Hid (Ix (w.alloc (.cells #[.pointer none, .int .i64 0] 92)) w.heap.size [] [w.heap.size]) := ⟨⟨none, [], row_alloc w _ _, .inl ⟨rfl, rfl, rfl⟩, by simp⟩, trivial, by simp, by simp⟩
  go_enter Try.func20, Try.ntmps20
  go_wp2
  go_ret
  exact ⟨rfl, HI.out, (Below.refl _ _).alloc (Nat.le_refl _) _, by simp⟩
/-- What Marks answers: a row of its own. -/
def MarksPost (w w' : World) (v : Value) (ms : List Mk) : Prop := (∃ p c, v = .slice p ms.length c ∧ (∀ g, v.ownBlock = some g → w.heap.size ≤ g)) ∧ Mks w' v ms ∧ Below w.heap.size w w'
set_option maxHeartbeats 1000000 in
theorem marks_no {w : World} {x : Nat} {R : List IM} {F : List Nat} (H : Ix w x R F) (key : ByteArray) (hk : key ∉ keysR R) : Calls Try.prog 41 #[ptr x, .string key] w fun e w' => e = .returned (.slice none 0 0) ∧ Below w.heap.size w w' := by
  obtain ⟨rp, Ft, hx, _, _⟩ := H.ex
  have c0 := hx.c0
  have hf := find_no H hk c0
  clear H hx
  go_enter Try.func41, Try.ntmps41
  go_wp2_with (go_at_call 46; refine hf.mono ?_; rintro e w1 ⟨rfl, hb1⟩)
  go_ret
  exact ⟨rfl, hb1⟩
set_option maxHeartbeats 1000000 in
theorem marks_yes {w : World} {x : Nat} {R : List IM} {F : List Nat} (H : Ix w x R F) (key : ByteArray) (ms : List Mk) (hk : lookD (dat R) key = some ms) (hml : ms.length ≤ 1000000) : Calls Try.prog 41 #[ptr x, .string key] w fun e w' => ∃ v, e = .returned v ∧ MarksPost w w' v ms := by
  obtain ⟨rp, Ft, hx, _, _⟩ := H.ex
  have c0 := hx.c0
  have hf := find_yes H hk c0
  have HF : Hid (∀ w1 mg c, Below w.heap.size w w1 → Mks w (.slice (some ⟨mg, 0, none⟩) ms.length c) ms → 0 < ms.length → Calls Try.prog 49 #[.slice (some ⟨mg, 0, none⟩) ms.length c] w1 fun e w' => e = .returned (.slice (some ⟨w1.heap.size, 0, none⟩) ms.length ms.length) ∧ MarksPost w w' (.slice (some ⟨w1.heap.size, 0, none⟩) ms.length ms.length) ms) := fun w1 mg c hb hM hp => by
    have hM1 : Mks w1 (.slice (some ⟨mg, 0, none⟩) ms.length c) ms := ownsRow_upd hM (Upd.ofBelow (S := fun _ => False) hb) (fun _ _ h => h)
    refine (freshM mg 0 ms.length c (mksC ms) w1 hml hp (mksC_len ms) (fun j v hj => ?_) (mksC_mem ms)).mono ?_
    · have := hM1.cells (g := mg) rfl _ _ hj
      simpa only [Addr.add_lit] using this
    · rintro e w' ⟨rfl, hr, hz, hb'⟩
      refine ⟨rfl, ⟨_, _, rfl, fun g hg => ?_⟩, owns_of_row hr (Nat.le_refl _) (by unfold maxLen; omega) (by simp [mksC_len]) (List.take_of_length_le (by simp [mksC_len])) (mksC_len ms), hb.trans (hb'.mono hb.size)⟩
      simp [Value.ownBlock] at hg
      rw [← hg]; exact hb.size
  clear H hx
  go_enter Try.func41, Try.ntmps41
  go_wp2_with (first | (go_at_call 46; refine hf.mono ?_; rintro e w1 ⟨g, i, mg, c, X, Z, rfl, hb1, hA, hM, hp, hc1⟩) | (go_at_call 49; refine (HF.out _ _ _ hb1 hM.out hp).mono ?_; rintro e w2 ⟨rfl, hP⟩))
  go_ret
  exact ⟨_, rfl, hP⟩
end Go.Proofs.Yteeflkkoifgcbaa
