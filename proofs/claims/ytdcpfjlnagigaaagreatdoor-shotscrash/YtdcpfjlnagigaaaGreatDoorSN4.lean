/- What slices.Contains does. -/
import Derived.Test.YtdcpfjlnagigaaaGreatDoorSF1
import Derived.Deep.LoopGhost
namespace Go.Proofs.YtdcpfjlnagigaaaGreatDoor
open Go Go.RowKit
set_option maxRecDepth 100000 in
set_option maxHeartbeats 1000000 in
theorem index_any (v : Value) (nms : List (List UInt8)) (t : ByteArray) (w : World) (hr : ∃ B, RowO w B 9 1 v nms.length (strs nms)) (hn : nms.length ≤ 1000000) :
    Calls Tryz.prog 65 #[v, .string t] w fun e w' => ∃ i : Int, e = .returned (.int .i64 i) ∧ (0 ≤ i ↔ t.data.toList ∈ nms) ∧ w' = w := by
  obtain ⟨B, hr⟩ := hr
  obtain ⟨ao, cp, rfl, _, hcm⟩ := hr.form
  have HR := Hid.mk' hr
  generalize hm : nms.length = n at *
  have HN := Hid.mk' hm
  clear hr hm
  go_enter Tryz.func65, Tryz.ntmps65
  go_wp2
  go_loopg [8] n (fun kx s8 wr => ∃ (k : Nat), s8 = .int .i64 k ∧ k ≤ n ∧ n - k ≤ kx ∧ Hid (∀ x ∈ nms.take k, x ≠ t.data.toList) ∧ wr = w)
  case atStart => exact ⟨0, rfl, Nat.zero_le _, by omega, Hid.mk' (fun x hx => by simp at hx), rfl⟩
  case round =>
    obtain ⟨k, rfl, hk, hkx, HM, rfl⟩ := hrel
    by_cases hlt : k < n
    · have hkr : k < nms.length := by rw [HN.out]; exact hlt
      obtain ⟨g, off, hgo⟩ : ∃ g off, ao = some ⟨g, off, none⟩ := by
        rcases HR.out.2 with ⟨h', h0⟩ | ⟨g, off, cap, cur, h', _⟩
        · omega
        · simp only [Value.slice.injEq, true_and] at h'
          exact ⟨g, off, h'.1⟩
      subst hgo
      have hcell : wr.cell? ⟨g, off + k, none⟩ = some (.string ⟨nms[k].toArray⟩) := HR.out.cell k _ (by simp [strs, hkr])
      have HMEM := Hid.mk' (List.getElem_mem hkr)
      have HTK : Hid (nms.take (k + 1) = nms.take k ++ [nms[k]]) := by show _ = _; rw [List.take_succ_eq_append_getElem hkr]
      generalize nms[k] = x at *
      by_cases hx : x = t.data.toList
      · have he : (t.toList == (⟨x.toArray⟩ : ByteArray).toList) = true := by rw [ByteArray.toList_eq, ByteArray.toList_eq, hx]; simp
        have he2 : (t.toList == x) = true := by rw [ByteArray.toList_eq, hx]; simp
        clear hkr
        go_wp2
        go_ret
        exact ⟨k, rfl, ⟨fun _ => by rw [← hx]; exact HMEM.out, fun _ => by omega⟩, rfl⟩
      · have he : (t.toList == (⟨x.toArray⟩ : ByteArray).toList) = false := by rw [ByteArray.toList_eq, ByteArray.toList_eq, beq_eq_false_iff_ne]; exact fun h => hx (by simpa using h.symm)
        have he2 : (t.toList == x) = false := by rw [ByteArray.toList_eq, beq_eq_false_iff_ne]; exact fun h => hx h.symm
        have HX := Hid.mk' hx
        clear hkr hx
        go_wp2
        go_roundg (n - (k + 1))
        case measure => omega
        case rel => exact ⟨k + 1, rfl, by omega, by omega, Hid.mk' (fun y hy => by rw [HTK.out] at hy; rcases List.mem_append.1 hy with hy | hy; exact HM.out y hy; rw [List.mem_singleton.1 hy]; exact HX.out), rfl⟩
    · obtain rfl : k = n := by omega
      go_wp2
      go_ret
      refine ⟨-1, rfl, ⟨fun h => by omega, fun h => ?_⟩, rfl⟩
      exact absurd rfl (HM.out _ (by rw [List.take_of_length_le (by rw [HN.out]; exact Nat.le_refl _)]; exact h))
set_option maxRecDepth 100000 in
set_option maxHeartbeats 1000000 in
theorem contains_any (v : Value) (nms : List (List UInt8)) (t : ByteArray) (w : World) (hr : ∃ B, RowO w B 9 1 v nms.length (strs nms)) (hn : nms.length ≤ 1000000) :
    Calls Tryz.prog 31 #[v, .string t] w fun e w' => e = .returned (.bool (decide (t.data.toList ∈ nms))) ∧ w' = w := by
  have hi := index_any v nms t w hr hn
  obtain ⟨B, hr⟩ := hr
  obtain ⟨ao, cp, rfl, _, hcm⟩ := hr.form
  clear hr
  by_cases h : t.data.toList ∈ nms
  · rw [decide_eq_true h]
    go_enter Tryz.func31, Tryz.ntmps31
    go_wp2_with (go_at_call 65; refine hi.mono ?_; rintro e w1 ⟨i, rfl, hiff, rfl⟩; have hg : decide (0 ≤ i) = true := decide_eq_true (hiff.2 h))
    go_ret
    exact ⟨rfl, rfl⟩
  · rw [decide_eq_false h]
    go_enter Tryz.func31, Tryz.ntmps31
    go_wp2_with (go_at_call 65; refine hi.mono ?_; rintro e w1 ⟨i, rfl, hiff, rfl⟩; have hg : decide (0 ≤ i) = false := decide_eq_false (fun hh => h (hiff.1 hh)))
    go_ret
    exact ⟨rfl, rfl⟩
end Go.Proofs.YtdcpfjlnagigaaaGreatDoor
