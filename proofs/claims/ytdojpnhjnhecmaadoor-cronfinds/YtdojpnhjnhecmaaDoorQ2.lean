/- The document's expressions: the first minute of a day, from one on; the last one, up to one. -/
import Derived.Test.YtdojpnhjnhecmaaDoorQ1
namespace Go.Proofs.YtdojpnhjnhecmaaDoor
open Go Go.RowKit
set_option maxRecDepth 100000 in
set_option maxHeartbeats 1000000 in
theorem inDay_any (e : Exp) (he : e.Ok) (f : Int) (f0 : 0 ≤ f) (f1 : f ≤ 1440) (w : World) :
    Calls Tryd.prog 40 #[expV e, .int .i64 f] w fun r w' => (∃ v, r = .returned (.int .i64 v) ∧ DayF e f v) ∧ Below w.heap.size w w' := by
  have HE := Hid.mk'' he
  have HS := Hid.mk'' (RW.start (x := e) (w := w))
  clear he
  unfold expV
  obtain ⟨V, hV⟩ : ∃ V, V = w.alloc (.cells #[.int .u64 e.mi, .int .u64 e.ho, .int .u64 e.da, .int .u64 e.mo, .int .u64 e.wk, .bool e.ad, .bool e.aw] 31) := ⟨_, rfl⟩
  rw [← hV] at HS
  go_enter Tryd.func40, Tryd.ntmps40
  go_upto_region 1 with (fail)
  rw [← hV]
  clear hV
  generalize w.heap.size = E at HS ⊢
  go_wp2_with fail
  go_loopw [5] (fun i W => ∃ k : Int, i = .int .i64 k ∧ f ≤ k ∧ k ≤ 1440 ∧ Hid (∀ j, f ≤ j → j < k → okT e j = false) ∧ Hid (RW e E w W)) (fun i _ => (1440 - intOf i).toNat)
  case atStart => exact ⟨f, rfl, Int.le_refl _, f1, Hid.mk'' (fun j a b => by omega), HS⟩
  case round =>
    obtain ⟨k, rfl, hk1, hk2, HN, HW⟩ := hrel
    clear HS
    by_cases hk : k < 1440
    · have a1 := fun W => has1 e HE.out (k / 60) (by omega) (by omega) W
      have a0 := fun W => has0 e HE.out (k % 60) (by omega) (by omega) W
      have HT : Hid (okT e k = (e.ho.testBit (k / 60).toNat && e.mi.testBit (k % 60).toNat)) := rfl
      unfold expV at a0 a1
      generalize e.ho.testBit (k / 60).toNat = b1 at *
      generalize e.mi.testBit (k % 60).toNat = b0 at *
      obtain ⟨k0, k1, k2, k3, k4, k5, k6⟩ := HW.out.cells
      go_wp2_with fail
      refine (a1 _).mono ?_
      rintro e' w2 ⟨rfl, hb2⟩
      have HW2 := Hid.mk'' (HW.out.below hb2)
      clear a1 hb2 HW k0 k1 k2 k3 k4 k5 k6
      cases b1 with
      | false =>
        go_wp2_with fail
        go_roundw
        case rel => exact ⟨k + 1, rfl, by omega, by omega, Hid.mk'' (fun j a b => by rcases Int.lt_or_le j k with h | h; exact HN.out j a h; rw [show j = k by omega, HT.out]; rfl), HW2⟩
        case measure => simp [intOf]; omega
      | true =>
        obtain ⟨k0, k1, k2, k3, k4, k5, k6⟩ := HW2.out.cells
        go_wp2_with fail
        refine (a0 _).mono ?_
        rintro e' w3 ⟨rfl, hb3⟩
        have HW3 := Hid.mk'' (HW2.out.below hb3)
        clear a0 hb3 HW2 k0 k1 k2 k3 k4 k5 k6
        cases b0 with
        | false =>
          go_wp2_with fail
          go_roundw
          case rel => exact ⟨k + 1, rfl, by omega, by omega, Hid.mk'' (fun j a b => by rcases Int.lt_or_le j k with h | h; exact HN.out j a h; rw [show j = k by omega, HT.out]; rfl), HW3⟩
          case measure => simp [intOf]; omega
        | true =>
          go_wp2_with fail
          go_ret
          exact ⟨⟨k, rfl, .inl ⟨hk1, hk, by rw [HT.out]; rfl, HN.out⟩⟩, HW3.out.bel⟩
    · go_wp2_with fail
      go_ret
      exact ⟨⟨-1, rfl, .inr ⟨rfl, fun j a b => HN.out j a (by omega)⟩⟩, HW.out.bel⟩
set_option maxRecDepth 100000 in
set_option maxHeartbeats 1000000 in
theorem inDayBack_any (e : Exp) (he : e.Ok) (f : Int) (f0 : 0 ≤ f) (f1 : f < 1440) (w : World) :
    Calls Tryd.prog 43 #[expV e, .int .i64 f] w fun r w' => (∃ v, r = .returned (.int .i64 v) ∧ DayB e f v) ∧ Below w.heap.size w w' := by
  have HE := Hid.mk'' he
  have HS := Hid.mk'' (RW.start (x := e) (w := w))
  clear he
  unfold expV
  obtain ⟨V, hV⟩ : ∃ V, V = w.alloc (.cells #[.int .u64 e.mi, .int .u64 e.ho, .int .u64 e.da, .int .u64 e.mo, .int .u64 e.wk, .bool e.ad, .bool e.aw] 31) := ⟨_, rfl⟩
  rw [← hV] at HS
  go_enter Tryd.func43, Tryd.ntmps43
  go_upto_region 1 with (fail)
  rw [← hV]
  clear hV
  generalize w.heap.size = E at HS ⊢
  go_wp2_with fail
  go_loopw [5] (fun i W => ∃ k : Int, i = .int .i64 k ∧ -1 ≤ k ∧ k ≤ f ∧ Hid (∀ j, k < j → j ≤ f → okT e j = false) ∧ Hid (RW e E w W)) (fun i _ => (intOf i + 1).toNat)
  case atStart => exact ⟨f, rfl, by omega, Int.le_refl _, Hid.mk'' (fun j a b => by omega), HS⟩
  case round =>
    obtain ⟨k, rfl, hk1, hk2, HN, HW⟩ := hrel
    clear HS
    by_cases hk : 0 ≤ k
    · have a1 := fun W => has1 e HE.out (k / 60) (by omega) (by omega) W
      have a0 := fun W => has0 e HE.out (k % 60) (by omega) (by omega) W
      have HT : Hid (okT e k = (e.ho.testBit (k / 60).toNat && e.mi.testBit (k % 60).toNat)) := rfl
      unfold expV at a0 a1
      generalize e.ho.testBit (k / 60).toNat = b1 at *
      generalize e.mi.testBit (k % 60).toNat = b0 at *
      obtain ⟨k0, k1, k2, k3, k4, k5, k6⟩ := HW.out.cells
      go_wp2_with fail
      refine (a1 _).mono ?_
      rintro e' w2 ⟨rfl, hb2⟩
      have HW2 := Hid.mk'' (HW.out.below hb2)
      clear a1 hb2 HW k0 k1 k2 k3 k4 k5 k6
      cases b1 with
      | false =>
        go_wp2_with fail
        go_roundw
        case rel => exact ⟨k - 1, rfl, by omega, by omega, Hid.mk'' (fun j a b => by rcases Int.lt_or_le k j with h | h; exact HN.out j h b; rw [show j = k by omega, HT.out]; rfl), HW2⟩
        case measure => simp [intOf]; omega
      | true =>
        obtain ⟨k0, k1, k2, k3, k4, k5, k6⟩ := HW2.out.cells
        go_wp2_with fail
        refine (a0 _).mono ?_
        rintro e' w3 ⟨rfl, hb3⟩
        have HW3 := Hid.mk'' (HW2.out.below hb3)
        clear a0 hb3 HW2 k0 k1 k2 k3 k4 k5 k6
        cases b0 with
        | false =>
          go_wp2_with fail
          go_roundw
          case rel => exact ⟨k - 1, rfl, by omega, by omega, Hid.mk'' (fun j a b => by rcases Int.lt_or_le k j with h | h; exact HN.out j h b; rw [show j = k by omega, HT.out]; rfl), HW3⟩
          case measure => simp [intOf]; omega
        | true =>
          go_wp2_with fail
          go_ret
          exact ⟨⟨k, rfl, .inl ⟨hk, hk2, by rw [HT.out]; rfl, HN.out⟩⟩, HW3.out.bel⟩
    · go_wp2_with fail
      go_ret
      exact ⟨⟨-1, rfl, .inr ⟨rfl, fun j a b => HN.out j (by omega) b⟩⟩, HW.out.bel⟩
end Go.Proofs.YtdojpnhjnhecmaaDoor
