/- The chapter's example of a store. -/
import Derived.Test.YteeflkkoifgcbaaMV1
namespace Go.Proofs.Yteeflkkoifgcbaa
open Go Go.RowKit

theorem V1.lt {w0 w : World} {s : Nat} {k : ByteArray} {rv : Nat} {h : Hs} (H : V1 w0 w s k rv h) : s < w.heap.size := by
  obtain ⟨n, g, o, S, h1, h2, h3, h4, h5⟩ := H
  exact h2.lt (.inl rfl)
def aK : ByteArray := ⟨#[97]⟩
def xV : ByteArray := ⟨#[120]⟩
def hsA : Nat → Hs
  | 0 => []
  | i + 1 => hsA i ++ [((i : Int) + 1, some (putKV aK xV i (hsA i) 0))]
set_option maxRecDepth 100000 in
set_option maxHeartbeats 2000000 in
theorem known_st (w : World) : Calls Try.prog 6 #[] w fun e w' => e = .returned (.bool true) ∧ Below w.heap.size w w' := by
  have hnew := v1_new w w (Below.refl _ _) aK
  go_enter Try.func6, Try.ntmps6
  go_upto_region 5 with (go_at_call 7; refine hnew.mono ?_; rintro e w1 ⟨s, rfl, HV⟩)
  clear hnew
  go_wp2
  go_loopg [2] 3 (fun kx s2 wr => ∃ i : Nat, s2 = .int .i64 i ∧ kx + i = 3 ∧ i ≤ 2 ∧ Hid (V1 w wr s aK i (hsA i)))
  case atStart => exact ⟨0, rfl, rfl, by omega, HV⟩
  case round =>
    clear HV
    obtain ⟨i, rfl, hk, hi, HM⟩ := hrel
    by_cases hlt : i < 2
    · have hw := HM.out.write
      have HP : Hid (∀ W b, V1o w W s b aK i (hsA i) none → Calls Try.prog 10 #[ptr b, .string ⟨#[97]⟩, .string ⟨#[120]⟩, .int .i64 0] W fun e w' => e = .returned (.int .i64 0) ∧ Hid (V1o w w' s b aK i (hsA i) (some (some (putKV aK xV i (hsA i) 0))))) := fun W b q => q.put (by omega) xV 0 (by decide) (by decide) (by omega)
      have HD : Hid (∀ W b c, V1o w W s b aK i (hsA i) (some c) → Calls Try.prog 12 #[ptr b] W fun e w' => e = .returned (.int .i64 ((i + 1 : Nat) : Int)) ∧ Hid (V1 w w' s aK (i + 1) (hsA i ++ [((i : Int) + 1, c)]))) := fun W b c q => V1o.done (by omega) q
      clear HM
      go_wp2_with (first | (go_at_call 9; refine hw.mono ?_; rintro e w2 ⟨b, rfl, HO, -⟩; have hp := HP.out _ _ HO.out) | (go_at_call 10; refine hp.mono ?_; rintro e w3 ⟨rfl, HO3⟩; have hd := HD.out _ _ _ HO3.out) | (go_at_call 12; refine hd.mono ?_; rintro e w4 ⟨rfl, HV4⟩))
      go_roundg (2 - i)
      case measure => omega
      case rel => exact ⟨i + 1, by congr 1, by omega, by omega, HV4⟩
    · obtain rfl : i = 2 := by omega
      have e1 : atH (hsA 2) 1 = some (putKV aK xV 0 [] 0) := by
        show atH (hsA 1 ++ [((1 : Int) + 1, _)]) 1 = _
        rw [atH_snoc_lt (by decide)]
        show atH ([] ++ [((0 : Int) + 1, _)]) 1 = _
        rw [atH_snoc_le (by decide)]
        rfl
      have e2 : (thereH (hsA 2)).isSome = true := by
        show (thereH (hsA 1 ++ [_])).isSome = true
        rw [thereH_snoc]; rfl
      have hr := HM.out.range (by omega) 1 (by omega) (by decide)
      simp only [Nat.one_ne_zero, if_false, Int.natCast_one] at hr
      rw [e1] at hr
      dsimp only [Option.toList_some, List.length_cons, List.length_nil] at hr
      have HW : Hid (∀ W, V1 w W s aK 2 (hsA 2) → Calls Try.prog 9 #[ptr s] W fun e w' => ∃ b, e = .returned (ptr b) ∧ Hid (V1o w w' s b aK 2 (hsA 2) none) ∧ Hid (Upd W w' (fun j => j = s) ∧ s < W.heap.size)) := fun W q => q.write
      have HDL : Hid (∀ W b, V1o w W s b aK 2 (hsA 2) none → Calls Try.prog 11 #[ptr b, .string ⟨#[97]⟩, .string ⟨#[]⟩] W fun e w' => e = .returned (.int .i64 1) ∧ Hid (V1o w w' s b aK 2 (hsA 2) (some none))) := fun W b q => by
        have := q.del (by omega) (by decide)
        rw [e2] at this
        exact this
      have HDN : Hid (∀ W b, V1o w W s b aK 2 (hsA 2) (some none) → Calls Try.prog 12 #[ptr b] W fun e w' => e = .returned (.int .i64 3) ∧ Hid (Below w.heap.size w w')) := fun W b q => by
        refine (V1o.done (by omega) q).mono ?_
        rintro e w' ⟨rfl, hv⟩
        exact ⟨rfl, hv.out.below⟩
      have HRV : Hid (∀ W b, V1o w W s b aK 2 (hsA 2) none → Calls Try.prog 13 #[ptr s] W fun e w' => e = .returned (.int .i64 2) ∧ w' = W) := fun W b q => by
        obtain ⟨n, g, S, W', hw, h1, h2, h3, -⟩ := q
        have := rev_st h2.st
        rw [h3.rev] at this
        exact this
      have hve : (putKV aK xV 0 [] 0).version = 1 := rfl
      have hsl := HM.out.lt
      clear e1 e2 HM
      go_upto_region 11 with (go_at_call 15; refine hr.mono ?_; rintro e w2 ⟨p, c, rfl, HR, HV2⟩)
      obtain ⟨g, cg, hv, hB, hgl, -, -, -, -, k4, -⟩ := kv_cells HR.out
      have hpp : p = some ⟨g, 0, none⟩ := by cases hv; rfl
      subst hpp
      rw [hve] at k4
      have hw := HW.out _ HV2.out
      go_upto_region 12 with (go_at_call 9; refine hw.mono ?_; rintro e w3 ⟨b, rfl, HO, HU⟩)
      have hgs : g ≠ s := by omega
      have k4' := (HU.out.1.cell (p := ⟨g, 4, none⟩) hgl hgs).trans k4
      have hrev := HRV.out _ _ HO.out
      have hdl := HDL.out _ _ HO.out
      clear HR HV2 hw HW HRV HU k4
      go_wp2_with (first | (go_at_call 13; refine hrev.mono ?_; rintro e w' ⟨rfl, hw'⟩; obtain rfl := hw'.symm) | (go_at_call 11; refine hdl.mono ?_; rintro e w4 ⟨rfl, HO4⟩; have hdn := HDN.out _ _ HO4.out) | (go_at_call 12; refine hdn.mono ?_; rintro e w5 ⟨rfl, HB5⟩))
      go_ret
      exact ⟨rfl, HB5.out⟩
end Go.Proofs.Yteeflkkoifgcbaa
