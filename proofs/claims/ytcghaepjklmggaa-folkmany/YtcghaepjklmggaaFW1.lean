/- As many clients as may be have calls; one more is refused, those that have are not. -/
import Derived.Test.YtcghaepjklmggaaFK
namespace Go.Proofs.Ytcghaepjklmggaa
open Go Go.RowKit
/-- The rows behind the calls of clients 1 to i. -/
structure ML (i : Nat) (A : List Ro) : Prop where
  len : A.length = min i 64
  mem : ∀ r ∈ A, 1 ≤ r.id ∧ r.id ≤ i ∧ r.sq = 1
  all : ∀ j : Nat, 1 ≤ j → j ≤ i → j ≤ 64 → ∃ r ∈ A, r.id = j
theorem ML.none {i : Nat} {A : List Ro} (h : ML i A) {c : Int} (hc : (i : Int) < c) : lookL c A = Option.none := by
  unfold lookL
  rw [List.find?_eq_none]
  intro r hr
  have := h.mem r hr
  simp
  omega
theorem ML.ask {i : Nat} {A : List Ro} (h : ML i A) : askA A ((i : Int) + 1) 1 = if i < 64 then (rp0, [], true) else (rpE 4, [], false) := by
  unfold askA
  rw [if_neg (by omega), if_neg (by omega), h.none (by omega)]
  dsimp only
  have := h.len
  by_cases h4 : i < 64
  · rw [if_neg (by omega), if_pos h4]
  · rw [if_pos (by omega), if_neg h4]
theorem ML.note {i : Nat} {A : List Ro} (h : ML i A) (hi : i < 64) : ML (i + 1) (noteA A ((i : Int) + 1) 1 rp0 []) := by
  have e : noteA A ((i : Int) + 1) 1 rp0 [] = insL ⟨(i : Int) + 1, 1, rp0, []⟩ A := by
    unfold noteA
    rw [h.ask, if_pos hi, if_pos ⟨rfl, by omega⟩, del_none (h.none (by omega))]
  rw [e]
  refine ⟨by rw [length_ins, h.len]; omega, fun r hr => ?_, fun j h1 h2 h3 => ?_⟩
  · rcases mem_ins.1 hr with rfl | hr
    · exact ⟨by show (1 : Int) ≤ (i : Int) + 1; omega, by show (i : Int) + 1 ≤ _; omega, rfl⟩
    · have := h.mem r hr; omega
  · by_cases hj : j = i + 1
    · exact ⟨_, mem_ins.2 (.inl rfl), by subst hj; show (i : Int) + 1 = _; omega⟩
    · obtain ⟨r, hr, e⟩ := h.all j h1 (by omega) h3
      exact ⟨r, mem_ins.2 (.inr hr), e⟩
theorem ML.more {i : Nat} {A : List Ro} (h : ML i A) (hi : 64 ≤ i) : ML (i + 1) A := ⟨by rw [h.len]; omega, fun r hr => by have := h.mem r hr; omega, fun j h1 h2 h3 => h.all j h1 (by omega) h3⟩
theorem ML.seven {i : Nat} {A : List Ro} (h : ML i A) (hu : upL A) (hi : 7 ≤ i) : askA A 7 2 = (rp0, [], true) := by
  obtain ⟨r, hr, e⟩ := h.all 7 (by omega) hi (by omega)
  have hl := look_mem hu hr
  rw [e] at hl
  have hm := h.mem r hr
  have hl' : lookL 7 A = some r := hl
  unfold askA
  rw [if_neg (by omega), if_neg (by omega), hl']
  dsimp only
  rw [if_neg (by omega), if_neg (by omega)]
set_option maxRecDepth 20000 in
set_option maxHeartbeats 1000000 in
theorem folkMany_walk (x : Int) (w : World) (_hx : -9223372036854775808 ≤ x ∧ x ≤ 9223372036854775807) :
    Calls Try.prog 4 #[.int .i64 x] w fun e w' => e = .returned (.bool true) ∧ Below w.heap.size w w' := by
  have hk := known_any w
  by_cases h0 : x < 0
  · go_enter Try.func4, Try.ntmps4
    go_wp2_with (go_at_call 6; refine hk.mono ?_; rintro e w1 ⟨rfl, bel1⟩)
    go_ret
    exact ⟨rfl, bel1⟩
  by_cases h8 : 8 < x
  · go_enter Try.func4, Try.ntmps4
    go_wp2_with (go_at_call 6; refine hk.mono ?_; rintro e w1 ⟨rfl, bel1⟩)
    go_ret
    exact ⟨rfl, bel1⟩
  obtain ⟨n, rfl⟩ : ∃ n : Nat, x = n := ⟨x.toNat, by omega⟩
  have hn8 : n ≤ 8 := by omega
  go_enter Try.func4, Try.ntmps4
  go_wp2_with (first
    | (go_at_call 6; refine hk.mono ?_; rintro e w1 ⟨rfl, bel1⟩; have hn := new_tl w w1 bel1; clear hk)
    | (go_at_call 7; refine hn.mono ?_; rintro e w2 ⟨d, b, rfl, h2⟩; have H2 := Hid.mk'' h2; clear hn bel1 h2))
  go_loopg [4] (61 + n) (fun kx s4 wq => ∃ (i : Nat) (A : List Ro), s4 = .int .i64 ((i : Int) + 1) ∧ kx + i = 61 + n ∧ i ≤ 60 + n ∧ Hid (TL w wq d b A) ∧ Hid (ML i A))
  case atStart => exact ⟨0, [], rfl, by omega, by omega, H2.out, ⟨rfl, by simp, fun j h1 h2 => by omega⟩⟩
  case round =>
    obtain ⟨i, A, rfl, hkx, hi, HM, HL⟩ := hrel
    clear H2
    by_cases hlt : i < 60 + n
    · have hask := HL.out.ask
      by_cases h4 : i < 64
      · rw [if_pos h4] at hask
        have ha := ask_tl HM.out _ _ (by unfold isI; omega) hask
        have HL2 := Hid.mk'' (HL.out.note h4)
        have HNT : Hid (∀ w5, TL w w5 d b A → Calls Try.prog 11 #[ptr d, .int .i64 ((i : Int) + 1), .int .i64 1, repV rp0 (.slice none 0 0)] w5 fun e w' => e = .returned (.tuple #[]) ∧ TL w w' d b (noteA A ((i : Int) + 1) 1 rp0 [])) := fun w5 h5 => note_tl h5 _ _ (by unfold isI; omega) rp0 rfl
        have h4' : (i : Int) + 1 ≤ 64 := by omega
        clear hask
        go_wp2_with (first
          | (go_at_call 8; refine ha.mono ?_; rintro e w4 ⟨p4, c4, rfl, h5, _⟩
             have hnt := HNT.out _ (h5.below ((Below.refl _ w4).alloc (Nat.le_refl _) (.cells #[.int .i64 0, .int .i64 0, .bool false, .slice p4 0 c4, .int .i64 0] 33)))
             clear ha h5)
          | (go_at_call 11; refine hnt.mono ?_; rintro e w6 ⟨rfl, h6⟩; clear hnt))
        go_roundg (60 + n - i)
        case measure => omega
        case rel => exact ⟨i + 1, _, by push_cast; rfl, by omega, by omega, h6, HL2.out⟩
      · rw [if_neg h4] at hask
        have ha := ask_tl HM.out _ _ (by unfold isI; omega) hask
        have HL2 := Hid.mk'' (HL.out.more (by omega))
        have h4' : ¬ (i : Int) + 1 ≤ 64 := by omega
        clear hask
        go_wp2_with (go_at_call 8; refine ha.mono ?_; rintro e w4 ⟨p4, c4, rfl, h5, _⟩; clear ha)
        go_roundg (60 + n - i)
        case measure => omega
        case rel => exact ⟨i + 1, A, by push_cast; rfl, by omega, by omega, h5.below ((Below.refl _ _).alloc (Nat.le_refl _) _), HL2.out⟩
    · obtain rfl : i = 60 + n := by omega
      obtain ⟨f, hf⟩ := HM.out.tb
      have ha := ask_tl HM.out 7 2 (by decide) (HL.out.seven hf.up (by omega))
      have HAB : Hid (∀ w5, TL w w5 d b A → Calls Try.prog 8 #[ptr d, .int .i64 0, .int .i64 0] w5 fun e w' => ∃ p cc, e = .returned (.tuple #[repV rp0 (.slice p 0 cc), .bool true]) ∧ TL w w' d b A ∧ Below w5.heap.size w5 w') := fun w5 h5 => ask_tl (rs := []) h5 0 0 (by decide) (by simp [askA])
      have HAL : Hid (∀ w5, TL w w5 d b A → Calls Try.prog 13 #[ptr d] w5 fun e w' => ∃ p c, e = .returned (.slice p A.length c) ∧ TL w w' d b A) := fun w5 h5 => (all_tl h5).mono (by rintro e w' ⟨p, c, g, rfl, _, h6⟩; exact ⟨p, c, rfl, h6⟩)
      have hlen : (A.length : Int) = min (60 + (n : Int)) 64 := by rw [HL.out.len]; omega
      have hmin : decide ((A.length : Int) = min (60 + (n : Int)) 64) = true := by simp only [decide_eq_true_eq]; exact hlen
      clear hf hlen
      go_wp2_with (first
        | (go_at_call 8; with_reducible refine ha.mono ?_; rintro e w4 ⟨p4, c4, rfl, h5, _⟩
           have hab := HAB.out _ (h5.below ((Below.refl _ w4).alloc (Nat.le_refl _) (.cells #[.int .i64 0, .int .i64 0, .bool false, .slice p4 0 c4, .int .i64 0] 33)))
           clear ha h5)
        | (go_at_call 8; with_reducible refine hab.mono ?_; rintro e w6 ⟨p6, c6, rfl, h6, _⟩
           have hal := HAL.out _ (h6.below ((Below.refl _ w6).alloc (Nat.le_refl _) (.cells #[.int .i64 0, .int .i64 0, .bool false, .slice p6 0 c6, .int .i64 0] 33)))
           clear hab h6)
        | (go_at_call 13; refine hal.mono ?_; rintro e w7 ⟨p7, c7, rfl, h7⟩; clear hal))
      go_ret
      refine ⟨?_, h7.bel⟩
      have hb : ((A.length : Int) == min (60 + (n : Int)) 64) = true := by rw [beq_iff_eq]; exact of_decide_eq_true hmin
      show Ending.returned (Value.bool ((A.length : Int) == min (60 + (n : Int)) 64)) = _
      rw [hb]
end Go.Proofs.Ytcghaepjklmggaa
