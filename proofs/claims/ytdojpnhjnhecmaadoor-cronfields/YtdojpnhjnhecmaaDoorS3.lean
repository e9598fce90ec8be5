/- The search for a minute that matches. -/
import Derived.Test.YtdojpnhjnhecmaaDoorS2
import Derived.Test.YtdojpnhjnhecmaaDoorN3
namespace Go.Proofs.YtdojpnhjnhecmaaDoor
open Go Go.RowKit
theorem ret_two {a b a' b' : Int} (h1 : a = a') (h2 : b = b') : Ending.returned (.tuple #[.int .i64 a, .int .i64 b]) = .returned (.tuple #[.int .i64 a', .int .i64 b']) := by rw [h1, h2]
def SeekF (e : Exp) (a b v c : Int) : Prop := (c = 0 ∧ a ≤ v ∧ v ≤ b ∧ Mt e v ∧ ∀ k, a ≤ k → k < v → ¬ Mt e k) ∨ (c = 28 ∧ v = 0 ∧ ∀ k, a ≤ k → k ≤ b → ¬ Mt e k)
def SeekB (e : Exp) (a b v c : Int) : Prop := (c = 0 ∧ a ≤ v ∧ v ≤ b ∧ Mt e v ∧ ∀ k, v < k → k ≤ b → ¬ Mt e k) ∨ (c = 28 ∧ v = 0 ∧ ∀ k, a ≤ k → k ≤ b → ¬ Mt e k)
set_option maxHeartbeats 1000000 in
theorem seek_on (e : Exp) (he : e.Ok) (a b : Int) (w : World) (hT : HasT w) (ha : -1035593280 ≤ a) (hb : b ≤ 5000000000) :
    Calls Tryd.prog 61 #[.int .i64 a, .int .i64 a, .int .i64 b, .func (.func 37) #[expV e] #[]] w fun r w' => (∃ v c, r = .returned (.tuple #[.int .i64 v, .int .i64 c]) ∧ SeekF e a b v c) ∧ Below w.heap.size w w' := by
  have HT : Hid (∀ w3, Below w.heap.size w w3 → HasT w3) := fun w3 h => hT.below h
  have HE := Hid.mk'' he
  clear he hT
  go_enter Tryd.func61, Tryd.ntmps61
  go_wp2
  go_loopw [10] (fun m w' => ∃ k : Int, m = .int .i64 k ∧ a ≤ k ∧ k ≤ max a b + 50000 ∧ Hid (∀ j, a ≤ j → j < k → ¬ Mt e j) ∧ Hid (Below w.heap.size w w')) (fun m _ => (b + 1 - intOf m).toNat)
  case atStart => exact ⟨a, rfl, Int.le_refl _, by omega, Hid.mk'' (fun j h1 h2 => by omega), Hid.mk'' (Below.refl _ _)⟩
  case round =>
    obtain ⟨k, rfl, hk1, hk2, HN, HB⟩ := hrel
    by_cases hkb : k ≤ b
    · by_cases hkl : k ≤ 4223371679
      · have hof := of_yes k wr (HT.out wr HB.out) (by omega) hkl
        go_wp2_with fail
        refine hof.mono ?_
        rintro e' w2 ⟨⟨y, m, d, h, mi, wd, rfl, hA⟩, hb2⟩
        have HB2 : Hid (Below w.heap.size w w2) := HB.out.trans (hb2.mono HB.out.size)
        have hlat : ∀ o, Calls Tryd.prog 37 #[expV e, dateV y m d h mi wd] (w2.alloc o) _ := fun o => later_any e HE.out k y m d h mi wd hA (w2.alloc o) (HT.out _ (HB2.out.alloc HB2.out.size o))
        have HA := Hid.mk'' hA
        clear hof hb2 hA
        go_wp2_with fail
        refine (hlat _).mono ?_
        rintro e' w3 ⟨⟨s, rfl, hH⟩, hb3⟩
        have HB3 : Hid (Below w.heap.size w w3) := (HB2.out.alloc HB2.out.size _).trans (hb3.mono (by have := HB2.out.size; simp; omega))
        have s0 := hH.ge
        have s1 := hH.le
        clear hlat hb3
        by_cases hs : s = 0
        · subst hs
          have HM : Hid (Mt e k) := (Mt.iff (by omega) hkl HA.out).2 (hH.zero rfl)
          clear hH s0 s1
          go_wp2_with fail
          go_ret2
          exact ⟨⟨k, 0, rfl, .inl ⟨rfl, hk1, hkb, HM.out, HN.out⟩⟩, HB3.out⟩
        · have HP := Hid.mk'' (hH.pos (by omega))
          have hs' : (s == 0) = false := by simpa using hs
          clear hH
          go_wp2_with fail
          go_roundw
          case rel =>
            refine ⟨k + s, rfl, by omega, by omega, Hid.mk'' (fun j h1 h2 => ?_), HB3⟩
            rcases Int.lt_or_le j k with h' | h'
            · exact HN.out j h1 h'
            · exact HP.out j h' h2
          case measure => simp [intOf]; omega
      · have hof := of_no k wr (.inr (by omega))
        go_wp2_with fail
        refine hof.mono ?_
        rintro e' w2 ⟨rfl, hb2⟩
        have HB2 : Hid (Below w.heap.size w w2) := HB.out.trans (hb2.mono HB.out.size)
        clear hof hb2
        go_wp2_with fail
        go_ret2
        exact ⟨⟨0, 28, rfl, .inr ⟨rfl, rfl, fun j h1 h2 => by
          rcases Int.lt_or_le j k with h' | h'
          · exact HN.out j h1 h'
          · exact fun hM => by have := hM.2.1; omega⟩⟩, HB2.out.alloc HB2.out.size _⟩
    · go_wp2_with fail
      go_ret2
      exact ⟨⟨0, 28, rfl, .inr ⟨rfl, rfl, fun j h1 h2 => HN.out j h1 (by omega)⟩⟩, HB.out⟩
set_option maxHeartbeats 1000000 in
theorem seek_back (e : Exp) (he : e.Ok) (a b : Int) (w : World) (hT : HasT w) (ha : b ≤ 4223371679) (hb : -5000000000 ≤ a) :
    Calls Tryd.prog 61 #[.int .i64 b, .int .i64 a, .int .i64 b, .func (.func 42) #[expV e] #[]] w fun r w' => (∃ v c, r = .returned (.tuple #[.int .i64 v, .int .i64 c]) ∧ SeekB e a b v c) ∧ Below w.heap.size w w' := by
  have HT : Hid (∀ w3, Below w.heap.size w w3 → HasT w3) := fun w3 h => hT.below h
  have HE := Hid.mk'' he
  clear he hT
  go_enter Tryd.func61, Tryd.ntmps61
  go_wp2
  go_loopw [10] (fun m w' => ∃ k : Int, m = .int .i64 k ∧ k ≤ b ∧ min a b - 50000 ≤ k ∧ Hid (∀ j, k < j → j ≤ b → ¬ Mt e j) ∧ Hid (Below w.heap.size w w')) (fun m _ => (intOf m + 1 - a).toNat)
  case atStart => exact ⟨b, rfl, Int.le_refl _, by omega, Hid.mk'' (fun j h1 h2 => by omega), Hid.mk'' (Below.refl _ _)⟩
  case round =>
    obtain ⟨k, rfl, hk1, hk2, HN, HB⟩ := hrel
    by_cases hkb : a ≤ k
    · by_cases hkl : -1035593280 ≤ k
      · have hof := of_yes k wr (HT.out wr HB.out) hkl (by omega)
        go_wp2_with fail
        refine hof.mono ?_
        rintro e' w2 ⟨⟨y, m, d, h, mi, wd, rfl, hA⟩, hb2⟩
        have HB2 : Hid (Below w.heap.size w w2) := HB.out.trans (hb2.mono HB.out.size)
        have hlat : ∀ o, Calls Tryd.prog 42 #[expV e, dateV y m d h mi wd] (w2.alloc o) _ := fun o => earlier_any e HE.out k y m d h mi wd hA (w2.alloc o)
        have HA := Hid.mk'' hA
        clear hof hb2 hA
        go_wp2_with fail
        refine (hlat _).mono ?_
        rintro e' w3 ⟨⟨s, rfl, hH⟩, hb3⟩
        have HB3 : Hid (Below w.heap.size w w3) := (HB2.out.alloc HB2.out.size _).trans (hb3.mono (by have := HB2.out.size; simp; omega))
        have s0 := hH.ge
        have s1 := hH.le
        clear hlat hb3
        by_cases hs : s = 0
        · subst hs
          have HM : Hid (Mt e k) := (Mt.iff hkl (by omega) HA.out).2 (hH.zero rfl)
          clear hH s0 s1
          go_wp2_with fail
          go_ret2
          exact ⟨⟨k, 0, rfl, .inl ⟨rfl, hkb, hk1, HM.out, HN.out⟩⟩, HB3.out⟩
        · have HP := Hid.mk'' (hH.neg (by omega))
          have hs' : (s == 0) = false := by simpa using hs
          clear hH
          go_wp2_with fail
          go_roundw
          case rel =>
            refine ⟨k + s, rfl, by omega, by omega, Hid.mk'' (fun j h1 h2 => ?_), HB3⟩
            rcases Int.lt_or_le k j with h' | h'
            · exact HN.out j h' h2
            · exact HP.out j h1 h'
          case measure => simp [intOf]; omega
      · have hof := of_no k wr (.inl (by omega))
        go_wp2_with fail
        refine hof.mono ?_
        rintro e' w2 ⟨rfl, hb2⟩
        have HB2 : Hid (Below w.heap.size w w2) := HB.out.trans (hb2.mono HB.out.size)
        clear hof hb2
        go_wp2_with fail
        go_ret2
        exact ⟨⟨0, 28, rfl, .inr ⟨rfl, rfl, fun j h1 h2 => by
          rcases Int.lt_or_le k j with h' | h'
          · exact HN.out j h' h2
          · exact fun hM => by have := hM.1; omega⟩⟩, HB2.out.alloc HB2.out.size _⟩
    · go_wp2_with fail
      go_ret2
      exact ⟨⟨0, 28, rfl, .inr ⟨rfl, rfl, fun j h1 h2 => HN.out j (by omega) h2⟩⟩, HB.out⟩
set_option maxHeartbeats 1000000 in
theorem next_yes (e : Exp) (he : e.Ok) (n : Int) (w : World) (hT : HasT w) (h0 : -1035593280 ≤ n) (h1 : n ≤ 4223371679) :
    Calls Tryd.prog 15 #[expV e, .int .i64 n] w fun r w' => (∃ v c, r = .returned (.tuple #[.int .i64 v, .int .i64 c]) ∧ NextIs e n v c) ∧ Below w.heap.size w w' := by
  have hof : ∀ o, Calls Tryd.prog 23 #[.int .i64 n] (w.alloc o) _ := fun o => of_yes n (w.alloc o) (hT.below ((Below.refl _ _).alloc (Nat.le_refl _) o)) h0 h1
  have HS : Hid (∀ W, Below w.heap.size w W → Calls Tryd.prog 61 #[.int .i64 (n + 1), .int .i64 (n + 1), .int .i64 (n + 4216320), .func (.func 37) #[expV e] #[]] W _) := fun W hW => seek_on e he (n + 1) (n + 4216320) W (hT.below hW) (by omega) (by omega)
  have hmf : ∀ (fn : Fn) (first cap : Array Value) (w : World), (Instr.makeFunc fn first cap).run Tryd.prog w = .ok (.func fn first cap) w := fun _ _ _ _ => rfl
  clear hT he
  unfold expV at *
  go_enter Tryd.func15, Tryd.ntmps15
  go_wp2_with (first | (go_at_call 36; go_in))
  refine (hof _).mono ?_
  rintro e' w2 ⟨⟨y, m, d, h, mi, wd, rfl, hA⟩, hb⟩
  obtain ⟨r1, hz, hB⟩ := one_box hb
  have hsk := fun o => HS.out (w2.alloc o) (hB.alloc hB.size o)
  have HB := Hid.mk'' hB
  clear hb hB hof r1 hA HS
  go_wp2_with fail
  refine (hsk _).mono ?_
  rintro e' w3 ⟨⟨v, c, rfl, hv⟩, hb3⟩
  have HB3 : Hid (Below w.heap.size w w3) := (HB.out.alloc HB.out.size _).trans (hb3.mono (by simp; omega))
  have HV : Hid (NextIs e n v c) := by
    rcases hv with ⟨g1, g2, g3, g4, g5⟩ | ⟨g1, g2, g3⟩
    · exact .inl ⟨g1, by omega, by omega, g4, fun k a b => g5 k (by omega) b⟩
    · exact .inr ⟨g1, g2, fun k a b => g3 k (by omega) b⟩
  clear hv hb3 hsk
  go_wp2_with fail
  go_ret2
  exact ⟨⟨v, c, rfl, HV.out⟩, HB3.out⟩
end Go.Proofs.YtdojpnhjnhecmaaDoor
