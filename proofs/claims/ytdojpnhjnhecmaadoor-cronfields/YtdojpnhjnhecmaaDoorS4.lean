/- Next and Prev. -/
import Derived.Test.YtdojpnhjnhecmaaDoorS3
namespace Go.Proofs.YtdojpnhjnhecmaaDoor
open Go Go.RowKit
set_option maxHeartbeats 1000000 in
theorem next_no (e : Exp) (n : Int) (w : World) (hn : n < -1035593280 ∨ 4223371679 < n) :
    Calls Tryd.prog 15 #[expV e, .int .i64 n] w fun r w' => r = .returned (.tuple #[.int .i64 0, .int .i64 1]) ∧ Below w.heap.size w w' := by
  have hof : ∀ o, Calls Tryd.prog 23 #[.int .i64 n] (w.alloc o) _ := fun o => of_no n (w.alloc o) hn
  have hmf : ∀ (fn : Fn) (first cap : Array Value) (w : World), (Instr.makeFunc fn first cap).run Tryd.prog w = .ok (.func fn first cap) w := fun _ _ _ _ => rfl
  clear hn
  unfold expV at *
  go_enter Tryd.func15, Tryd.ntmps15
  go_wp2_with (first | (go_at_call 36; go_in))
  refine (hof _).mono ?_
  rintro e' w2 ⟨rfl, hb⟩
  obtain ⟨r1, hz, hB⟩ := one_box hb
  have HB := Hid.mk'' hB
  clear hb hB hof r1
  go_wp2_with fail
  go_ret2
  exact ⟨rfl, HB.out.alloc HB.out.size _⟩
set_option maxHeartbeats 1000000 in
theorem prev_yes (e : Exp) (he : e.Ok) (u a : Int) (w : World) (hT : HasT w) (h0 : -1035593280 ≤ u) (h1 : u ≤ 4223371679) (ha : a < u) (ha0 : -9223372036854775808 ≤ a) :
    Calls Tryd.prog 17 #[expV e, .int .i64 u, .int .i64 a] w fun r w' => (∃ v c, r = .returned (.tuple #[.int .i64 v, .int .i64 c]) ∧ PrevIs e u a v c) ∧ Below w.heap.size w w' := by
  have hof : ∀ o, Calls Tryd.prog 23 #[.int .i64 u] (w.alloc o) _ := fun o => of_yes u (w.alloc o) (hT.below ((Below.refl _ _).alloc (Nat.le_refl _) o)) h0 h1
  have HS : Hid (∀ W, Below w.heap.size w W → Calls Tryd.prog 61 #[.int .i64 u, .int .i64 (max (a + 1) (u - 4216320)), .int .i64 u, .func (.func 42) #[expV e] #[]] W _) := fun W hW => seek_back e he (max (a + 1) (u - 4216320)) u W (hT.below hW) h1 (by omega)
  have hmf : ∀ (fn : Fn) (first cap : Array Value) (w : World), (Instr.makeFunc fn first cap).run Tryd.prog w = .ok (.func fn first cap) w := fun _ _ _ _ => rfl
  clear hT he
  unfold expV at *
  go_enter Tryd.func17, Tryd.ntmps17
  go_wp2_with (first | (go_at_call 41; go_in))
  refine (hof _).mono ?_
  rintro e' w2 ⟨⟨y, m, d, h, mi, wd, rfl, hA⟩, hb⟩
  obtain ⟨r1, hz, hB⟩ := one_box hb
  have hsk := fun o => HS.out (w2.alloc o) (hB.alloc hB.size o)
  have HB := Hid.mk'' hB
  clear hb hB hof r1 hA HS
  go_wp2_with fail
  refine (hsk _).mono ?_
  rintro e' w3 ⟨⟨v, c, rfl, hv⟩, hb3⟩
  have HB3 : Hid (Below w.heap.size w w3) := (HB.out.alloc HB.out.size _).trans (hb3.mono (by simp; omega))
  have HV : Hid (PrevIs e u a v c) := by
    rcases hv with ⟨g1, g2, g3, g4, g5⟩ | ⟨g1, g2, g3⟩
    · exact .inl ⟨g1, by omega, g3, by omega, g4, g5⟩
    · exact .inr ⟨g1, g2, fun k x y z => g3 k (by omega) y⟩
  clear hv hb3 hsk
  go_wp2_with fail
  go_ret2
  exact ⟨⟨v, c, rfl, HV.out⟩, HB3.out⟩
set_option maxHeartbeats 1000000 in
theorem prev_no (e : Exp) (u a : Int) (w : World) (hn : u < -1035593280 ∨ 4223371679 < u) :
    Calls Tryd.prog 17 #[expV e, .int .i64 u, .int .i64 a] w fun r w' => r = .returned (.tuple #[.int .i64 0, .int .i64 1]) ∧ Below w.heap.size w w' := by
  have hof : ∀ o, Calls Tryd.prog 23 #[.int .i64 u] (w.alloc o) _ := fun o => of_no u (w.alloc o) hn
  have hmf : ∀ (fn : Fn) (first cap : Array Value) (w : World), (Instr.makeFunc fn first cap).run Tryd.prog w = .ok (.func fn first cap) w := fun _ _ _ _ => rfl
  clear hn
  unfold expV at *
  go_enter Tryd.func17, Tryd.ntmps17
  go_wp2_with (first | (go_at_call 41; go_in))
  refine (hof _).mono ?_
  rintro e' w2 ⟨rfl, hb⟩
  obtain ⟨r1, hz, hB⟩ := one_box hb
  have HB := Hid.mk'' hB
  clear hb hB hof r1
  go_wp2_with fail
  go_ret2
  exact ⟨rfl, HB.out.alloc HB.out.size _⟩
set_option maxHeartbeats 1000000 in
theorem prev_not (e : Exp) (u a : Int) (w : World) (hT : HasT w) (h0 : -1035593280 ≤ u) (h1 : u ≤ 4223371679) (ha : u ≤ a) :
    Calls Tryd.prog 17 #[expV e, .int .i64 u, .int .i64 a] w fun r w' => r = .returned (.tuple #[.int .i64 0, .int .i64 1]) ∧ Below w.heap.size w w' := by
  have hof : ∀ o, Calls Tryd.prog 23 #[.int .i64 u] (w.alloc o) _ := fun o => of_yes u (w.alloc o) (hT.below ((Below.refl _ _).alloc (Nat.le_refl _) o)) h0 h1
  have hmf : ∀ (fn : Fn) (first cap : Array Value) (w : World), (Instr.makeFunc fn first cap).run Tryd.prog w = .ok (.func fn first cap) w := fun _ _ _ _ => rfl
  clear hT
  unfold expV at *
  go_enter Tryd.func17, Tryd.ntmps17
  go_wp2_with (first | (go_at_call 41; go_in))
  refine (hof _).mono ?_
  rintro e' w2 ⟨⟨y, m, d, h, mi, wd, rfl, hA⟩, hb⟩
  obtain ⟨r1, hz, hB⟩ := one_box hb
  have HB := Hid.mk'' hB
  clear hb hB hof r1 hA
  go_wp2_with fail
  go_ret2
  exact ⟨rfl, HB.out.alloc HB.out.size _⟩
end Go.Proofs.YtdojpnhjnhecmaaDoor
