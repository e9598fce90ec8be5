/- Put of a write, where it is refused. -/
import Derived.Test.YteeflkkoifgcbaaMC5
namespace Go.Proofs.Yteeflkkoifgcbaa
open Go Go.RowKit

theorem KpW.same {w w' : World} {b : Nat} {h : Wg} (hb : Below w.heap.size w w') : KpW w w' b h h := ⟨Upd.ofBelow hb, fun _ hk => .inl hk⟩
section
variable {n : Nat} {w : World} {s b : Nat} {S : Sto} {W : Wri} {g : Sg} {h : Wg} (H : Ow n w s b S W g h) (key value : ByteArray) (lease : Int) (hk : key.size ≤ 9223372036854775807) (hv : value.size ≤ 9223372036854775807)
include H hk
set_option maxRecDepth 100000 in
set_option maxHeartbeats 1000000 in
theorem wput_arg (hc : ¬ (0 < key.size ∧ key.size ≤ 100) ∨ lease < 0) : Calls Try.prog 10 #[ptr b, .string key, .string value, .int .i64 lease] w fun e w' => e = .returned (.int .i64 1) ∧ w' = w := by
  have ho := open_st H
  have hi := iskey_any key w hk
  clear H
  by_cases h0 : 0 < key.size ∧ key.size ≤ 100
  · have h1 : lease < 0 := hc.resolve_left (fun h => h h0)
    rw [decide_eq_true h0] at hi
    go_enter Try.func10, Try.ntmps10
    go_wp2_with (first | (go_at_call 21; refine ho.mono ?_; rintro e w' ⟨rfl, rfl⟩) | (go_at_call 22; refine hi.mono ?_; rintro e w' ⟨rfl, rfl⟩))
    go_ret
    exact ⟨rfl, rfl⟩
  · rw [decide_eq_false h0] at hi
    go_enter Try.func10, Try.ntmps10
    go_wp2_with (first | (go_at_call 21; refine ho.mono ?_; rintro e w' ⟨rfl, rfl⟩) | (go_at_call 22; refine hi.mono ?_; rintro e w' ⟨rfl, rfl⟩))
    go_ret
    exact ⟨rfl, rfl⟩
include hv
set_option maxRecDepth 100000 in
set_option maxHeartbeats 1000000 in
theorem wput_long (h0 : 0 < key.size ∧ key.size ≤ 100) (h1 : ¬ lease < 0) (h2 : 4096 < value.size) : Calls Try.prog 10 #[ptr b, .string key, .string value, .int .i64 lease] w fun e w' => e = .returned (.int .i64 5) ∧ w' = w := by
  have ho := open_st H
  have hi := iskey_any key w hk
  clear H
  rw [decide_eq_true h0] at hi
  go_enter Try.func10, Try.ntmps10
  go_wp2_with (first | (go_at_call 21; refine ho.mono ?_; rintro e w' ⟨rfl, rfl⟩) | (go_at_call 22; refine hi.mono ?_; rintro e w' ⟨rfl, rfl⟩))
  go_ret
  exact ⟨rfl, rfl⟩
set_option maxRecDepth 100000 in
set_option maxHeartbeats 1000000 in
theorem wput_twice (h0 : 0 < key.size ∧ key.size ≤ 100) (h1 : ¬ lease < 0) (h2 : ¬ 4096 < value.size) {o : Option KVd} (h3 : W.ch key = some o) : Calls Try.prog 10 #[ptr b, .string key, .string value, .int .i64 lease] w fun e w' => e = .returned (.int .i64 18) ∧ w' = w := by
  have ho := open_st H
  have hi := iskey_any key w hk
  obtain ⟨-, -, c2, -⟩ := H.wr.cells
  have hlk : (Instr.lookup 65 (.map (some h.bw)) (.string key) false).run Try.prog w = .ok ((wcF W key).getD .nilIface) w := H.wr.mp.look law65 Try.underlying65 (zero71 _) key false
  have e2 : wcF W key = some (encC key o) := by unfold wcF; rw [h3]; rfl
  rw [e2] at hlk
  dsimp only [Option.getD_some] at hlk
  obtain ⟨ti, xi, hni⟩ : ∃ ti xi, encC key o = .iface ti xi := by cases o <;> exact ⟨_, _, rfl⟩
  rw [hni] at hlk
  clear H e2 hni
  rw [decide_eq_true h0] at hi
  go_enter Try.func10, Try.ntmps10
  go_wp2_with (first | (go_at_call 21; refine ho.mono ?_; rintro e w' ⟨rfl, rfl⟩) | (go_at_call 22; refine hi.mono ?_; rintro e w' ⟨rfl, rfl⟩))
  go_ret
  exact ⟨rfl, rfl⟩
set_option maxRecDepth 100000 in
set_option maxHeartbeats 1000000 in
theorem wput_full (h0 : 0 < key.size ∧ key.size ≤ 100) (h1 : ¬ lease < 0) (h2 : ¬ 4096 < value.size) (h3 : W.ch key = none) (h4 : thereH (S.kh key) = none) (h5 : 4096 ≤ W.count) : Calls Try.prog 10 #[ptr b, .string key, .string value, .int .i64 lease] w fun e w' => e = .returned (.int .i64 14) ∧ Below w.heap.size w w' := by
  have ho := open_st H
  have hi := iskey_any key w hk
  obtain ⟨-, -, c2, -⟩ := H.wr.cells
  have hlk : (Instr.lookup 65 (.map (some h.bw)) (.string key) false).run Try.prog w = .ok ((wcF W key).getD .nilIface) w := H.wr.mp.look law65 Try.underlying65 (zero71 _) key false
  have e2 : wcF W key = none := by unfold wcF; rw [h3]; rfl
  rw [e2] at hlk
  dsimp only [Option.getD_none] at hlk
  have hlo := look_st H key
  have e3 : lookW S W key = none := by unfold lookW; rw [h3]; exact h4
  rw [e3] at hlo
  dsimp only [Option.getD_none, encKV, noKV, Option.isSome_none] at hlo
  have HC : Hid (∀ W', Below w.heap.size w W' → W'.cell? ⟨b, 3, none⟩ = some (.int .i64 W.count)) := fun W' hb => (H.below hb).wr.cells.2.2.2
  clear H e2 e3 h3 h4
  rw [decide_eq_true h0] at hi
  go_enter Try.func10, Try.ntmps10
  go_upto_region 10 with (first | (go_at_call 21; refine ho.mono ?_; rintro e w' ⟨rfl, rfl⟩) | (go_at_call 22; refine hi.mono ?_; rintro e w' ⟨rfl, rfl⟩) | (go_at_call 23; refine hlo.mono ?_; rintro e w3 ⟨rfl, hb3⟩))
  have hb4 := hb3.alloc hb3.size (.cells #[.string ByteArray.empty, .string ByteArray.empty, .int .i64 0, .int .i64 0, .int .i64 0, .int .i64 0] 56)
  have c3 := HC.out _ hb4
  have HB := Hid.mk'' hb4
  clear hb3 hb4 HC
  go_wp2
  go_ret
  exact ⟨rfl, HB.out⟩
end
end Go.Proofs.Yteeflkkoifgcbaa
