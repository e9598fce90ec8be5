/- The law's first look at the program. -/
import Derived.Lib.SlBytesConst
import Derived.Test.YtfhdenobldkaiaaS2
namespace Go.Proofs.Ytfhdenobldkaiaa
open Go Go.RowKit
theorem one_new (w : World) (id : Int) : One (w.alloc (.cells #[iv id] 3)) (.slice (some ⟨w.heap.size, 0, none⟩) 1 1) id :=
  ⟨w.heap.size, 1, rfl, Nat.le_refl _, by simp, cell_of_row _ _ _ _ _ _ (row_alloc w _ 3)⟩
/-- A tick of the first ten. -/
theorem tick_ten {w0 w : World} {d f j : Nat} {id x : Int} (h : Wai w0 w d f id j) (hj : j ≤ 9) (hid : 0 ≤ id ∧ id < 1073741824) : Calls Try.prog 7 #[ptr d, iv x] w fun e w' => e = .returned (.tuple #[]) ∧ (j + 1 ≤ 9 → Wai w0 w' d f id (j + 1)) ∧ (j + 1 = 10 → ∃ l pm, Al w0 w' d l 1 0 id 1 [] (.slice none 0 0) ∧ w'.heap[l]? = some (.cells (ldRow pm 0 (.slice none 0 0)) 80 (0, 0))) := by
  by_cases h9 : j = 9
  · subst h9
    refine (wai_lead h hid).mono ?_
    rintro e w' ⟨rfl, h1⟩
    exact ⟨rfl, fun h => by omega, fun _ => h1⟩
  · refine (wai_tick h (by omega)).mono ?_
    rintro e w' ⟨rfl, h1⟩
    exact ⟨rfl, fun _ => h1, fun h => by omega⟩
theorem fld30 (a b c : Int) (W : World) : (Instr.field 30 (.agg #[iv a, iv b, iv c]) 2).run Try.prog W = .ok (iv c) W := by kernel_rfl
set_option maxRecDepth 100000 in
set_option maxHeartbeats 2000000 in
theorem known_any (w : World) : Calls Try.prog 4 #[] w fun e w' => e = .returned (.bool true) ∧ Below w.heap.size w w' := by
  obtain ⟨W1, hW1⟩ : ∃ W1, W1 = w.alloc (.cells #[iv 3] 3) := ⟨_, rfl⟩
  have b1 : Below w.heap.size w W1 := by rw [hW1]; exact (Below.refl _ w).alloc (Nat.le_refl _) _
  have o1 : One W1 (.slice (some ⟨w.heap.size, 0, none⟩) 1 1) 3 := by rw [hW1]; exact one_new w 3
  have hnw := wai_new (w0 := w) b1 o1 ⟨by decide, by decide⟩
  clear b1 o1
  have kc := fun (w : World) (C : Array Value) (n c : Nat) => Lib.run_convert_bytes_const (P := Try.prog) w 35 5 C n c Try.underlying35 Try.underlying5
  have kf := fld30
  go_enter Try.func4, Try.ntmps4
  go_wp2_with (go_at_call 5; rw [← hW1]; refine hnw.mono ?_; rintro e w2 ⟨d, f, rfl, h2⟩; have H2 := Hid.mkW h2; clear h2 hW1 hnw)
  go_loopg [3] 11 (fun kx s3 wq => ∃ j : Nat, s3 = .int .i64 j ∧ kx + j = 11 ∧ j ≤ 10 ∧ Hid ((j ≤ 9 → Wai w wq d f 3 j) ∧ (j = 10 → ∃ l pm, Al w wq d l 1 0 3 1 [] (.slice none 0 0) ∧ wq.heap[l]? = some (.cells (ldRow pm 0 (.slice none 0 0)) 80 (0, 0)))))
  case atStart => exact ⟨0, rfl, rfl, by omega, fun _ => H2.out, fun e => by omega⟩
  case round =>
    obtain ⟨j, rfl, hk, hj, HJ⟩ := hrel
    clear H2
    by_cases h10 : j = 10
    · subst h10
      obtain ⟨l, pm, hA, hr⟩ := HJ.out.2 rfl
      obtain ⟨W2, hW2⟩ : ∃ W2, W2 = wr.alloc (.cells #[.int .u8 120] 5 (1, 2)) := ⟨_, rfl⟩
      have b2 : Below wr.heap.size wr W2 := by rw [hW2]; exact (Below.refl _ _).alloc (Nat.le_refl _) _
      have hs : Sees W2 (.slice (some ⟨wr.heap.size, 0, none⟩) 1 1) [120] := by rw [hW2]; exact sees_new wr [120] (1, 2) (by decide) (by decide)
      have hp := al_propose (hA.below b2) (by omega) (by omega) hs (by decide)
      rw [show (((1 : Nat) : Int) + 1) = 2 from rfl] at hp
      clear HJ hA hr hs b2
      go_wp2_with (first
        | (go_at_call 9; rw [← hW2]; refine hp.mono ?_; rintro e w3 ⟨rfl, h3, _⟩; have hro := al_role h3; have hha := al_hard h3; have H3 := Hid.mkW h3; clear h3 hp)
        | (go_at_call 6; refine hro.mono ?_; rintro e w4 ⟨rfl, hw4⟩; obtain rfl := hw4.symm)
        | (go_at_call 11; refine hha.mono ?_; rintro e w5 ⟨rfl, hb5⟩))
      go_ret
      exact ⟨rfl, H3.out.bel.trans (hb5.mono H3.out.bel.size)⟩
    · have ht := tick_ten (x := 0) (HJ.out.1 (by omega)) (by omega) ⟨by decide, by decide⟩
      have hlt : (j : Int) < 10 := by omega
      clear HJ
      go_wp2_with (go_at_call 7; refine ht.mono ?_; rintro e w2 ⟨rfl, h2⟩; have H2 := Hid.mkW h2; clear h2 ht)
      go_roundg (10 - j)
      case measure => omega
      case rel => exact ⟨j + 1, by congr 1, by omega, by omega, H2.out⟩
end Go.Proofs.Ytfhdenobldkaiaa
