/- Put of a key that is there. -/
import Derived.Test.YteeflkkoifgcbaaE8
namespace Go.Proofs.Yteeflkkoifgcbaa
open Go Go.RowKit
section
variable {w : World} {x : Nat} {R : List IM} {F : List Nat} (H : Ix w x R F) (key : ByteArray) (rev : Int) (del : Bool) (hks : key.size ≤ 9223372036854775807)
include H hks
set_option maxRecDepth 100000 in
set_option maxHeartbeats 2000000 in
theorem put_gap (h0 : 0 < key.size) (h1 : key.size ≤ 100) (hr : 1 ≤ rev) (ms : List Mk) (hk : lookD (dat R) key = some ms) (hml : ms.length ≤ 1000000) (hg : rev ≤ (lastM ms).1) :
    Calls Try.prog 40 #[ptr x, .string key, .agg #[.int .i64 rev, .bool del]] w fun e w' => e = .returned (.int .i64 (putE (dat R) key rev del)) ∧ PutPost w w' x R F key rev del := by
  have he : putE (dat R) key rev del = 15 := by simp only [putE, hk]; rw [if_neg (by omega)]; rw [if_pos hg]
  have HP : Hid (∀ w', Below w.heap.size w w' → PutPost w w' x R F key rev del) := fun w' hb => PutPost.same H hb (by rw [he]; decide)
  rw [he]
  obtain ⟨W0, hW0⟩ : ∃ W0, W0 = w.alloc (.cells #[.int .i64 rev, .bool del] 107) := ⟨_, rfl⟩
  have hb0 : Below w.heap.size w W0 := by rw [hW0]; exact (Below.refl _ w).alloc (Nat.le_refl _) _
  have hr0 : W0.heap[w.heap.size]? = some (.cells #[.int .i64 rev, .bool del] 107 (0, 0)) := by rw [hW0]; exact row_alloc w _ _
  have H0 := H.below hb0
  obtain ⟨rp, Ft, hx, hRt, hFF⟩ := H0.ex
  have c0 := hx.c0
  have u0 : W0.cell? ⟨w.heap.size, 0, none⟩ = some (.int .i64 rev) := by simp [World.cell?, hr0]
  have HU : Hid (∀ W, Below W0.heap.size W0 W → W.cell? ⟨w.heap.size, 0, none⟩ = some (.int .i64 rev) ∧ W.cell? ⟨w.heap.size, 1, none⟩ = some (.bool del) ∧ Below w.heap.size w W) := fun W hb => by
    have := (hb.block _ (Array.getElem?_eq_some_iff.1 hr0).1).trans hr0
    exact ⟨by simp [World.cell?, this], by simp [World.cell?, this], hb0.trans (hb.mono hb0.size)⟩
  have k1 : ¬ (key = ByteArray.empty) := by intro e; rw [e] at h0; simp at h0
  have k2 : ¬ ((100 : Int) < (key.size : Int)) := by omega
  have k3 : ¬ (rev < 1) := by omega
  have hf := find_yes H0 hk c0
  have HL : Hid (∀ (w1 : World) (g i mg c : Nat), Below W0.heap.size W0 w1 → Mks W0 (.slice (some ⟨mg, 0, none⟩) ms.length c) ms → 0 < ms.length → w1.cell? ⟨g, i * 2 + 1, none⟩ = some (.slice (some ⟨mg, 0, none⟩) ms.length c) → Calls Try.prog 47 #[.pointer (some ⟨g, i * 2, none⟩)] w1 fun e w' => e = .returned (.agg #[.int .i64 (lastM ms).1, .bool (lastM ms).2]) ∧ Below w1.heap.size w1 w') := fun w1 g i mg c hb hM hp hc =>
    last_any w1 g i mg c ms (lastM ms) hc (ownsRow_upd hM (Upd.ofBelow (S := fun _ => False) hb) (fun _ _ h => h)) (lastM_get hp) hml
  generalize lastM ms = m at *
  obtain ⟨m1, m2⟩ := m
  dsimp only at HL hg
  clear H H0 hx he hr0 hk hFF hRt
  go_enter Try.func40, Try.ntmps40
  go_upto_region 1 with (fail)
  rw [← hW0]
  clear hW0
  go_wp2_with (first | (go_at_call 46; refine hf.mono ?_; rintro e w1 ⟨g, i, mg, c, X, Z, rfl, hb1, hA, hM, hp, hc1⟩) | (go_at_call 47; refine (HL.out _ _ _ _ _ hb1 hM.out hp hc1).mono ?_; rintro e w2 ⟨rfl, hb2⟩; have hb3 : Below W0.heap.size W0 (w2.alloc (.cells #[.int .i64 m1, .bool m2] 107)) := (hb1.trans (hb2.mono hb1.size)).alloc (by have := hb1.size; have := hb2.size; omega) _; obtain ⟨a0, a1, hbw⟩ := HU.out _ hb3))
  go_ret
  exact ⟨rfl, HP.out _ hbw⟩
set_option maxRecDepth 100000 in
set_option maxHeartbeats 2000000 in
theorem put_twice (h0 : 0 < key.size) (h1 : key.size ≤ 100) (hr : 1 ≤ rev) (ms : List Mk) (hk : lookD (dat R) key = some ms) (hml : ms.length ≤ 1000000) (hg : (lastM ms).1 < rev) (hd : del = true) (hl : (lastM ms).2 = true) :
    Calls Try.prog 40 #[ptr x, .string key, .agg #[.int .i64 rev, .bool del]] w fun e w' => e = .returned (.int .i64 (putE (dat R) key rev del)) ∧ PutPost w w' x R F key rev del := by
  have he : putE (dat R) key rev del = 2 := by simp only [putE, hk]; rw [if_neg (by omega)]; rw [if_neg (by omega), hd, hl]; rfl
  have HP : Hid (∀ w', Below w.heap.size w w' → PutPost w w' x R F key rev del) := fun w' hb => PutPost.same H hb (by rw [he]; decide)
  rw [he]
  obtain ⟨W0, hW0⟩ : ∃ W0, W0 = w.alloc (.cells #[.int .i64 rev, .bool del] 107) := ⟨_, rfl⟩
  have hb0 : Below w.heap.size w W0 := by rw [hW0]; exact (Below.refl _ w).alloc (Nat.le_refl _) _
  have hr0 : W0.heap[w.heap.size]? = some (.cells #[.int .i64 rev, .bool del] 107 (0, 0)) := by rw [hW0]; exact row_alloc w _ _
  have H0 := H.below hb0
  obtain ⟨rp, Ft, hx, hRt, hFF⟩ := H0.ex
  have c0 := hx.c0
  have u0 : W0.cell? ⟨w.heap.size, 0, none⟩ = some (.int .i64 rev) := by simp [World.cell?, hr0]
  have HU : Hid (∀ W, Below W0.heap.size W0 W → W.cell? ⟨w.heap.size, 0, none⟩ = some (.int .i64 rev) ∧ W.cell? ⟨w.heap.size, 1, none⟩ = some (.bool del) ∧ Below w.heap.size w W) := fun W hb => by
    have := (hb.block _ (Array.getElem?_eq_some_iff.1 hr0).1).trans hr0
    exact ⟨by simp [World.cell?, this], by simp [World.cell?, this], hb0.trans (hb.mono hb0.size)⟩
  have k1 : ¬ (key = ByteArray.empty) := by intro e; rw [e] at h0; simp at h0
  have k2 : ¬ ((100 : Int) < (key.size : Int)) := by omega
  have k3 : ¬ (rev < 1) := by omega
  have hf := find_yes H0 hk c0
  have HL : Hid (∀ (w1 : World) (g i mg c : Nat), Below W0.heap.size W0 w1 → Mks W0 (.slice (some ⟨mg, 0, none⟩) ms.length c) ms → 0 < ms.length → w1.cell? ⟨g, i * 2 + 1, none⟩ = some (.slice (some ⟨mg, 0, none⟩) ms.length c) → Calls Try.prog 47 #[.pointer (some ⟨g, i * 2, none⟩)] w1 fun e w' => e = .returned (.agg #[.int .i64 (lastM ms).1, .bool (lastM ms).2]) ∧ Below w1.heap.size w1 w') := fun w1 g i mg c hb hM hp hc =>
    last_any w1 g i mg c ms (lastM ms) hc (ownsRow_upd hM (Upd.ofBelow (S := fun _ => False) hb) (fun _ _ h => h)) (lastM_get hp) hml
  generalize lastM ms = m at *
  obtain ⟨m1, m2⟩ := m
  dsimp only at HL hg hl
  subst hd hl
  have k4 : ¬ (rev ≤ m1) := by omega
  clear H H0 hx he hr0 hk hFF hRt
  go_enter Try.func40, Try.ntmps40
  go_upto_region 1 with (fail)
  rw [← hW0]
  clear hW0
  go_wp2_with (first | (go_at_call 46; refine hf.mono ?_; rintro e w1 ⟨g, i, mg, c, X, Z, rfl, hb1, hA, hM, hp, hc1⟩) | (go_at_call 47; refine (HL.out _ _ _ _ _ hb1 hM.out hp hc1).mono ?_; rintro e w2 ⟨rfl, hb2⟩; have hb3 : Below W0.heap.size W0 (w2.alloc (.cells #[.int .i64 m1, .bool true] 107)) := (hb1.trans (hb2.mono hb1.size)).alloc (by have := hb1.size; have := hb2.size; omega) _; obtain ⟨a0, a1, hbw⟩ := HU.out _ hb3))
  go_ret
  exact ⟨rfl, HP.out _ hbw⟩
end
end Go.Proofs.Yteeflkkoifgcbaa
