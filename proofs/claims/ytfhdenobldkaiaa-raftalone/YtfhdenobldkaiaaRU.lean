/- A new log: nothing in it. -/
import Derived.Test.YtfhdenobldkaiaaRT
namespace Go.Proofs.Ytfhdenobldkaiaa
open Go Go.RowKit
theorem cloneE_nil (w : World) : Calls Try.prog 37 #[.slice none 0 0] w fun e w' => e = .returned (.slice none 0 0) ∧ w' = w := by
  have hnil := fun (w' : World) (n' c' : Nat) => Lib.run_eql_slice_nil (P := Try.prog) w' 36 43 none n' c' 0 0 Try.underlying36
  go_enter Try.func37, Try.ntmps37
  go_wp2
  go_ret
  exact ⟨rfl, rfl⟩
theorem cloneB_nil (w : World) : Calls Try.prog 26 #[.slice none 0 0] w fun e w' => e = .returned (.slice none 0 0) ∧ w' = w := by
  have hnil := fun (w' : World) (n' c' : Nat) => Lib.run_eql_slice_nil (P := Try.prog) w' 35 5 none n' c' 0 0 Try.underlying35
  go_enter Try.func26, Try.ntmps26
  go_wp2
  go_ret
  exact ⟨rfl, rfl⟩
theorem cloneI_nil (w : World) : Calls Try.prog 34 #[.slice none 0 0] w fun e w' => e = .returned (.slice none 0 0) ∧ w' = w := by
  have hnil := fun (w' : World) (n' c' : Nat) => Lib.run_eql_slice_nil (P := Try.prog) w' 28 3 none n' c' 0 0 Try.underlying28
  go_enter Try.func34, Try.ntmps34
  go_wp2
  go_ret
  exact ⟨rfl, rfl⟩
theorem copies_nil (w : World) : Calls Try.prog 21 #[.slice none 0 0] w fun e w' => e = .returned (.slice none 0 0) ∧ w' = w := by
  have hcl := cloneE_nil w
  go_enter Try.func21, Try.ntmps21
  go_wp2_with (go_at_call 37; refine hcl.mono ?_; rintro e w' ⟨rfl, hw'⟩; obtain rfl := hw'.symm)
  go_loopg [3, 9] 1 (fun kx s3 s9 wq => s9 = iv 0 ∧ kx = 1 ∧ wq = w)
  case atStart => exact ⟨rfl, rfl, rfl⟩
  case round =>
    obtain ⟨rfl, rfl, hwr⟩ := hrel
    obtain rfl := hwr.symm
    go_wp2
    go_ret
    exact ⟨rfl, rfl⟩
set_option maxRecDepth 100000 in
theorem meta_nil (w : World) : Calls Try.prog 25 #[.agg #[iv 0, iv 0, .slice none 0 0]] w fun e w' => e = .returned (.agg #[iv 0, iv 0, .slice none 0 0]) ∧ Below w.heap.size w w' := by
  have hcl := fun W => cloneI_nil W
  go_enter Try.func25, Try.ntmps25
  go_wp2_with (go_at_call 34; refine (hcl _).mono ?_; rintro e w' ⟨rfl, hw'⟩; obtain rfl := hw'.symm)
  have hr : ((w.alloc (.cells #[iv 0, iv 0, .slice none 0 0] 32)).alloc (.cells #[iv 0, iv 0, .slice none 0 0] 32)).heap[w.heap.size + 1]? = some (.cells #[iv 0, iv 0, .slice none 0 0] 32 (0, 0)) := by
    have := row_alloc (w.alloc (.cells #[iv 0, iv 0, .slice none 0 0] 32)) #[iv 0, iv 0, .slice none 0 0] 32
    simpa using this
  have HR := Hid.mkW hr
  clear hr
  refine bodyPost_ret (results_cell_row rfl _ _ (w.heap.size + 1) 32 #[iv 0, iv 0, .slice none 0 0] (0, 0) _ rfl HR.out Try.underlying32 rfl (by kernel_rfl)) rfl ?_
  have hb1 : Below w.heap.size w (w.alloc (.cells #[iv 0, iv 0, .slice none 0 0] 32)) := (Below.refl _ w).alloc (Nat.le_refl _) _
  exact ⟨rfl, hb1.alloc hb1.size _⟩
set_option maxRecDepth 100000 in
theorem votersAt_zero {w : World} {T : Nat} {v : Value} {id : Int} (c0 : w.cell? ⟨T, 0, none⟩ = some (iv 0)) (c5 : w.cell? ⟨T, 5, none⟩ = some v) (hv : One w v id) : Calls Try.prog 35 #[ptr T, iv 0] w fun e w' => ∃ v', e = .returned v' ∧ w'.ownsRow w.heap.size 3 1 v' 1 [iv id] ∧ Below w.heap.size w w' := by
  have hcl := cloneI_one hv
  obtain ⟨g, c, rfl, _⟩ := hv
  go_enter Try.func35, Try.ntmps35
  go_wp2
  go_loopg [5] 1 (fun kx s5 wq => s5 = iv (-1) ∧ kx = 1 ∧ wq = w)
  case atStart => exact ⟨rfl, rfl, rfl⟩
  case round =>
    obtain ⟨rfl, rfl, hwr⟩ := hrel
    obtain rfl := hwr.symm
    go_wp2_with (go_at_call 34; refine hcl.mono ?_; rintro e w2 ⟨v', rfl, ho, hb⟩; obtain ⟨np, nc, hnv⟩ := owns_formB0 ho; subst hnv)
    go_ret
    exact ⟨_, rfl, ho, hb⟩
set_option maxRecDepth 100000 in
set_option maxHeartbeats 1000000 in
theorem trail_new {w : World} {v : Value} {id : Int} (hv : One w v id) : Calls Try.prog 17 #[v, .agg #[iv 0, iv 0, .slice none 0 0], .slice none 0 0, .slice none 0 0] w fun e w' => ∃ fv vv, e = .returned (.agg #[iv 0, iv 0, .slice none 0 0, .slice none 0 0, .slice none 0 0, fv, vv, iv 0]) ∧ w'.ownsRow w.heap.size 3 1 vv 1 [iv id] ∧ w'.ownsRow w.heap.size 3 1 fv 1 [iv id] ∧ Below w.heap.size w w' := by
  have hm := fun W => meta_nil W
  have hb := fun W => cloneB_nil W
  have he := fun W => copies_nil W
  obtain ⟨W1, hW1⟩ : ∃ W1, W1 = (w.alloc (.cells #[iv 0, iv 0, .slice none 0 0] 32)).alloc (.cells #[iv 0, iv 0, .slice none 0 0, .slice none 0 0, .slice none 0 0, .slice none 0 0, .slice none 0 0, iv 0] 57) := ⟨_, rfl⟩
  have b0 : Below w.heap.size w (w.alloc (.cells #[iv 0, iv 0, .slice none 0 0] 32)) := (Below.refl _ w).alloc (Nat.le_refl _) _
  have b1 : Below w.heap.size w W1 := by rw [hW1]; exact b0.alloc b0.size _
  have r0 : W1.heap[w.heap.size]? = some (.cells #[iv 0, iv 0, .slice none 0 0] 32 (0, 0)) := by
    rw [hW1]
    exact (Below.heap_alloc _ _ w.heap.size (by simp)).trans (row_alloc w _ 32)
  have r1 : W1.heap[w.heap.size + 1]? = some (.cells #[iv 0, iv 0, .slice none 0 0, .slice none 0 0, .slice none 0 0, .slice none 0 0, .slice none 0 0, iv 0] 57 (0, 0)) := by
    rw [hW1]
    have := row_alloc (w.alloc (.cells #[iv 0, iv 0, .slice none 0 0] 32)) #[iv 0, iv 0, .slice none 0 0, .slice none 0 0, .slice none 0 0, .slice none 0 0, .slice none 0 0, iv 0] 57
    simpa using this
  have x0 : W1.cell? ⟨w.heap.size, 0, none⟩ = some (iv 0) := cell_of_row _ _ _ _ _ _ r0
  have x1 : W1.cell? ⟨w.heap.size, 1, none⟩ = some (iv 0) := cell_of_row _ _ _ _ _ _ r0
  have x2 : W1.cell? ⟨w.heap.size, 2, none⟩ = some (.slice none 0 0) := cell_of_row _ _ _ _ _ _ r0
  have HV := Hid.mkW hv
  have H1 := Hid.mkW (And.intro b1 r1)
  clear hv b0 b1 r0 r1
  go_enter Try.func17, Try.ntmps17
  go_upto_region 1 with fail
  rw [← hW1]
  clear hW1
  obtain ⟨M, hM⟩ : ∃ M, M = w.heap.size := ⟨_, rfl⟩
  have HM := Hid.mkW hM
  rw [← hM] at x0 x1 x2
  rw [← hM]
  clear hM
  go_upto_region 2 with (first
    | (go_at_call 25; refine (hm _).mono ?_; rintro e w2 ⟨rfl, hb2⟩; have hcl := cloneI_one (HV.out.below (H1.out.1.trans (hb2.mono H1.out.1.size))))
    | (go_at_call 26; refine (hb _).mono ?_; rintro e w' ⟨rfl, hw'⟩; obtain rfl := hw'.symm)
    | (go_at_call 21; refine (he _).mono ?_; rintro e w' ⟨rfl, hw'⟩; obtain rfl := hw'.symm)
    | (go_at_call 34; refine hcl.mono ?_; rintro e w3 ⟨fv, rfl, ho3, hb3⟩; obtain ⟨fp, fc, hfv⟩ := owns_formB0 ho3; subst hfv))
  obtain ⟨W4, hW4⟩ : ∃ W4, W4 = w3.alloc (.cells #[iv 0, iv 0, .slice none 0 0, .slice none 0 0, .slice none 0 0, .slice fp 1 fc, .slice none 0 0, iv 0] 57) := ⟨_, rfl⟩
  have b34 : Below w3.heap.size w3 W4 := by rw [hW4]; exact (Below.refl _ _).alloc (Nat.le_refl _) _
  have r4 : W4.heap[w3.heap.size]? = some (.cells #[iv 0, iv 0, .slice none 0 0, .slice none 0 0, .slice none 0 0, .slice fp 1 fc, .slice none 0 0, iv 0] 57 (0, 0)) := by rw [hW4]; exact row_alloc w3 _ _
  have s4 : W4.heap.size = w3.heap.size + 1 := by rw [hW4]; simp
  rw [← hW4]
  obtain ⟨T, hT⟩ : ∃ T, T = w3.heap.size := ⟨_, rfl⟩
  rw [← hT] at r4 s4
  rw [← hT]
  have b03 : Below w.heap.size w w3 := H1.out.1.trans ((hb2.mono H1.out.1.size).trans (hb3.mono (Nat.le_trans H1.out.1.size hb2.size)))
  have o4 : W4.ownsRow w.heap.size 3 1 (.slice fp 1 fc) 1 [iv id] := by
    have := ownsRow_upd ho3 (Upd.ofBelow (S := fun _ => False) b34) (fun _ _ h => h)
    obtain ⟨g, cc, e1, e2, e3⟩ := owns_formB this (by decide)
    cases e1
    rcases this.2 with ⟨e, h0⟩ | ⟨g, cap, cur, e, hbg, hh, r⟩
    · cases e
    · cases e
      exact ⟨this.1, .inr ⟨g, fc, cur, rfl, by have := H1.out.1.size; have := hb2.size; omega, hh, r⟩⟩
  have q4 : W4.heap[M + 1]? = some (.cells #[iv 0, iv 0, .slice none 0 0, .slice none 0 0, .slice none 0 0, .slice none 0 0, .slice none 0 0, iv 0] 57 (0, 0)) := by
    rw [HM.out]
    have l1 := (Array.getElem?_eq_some_iff.1 H1.out.2).1
    have h2 := (hb2.block _ l1).trans H1.out.2
    have l2 := (Array.getElem?_eq_some_iff.1 h2).1
    have h3 := (hb3.block _ l2).trans h2
    exact (b34.block _ (Array.getElem?_eq_some_iff.1 h3).1).trans h3
  have hMT : M + 1 < T := by
    rw [hT, HM.out]
    have l1 := (Array.getElem?_eq_some_iff.1 H1.out.2).1
    have := hb2.size
    have := hb3.size
    omega
  have hlast : ∀ W, W.heap[T]? = some (.cells #[iv 0, iv 0, .slice none 0 0, .slice none 0 0, .slice none 0 0, .slice fp 1 fc, .slice none 0 0, iv 0] 57 (0, 0)) → Calls Try.prog 20 #[ptr T] W fun e w' => e = .returned (iv 0) ∧ ∃ q, w' = W.drewN q := fun W hr => by
    have := last_draw W T 0 0 none 0 0 (cell_of_row _ _ _ _ _ _ hr) (cell_of_row _ _ _ _ _ _ hr) ⟨by decide, by decide⟩ (by decide)
    exact this
  have b04 : Below w.heap.size w W4 := b03.trans (b34.mono b03.size)
  have hl4 := hlast W4 r4
  have f7 : W4.frozen? ⟨T, 7, none⟩ = false := frozen_of_row _ _ _ _ _ r4
  have c7 : W4.cell? ⟨T, 7, none⟩ = some (iv 0) := cell_of_row _ _ _ _ _ _ r4
  have HD : ∀ q, (W4.drewN q).frozen? ⟨T, 7, none⟩ = false ∧ (W4.drewN q).cell? ⟨T, 7, none⟩ = some (iv 0) := fun q => ⟨f7, c7⟩
  have H4 := Hid.mkW (And.intro r4 (And.intro o4 (And.intro q4 b04)))
  have HTT := Hid.mkW hT
  clear hW4 b34 r4 o4 q4 b04 b03 ho3 hb3 hb2 hT f7 c7 s4 hm hb he x0 x1 x2 hcl
  go_upto_region 3 with (go_at_call 20; refine hl4.mono ?_; rintro e w5 ⟨rfl, q, e5⟩; obtain ⟨f7, c7⟩ := HD q; rw [← e5] at f7 c7; have H5 := Hid.mkW e5; clear e5)
  obtain ⟨r4, o4, q4, b04⟩ := H4.out
  obtain ⟨W6, hW6⟩ : ∃ W6, W6 = w5.setCell ⟨T, 7, none⟩ (iv 0) := ⟨_, rfl⟩
  have r5 : w5.heap[T]? = some (.cells #[iv 0, iv 0, .slice none 0 0, .slice none 0 0, .slice none 0 0, .slice fp 1 fc, .slice none 0 0, iv 0] 57 (0, 0)) := by rw [H5.out]; exact r4
  have b45 : Below W4.heap.size W4 w5 := by rw [H5.out]; exact below_drewF q W4
  have r6 : W6.heap[T]? = some (.cells #[iv 0, iv 0, .slice none 0 0, .slice none 0 0, .slice none 0 0, .slice fp 1 fc, .slice none 0 0, iv 0] 57 (0, 0)) := by rw [hW6]; exact heap_setCell_row r5 _
  have u6 : Upd W4 W6 (fun z => z = T) := by rw [hW6]; exact (Upd.ofBelow (S := fun z => z = T) b45).setCell (p := ⟨T, 7, none⟩) (.inr rfl) _
  have o6 := ownsRow_upd o4 u6 (fun k hk e => own_block o4 r4 (by decide) (e ▸ hk))
  have q6 := (u6.block (M + 1) (Array.getElem?_eq_some_iff.1 q4).1 (by omega)).trans q4
  have b06 : Below w.heap.size w W6 := b04.trans (u6.below b04.size (fun k hk e => by rw [HM.out] at hMT; omega))
  rw [← hW6]
  have hl6 := hlast W6 r6
  have hvo : ∀ q, Calls Try.prog 35 #[ptr T, iv 0] (W6.drewN q) fun e w' => ∃ v', e = .returned v' ∧ w'.ownsRow (W6.drewN q).heap.size 3 1 v' 1 [iv id] ∧ Below (W6.drewN q).heap.size (W6.drewN q) w' := fun q => votersAt_zero (w := W6.drewN q) (T := T) (v := .slice fp 1 fc) (cell_of_row _ _ _ _ _ _ r6) (cell_of_row _ _ _ _ _ _ r6) ((One.of o6).below (below_drewF q W6))
  have H6 := Hid.mkW (And.intro r6 (And.intro o6 (And.intro q6 b06)))
  clear hW6 r4 o4 q4 b04 r5 b45 r6 u6 o6 q6 b06 f7 c7 HD hl4 hlast
  go_upto_region 4 with (first
    | (go_at_call 20; refine hl6.mono ?_; rintro e w7 ⟨rfl, q7, e7⟩; have hvo7 := hvo q7; rw [← e7] at hvo7; have H7 := Hid.mkW e7; clear e7)
    | (go_at_call 35; refine hvo7.mono ?_; rintro e w8 ⟨vv, rfl, ho8, hb8⟩; obtain ⟨vp, vc, hvv⟩ := owns_formB0 ho8; subst hvv; have r8 : w8.heap[T]? = some (.cells #[iv 0, iv 0, .slice none 0 0, .slice none 0 0, .slice none 0 0, .slice fp 1 fc, .slice none 0 0, iv 0] 57 (0, 0)) := (hb8.block T (by rw [H7.out]; exact (Array.getElem?_eq_some_iff.1 H6.out.1).1)).trans (by rw [H7.out]; exact H6.out.1); have f6 : w8.frozen? ⟨T, 6, none⟩ = false := frozen_of_row _ _ _ _ _ r8; have c6 : w8.cell? ⟨T, 6, none⟩ = some (.slice none 0 0) := cell_of_row _ _ _ _ _ _ r8))
  obtain ⟨r6, o6, q6, b06⟩ := H6.out
  have b67 : Below W6.heap.size W6 w7 := by rw [H7.out]; exact below_drewF q7 W6
  have b68 : Below W6.heap.size W6 w8 := b67.trans (hb8.mono b67.size)
  have o8 := ownsRow_upd o6 (Upd.ofBelow (S := fun _ => False) b68) (fun _ _ h => h)
  have q8 := (b68.block (M + 1) (Array.getElem?_eq_some_iff.1 q6).1).trans q6
  have b08 : Below w.heap.size w w8 := b06.trans (b68.mono b06.size)
  have p8 : w8.ownsRow w.heap.size 3 1 (.slice vp 1 vc) 1 [iv id] := by
    rcases ho8.2 with ⟨e, h0⟩ | ⟨g, cap, cur, e, hbg, hh, r⟩
    · cases h0
    · cases e
      exact ⟨ho8.1, .inr ⟨g, vc, cur, rfl, by have := b06.size; have := b67.size; omega, hh, r⟩⟩
  obtain ⟨W9, hW9⟩ : ∃ W9, W9 = w8.setCell ⟨T, 6, none⟩ (.slice vp 1 vc) := ⟨_, rfl⟩
  have r9 : W9.heap[T]? = some (.cells #[iv 0, iv 0, .slice none 0 0, .slice none 0 0, .slice none 0 0, .slice fp 1 fc, .slice vp 1 vc, iv 0] 57 (0, 0)) := by rw [hW9]; exact heap_setCell_row r8 _
  have u9 : Upd w8 W9 (fun z => z = T) := by rw [hW9]; exact (Upd.refl w8 (fun z => z = T)).setCell (p := ⟨T, 6, none⟩) (.inr rfl) _
  have o9 := ownsRow_upd o8 u9 (fun k hk e => own_block o8 r8 (by decide) (e ▸ hk))
  have p9 := ownsRow_upd p8 u9 (fun k hk e => own_block p8 r8 (by decide) (e ▸ hk))
  have q9 := (u9.block (M + 1) (Array.getElem?_eq_some_iff.1 q8).1 (by omega)).trans q8
  have b09 : Below w.heap.size w W9 := b08.trans (u9.below b08.size (fun k hk e => by rw [HM.out] at hMT; omega))
  rw [← hW9]
  have hR0 : w.heap.size ≤ M + 1 := by rw [HM.out]; omega
  obtain ⟨R, hR⟩ : ∃ R, R = M + 1 := ⟨_, rfl⟩
  rw [← hR] at q9 hMT hR0
  rw [← hR]
  have t0 : W9.cell? ⟨T, 0, none⟩ = some (iv 0) := cell_of_row _ _ _ _ _ _ r9
  have t1 : W9.cell? ⟨T, 1, none⟩ = some (iv 0) := cell_of_row _ _ _ _ _ _ r9
  have t2 : W9.cell? ⟨T, 2, none⟩ = some (.slice none 0 0) := cell_of_row _ _ _ _ _ _ r9
  have t3 : W9.cell? ⟨T, 3, none⟩ = some (.slice none 0 0) := cell_of_row _ _ _ _ _ _ r9
  have t4 : W9.cell? ⟨T, 4, none⟩ = some (.slice none 0 0) := cell_of_row _ _ _ _ _ _ r9
  have t5 : W9.cell? ⟨T, 5, none⟩ = some (.slice fp 1 fc) := cell_of_row _ _ _ _ _ _ r9
  have t6 : W9.cell? ⟨T, 6, none⟩ = some (.slice vp 1 vc) := cell_of_row _ _ _ _ _ _ r9
  have t7 : W9.cell? ⟨T, 7, none⟩ = some (iv 0) := cell_of_row _ _ _ _ _ _ r9
  have y0 : W9.cell? ⟨R, 0, none⟩ = some (iv 0) := cell_of_row _ _ _ _ _ _ q9
  have y1 : W9.cell? ⟨R, 1, none⟩ = some (iv 0) := cell_of_row _ _ _ _ _ _ q9
  have y2 : W9.cell? ⟨R, 2, none⟩ = some (.slice none 0 0) := cell_of_row _ _ _ _ _ _ q9
  have y3 : W9.cell? ⟨R, 3, none⟩ = some (.slice none 0 0) := cell_of_row _ _ _ _ _ _ q9
  have y4 : W9.cell? ⟨R, 4, none⟩ = some (.slice none 0 0) := cell_of_row _ _ _ _ _ _ q9
  have y5 : W9.cell? ⟨R, 5, none⟩ = some (.slice none 0 0) := cell_of_row _ _ _ _ _ _ q9
  have y6 : W9.cell? ⟨R, 6, none⟩ = some (.slice none 0 0) := cell_of_row _ _ _ _ _ _ q9
  have y7 : W9.cell? ⟨R, 7, none⟩ = some (iv 0) := cell_of_row _ _ _ _ _ _ q9
  have fy : ∀ j, W9.frozen? ⟨R, j, none⟩ = false := fun j => frozen_of_row _ _ _ _ _ q9
  have HQ : Hid (((((((((W9.setCell ⟨R, 0, none⟩ (iv 0)).setCell ⟨R, 1, none⟩ (iv 0)).setCell ⟨R, 2, none⟩ (.slice none 0 0)).setCell ⟨R, 3, none⟩ (.slice none 0 0)).setCell ⟨R, 4, none⟩ (.slice none 0 0)).setCell ⟨R, 5, none⟩ (.slice fp 1 fc)).setCell ⟨R, 6, none⟩ (.slice vp 1 vc)).setCell ⟨R, 7, none⟩ (iv 0)).heap[R]? = some (.cells #[iv 0, iv 0, .slice none 0 0, .slice none 0 0, .slice none 0 0, .slice fp 1 fc, .slice vp 1 vc, iv 0] 57 (0, 0))) := (heap_setCell_row (heap_setCell_row (heap_setCell_row (heap_setCell_row (heap_setCell_row (heap_setCell_row (heap_setCell_row (heap_setCell_row q9 (iv 0)) (iv 0)) (.slice none 0 0)) (.slice none 0 0)) (.slice none 0 0)) (.slice fp 1 fc)) (.slice vp 1 vc)) (iv 0))
  have UQ : Hid (Upd W9 ((((((((W9.setCell ⟨R, 0, none⟩ (iv 0)).setCell ⟨R, 1, none⟩ (iv 0)).setCell ⟨R, 2, none⟩ (.slice none 0 0)).setCell ⟨R, 3, none⟩ (.slice none 0 0)).setCell ⟨R, 4, none⟩ (.slice none 0 0)).setCell ⟨R, 5, none⟩ (.slice fp 1 fc)).setCell ⟨R, 6, none⟩ (.slice vp 1 vc)).setCell ⟨R, 7, none⟩ (iv 0)) (fun z => z = R)) := (((((((((Upd.refl W9 (fun z => z = R)).setCell (p := ⟨R, 0, none⟩) (.inr rfl) (iv 0)).setCell (p := ⟨R, 1, none⟩) (.inr rfl) (iv 0)).setCell (p := ⟨R, 2, none⟩) (.inr rfl) (.slice none 0 0)).setCell (p := ⟨R, 3, none⟩) (.inr rfl) (.slice none 0 0)).setCell (p := ⟨R, 4, none⟩) (.inr rfl) (.slice none 0 0)).setCell (p := ⟨R, 5, none⟩) (.inr rfl) (.slice fp 1 fc)).setCell (p := ⟨R, 6, none⟩) (.inr rfl) (.slice vp 1 vc)).setCell (p := ⟨R, 7, none⟩) (.inr rfl) (iv 0))
  have HF := Hid.mkW (And.intro o9 (And.intro p9 (And.intro b09 (And.intro q9 hR0))))
  have hRT : ¬ R = T := by omega
  have hTR : ¬ T = R := by omega
  clear hW9 o8 q8 b08 p8 r9 u9 o9 p9 q9 b09 r6 o6 q6 b06 b67 b68 ho8 hb8 r8 f6 c6 hvo7 hl6 hvo hR hMT hR0
  go_wp2
  refine bodyPost_ret (results_cell_row rfl _ _ R 57 #[iv 0, iv 0, .slice none 0 0, .slice none 0 0, .slice none 0 0, .slice fp 1 fc, .slice vp 1 vc, iv 0] (0, 0) _ rfl HQ.out Try.underlying57 rfl (by kernel_rfl)) rfl ?_
  obtain ⟨o9, p9, b09, q9, hR0⟩ := HF.out
  exact ⟨_, _, rfl, ownsRow_upd p9 UQ.out (fun k hk e => own_block p9 q9 (by decide) (e ▸ hk)), ownsRow_upd o9 UQ.out (fun k hk e => own_block o9 q9 (by decide) (e ▸ hk)), b09.trans (UQ.out.below b09.size (fun k hk e => by omega))⟩
end Go.Proofs.Ytfhdenobldkaiaa
