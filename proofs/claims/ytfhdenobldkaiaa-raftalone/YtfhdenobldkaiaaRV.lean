/- New, of one voter and an empty log. -/
import Derived.Test.YtfhdenobldkaiaaRU
namespace Go.Proofs.Ytfhdenobldkaiaa
open Go Go.RowKit
theorem cell_alloc {V : World} {o : Obj} {p : Addr} {u : Value} (h : V.cell? p = some u) : (V.alloc o).cell? p = some u := ((Below.refl V.heap.size V).alloc (Nat.le_refl _) o |>.cell (World.block_lt_of_cell? _ _ h)).trans h
def newNd (id : Int) (fv vv role : Value) : Nd := { id := id, term := 0, vote := -1, commit := 0, tt := 0, tv := -1, tc := 0, ents := .slice none 0 0, first := fv, voters := vv, old := 0, applied := 0, draw := 0, role := role, reads := .slice none 0 0 }
set_option maxRecDepth 100000 in
set_option maxHeartbeats 2000000 in
theorem new_one {w : World} {v : Value} {id : Int} (hv : One w v id) (hid : 0 ≤ id ∧ id < 1073741824) : Calls Try.prog 5 #[iv id, v, .agg #[iv 0, iv (-1), iv 0], .agg #[iv 0, iv 0, .slice none 0 0], .slice none 0 0, .slice none 0 0] w fun e w' => ∃ d f fv vv, e = .returned (.tuple #[ptr d, iv 0]) ∧ Nod w' d (newNd id fv vv (.iface 86 (ptr f))) ∧ w'.ownsRow 0 3 1 vv 1 [iv id] ∧ w'.heap[f]? = some (.cells #[iv 0, iv 10, iv (-1)] 91 (0, 0)) ∧ Below w.heap.size w w' ∧ w.heap.size ≤ d ∧ w.heap.size ≤ f := by
  obtain ⟨W1, hW1⟩ : ∃ W1, W1 = (w.alloc (.cells #[iv 0, iv (-1), iv 0] 30)).alloc (.cells #[iv 0, iv 0, .slice none 0 0] 32) := ⟨_, rfl⟩
  have b0 : Below w.heap.size w (w.alloc (.cells #[iv 0, iv (-1), iv 0] 30)) := (Below.refl _ w).alloc (Nat.le_refl _) _
  have b1 : Below w.heap.size w W1 := by rw [hW1]; exact b0.alloc b0.size _
  have r0 : W1.heap[w.heap.size]? = some (.cells #[iv 0, iv (-1), iv 0] 30 (0, 0)) := by
    rw [hW1]
    exact (Below.heap_alloc _ _ w.heap.size (by simp)).trans (row_alloc w _ 30)
  have r1 : W1.heap[w.heap.size + 1]? = some (.cells #[iv 0, iv 0, .slice none 0 0] 32 (0, 0)) := by
    rw [hW1]
    have := row_alloc (w.alloc (.cells #[iv 0, iv (-1), iv 0] 30)) #[iv 0, iv 0, .slice none 0 0] 32
    simpa using this
  have s1 : W1.heap.size = w.heap.size + 2 := by rw [hW1]; simp
  have HALL : Hid (∀ W, Below W1.heap.size W1 W → One W v id ∧ W.cell? ⟨w.heap.size, 0, none⟩ = some (iv 0) ∧ W.cell? ⟨w.heap.size, 1, none⟩ = some (iv (-1)) ∧ W.cell? ⟨w.heap.size, 2, none⟩ = some (iv 0) ∧ W.cell? ⟨w.heap.size + 1, 0, none⟩ = some (iv 0) ∧ W.cell? ⟨w.heap.size + 1, 1, none⟩ = some (iv 0) ∧ W.cell? ⟨w.heap.size + 1, 2, none⟩ = some (.slice none 0 0)) := fun W hb => by
    have q0 := (hb.block _ (by omega)).trans r0
    have q1 := (hb.block _ (by omega)).trans r1
    exact ⟨(hv.below b1).below hb, cell_of_row _ _ _ _ _ _ q0, cell_of_row _ _ _ _ _ _ q0, cell_of_row _ _ _ _ _ _ q0, cell_of_row _ _ _ _ _ _ q1, cell_of_row _ _ _ _ _ _ q1, cell_of_row _ _ _ _ _ _ q1⟩
  have hi := isId_yes id W1 hid
  have ha := voters_one (HALL.out W1 (Below.refl _ _)).1 hid
  have hh := hard_yes 0 (-1) 0 W1 ⟨by decide, by decide⟩ (by decide) (by decide)
  have hm := fun W => meta_zero W
  have ho := fun W => order_nil 0 0 4611686018427387904 W
  obtain ⟨_, x0, x1, x2, x3, x4, x5⟩ := HALL.out W1 (Below.refl _ _)
  have HB1 := Hid.mkW (And.intro b1 s1)
  have HI := Hid.mkW hid
  clear hv b0 b1 r0 r1 s1 hid
  obtain ⟨H, hH⟩ : ∃ H, H = w.heap.size := ⟨_, rfl⟩
  have HHH := Hid.mkW hH
  go_enter Try.func5, Try.ntmps5
  go_upto_region 1 with fail
  rw [← hW1]
  rw [← hH] at HALL HB1 x0 x1 x2 x3 x4 x5
  rw [← hH]
  clear hW1 hH
  go_upto_region 3 with (first
    | (go_at_call 12; refine hi.mono ?_; rintro e w' ⟨rfl, hw'⟩; obtain rfl := hw'.symm)
    | (go_at_call 13; refine ha.mono ?_; rintro e w' ⟨rfl, hw'⟩; obtain rfl := hw'.symm)
    | (go_at_call 14; refine hh.mono ?_; rintro e w2 ⟨rfl, hb2⟩; obtain ⟨_, y0, y1, y2, y3, y4, y5⟩ := HALL.out w2 hb2)
    | (go_at_call 15; refine (hm _).mono ?_; rintro e w3 ⟨rfl, hb3⟩; have hb13 := hb2.trans (hb3.mono hb2.size); obtain ⟨_, z0, z1, z2, z3, z4, z5⟩ := HALL.out w3 hb13)
    | (go_at_call 16; refine (ho _).mono ?_; rintro e w' ⟨rfl, hw'⟩; obtain rfl := hw'.symm))
  have hb3' := hb13
  have HB3 := Hid.mkW hb13
  have htr := trail_new (w := w3.drew) ((HALL.out w3 hb13).1.below (Below.refl _ _).drew)
  have hS : w3.drew.cell? ⟨H, 0, none⟩ = some (iv 0) ∧ w3.drew.cell? ⟨H, 1, none⟩ = some (iv (-1)) ∧ w3.drew.cell? ⟨H, 2, none⟩ = some (iv 0) ∧ w3.drew.cell? ⟨H + 1, 0, none⟩ = some (iv 0) ∧ w3.drew.cell? ⟨H + 1, 1, none⟩ = some (iv 0) ∧ w3.drew.cell? ⟨H + 1, 2, none⟩ = some (.slice none 0 0) := (HALL.out w3.drew (hb13.drew)).2
  have hSA : ∀ (V : World) (o : Obj), V.cell? ⟨H, 0, none⟩ = some (iv 0) ∧ V.cell? ⟨H, 1, none⟩ = some (iv (-1)) ∧ V.cell? ⟨H, 2, none⟩ = some (iv 0) ∧ V.cell? ⟨H + 1, 0, none⟩ = some (iv 0) ∧ V.cell? ⟨H + 1, 1, none⟩ = some (iv 0) ∧ V.cell? ⟨H + 1, 2, none⟩ = some (.slice none 0 0) → (V.alloc o).cell? ⟨H, 0, none⟩ = some (iv 0) ∧ (V.alloc o).cell? ⟨H, 1, none⟩ = some (iv (-1)) ∧ (V.alloc o).cell? ⟨H, 2, none⟩ = some (iv 0) ∧ (V.alloc o).cell? ⟨H + 1, 0, none⟩ = some (iv 0) ∧ (V.alloc o).cell? ⟨H + 1, 1, none⟩ = some (iv 0) ∧ (V.alloc o).cell? ⟨H + 1, 2, none⟩ = some (.slice none 0 0) := fun V o hV => ⟨cell_alloc hV.1, cell_alloc hV.2.1, cell_alloc hV.2.2.1, cell_alloc hV.2.2.2.1, cell_alloc hV.2.2.2.2.1, cell_alloc hV.2.2.2.2.2⟩
  have HSA := Hid.mkW hSA
  clear hi ha hh hm ho x0 x1 x2 x3 x4 x5 y0 y1 y2 y3 y4 y5 z0 z1 z2 z3 z4 z5 hb2 hb3 hb13 hb3' hSA
  go_region_held_law (fun V => V.cell? ⟨H, 0, none⟩ = some (iv 0) ∧ V.cell? ⟨H, 1, none⟩ = some (iv (-1)) ∧ V.cell? ⟨H, 2, none⟩ = some (iv 0) ∧ V.cell? ⟨H + 1, 0, none⟩ = some (iv 0) ∧ V.cell? ⟨H + 1, 1, none⟩ = some (iv 0) ∧ V.cell? ⟨H + 1, 2, none⟩ = some (.slice none 0 0)) (first | with_reducible assumption | (show _ ∧ _ ∧ _ ∧ _ ∧ _ ∧ _; with_reducible assumption) | go_loud (exact ⟨cell_alloc hS4.1, cell_alloc hS4.2.1, cell_alloc hS4.2.2.1, cell_alloc hS4.2.2.2.1, cell_alloc hS4.2.2.2.2.1, cell_alloc hS4.2.2.2.2.2⟩)) (first
    | (go_at_call 17; (with_reducible refine htr.mono ?_); rintro e w4 ⟨fv, vv, rfl, ho4, hf4, hb4⟩; obtain ⟨fp, fc, hfv⟩ := owns_formB0 hf4; obtain ⟨vp, vc, hvv⟩ := owns_formB0 ho4; subst hfv; subst hvv; have hb4' : Below w3.heap.size w3 w4 := (Below.refl w3.heap.size w3).drew.trans hb4; have H4 := Hid.mkW (And.intro ho4 (HB3.out.trans (hb4'.mono HB3.out.size))); have hS4 := (HALL.out w4 H4.out.2).2; clear ho4 hf4 hb4 hb4'))
  obtain ⟨W5, hW5⟩ : ∃ W5, W5 = w4.alloc (.cells #[iv id, iv 0, iv (-1), iv 0, iv 0, iv (-1), iv 0, iv 0, iv 0, .slice none 0 0, .slice none 0 0, .slice none 0 0, .slice fp 1 fc, .slice vp 1 vc, iv 0, iv 0, iv 0, .nilIface, .bool false, .slice none 0 0, .slice none 0 0] 62) := ⟨_, rfl⟩
  have n5 : Nod W5 w4.heap.size (newNd id (.slice fp 1 fc) (.slice vp 1 vc) .nilIface) := by rw [hW5]; exact row_alloc w4 _ 62
  have b45 : Below w4.heap.size w4 W5 := by rw [hW5]; exact (Below.refl _ _).alloc (Nat.le_refl _) _
  have o5 : W5.ownsRow 0 3 1 (.slice vp 1 vc) 1 [iv id] := by
    have := ownsRow_upd H4.out.1 (Upd.ofBelow (S := fun _ => False) b45) (fun _ _ h => h)
    rcases this.2 with ⟨e, h0⟩ | ⟨g, cap, cur, e, hbg, hh, r⟩
    · cases h0
    · cases e
      exact ⟨this.1, .inr ⟨g, vc, cur, rfl, Nat.zero_le _, hh, r⟩⟩
  rw [← hW5]
  have b15 : Below W1.heap.size W1 W5 := H4.out.2.trans (b45.mono H4.out.2.size)
  have hbg := begin_nil n5 rfl ⟨Int.le_refl _, by show (0 : Int) ≤ 9; decide⟩
  have hlt4 : W1.heap.size ≤ w4.heap.size := H4.out.2.size
  have H5 := Hid.mkW (And.intro n5 (And.intro o5 (And.intro b15 hlt4)))
  obtain ⟨d, hd⟩ : ∃ d, d = w4.heap.size := ⟨_, rfl⟩
  rw [← hd] at hbg H5
  rw [← hd]
  clear hW5 n5 b45 o5 b15 hlt4 hS hS4 htr hd
  go_upto_region 5 with (go_at_call 18; refine hbg.mono ?_; rintro e w6 ⟨rfl, f, n6, r6, u6, hf6⟩)
  have N6 : Nod w6 d (newNd id (.slice fp 1 fc) (.slice vp 1 vc) (.iface 86 (ptr f))) := n6
  have R6 : w6.heap[f]? = some (.cells #[iv 0, iv 10, iv (-1)] 91 (0, 0)) := r6
  obtain ⟨_, o5, b15, hlt4⟩ := H5.out
  have hdf : ¬ d = f := fun e => absurd (row_types (e ▸ N6 : w6.heap[f]? = _) R6) (by decide)
  have hHd : H < W1.heap.size ∧ H + 1 < W1.heap.size ∧ W1.heap.size ≤ d := ⟨by rw [HB1.out.2]; omega, by rw [HB1.out.2]; omega, hlt4⟩
  have HGE : Hid (H ≤ d ∧ H ≤ f) := ⟨by have := hHd.2.2; have := hHd.1; omega, by have := b15.size; have := hHd.1; omega⟩
  have u06 : Upd W1 w6 (fun z => z = d) := (Upd.ofBelow b15).trans u6 (fun _ _ e => e)
  have o6 : w6.ownsRow 0 3 1 (.slice vp 1 vc) 1 [iv id] := ownsRow_upd o5 u6 (fun k hk e => own_block o5 H5.out.1 (by decide) (e ▸ hk))
  have HX : Hid (∀ W, Upd w6 W (fun z => z = d) → W.cell? ⟨H, 0, none⟩ = some (iv 0) ∧ W.cell? ⟨H, 2, none⟩ = some (iv 0) ∧ W.cell? ⟨H + 1, 0, none⟩ = some (iv 0) ∧ W.cell? ⟨H + 1, 1, none⟩ = some (iv 0)) := fun W hu => by
    obtain ⟨_, g0, _, g2, g3, g4, _⟩ := HALL.out W1 (Below.refl _ _)
    have U : Upd W1 W (fun z => z = d) := u06.trans hu (fun _ _ e => e)
    have k1 : ¬ H = d := by have := hHd.1; have := hHd.2.2; omega
    have k2 : ¬ H + 1 = d := by have := hHd.2.1; have := hHd.2.2; omega
    exact ⟨(U.cell (p := ⟨H, 0, none⟩) hHd.1 k1).trans g0, (U.cell (p := ⟨H, 2, none⟩) hHd.1 k1).trans g2, (U.cell (p := ⟨H + 1, 0, none⟩) hHd.2.1 k2).trans g3, (U.cell (p := ⟨H + 1, 1, none⟩) hHd.2.1 k2).trans g4⟩
  have HLAST : Hid (∀ W, Nod W d (newNd id (.slice fp 1 fc) (.slice vp 1 vc) (.iface 86 (ptr f))) → Calls Try.prog 20 #[ptrT d] W fun e w' => e = .returned (iv 0) ∧ ∃ q, w' = W.drewN q) := fun W hn => by
    have := last_draw W d 7 0 none 0 0 (hn.cell 7 rfl) (hn.cell 11 rfl) ⟨by decide, by decide⟩ (by decide)
    exact this
  have HFIN : Hid (∀ W, Nod W d (newNd id (.slice fp 1 fc) (.slice vp 1 vc) (.iface 86 (ptr f))) → Upd w6 W (fun z => z = d) → W.ownsRow 0 3 1 (.slice vp 1 vc) 1 [iv id] ∧ W.heap[f]? = some (.cells #[iv 0, iv 10, iv (-1)] 91 (0, 0)) ∧ Below H w W) := fun W hn hu => by
    refine ⟨ownsRow_upd o6 hu (fun k hk e => own_block o6 N6 (by decide) (e ▸ hk)), (hu.block f (Array.getElem?_eq_some_iff.1 R6).1 (fun e => hdf e.symm)).trans R6, HB1.out.1.trans ((u06.trans hu (fun _ _ e => e)).below ?_ ?_)⟩
    · have := HB1.out.2; omega
    · intro k hk e
      have := HB1.out.1.size
      have := hHd.2.2
      omega
  have hl6 := HLAST.out w6.drew N6
  have htz := fun W => term_zero W (ptrT d)
  have HTZ := Hid.mkW htz
  have hmx : ∀ ty W, (Builtin.max_ #[3, 3, 3] ty #[iv 0, iv 0, iv 0]).run Try.prog W = .ok (iv 0) W := fun ty W => by kernel_rfl
  have hmx2 : ∀ ty W, (Builtin.max_ #[3, 3] ty #[iv 0, iv 0]).run Try.prog W = .ok (iv 0) W := fun ty W => by kernel_rfl
  have hmn2 : ∀ ty W, (Builtin.min_ #[3, 3] ty #[iv 0, iv 0]).run Try.prog W = .ok (iv 0) W := fun ty W => by kernel_rfl
  have hS6 : w6.drew.cell? ⟨H, 0, none⟩ = some (iv 0) ∧ w6.drew.cell? ⟨H, 2, none⟩ = some (iv 0) ∧ w6.drew.cell? ⟨H + 1, 0, none⟩ = some (iv 0) ∧ w6.drew.cell? ⟨H + 1, 1, none⟩ = some (iv 0) := HX.out w6.drew (Upd.ofBelow (below_drewF 1 w6))
  have H6 := Hid.mkW N6
  clear n6 r6 u6 hf6 N6 R6 o5 b15 hlt4 hdf hHd u06 o6 htz hbg
  go_region_held_law (fun V => V.cell? ⟨H, 0, none⟩ = some (iv 0) ∧ V.cell? ⟨H, 2, none⟩ = some (iv 0) ∧ V.cell? ⟨H + 1, 0, none⟩ = some (iv 0) ∧ V.cell? ⟨H + 1, 1, none⟩ = some (iv 0)) (first | with_reducible assumption | (show _ ∧ _ ∧ _ ∧ _; with_reducible assumption) | go_loud (exact HX.out _ (HU7.out.setCell (p := ⟨d, 1, none⟩) (.inr rfl) _))) (first
    | (go_at_call 20; (with_reducible refine hl6.mono ?_); rintro e w7 ⟨rfl, q, e7⟩; have hu7 : Upd w6 w7 (fun z => z = d) := (by rw [e7]; exact ⟨rfl, rfl, rfl, Nat.le_refl _, fun _ _ _ => rfl⟩); have N7 : Nod w7 d (newNd id (.slice fp 1 fc) (.slice vp 1 vc) (.iface 86 (ptr f))) := (by rw [e7]; exact H6.out); have c1 : w7.cell? ⟨d, 1, none⟩ = some (iv 0) := N7.cell 1 rfl; have f1 := N7.free 1; have hS7 := HX.out w7 hu7; have H7 := Hid.mkW N7; have HU7 := Hid.mkW hu7; have htz7 := HTZ.out w7; clear N7 e7 hu7)
    | (go_at_call 19; (with_reducible refine htz7.mono ?_); rintro e w' ⟨rfl, hw'⟩; obtain rfl := hw'.symm))
  have N8 : Nod (w7.setCell ⟨d, 1, none⟩ (iv 0)) d (newNd id (.slice fp 1 fc) (.slice vp 1 vc) (.iface 86 (ptr f))) := H7.out.set 1 _ rfl
  have u8 : Upd w6 (w7.setCell ⟨d, 1, none⟩ (iv 0)) (fun z => z = d) := HU7.out.setCell (p := ⟨d, 1, none⟩) (.inr rfl) _
  obtain ⟨W8, hW8⟩ : ∃ W8, W8 = w7.setCell ⟨d, 1, none⟩ (iv 0) := ⟨_, rfl⟩
  rw [← hW8] at N8 u8
  rw [← hW8]
  clear hS6 hS7 c1 f1 htz7 H7 HU7 hW8 hl6 H6 HTZ
  have c1 : W8.cell? ⟨d, 1, none⟩ = some (iv 0) := N8.cell 1 rfl
  obtain ⟨g0, _, _, _⟩ := HX.out W8 u8
  go_upto_region 6 with fail
  go_quiet (fail)
  obtain ⟨W9, hW9⟩ : ∃ W9, W9 = W8.drewN nq := ⟨_, rfl⟩
  have N9 : Nod W9 d (newNd id (.slice fp 1 fc) (.slice vp 1 vc) (.iface 86 (ptr f))) := by rw [hW9]; exact N8
  have u9 : Upd w6 W9 (fun z => z = d) := by rw [hW9]; exact u8.trans (Upd.ofBelow (S := fun _ => False) (below_drewF nq W8)) (fun _ _ e => e.elim)
  rw [← hW9]
  clear hW9 N8 u8 c1 g0
  have hS9 : W9.drew.cell? ⟨H, 0, none⟩ = some (iv 0) ∧ W9.drew.cell? ⟨H, 2, none⟩ = some (iv 0) ∧ W9.drew.cell? ⟨H + 1, 0, none⟩ = some (iv 0) ∧ W9.drew.cell? ⟨H + 1, 1, none⟩ = some (iv 0) := HX.out W9.drew (u9.trans (Upd.ofBelow (S := fun _ => False) (below_drewF 1 W9)) (fun _ _ e => e.elim))
  have hl9 := HLAST.out W9.drew N9
  have H9 := Hid.mkW (And.intro N9 u9)
  clear N9 u9
  go_upto_region 8 with fail
  go_region_held_law (fun V => V.cell? ⟨H, 0, none⟩ = some (iv 0) ∧ V.cell? ⟨H, 2, none⟩ = some (iv 0) ∧ V.cell? ⟨H + 1, 0, none⟩ = some (iv 0) ∧ V.cell? ⟨H + 1, 1, none⟩ = some (iv 0)) (first | with_reducible assumption | (show _ ∧ _ ∧ _ ∧ _; with_reducible assumption) | go_loud (exact HX.out _ (HU10.out.setCell (p := ⟨d, 3, none⟩) (.inr rfl) _))) (first
    | (go_at_call 20; (with_reducible refine hl9.mono ?_); rintro e w10 ⟨rfl, q, e10⟩; have hu10 : Upd w6 w10 (fun z => z = d) := (by rw [e10]; exact H9.out.2.trans (S := fun z => z = d) (T := fun _ => False) ⟨rfl, rfl, rfl, Nat.le_refl _, fun _ _ _ => rfl⟩ (fun _ _ e => e.elim)); have N10 : Nod w10 d (newNd id (.slice fp 1 fc) (.slice vp 1 vc) (.iface 86 (ptr f))) := (by rw [e10]; exact H9.out.1); have c3 : w10.cell? ⟨d, 3, none⟩ = some (iv 0) := N10.cell 3 rfl; have f3 := N10.free 3; have hS10 := HX.out w10 hu10; have H10 := Hid.mkW N10; have HU10 := Hid.mkW hu10; clear N10 e10 hu10))
  all_goals
    go_wp2
    go_ret2
    obtain ⟨a1, a2, a3⟩ := HFIN.out (w10.setCell ⟨d, 3, none⟩ (iv 0)) (H10.out.set 3 _ rfl) (HU10.out.setCell (p := ⟨d, 3, none⟩) (.inr rfl) _)
    exact ⟨d, f, .slice fp 1 fc, .slice vp 1 vc, rfl, H10.out.set 3 _ rfl, a1, a2, HHH.out ▸ a3, HHH.out ▸ HGE.out⟩
end Go.Proofs.Ytfhdenobldkaiaa
