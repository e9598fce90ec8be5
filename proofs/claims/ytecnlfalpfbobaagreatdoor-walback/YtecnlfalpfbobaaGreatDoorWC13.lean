/- What copied does: the same state in memory of its own. -/
import Derived.Test.YtecnlfalpfbobaaGreatDoorWC12
namespace Go.Proofs.YtecnlfalpfbobaaGreatDoor
open Go Go.RowKit
theorem row_cells {w : World} {g : Nat} {cs : Array Value} {t : TypeId} (h : w.heap[g]? = some (.cells cs t (0, 0))) (j : Nat) : w.cell? ⟨g, j, none⟩ = cs[j]? := cell_of_row w g j cs t (0, 0) h
theorem map_set_same : ∀ (ys : List Ev) (k : Nat) (h : k < ys.length) (u : Value), (ys.set k ⟨ys[k].e, u⟩).map Ev.e = ys.map Ev.e
  | [], k, h, _ => by simp at h
  | y :: r, 0, _, u => rfl
  | y :: r, k + 1, h, u => by
    have := map_set_same r k (by simpa using h) u
    simp only [List.set_cons_succ, List.map_cons, List.getElem_cons_succ]
    rw [this]
set_option maxRecDepth 100000 in
set_option maxHeartbeats 4000000 in
theorem copied_any (B b o : Nat) (s : Sm) (ev : Value) (w : World) (h : Smem B w b o s ev) :
    Calls Tryz.prog 70 #[.pointer (some ⟨b, o, none⟩)] w fun e w' => ∃ vv' ev' xs, e = .returned (.agg #[.int .i64 s.ht, .int .i64 s.hv, .int .i64 s.hc, .int .i64 s.mi, .int .i64 s.mt, vv', ev']) ∧ SeesI w' vv' s.vs.vs ∧ RowO w' w.heap.size 60 4 ev' xs.length (rowOf xs) ∧ (∀ x ∈ xs, EvOk w' x) ∧ xs.map Ev.e = s.es.map Ev.e ∧ (∀ j, vv'.ownBlock = some j → w.heap.size ≤ j) ∧ (∀ x ∈ xs, EvAway (fun j => j < w.heap.size) x) ∧ Below w.heap.size w w' := by
  obtain ⟨ao, cp, rfl, hcp, hcm⟩ := h.rest.row.form
  obtain ⟨vo, vc, hvv⟩ := h.rest.vot.sees.form
  have HM := Hid.mk' h
  have hbl := h.cells.lt
  have c0 := h.cells.c0; have c1 := h.cells.c1; have c2 := h.cells.c2; have c3 := h.cells.c3; have c4 := h.cells.c4; have c5 := h.cells.c5; have c6 := h.cells.c6
  rw [hvv] at c5
  have HVV := Hid.mk' hvv
  have hfew := h.rest.few
  have hci := fun (w' : World) (hb : Below w.heap.size w w') => cloneI_any _ s.vs.vs w' ((h.below hb).rest.vot.sees) (by have := h.rest.vot.len; omega)
  have hoe := fun (w' : World) (hb : Below w.heap.size w w') => ownEntries_any _ s.es w' ⟨B, (h.below hb).rest.row⟩ (h.below hb).rest.ents hfew
  rw [hvv] at hci
  generalize hn : s.es.length = n at *
  have HN := Hid.mk' hn
  clear h hn hvv
  obtain ⟨W2, hW2⟩ : ∃ W2, W2 = (w.alloc (.cells #[.int .i64 0, .int .i64 0, .int .i64 0, .int .i64 0, .int .i64 0, .slice none 0 0, .slice none 0 0] 40)).alloc (.cells #[.int .i64 s.ht, .int .i64 s.hv, .int .i64 s.hc, .int .i64 s.mi, .int .i64 s.mt, .slice vo s.vs.vs.length vc, .slice ao n cp] 40) := ⟨_, rfl⟩
  have HB2 : Hid (Below w.heap.size w W2) := by rw [hW2]; exact ((Below.refl _ _).alloc (Nat.le_refl _) _).alloc (by simp) _
  have hs2 : W2.heap.size = w.heap.size + 2 := by rw [hW2]; simp
  have hR2 : W2.heap[w.heap.size]? = some (.cells #[.int .i64 0, .int .i64 0, .int .i64 0, .int .i64 0, .int .i64 0, .slice none 0 0, .slice none 0 0] 40 (0, 0)) := by rw [hW2]; exact (((Below.refl _ (w.alloc _)).alloc (Nat.le_refl _) _).block w.heap.size (by simp)).trans (heap_alloc_new w _)
  have hC2 : W2.heap[w.heap.size + 1]? = some (.cells #[.int .i64 s.ht, .int .i64 s.hv, .int .i64 s.hc, .int .i64 s.mi, .int .i64 s.mt, .slice vo s.vs.vs.length vc, .slice ao n cp] 40 (0, 0)) := by
    have := heap_alloc2_new w (.cells #[.int .i64 0, .int .i64 0, .int .i64 0, .int .i64 0, .int .i64 0, .slice none 0 0, .slice none 0 0] 40) (.cells #[.int .i64 s.ht, .int .i64 s.hv, .int .i64 s.hc, .int .i64 s.mi, .int .i64 s.mt, .slice vo s.vs.vs.length vc, .slice ao n cp] 40)
    rw [hW2]; exact this
  have hci := hci _ HB2.out
  go_enter Tryz.func70, Tryz.ntmps70
  go_wp2_with fail
  rw [← hW2]
  refine hci.mono ?_
  rintro e w1 ⟨v1, rfl, hs1, hn1, hb1⟩
  obtain ⟨vo1, vc1, rfl⟩ := hs1.form
  have HB1 : Hid (Below w.heap.size w w1) := HB2.out.trans (hb1.mono HB2.out.size)
  have hsz1 := hb1.size
  have hR1 := (hb1.block w.heap.size (by omega)).trans hR2
  have hC1 := (hb1.block (w.heap.size + 1) (by omega)).trans hC2
  have k5 := row_cells hC1 5
  have l5 := frozen_of_row w1 (w.heap.size + 1) 5 _ 40 hC1
  simp only [List.getElem?_toArray, List.getElem?_cons_zero, List.getElem?_cons_succ] at k5
  obtain ⟨w3, hw3⟩ : ∃ w3, w3 = w1.setCell ⟨w.heap.size + 1, 5, none⟩ (.slice vo1 s.vs.vs.length vc1) := ⟨_, rfl⟩
  have HU3 : Hid (Upd w1 w3 (fun j => j = w.heap.size + 1)) := by rw [hw3]; exact upd_cell _ _ _ _
  have HB3 : Hid (Below w.heap.size w w3) := HB1.out.trans (HU3.out.below HB1.out.size (fun j hj e => by omega))
  have hsz3 := HU3.out.size
  have hR3 := (HU3.out.block w.heap.size (by omega) (by omega)).trans hR1
  have hC3 : w3.heap[w.heap.size + 1]? = some (.cells #[.int .i64 s.ht, .int .i64 s.hv, .int .i64 s.hc, .int .i64 s.mi, .int .i64 s.mt, .slice vo1 s.vs.vs.length vc1, .slice ao n cp] 40 (0, 0)) := by rw [hw3]; exact heap_setCell_row hC1 5 _
  have HS1 : Hid (SeesI w3 (.slice vo1 s.vs.vs.length vc1) s.vs.vs) := hs1.upd HU3.out (fun j hj _ e => by have := hn1 j hj; omega)
  have d6 := (HB3.out.cell (p := ⟨b, o + 6, none⟩) hbl).trans c6
  rw [hw3] at d6
  have e6 := (HB1.out.cell (p := ⟨b, o + 6, none⟩) hbl).trans c6
  have hneb : b ≠ w.heap.size + 1 := by omega
  have hoe := hoe _ HB3.out
  have HN1 := Hid.mk' hn1
  clear hs1 hn1 hb1 hR1 hC1 hR2 hC2 hci c0 c1 c2 c3 c4 c5 c6
  go_wp2_with fail
  rw [← hw3]
  refine hoe.mono ?_
  rintro e w4 ⟨v4, rfl, hr4, hb4⟩
  obtain ⟨ao4, cp4, rfl, _, _⟩ := hr4.form
  have hsz4 := hb4.size
  have hR4 := (hb4.block w.heap.size (by omega)).trans hR3
  have hC4 := (hb4.block (w.heap.size + 1) (by omega)).trans hC3
  have k6 := row_cells hC4 6
  have l6 := frozen_of_row w4 (w.heap.size + 1) 6 _ 40 hC4
  simp only [List.getElem?_toArray, List.getElem?_cons_zero, List.getElem?_cons_succ] at k6
  obtain ⟨w5, hw5⟩ : ∃ w5, w5 = w4.setCell ⟨w.heap.size + 1, 6, none⟩ (.slice ao4 n cp4) := ⟨_, rfl⟩
  have HU5 : Hid (Upd w4 w5 (fun j => j = w.heap.size + 1)) := by rw [hw5]; exact upd_cell _ _ _ _
  have HB4 : Hid (Below w.heap.size w w4) := HB3.out.trans (hb4.mono HB3.out.size)
  have HB5 : Hid (Below w.heap.size w w5) := HB4.out.trans (HU5.out.below HB4.out.size (fun j hj e => by omega))
  have hsz5 := HU5.out.size
  have hR5 := (HU5.out.block w.heap.size (by omega) (by omega)).trans hR4
  have hC5 : w5.heap[w.heap.size + 1]? = some (.cells #[.int .i64 s.ht, .int .i64 s.hv, .int .i64 s.hc, .int .i64 s.mi, .int .i64 s.mt, .slice vo1 s.vs.vs.length vc1, .slice ao4 n cp4] 40 (0, 0)) := by rw [hw5]; exact heap_setCell_row hC4 6 _
  have HS5 : Hid (SeesI w5 (.slice vo1 s.vs.vs.length vc1) s.vs.vs) := (HS1.out.upd (Upd.ofBelow hb4 : Upd w3 w4 (fun _ => False)) (fun _ _ _ => id)).upd HU5.out (fun j hj _ e => by have := HN1.out j hj; omega)
  have HR5 : Hid (RowO w5 w3.heap.size 60 4 (.slice ao4 n cp4) n (rowOf s.es)) := hr4.upd HU5.out (fun j hj e => by have := (hr4.lt hj).1; omega)
  have HE5 : Hid (∀ x ∈ s.es, EvOk w5 x) := fun x hx => ((HM.out.below HB4.out).rest.ents x hx).upd HU5.out (fun j hj h0 e => by have := (HM.out.rest.ents x hx).lt hj h0; omega)
  have HRR := Hid.mk' hR5
  have HCC := Hid.mk' hC5
  have kk6 := row_cells hC5 6
  simp only [List.getElem?_toArray, List.getElem?_cons_zero, List.getElem?_cons_succ] at kk6
  clear hR3 hC3 hR4 hC4 hr4 hb4 hoe d6 hR5 hC5
  go_wp2_with fail
  rw [← hw5]
  clear hw5 hw3 hW2 k5 l5 k6 l6
  go_loopg [25] n (fun kx s25 wr => ∃ (k : Nat) (ys : List Ev), s25 = .int .i64 k ∧ k ≤ n ∧ n - k ≤ kx ∧ Hid (RowO wr w3.heap.size 60 4 (.slice ao4 n cp4) n (rowOf ys)) ∧ Hid (ys.length = n ∧ ys.map Ev.e = s.es.map Ev.e ∧ ∀ y ∈ ys, EvOk wr y ∧ EvAway (fun j => some j = (Value.slice ao4 n cp4).ownBlock ∨ j = w.heap.size) y) ∧ Hid (∀ i (h : i < ys.length), i < k → EvAway (fun j => j < w.heap.size) ys[i]) ∧ Hid (Upd w5 wr (fun j => some j = (Value.slice ao4 n cp4).ownBlock)))
  case atStart => exact ⟨0, s.es, rfl, Nat.zero_le _, by omega, HR5, Hid.mk' ⟨HN.out, rfl, fun y hy => ⟨HE5.out y hy, fun j hj h0 e => by have h4 := (HM.out.rest.ents y hy).lt hj h0; rcases e with e | e; have h5 := (HR5.out.lt e.symm).1; omega; omega⟩⟩, Hid.mk' (fun i _ h => by omega), Hid.mk' (Upd.refl _ _)⟩
  case round =>
    obtain ⟨k, ys, rfl, hk, hkx, HR, HY, HYN, HU⟩ := hrel
    have hCr : wr.heap[w.heap.size + 1]? = _ := (HU.out.block (w.heap.size + 1) (by omega) (fun e => by have := (HR5.out.lt e.symm).1; omega)).trans HCC.out
    have hRr : wr.heap[w.heap.size]? = _ := (HU.out.block w.heap.size (by omega) (fun e => by have := (HR5.out.lt e.symm).1; omega)).trans HRR.out
    have m0 := row_cells hCr 0; have m1 := row_cells hCr 1; have m2 := row_cells hCr 2; have m3 := row_cells hCr 3; have m4 := row_cells hCr 4; have m5 := row_cells hCr 5; have m6 := row_cells hCr 6
    simp only [List.getElem?_toArray, List.getElem?_cons_zero, List.getElem?_cons_succ] at m0 m1 m2 m3 m4 m5 m6
    by_cases hlt : k < n
    · obtain ⟨g, off, hgo⟩ : ∃ g off, ao4 = some ⟨g, off, none⟩ := by
        rcases HR.out.2 with ⟨h', h0⟩ | ⟨g, off, cap, cur, h', _⟩
        · omega
        · simp only [Value.slice.injEq, true_and] at h'
          exact ⟨g, off, h'.1⟩
      subst hgo
      have hky : k < ys.length := by rw [HY.out.1]; exact hlt
      obtain ⟨e0, e1, e2, e3⟩ := HR.out.entry k hky
      have f3 := HR.out.free (off + k * 4 + 3)
      have hyo := HY.out.2.2 _ (List.getElem_mem hky)
      have HSET := Hid.mk' (fun u => rowOf_set ys k hky u)
      have HMS : Hid (∀ u, (ys.map Ev.e).set k (Ev.e ⟨ys[k].e, u⟩) = ys.map Ev.e) := fun u => by rw [← List.map_set]; exact map_set_same ys k hky u
      generalize ys[k] = y at *
      obtain ⟨yo, yc, hyv⟩ := hyo.1.sees.form
      have hcl := clone_any y.v y.e.d wr.drew (hyo.1.sees.below ((Below.refl _ _).drew)) (by have := hyo.1.len; omega)
      rw [hyv] at e3 hcl
      have HYO := Hid.mk' hyo
      have HGL : Hid (g < wr.heap.size) := (HR.out.lt rfl).2
      clear hyv hyo
      go_wp2_with fail
      go_region_with (go_at_call 80; refine hcl.mono ?_; rintro e w7 ⟨v7, rfl, ho7, hb7⟩; have hs7 := sees_own ho7; have HN7 : Hid (∀ j, v7.ownBlock = some j → wr.heap.size ≤ j) := (fun j hj => (ho7.lt j hj).1); obtain ⟨a7, c7, rfl⟩ := owns_form ho7; have e37 := (hb7.cell (p := ⟨g, off + k * 4 + 3, none⟩) HGL.out).trans e3; have f37 := (hb7.frozen (p := ⟨g, off + k * 4 + 3, none⟩) HGL.out).trans f3; have m67 := (hb7.cell (p := ⟨w.heap.size + 1, 6, none⟩) (by have := HU.out.size; show w.heap.size + 1 < wr.heap.size; omega)).trans m6)
      all_goals (
        go_wp2_with fail
        go_roundg (n - (k + 1))
        case measure => omega
        case rel =>
          have hb7' : Below wr.heap.size wr w7 := ((Below.refl _ wr).drew).trans hb7
          have hr7 := (HR.out.upd (Upd.ofBelow hb7' : Upd wr w7 (fun _ => False)) (fun _ _ => id)).setAt (k * 4 + 3) (by omega) (.slice a7 y.e.d.length c7)
          rw [HSET.out, ← Nat.add_assoc] at hr7
          have hu7 : Upd wr (w7.setCell ⟨g, off + k * 4 + 3, none⟩ (.slice a7 y.e.d.length c7)) (fun j => some j = (Value.slice (some (⟨g, off, none⟩ : Addr)) n cp4).ownBlock) := (Upd.ofBelow hb7' : Upd wr w7 (fun j => some j = (Value.slice (some (⟨g, off, none⟩ : Addr)) n cp4).ownBlock)).setCell (p := ⟨g, off + k * 4 + 3, none⟩) (.inr rfl) _
          have hnew : EvOk (w7.setCell ⟨g, off + k * 4 + 3, none⟩ (.slice a7 y.e.d.length c7)) ⟨y.e, .slice a7 y.e.d.length c7⟩ ∧ EvAway (fun j => some j = (Value.slice (some (⟨g, off, none⟩ : Addr)) n cp4).ownBlock ∨ j = w.heap.size) ⟨y.e, .slice a7 y.e.d.length c7⟩ := by
            refine ⟨⟨hs7.upd (upd_cell _ _ _ _) (fun j hj _ e => by have h4 := HN7.out j hj; have h5 := HGL.out; omega), HYO.out.1.isb, HYO.out.1.len⟩, fun j hj _ e => by have h4 := HN7.out j hj; have h5 := HGL.out; have h7 := HU.out.size; rcases e with e | e; have h6 := Option.some.inj (show some j = some g from e); omega; omega⟩
          refine ⟨k + 1, ys.set k ⟨y.e, .slice a7 y.e.d.length c7⟩, rfl, by omega, by omega, Hid.mk' hr7, Hid.mk' ⟨by rw [List.length_set]; exact HY.out.1, ?_, fun x hx => ?_⟩, Hid.mk' (fun i hi hik => ?_), Hid.mk' (HU.out.trans hu7 (fun _ _ h => h))⟩
          · rw [List.map_set, ← HY.out.2.1]
            exact HMS.out (.slice a7 y.e.d.length c7)
          · rcases List.mem_or_eq_of_mem_set hx with hx | rfl
            · exact ⟨(HY.out.2.2 x hx).1.upd hu7 ((HY.out.2.2 x hx).2.mono (fun j hj => .inl hj)), (HY.out.2.2 x hx).2⟩
            · exact hnew
          · by_cases hke : k = i
            · subst hke
              rw [List.getElem_set_self]
              exact fun j hj _ e => by have h4 := HN7.out j hj; have h5 := HU.out.size; have h6 : j < w.heap.size := e; omega
            · rw [List.getElem_set_ne hke]
              exact HYN.out i (by simpa using hi) (by omega))
    · obtain rfl : k = n := by omega
      have n0 := row_cells hRr 0; have n1 := row_cells hRr 1; have n2 := row_cells hRr 2; have n3 := row_cells hRr 3; have n4 := row_cells hRr 4; have n5 := row_cells hRr 5; have n6 := row_cells hRr 6
      simp only [List.getElem?_toArray, List.getElem?_cons_zero, List.getElem?_cons_succ] at n0 n1 n2 n3 n4 n5 n6
      have p0 := frozen_of_row wr w.heap.size 0 _ 40 hRr; have p1 := frozen_of_row wr w.heap.size 1 _ 40 hRr; have p2 := frozen_of_row wr w.heap.size 2 _ 40 hRr; have p3 := frozen_of_row wr w.heap.size 3 _ 40 hRr; have p4 := frozen_of_row wr w.heap.size 4 _ 40 hRr; have p5 := frozen_of_row wr w.heap.size 5 _ 40 hRr; have p6 := frozen_of_row wr w.heap.size 6 _ 40 hRr
      have q7 := heap_setCell_row (heap_setCell_row (heap_setCell_row (heap_setCell_row (heap_setCell_row (heap_setCell_row (heap_setCell_row hRr 0 (.int .i64 s.ht)) 1 (.int .i64 s.hv)) 2 (.int .i64 s.hc)) 3 (.int .i64 s.mi)) 4 (.int .i64 s.mt)) 5 (.slice vo1 s.vs.vs.length vc1)) 6 (.slice ao4 k cp4)
      have HQ7 := Hid.mk' q7
      clear q7
      go_wp2
      refine bodyPost_ret (results_cell_row rfl _ _ w.heap.size 40 #[.int .i64 s.ht, .int .i64 s.hv, .int .i64 s.hc, .int .i64 s.mi, .int .i64 s.mt, .slice vo1 s.vs.vs.length vc1, .slice ao4 k cp4] (0, 0) _ rfl HQ7.out Tryz.underlying40 rfl info40) rfl ?_
      have hUF : Upd wr _ (fun j => j = w.heap.size) := (((((((Upd.refl wr (fun j => j = w.heap.size)).setCell (p := ⟨w.heap.size, 0, none⟩) (.inr rfl) (.int .i64 s.ht)).setCell (p := ⟨w.heap.size, 1, none⟩) (.inr rfl) (.int .i64 s.hv)).setCell (p := ⟨w.heap.size, 2, none⟩) (.inr rfl) (.int .i64 s.hc)).setCell (p := ⟨w.heap.size, 3, none⟩) (.inr rfl) (.int .i64 s.mi)).setCell (p := ⟨w.heap.size, 4, none⟩) (.inr rfl) (.int .i64 s.mt)).setCell (p := ⟨w.heap.size, 5, none⟩) (.inr rfl) (.slice vo1 s.vs.vs.length vc1)).setCell (p := ⟨w.heap.size, 6, none⟩) (.inr rfl) (.slice ao4 k cp4)
      have hyl := HY.out.1
      refine ⟨_, _, ys, rfl, ?_, ?_, fun x hx => ?_, HY.out.2.1, fun j hj => by have := HN1.out j hj; omega, fun x hx => by obtain ⟨i, hi, rfl⟩ := List.getElem_of_mem hx; exact HYN.out i hi (by omega), ?_⟩
      · refine (HS5.out.upd HU.out (fun j hj h9 e => ?_)).upd hUF (fun j hj _ e => by have := HN1.out j hj; omega)
        have h4 := (HR5.out.lt e.symm).1
        rcases HS1.out with ⟨h0, _⟩ | ⟨b', off', cap', h', _, hlt', _⟩
        · rw [h0] at h9; simp at h9
        · rw [h'] at hj; simp only [Value.ownBlock, Option.some.injEq] at hj; omega
      · rw [hyl]
        have := HR.out.upd hUF (fun j hj e => by have := (HR.out.lt hj).1; omega)
        obtain ⟨g1, g2⟩ := this
        refine ⟨g1, ?_⟩
        rcases g2 with g2 | ⟨g, off, cap, cur, g3, g4, g5⟩
        · exact .inl g2
        · exact .inr ⟨g, off, cap, cur, g3, by omega, g5⟩
      · exact (HY.out.2.2 x hx).1.upd hUF ((HY.out.2.2 x hx).2.mono (fun j hj => .inr hj))
      · refine HB5.out.trans ((HU.out.below (by have := HB5.out.size; omega) (fun j hj e => by have := (HR5.out.lt e.symm).1; omega)).trans (hUF.below (by have := HU.out.size; have := HB5.out.size; omega) (fun j hj e => by omega)))
end Go.Proofs.YtecnlfalpfbobaaGreatDoor
