/- The document's Note where the client has a row already: its walk. -/
import Derived.Test.YtcghaepjklmggaaRR3
namespace Go.Proofs.Ytcghaepjklmggaa
open Go Go.RowKit
variable {Y : Nat → Prop} {B x : Nat} {v : Value} {L : List Ro} {g : Int → Value}
set_option maxRecDepth 20000 in
set_option maxHeartbeats 1000000 in
theorem rnote_there (c s : Int) (rp : Rp) (rs : List Rs) (u : Value) (w : World) (h : Rt Y B w x v L g) (few : L.length ≤ 64) (hup : upL L) (hu : RSs Y w u rs) (hYx : ∀ k, Y k → k ≠ x) (c0 : c ≠ 0) {i : Nat} {r : Ro} (hi : L[i]? = some r) (hri : r.id = c) :
    Calls Try.prog 12 #[ptr x, .int .i64 c, .int .i64 s, repV rp u] w fun e w' => e = .returned (.tuple #[]) ∧ RtPost Y B w w' x (insL ⟨c, s, rp, rs⟩ (delL c L)) := by
  have hset : insL ⟨c, s, rp, rs⟩ (delL c L) = L.set i ⟨c, s, rp, rs⟩ := ins_set (f := ⟨c, s, rp, rs⟩) hup hi hri
  rw [hset]
  obtain ⟨W0, hW0⟩ : ∃ W0, W0 = w.alloc (.cells #[.int .i64 rp.err, .int .i64 rp.rev, .bool rp.thn, u, .int .i64 rp.tim] 33) := ⟨_, rfl⟩
  have hb0 : Below w.heap.size w W0 := by rw [hW0]; exact (Below.refl _ _).alloc (Nat.le_refl _) _
  have k0 : W0.heap[w.heap.size]? = some (.cells #[.int .i64 rp.err, .int .i64 rp.rev, .bool rp.thn, u, .int .i64 rp.tim] 33 (0, 0)) := by rw [hW0]; exact heap_alloc_new w _
  have hT0 := h.below hb0
  have hat := rat_any c W0 hT0 few
  obtain ⟨bx, hbx⟩ : ∃ bx, bx = w.heap.size := ⟨_, rfl⟩
  have hbl : bx < W0.heap.size := by rw [hbx]; exact (Array.getElem?_eq_some_iff.1 k0).1
  have HU := Hid.mk'' hu
  obtain ⟨up, uc, rfl, _⟩ := hu
  obtain ⟨p, cc, rfl, hcc⟩ := h.form
  have hil : i < L.length := (List.getElem?_eq_some_iff.1 hi).1
  have HI : Hid (∀ k, AtIs L c k → k = i) := fun k hk => by
    rcases hk with ⟨_, hn⟩ | ⟨j, l, e, hj, hl⟩
    · exact absurd hri (look_none hn r (List.mem_of_getElem? hi))
    · rw [e]
      congr 1
      have e2 := up_inj hup (List.mem_of_getElem? hj) (List.mem_of_getElem? hi) (hl.trans hri.symm)
      have hj' := (List.getElem?_eq_some_iff.1 hj)
      have hi' := (List.getElem?_eq_some_iff.1 hi)
      obtain ⟨a1, a2⟩ := hj'
      obtain ⟨b1, b2⟩ := hi'
      rcases Nat.lt_trichotomy j i with hlt | he | hgt
      · have := List.pairwise_iff_getElem.1 hup j i a1 b1 hlt
        rw [a2, b2, e2] at this; omega
      · exact he
      · have := List.pairwise_iff_getElem.1 hup i j b1 a1 hgt
        rw [a2, b2, e2] at this; omega
  obtain ⟨t3, hti, hz0, hz1, hz2⟩ := info_of info44
  have q0 := hT0.c0
  have f0 := hT0.f0
  have hxl := h.lt
  have hxl0 := hT0.lt
  obtain ⟨W1, hW1⟩ : ∃ W1, W1 = W0.alloc (.cells #[] 44) := ⟨_, rfl⟩
  have hb1 : Below W0.heap.size W0 W1 := by rw [hW1]; exact (Below.refl _ _).alloc (Nat.le_refl _) _
  have hown : W1.ownsRow W0.heap.size 44 7 (.slice (some ⟨W0.heap.size, 0, none⟩) 0 0) 0 [] := by rw [hW1]; exact World.ownsRow_lit (size := 7) (e := 44) W0 #[] 0 (Nat.le_refl _) (by decide) rfl
  have hsrc := src_rows (hT0.below hb1).row (hT0.below hb1).res
  have q1 := (hT0.below hb1).c0
  have HS0 : Hid (w.heap.size < W0.heap.size) := by rw [← hbx]; exact hbl
  go_enter Try.func12, Try.ntmps12
  go_upto_region 1 with fail
  rw [← hW0]
  rw [← hbx] at k0 ⊢
  have HBX := Hid.mk'' hbx
  have HB0 := Hid.mk'' hb0
  have HT := Hid.mk'' h
  have HT0 := Hid.mk'' hT0
  have HSET := Hid.mk'' hset
  have HI0 := Hid.mk'' hi
  have HRI := Hid.mk'' hri
  have HW1 := Hid.mk'' hW1
  have HB1 := Hid.mk'' hb1
  have hsz1 := hb1.size
  clear hW0 hbx hb0 h hT0 hset hi hri hW1 hb1
  go_upto_region 4 with (go_at_call 16; refine hat.mono ?_; rintro e w1 ⟨k, rfl, hk, hw1⟩; obtain rfl := hw1.symm; obtain rfl := HI.out k hk; clear hk hat)
  go_upto_region 5 with (at_builtin; rw [← HW1.out]; refine wpList_appS _ rfl (.tmp 18) (.tmp 22) 27 27 rfl W0.heap.size 44 t3 _ 7 Try.underlying27 hti hz0 hz1 rfl (by rw [hz2]; decide) (.slice (some ⟨W0.heap.size, 0, none⟩) 0 0) 0 [] rfl hown _ rfl L.length (roC g L) hsrc (by omega) hsz1 ?_; intro v' w' q2 q3 q4 q5
                         have hb2 : Below W0.heap.size W0 w' := HB1.out.trans (q3.below HB1.out.size (fun k hk e => by have := Option.some.inj (show some k = some W0.heap.size from e); omega))
                         have c2 := (hb2.cell (p := ⟨x, 0, none⟩) hxl0).trans q0
                         have f2 := (hb2.frozen (p := ⟨x, 0, none⟩) hxl0).trans f0
                         rw [Nat.zero_add, List.nil_append] at q2
                         obtain ⟨G, nc, hnv, hnc, hGl⟩ : ∃ G nc, v' = .slice (some ⟨G, 0, none⟩) L.length nc ∧ L.length ≤ nc ∧ W0.heap.size ≤ G := by
                           rcases q2.2 with ⟨_, h0⟩ | ⟨G, cap, cur, e, hbg, _, h1, _⟩
                           · omega
                           · exact ⟨G, cap, e, h1, hbg⟩
                         subst hnv
                         have HQ2 := Hid.mk'' q2
                         have HB2 := Hid.mk'' hb2
                         clear q2 q3 q4 q5 hb2)
  obtain ⟨W2, hW2⟩ : ∃ W2, W2 = w'.setCell ⟨x, 0, none⟩ (.slice (some ⟨G, 0, none⟩) L.length nc) := ⟨_, rfl⟩
  have hu2 : Upd w' W2 (fun k => k = x) := by rw [hW2]; exact (Upd.refl w' (fun k => k = x)).setCell (p := ⟨x, 0, none⟩) (.inr rfl) _
  have hGx : G ≠ x := by omega
  have d0 : W2.cell? ⟨x, 0, none⟩ = some (.slice (some ⟨G, 0, none⟩) L.length nc) := by rw [hW2]; exact World.cell?_setCell_same _ _ _ c2
  have e0 : W2.frozen? ⟨x, 0, none⟩ = false := by rw [hW2, World.frozen?_setCell]; exact f2
  have hr2 : W2.ownsRow W0.heap.size 44 7 (.slice (some ⟨G, 0, none⟩) L.length nc) L.length (roC g L) := ownsRow_upd HQ2.out hu2 (fun k hk e => by have := Option.some.inj (show some G = some k from hk); omega)
  have hbxx : bx ≠ x := by have := HBX.out; omega
  have k2 := (hu2.block bx (Nat.lt_of_lt_of_le hbl HB2.out.size) hbxx).trans ((HB2.out.block bx hbl).trans k0)
  rw [← hW2]
  have x0 : W2.cell? ⟨bx, 0, none⟩ = some (.int .i64 rp.err) := cell_of_row _ _ _ _ _ _ k2
  have x1 : W2.cell? ⟨bx, 1, none⟩ = some (.int .i64 rp.rev) := cell_of_row _ _ _ _ _ _ k2
  have x2 : W2.cell? ⟨bx, 2, none⟩ = some (.bool rp.thn) := cell_of_row _ _ _ _ _ _ k2
  have x3 : W2.cell? ⟨bx, 3, none⟩ = some (.slice up rs.length uc) := cell_of_row _ _ _ _ _ _ k2
  have x4 : W2.cell? ⟨bx, 4, none⟩ = some (.int .i64 rp.tim) := cell_of_row _ _ _ _ _ _ k2
  have hcell : ∀ t, t < 7 → ∃ z, W2.cell? ⟨G, i * 7 + t, none⟩ = some z := fun t ht => by
    rw [hr2.cellAt (i * 7 + t) (by omega)]
    exact ⟨_, List.getElem?_eq_getElem (by rw [roC_len]; omega)⟩
  have hfz : ∀ t, W2.frozen? ⟨G, t, none⟩ = false := fun t => hr2.frozenAt t
  obtain ⟨z1, y1⟩ := hcell 1 (by omega)
  obtain ⟨z2, y2⟩ := hcell 2 (by omega)
  obtain ⟨z3, y3⟩ := hcell 3 (by omega)
  obtain ⟨z4, y4⟩ := hcell 4 (by omega)
  obtain ⟨z5, y5⟩ := hcell 5 (by omega)
  obtain ⟨z6, y6⟩ := hcell 6 (by omega)
  have HR2 := Hid.mk'' hr2
  have HU2 := Hid.mk'' hu2
  have hnb : ¬ (bx = G) := by omega
  have hnx : ¬ (x = G) := fun e => hGx e.symm
  clear hcell hr2 hu2 k2 hW2 c2 f2 q0 f0 q1 hown hsrc k0
  have HK : Hid (∀ (W : World) (o : Nat) (z : Value), (W.drew.cell? ⟨x, 0, none⟩ = some (.slice (some ⟨G, 0, none⟩) L.length nc) ∧ W.drew.cell? ⟨bx, 0, none⟩ = some (.int .i64 rp.err) ∧ W.drew.cell? ⟨bx, 1, none⟩ = some (.int .i64 rp.rev) ∧ W.drew.cell? ⟨bx, 2, none⟩ = some (.bool rp.thn) ∧ W.drew.cell? ⟨bx, 3, none⟩ = some (.slice up rs.length uc) ∧ W.drew.cell? ⟨bx, 4, none⟩ = some (.int .i64 rp.tim)) → ((W.setCell ⟨G, o, none⟩ z).drew.cell? ⟨x, 0, none⟩ = some (.slice (some ⟨G, 0, none⟩) L.length nc) ∧ (W.setCell ⟨G, o, none⟩ z).drew.cell? ⟨bx, 0, none⟩ = some (.int .i64 rp.err) ∧ (W.setCell ⟨G, o, none⟩ z).drew.cell? ⟨bx, 1, none⟩ = some (.int .i64 rp.rev) ∧ (W.setCell ⟨G, o, none⟩ z).drew.cell? ⟨bx, 2, none⟩ = some (.bool rp.thn) ∧ (W.setCell ⟨G, o, none⟩ z).drew.cell? ⟨bx, 3, none⟩ = some (.slice up rs.length uc) ∧ (W.setCell ⟨G, o, none⟩ z).drew.cell? ⟨bx, 4, none⟩ = some (.int .i64 rp.tim))) := fun W o z hW => by
    have hq : ∀ (b o' : Nat), ¬ (b = G) → (W.setCell ⟨G, o, none⟩ z).drew.cell? ⟨b, o', none⟩ = W.drew.cell? ⟨b, o', none⟩ := fun b o' hb => by
      show (W.setCell ⟨G, o, none⟩ z).cell? ⟨b, o', none⟩ = W.cell? ⟨b, o', none⟩
      exact World.cell?_of_block (w := W) (heap_setCell_other ⟨G, o, none⟩ z hb)
    obtain ⟨a0, a1, a2, a3, a4, a5⟩ := hW
    exact ⟨(hq _ _ hnx).trans a0, (hq _ _ hnb).trans a1, (hq _ _ hnb).trans a2, (hq _ _ hnb).trans a3, (hq _ _ hnb).trans a4, (hq _ _ hnb).trans a5⟩
  have D0 : W2.drew.cell? ⟨x, 0, none⟩ = some (.slice (some ⟨G, 0, none⟩) L.length nc) := d0
  go_region
  go_wp2
  first | go_end0 | refine bodyPost_ret (results_none rfl _ _ _) rfl ?_
  refine ⟨rfl, ?_⟩
  have r1 := HR2.out.stored (i * 7 + 1) (.int .i64 s)
  have r2 := r1.1.stored (i * 7 + 2) (.int .i64 rp.err)
  have r3 := r2.1.stored (i * 7 + 2 + 1) (.int .i64 rp.rev)
  have r4 := r3.1.stored (i * 7 + 2 + 2) (.bool rp.thn)
  have r5 := r4.1.stored (i * 7 + 2 + 3) (.slice up rs.length uc)
  have r6 := r5.1.stored (i * 7 + 2 + 4) (.int .i64 rp.tim)
  have hput := roC_put (g := g) (s := s) (rp := rp) (rs := rs) (u := .slice up rs.length uc) hup HI0.out HRI.out
  have hrow := r6.1
  rw [hput] at hrow
  have hu0 : Upd W2 W2 (fun k => k = G) := Upd.refl _ _
  have hu1 := hu0.setCell (p := ⟨G, i * 7 + 1, none⟩) (.inr rfl) (.int .i64 s)
  have hu2 := hu1.setCell (p := ⟨G, i * 7 + 2, none⟩) (.inr rfl) (.int .i64 rp.err)
  have hu3 := hu2.setCell (p := ⟨G, i * 7 + 2 + 1, none⟩) (.inr rfl) (.int .i64 rp.rev)
  have hu4 := hu3.setCell (p := ⟨G, i * 7 + 2 + 2, none⟩) (.inr rfl) (.bool rp.thn)
  have hu5 := hu4.setCell (p := ⟨G, i * 7 + 2 + 3, none⟩) (.inr rfl) (.slice up rs.length uc)
  have hu6 := (hu5.setCell (p := ⟨G, i * 7 + 2 + 4, none⟩) (.inr rfl) (.int .i64 rp.tim)).drew
  obtain ⟨W3, hW3⟩ : ∃ W3, W3 = ((((((W2.setCell ⟨G, i * 7 + 1, none⟩ (.int .i64 s)).setCell ⟨G, i * 7 + 2, none⟩ (.int .i64 rp.err)).setCell ⟨G, i * 7 + 2 + 1, none⟩ (.int .i64 rp.rev)).setCell ⟨G, i * 7 + 2 + 2, none⟩ (.bool rp.thn)).setCell ⟨G, i * 7 + 2 + 3, none⟩ (.slice up rs.length uc)).setCell ⟨G, i * 7 + 2 + 4, none⟩ (.int .i64 rp.tim)).drew := ⟨_, rfl⟩
  have hrow3 : W3.ownsRow W0.heap.size 44 7 (.slice (some ⟨G, 0, none⟩) L.length nc) L.length (roC (setF g c (.slice up rs.length uc)) (L.set i ⟨c, s, rp, rs⟩)) := by rw [hW3]; exact hrow.drew
  rw [← hW3] at hu6 ⊢
  have hs0 := HS0.out
  have hlx : x < W2.heap.size := World.block_lt_of_cell? _ _ d0
  have hUw : Upd w W3 (fun k => k = x) := by
    have a1 : Upd w w' (fun k => k = x) := Upd.ofBelow (HB0.out.trans (HB2.out.mono HB0.out.size))
    have a2 : Upd w W2 (fun k => k = x) := a1.trans HU2.out (fun _ _ e => e)
    exact a2.trans hu6 (fun k hk e => by omega)
  have hlen : (L.set i ⟨c, s, rp, rs⟩).length = L.length := List.length_set
  refine ⟨.slice (some ⟨G, 0, none⟩) L.length nc, setF g c (.slice up rs.length uc), ⟨?_, ?_, ?_, ?_, HT.out.lo, fun r' hr' => ?_⟩, hUw, fun k hk => ?_⟩
  · exact (hu6.cell (p := ⟨x, 0, none⟩) hlx hnx).trans d0
  · exact (hu6.frozen (p := ⟨x, 0, none⟩) hlx hnx).trans e0
  · rw [hlen]
    exact own_lower hrow3 (by have := HT.out.lo; have := HB0.out.size; omega)
  · exact fun e => hGx (Option.some.inj (show some G = some x from e))
  · have hnot : ∀ k, Y k → ¬ (k = x) := hYx
    rw [← HSET.out] at hr'
    rcases mem_ins.1 hr' with rfl | hr'
    · simp only [setF, if_pos]
      exact HU.out.upd hUw hnot
    · obtain ⟨hr1, hne⟩ := mem_del.1 hr'
      simp only [setF, if_neg hne]
      exact (HT.out.res r' hr1).upd hUw hnot
  · have := Option.some.inj (show some G = some k from hk)
    omega
end Go.Proofs.Ytcghaepjklmggaa
