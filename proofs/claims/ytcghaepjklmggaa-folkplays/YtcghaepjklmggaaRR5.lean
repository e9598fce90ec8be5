/- The document's Note where the client has no row yet. -/
import Derived.Test.YtcghaepjklmggaaRR4
namespace Go.Proofs.Ytcghaepjklmggaa
open Go Go.RowKit
variable {Y : Nat → Prop} {B x : Nat} {v : Value} {L : List Ro} {g : Int → Value}
theorem roC_take (l : List Ro) {k : Nat} (hk : k ≤ l.length) : roC g l = roC g (l.take k) ++ roC g (l.drop k) ∧ (roC g (l.take k)).length = k * 7 := by
  refine ⟨by rw [← roC_append, List.take_append_drop], ?_⟩
  rw [roC_len, List.length_take]
  congr 1
  omega
theorem cut_take {Z : Nat → Prop} {W0 W : World} {p : Option Addr} {c k : Nat} (h : W0.ownsRow B 44 7 (.slice p L.length c) L.length (roC g L)) (hr : ∀ r ∈ L, RSs Z W0 (g r.id) r.rs) (hk : k ≤ L.length) (hb : Below W0.heap.size W0 W) :
    Src Try.prog 7 27 (.slice p k c) k (roC g (L.take k)) W := by
  obtain ⟨e1, e2⟩ := roC_take (g := g) L hk
  rcases h.2 with ⟨e, h0⟩ | ⟨b, cap, cur, e, hbg, hh, h1, h2, h3, h4⟩
  · simp only [Value.slice.injEq] at e
    obtain ⟨rfl, _, rfl⟩ := e
    have : k = 0 := by omega
    subst this
    exact Src.ofNil _ Try.underlying27 0
  · cases e
    refine Src.ofSlice _ Try.underlying27 ⟨b, 0, none⟩ k c _ e2 (fun j u hj => ?_) (fun u hu => roC_cells (fun r hr' => hr r (List.mem_of_mem_take hr')) hu)
    have hlt := (List.getElem?_eq_some_iff.1 hj).1
    have := h.cells (g := b) rfl j u (by rw [e1, List.getElem?_append_left hlt]; exact hj)
    rw [Addr.add_lit, Nat.zero_add] at this ⊢
    exact (hb.cell (p := ⟨b, j, none⟩) (World.block_lt_of_cell? _ _ this)).trans this
theorem cut_drop {Z : Nat → Prop} {W0 : World} {p : Option Addr} {c k : Nat} (h : W0.ownsRow B 44 7 (.slice p L.length c) L.length (roC g L)) (hr : ∀ r ∈ L, RSs Z W0 (g r.id) r.rs) (hk : k ≤ L.length) (hc : L.length ≤ c) :
    ∃ p', (∀ W, (Instr.sliceAt 27 (.slice p L.length c) (some (.int .i64 k)) none none).run Try.prog W = .ok (.slice p' (L.length - k) (c - k)) W) ∧ ∀ W, Below W0.heap.size W0 W → Src Try.prog 7 27 (.slice p' (L.length - k) (c - k)) (L.length - k) (roC g (L.drop k)) W := by
  obtain ⟨e1, e2⟩ := roC_take (g := g) L hk
  refine ⟨if c = k then p else p.map (·.add (k * 7)), fun W => ?_, fun W hb => ?_⟩
  · simp [Instr.sliceAt, Instr.slice, Instr.sliceBounds, Instr.sliceBound, run_underlying Try.underlying27, asIntOf, hk]
  · rcases h.2 with ⟨e, h0⟩ | ⟨b, cap, cur, e, hbg, hh, h1, h2, h3, h4⟩
    · simp only [Value.slice.injEq] at e
      obtain ⟨rfl, _, rfl⟩ := e
      have hk0 : k = 0 := by omega
      have hL : L = [] := List.eq_nil_of_length_eq_zero h0
      subst hk0 hL
      exact Src.ofNil _ Try.underlying27 0
    · cases e
      by_cases hck : c = k
      · rw [if_pos hck]
        have e0 : L.length - k = 0 := by omega
        rw [e0, List.drop_eq_nil_of_le (by omega)]
        exact Src.ofSlice _ Try.underlying27 ⟨b, 0, none⟩ 0 _ [] rfl (fun j u hj => by simp at hj) (fun u hu => by cases hu)
      · rw [if_neg hck]
        show Src Try.prog 7 27 (.slice (some ((⟨b, 0, none⟩ : Addr).add (k * 7))) (L.length - k) (c - k)) _ _ _
        rw [Addr.add_lit, Nat.zero_add]
        refine Src.ofSlice _ Try.underlying27 ⟨b, k * 7, none⟩ _ _ _ (by rw [roC_len, List.length_drop]) (fun j u hj => ?_) (fun u hu => roC_cells (fun r hr' => hr r (List.mem_of_mem_drop hr')) hu)
        have := h.cells (g := b) rfl (k * 7 + j) u (by rw [e1, List.getElem?_append_right (by omega), e2, Nat.add_sub_cancel_left]; exact hj)
        rw [Addr.add_lit, Nat.zero_add] at this
        rw [Addr.add_lit]
        exact (hb.cell (p := ⟨b, k * 7 + j, none⟩) (World.block_lt_of_cell? _ _ this)).trans this
theorem src_rr (w : World) (c s : Int) (rp : Rp) (p : Option Addr) (n cc : Nat) : Src Try.prog 7 27 (.slice (some ⟨w.heap.size, 0, none⟩) 1 1) 1 [.int .i64 c, .int .i64 s, .int .i64 rp.err, .int .i64 rp.rev, .bool rp.thn, .slice p n cc, .int .i64 rp.tim]
    (w.alloc (.cells #[.int .i64 c, .int .i64 s, .int .i64 rp.err, .int .i64 rp.rev, .bool rp.thn, .slice p n cc, .int .i64 rp.tim] 44)) := by
  refine Src.ofSlice _ Try.underlying27 ⟨w.heap.size, 0, none⟩ 1 1 _ rfl (fun j u hj => ?_) (fun u hu => ?_)
  · rw [Addr.add_lit]
    match j, hj with
    | 0, hj => cases hj; simp
    | 1, hj => cases hj; simp
    | 2, hj => cases hj; simp
    | 3, hj => cases hj; simp
    | 4, hj => cases hj; simp
    | 5, hj => cases hj; simp
    | 6, hj => cases hj; simp
  · simp at hu
    rcases hu with rfl | rfl | rfl | rfl | rfl | rfl | rfl <;> rfl
/-- A new row of rows is laid into the table. -/
theorem rt_stored {n c : Nat} {w W0 w5 : World} {v0 : Value} {p : Option Addr} {cs : List Value} {L' : List Ro} {g' : Int → Value} (lo : B ≤ x) (hxl : x < w.heap.size) (hBw : B ≤ W0.heap.size) (hw0 : w.heap.size ≤ W0.heap.size) (c5 : w5.cell? ⟨x, 0, none⟩ = some v0) (f5 : w5.frozen? ⟨x, 0, none⟩ = false)
    (s1 : w5.ownsRow W0.heap.size 44 7 (.slice p n c) n cs) (hn : n = L'.length) (hcs : cs = roC g' L') (hu : Upd w w5 (fun k => k = x)) (hr : ∀ r ∈ L', RSs Y w (g' r.id) r.rs) (hY : ∀ k, Y k → k ≠ x) : RtPost Y B w (w5.setCell ⟨x, 0, none⟩ (.slice p n c)) x L' := by
  subst hn hcs
  have hno : (Value.slice p L'.length c).ownBlock ≠ some x := fun e => by have := (s1.lt x e).1; omega
  have hu2 : Upd w5 (w5.setCell ⟨x, 0, none⟩ (.slice p L'.length c)) (fun k => k = x) := (Upd.refl w5 (fun k => k = x)).setCell (p := ⟨x, 0, none⟩) (.inr rfl) _
  have hu3 := hu.trans hu2 (fun _ _ e => e)
  refine ⟨_, g', ⟨World.cell?_setCell_same _ _ _ c5, by rw [World.frozen?_setCell]; exact f5, own_lower (ownsRow_upd s1 hu2 (fun k hk e => hno (by rw [hk, e]))) hBw, hno, lo, fun r hr' => (hr r hr').upd hu3 (fun k hk e => hY k hk e)⟩, hu3, fun k hk => Nat.le_trans hw0 (s1.lt k hk).1⟩
set_option maxRecDepth 20000 in
set_option maxHeartbeats 1000000 in
theorem rnote_new (c s : Int) (rp : Rp) (rs : List Rs) (u : Value) (w : World) (h : Rt Y B w x v L g) (few : L.length ≤ 64) (_hup : upL L) (hu : RSs Y w u rs) (hYx : ∀ k, Y k → k ≠ x) (c0 : c ≠ 0) (hl : lookL c L = none) :
    Calls Try.prog 12 #[ptr x, .int .i64 c, .int .i64 s, repV rp u] w fun e w' => e = .returned (.tuple #[]) ∧ RtPost Y B w w' x (insL ⟨c, s, rp, rs⟩ L) := by
  obtain ⟨W0, hW0⟩ : ∃ W0, W0 = w.alloc (.cells #[.int .i64 rp.err, .int .i64 rp.rev, .bool rp.thn, u, .int .i64 rp.tim] 33) := ⟨_, rfl⟩
  have hb0 : Below w.heap.size w W0 := by rw [hW0]; exact (Below.refl _ _).alloc (Nat.le_refl _) _
  have k0 : W0.heap[w.heap.size]? = some (.cells #[.int .i64 rp.err, .int .i64 rp.rev, .bool rp.thn, u, .int .i64 rp.tim] 33 (0, 0)) := by rw [hW0]; exact heap_alloc_new w _
  have hT0 := h.below hb0
  have hat := rat_any c W0 hT0 few
  obtain ⟨bx, hbx⟩ : ∃ bx, bx = w.heap.size := ⟨_, rfl⟩
  have hbl : bx < W0.heap.size := by rw [hbx]; exact (Array.getElem?_eq_some_iff.1 k0).1
  have HU := Hid.mk'' hu
  obtain ⟨up, uc, rfl, _⟩ := hu
  obtain ⟨p, cc, rfl, hc⟩ := h.form
  obtain ⟨t3, hti, hz0, hz1, hz2⟩ := info_of info44
  have q0 := hT0.c0
  have f0 := hT0.f0
  have hxl := h.lt
  have hxl0 := hT0.lt
  have HNL := Hid.mk'' (look_none hl)
  have HK0 := Hid.mk'' k0
  go_enter Try.func12, Try.ntmps12
  go_upto_region 1 with fail
  rw [← hW0]
  rw [← hbx] at HK0 k0 ⊢
  have HBX := Hid.mk'' hbx
  have HB0 := Hid.mk'' hb0
  have HT := Hid.mk'' h
  have HT0 := Hid.mk'' hT0
  clear hW0 hbx hb0 h hT0 k0
  go_wp2_with (go_at_call 16; refine hat.mono ?_; rintro e w1 ⟨k, rfl, hk, hw1⟩; obtain rfl := hw1.symm; obtain rfl := hk.none hl)
  clear hat hl hk
  go_loopg [8] (L.length + 1) (fun kx s9 wq => ∃ (k : Nat), s9 = .int .i64 k ∧ kx + k = L.length + 1 ∧ k ≤ L.length ∧ wq = W0 ∧ Hid (∀ (j : Nat) (l : Ro), j < k → L[j]? = some l → l.id < c))
  case atStart => exact ⟨0, rfl, rfl, Nat.zero_le _, rfl, fun j l h => by omega⟩
  case round =>
    obtain ⟨k, rfl, hk, hkl, rfl, HN⟩ := hrel
    by_cases hgo : ∃ l, L[k]? = some l ∧ l.id < c
    · obtain ⟨l, hl, hlt⟩ := hgo
      have hkl2 := (List.getElem?_eq_some_iff.1 hl).1
      obtain ⟨gb, hg, hcells, hgl, _⟩ := row_ro HT0.out.row hl
      have h0 := hcells 0 _ (by omega) rfl
      rw [Nat.add_zero] at h0
      subst hg
      have HL := Hid.mk'' hl
      clear hl hcells
      go_wp2
      go_roundg (L.length - k)
      case measure => omega
      case rel =>
        refine ⟨k + 1, by congr 1, by omega, by omega, rfl, fun j l' hj hl' => ?_⟩
        rcases Nat.lt_or_ge j k with hj' | hj'
        · exact HN.out j l' hj' hl'
        · obtain rfl : j = k := by omega
          have := HL.out
          rw [hl'] at this
          cases this
          exact hlt
    · have hafter : Hid (∀ l, L[k]? = some l → c < l.id) := fun l hl => by
        have h1 := HNL.out l (List.mem_of_getElem? hl)
        have h2 : ¬ l.id < c := fun h => hgo ⟨l, hl, h⟩
        omega
      have hins : Hid (insL ⟨c, s, rp, rs⟩ L = L.take k ++ [⟨c, s, rp, rs⟩] ++ L.drop k) := ins_at (f := ⟨c, s, rp, rs⟩) hkl HN.out hafter.out
      have hsrcT := cut_take HT0.out.row HT0.out.res (k := k) hkl (Below.refl _ _)
      obtain ⟨p', hcut, hsrcD⟩ := cut_drop HT0.out.row HT0.out.res (k := k) hkl hc
      have HSD := Hid.mk'' hsrcD
      have hkc : (k : Int) ≤ cc := by omega
      have hcase : (∃ (l : Ro) (gb : Nat), k < L.length ∧ p = some ⟨gb, 0, none⟩ ∧ wr.cell? ⟨gb, k * 7, none⟩ = some (.int .i64 l.id) ∧ ¬ l.id < c) ∨ ¬ k < L.length := by
        by_cases hlt : k < L.length
        · obtain ⟨l, hl⟩ : ∃ l, L[k]? = some l := ⟨_, List.getElem?_eq_getElem hlt⟩
          obtain ⟨gb, hg, hcells, _⟩ := row_ro HT0.out.row hl
          have h0 := hcells 0 _ (by omega) rfl
          rw [Nat.add_zero] at h0
          exact .inl ⟨l, gb, hlt, hg, h0, fun h => hgo ⟨l, hl, h⟩⟩
        · exact .inr hlt
      clear hgo hsrcD
      have HEND : Hid (∀ w5 p5 c5 (v0 : Value), w5.cell? ⟨x, 0, none⟩ = some v0 → w5.frozen? ⟨x, 0, none⟩ = false → w5.ownsRow wr.heap.size 44 7 (.slice p5 (k + 1 + (L.length - k)) c5) (k + 1 + (L.length - k)) (roC g (L.take k) ++ [.int .i64 c, .int .i64 s, .int .i64 rp.err, .int .i64 rp.rev, .bool rp.thn, .slice up rs.length uc, .int .i64 rp.tim] ++ roC g (L.drop k)) → Upd wr w5 (fun k => k = x) → RtPost Y B w (w5.setCell ⟨x, 0, none⟩ (.slice p5 (k + 1 + (L.length - k)) c5)) x (insL ⟨c, s, rp, rs⟩ L)) := fun w5 p5 c5 v0 a1 a2 a3 a4 => by
        refine rt_stored (W0 := wr) (g' := setF g c (.slice up rs.length uc)) HT.out.lo hxl (by have := HT.out.lo; omega) HB0.out.size a1 a2 a3 ?_ ?_ ((Upd.ofBelow HB0.out).trans a4 (fun _ _ e => e)) (fun r hr => ?_) hYx
        · rw [length_ins]; omega
        · rw [hins.out, roC_append, roC_append, roC_one, roC_set (fun r hr => HNL.out r (List.mem_of_mem_take hr)), roC_set (fun r hr => HNL.out r (List.mem_of_mem_drop hr))]
          simp [roL, setF]
        · rcases mem_ins.1 hr with rfl | hr
          · simp only [setF, if_pos]
            exact HU.out
          · simp only [setF, if_neg (HNL.out r hr)]
            exact HT.out.res r hr
      clear HN HNL hafter hins
      have x0 : wr.cell? ⟨bx, 0, none⟩ = some (.int .i64 rp.err) := cell_of_row _ _ _ _ _ _ HK0.out
      have x1 : wr.cell? ⟨bx, 1, none⟩ = some (.int .i64 rp.rev) := cell_of_row _ _ _ _ _ _ HK0.out
      have x2 : wr.cell? ⟨bx, 2, none⟩ = some (.bool rp.thn) := cell_of_row _ _ _ _ _ _ HK0.out
      have x3 : wr.cell? ⟨bx, 3, none⟩ = some (.slice up rs.length uc) := cell_of_row _ _ _ _ _ _ HK0.out
      have x4 : wr.cell? ⟨bx, 4, none⟩ = some (.int .i64 rp.tim) := cell_of_row _ _ _ _ _ _ HK0.out
      rcases hcase with ⟨l, gb, hlt, rfl, h0, hnl⟩ | hlt
      all_goals
        go_upto_region 11 with (at_builtin; refine wpList_appS _ rfl (.tmp 63) (.tmp 69) 27 27 rfl wr.heap.size 44 t3 _ 7 Try.underlying27 hti hz0 hz1 rfl (by rw [hz2]; decide) (.slice none 0 0) 0 [] rfl (World.ownsRow_nil _ _ _ _) _ rfl k (roC g (L.take k)) hsrcT (by omega) (Nat.le_refl _) ?_; intro v1 w3 q1 q2 q3 q4; obtain ⟨p1, c1, hv1⟩ := owns_form q1; subst hv1; clear q3 q4)
        have hb3 : Below wr.heap.size wr w3 := q2.below (Nat.le_refl _) (fun j _ e => by cases e)
        have q1 : w3.ownsRow wr.heap.size 44 7 (.slice p1 k c1) k (roC g (L.take k)) := by rw [Nat.zero_add, List.nil_append] at q1; exact q1
        have hsz3 := hb3.size
        have y0 := (hb3.cell (p := ⟨bx, 0, none⟩) hbl).trans x0
        have y1 := (hb3.cell (p := ⟨bx, 1, none⟩) hbl).trans x1
        have y2 := (hb3.cell (p := ⟨bx, 2, none⟩) hbl).trans x2
        have y3 := (hb3.cell (p := ⟨bx, 3, none⟩) hbl).trans x3
        have y4 := (hb3.cell (p := ⟨bx, 4, none⟩) hbl).trans x4
        have hb4 : Below wr.heap.size wr (w3.alloc (.cells #[.int .i64 c, .int .i64 s, .int .i64 rp.err, .int .i64 rp.rev, .bool rp.thn, .slice up rs.length uc, .int .i64 rp.tim] 44)) := hb3.alloc hsz3 _
        have hsrc1 := src_rr w3 c s rp up rs.length uc
        have q4 : (w3.alloc (.cells #[.int .i64 c, .int .i64 s, .int .i64 rp.err, .int .i64 rp.rev, .bool rp.thn, .slice up rs.length uc, .int .i64 rp.tim] 44)).ownsRow wr.heap.size 44 7 (.slice p1 k c1) k (roC g (L.take k)) := ownsRow_upd q1 (Upd.ofBelow (S := fun _ => False) ((Below.refl _ w3).alloc (Nat.le_refl _) _)) (fun _ _ h => h)
        have HB4 := Hid.mk'' hb4
        have HQ4 := Hid.mk'' q4
        clear q2 hb3 hsrcT q1 hb4 q4 x0 x1 x2 x3 x4
        go_upto_region 12 with (at_builtin; refine wpList_appS _ rfl (.tmp 71) (.tmp 76) 27 27 rfl wr.heap.size 44 t3 _ 7 Try.underlying27 hti hz0 hz1 rfl (by rw [hz2]; decide) (.slice p1 k c1) k (roC g (L.take k)) rfl HQ4.out _ rfl 1 _ hsrc1 (by omega) (by simp; omega) ?_; intro v2 w4 r1 r2 r3 r4; obtain ⟨p2, c2, hv2⟩ := owns_form r1; subst hv2; clear r3 r4)
        have hb5 : Below wr.heap.size wr w4 := HB4.out.trans (r2.below HB4.out.size (fun k hk e => by have := (HQ4.out.lt k e.symm).1; omega))
        have hsd := HSD.out w4 hb5
        have c4 := (hb5.cell (p := ⟨x, 0, none⟩) hxl0).trans q0
        have f4 := (hb5.frozen (p := ⟨x, 0, none⟩) hxl0).trans f0
        have hsz5 := hb5.size
        have HB5 := Hid.mk'' hb5
        have HR1 := Hid.mk'' r1
        have hxo : (Value.slice p2 (k + 1) c2).ownBlock ≠ some x := fun e => by have := (r1.lt x e).1; omega
        clear r2 hb5 hsrc1 r1 y0 y1 y2 y3 y4
        go_wp2_with (at_builtin; refine wpList_appS _ rfl (.tmp 79) (.tmp 85) 27 27 rfl wr.heap.size 44 t3 _ 7 Try.underlying27 hti hz0 hz1 rfl (by rw [hz2]; decide) (.slice p2 (k + 1) c2) (k + 1) _ rfl HR1.out _ rfl (L.length - k) (roC g (L.drop k)) hsd (by omega) hsz5 ?_; intro v5 w5 s1 s2 s3 s4; clear s4; have c5 := (s2.cell (p := ⟨x, 0, none⟩) (Nat.lt_of_lt_of_le hxl0 hsz5) (fun e => hxo e.symm)).trans c4; have f5 := (s2.frozen (p := ⟨x, 0, none⟩) (Nat.lt_of_lt_of_le hxl0 hsz5) (fun e => hxo e.symm)).trans f4; obtain ⟨p5, c5', hv5⟩ := owns_form s1; subst hv5
                     have HE := Hid.mk'' (HEND.out w5 p5 c5' _ c5 f5 s1 ((Upd.ofBelow HB5.out).trans s2 (fun k hk e => by have := (HR1.out.lt k e.symm).1; omega)))
                     clear s1 s2 s3)
        first | go_end0 | refine bodyPost_ret (results_none rfl _ _ _) rfl ?_
        exact ⟨rfl, HE.out⟩
end Go.Proofs.Ytcghaepjklmggaa
