/- A table's Note. -/
import Derived.Test.YtcghaepjklmggaaFC
namespace Go.Proofs.Ytcghaepjklmggaa
open Go Go.RowKit
variable {Z Z' : Nat → Prop} {B : Nat} {d b : Nat} {A : List Ro} {f : Int → Value}
theorem eqlSome (bm : Nat) (w : World) : (binOp .eql 50 (.map (some bm)) (.map none)).run Try.prog w = .ok (.bool false) w := by kernel_rfl
theorem Tb.noted {w w1 w2 : World} (h : Tb Z B w1 d b A f) {c s : Int} {rp : Rp} {rs : List Rs} {v : Value} (hd : (askA A c s).2.2 = true) (hc0 : c ≠ 0) (hc : isI c) (hl : rs.length ≤ 5) (hv : RSs (fun k => w.heap.size ≤ k) w1 v rs) (hZ : ∀ k, w.heap.size ≤ k → Z k)
    (ho : w2.ownsMap Try.prog 3 RL b (insL ⟨c, s, rp, rs⟩ (delL c A)).length (mapD (insL ⟨c, s, rp, rs⟩ (delL c A)) (setF f c v))) (hu : Upd w1 w2 (fun k => k = b)) : Tb Z B w2 d b (noteA A c s rp rs) (setF f c v) := by
  have e : noteA A c s rp rs = insL ⟨c, s, rp, rs⟩ (delL c A) := by rw [noteA, if_pos ⟨hd, hc0⟩]
  rw [e]
  have hS : ∀ k, Z k → ¬ (k = b) := fun k hk e => h.nz (e ▸ hk)
  have hcs : 1 ≤ c ∧ 1 ≤ s ∧ (lookL c A = none → A.length < 64) := by
    unfold askA at hd
    rw [if_neg hc0] at hd
    by_cases h1 : c < 0 ∨ s < 1
    · rw [if_pos h1] at hd; cases hd
    · rw [if_neg h1] at hd
      refine ⟨by omega, by omega, fun hn => ?_⟩
      rw [hn] at hd
      by_cases h64 : 64 ≤ A.length
      · simp [h64] at hd
      · omega
  refine ⟨(hu.cell (p := ⟨d, 0, none⟩) h.ltd (Ne.symm h.ne)).trans h.c0, ho, up_put (f := ⟨c, s, rp, rs⟩) h.up, fun l hl' => ?_, ?_, fun r hr => ?_, h.ne, h.lod, h.lob, h.nz⟩
  · rcases mem_ins.1 hl' with rfl | hl'
    · exact ⟨hcs.1, hc.2, hcs.2.1, hl⟩
    · exact h.ok l (mem_del.1 hl').1
  · rw [length_ins]
    cases hlk : lookL c A with
    | none => rw [del_none hlk]; exact hcs.2.2 hlk
    | some r => have := length_del h.up hlk; have := h.few; omega
  · rcases mem_ins.1 hr with rfl | hr
    · simp only [setF, if_pos]
      exact (hv.mono hZ).upd hu hS
    · obtain ⟨hr, hne⟩ := mem_del.1 hr
      simp only [setF, if_neg hne]
      exact (h.res r hr).upd hu hS
set_option maxRecDepth 20000 in
set_option maxHeartbeats 1000000 in
theorem note_any (c s : Int) (rp : Rp) (rs : List Rs) (v : Value) (w : World) (h : Tb Z B w d b A f) (hc : isI c) (hv : RSs Z' w v rs) (hl : rs.length ≤ 5) (hZ : ∀ k, w.heap.size ≤ k → Z k) :
    Calls Try.prog 11 #[ptr d, .int .i64 c, .int .i64 s, repV rp v] w fun e w' => e = .returned (.tuple #[]) ∧ (∃ f', Tb Z B w' d b (noteA A c s rp rs) f') ∧ Upd w w' (fun k => k = b) := by
  obtain ⟨W0, hW0⟩ : ∃ W0, W0 = w.alloc (.cells #[.int .i64 rp.err, .int .i64 rp.rev, .bool rp.thn, v, .int .i64 rp.tim] 33) := ⟨_, rfl⟩
  have hb0 : Below w.heap.size w W0 := by rw [hW0]; exact (Below.refl _ _).alloc (Nat.le_refl _) _
  have k0 : W0.heap[w.heap.size]? = some (.cells #[.int .i64 rp.err, .int .i64 rp.rev, .bool rp.thn, v, .int .i64 rp.tim] 33 (0, 0)) := by rw [hW0]; exact heap_alloc_new w _
  have hask := ask_any c s W0 (h.below hb0) hc
  obtain ⟨bx, hbx⟩ : ∃ bx, bx = w.heap.size := ⟨_, rfl⟩
  have hbl : bx < W0.heap.size := by rw [hbx]; exact (Array.getElem?_eq_some_iff.1 k0).1
  have HV := Hid.mk'' hv
  obtain ⟨p, cc, rfl, _⟩ := hv
  go_enter Try.func11, Try.ntmps11
  go_upto_region 1 with fail
  rw [← hW0]
  rw [← hbx] at k0 ⊢
  have HBX := Hid.mk'' hbx
  have HB0 := Hid.mk'' hb0
  have HT := Hid.mk'' h
  clear hW0 hbx hb0 h
  obtain ⟨ra, la, bo, hra⟩ : ∃ ra la bo, askA A c s = (ra, la, bo) := ⟨_, _, _, rfl⟩
  unfold AskP at hask
  have HRA := Hid.mk'' hra
  rw [hra] at hask
  dsimp only at hask
  clear hra
  go_upto_region 2 with (go_at_call 8; refine hask.mono ?_; rintro e w2 ⟨v2, rfl, hv2, bel2⟩
                         obtain ⟨p2, c2, hve, _⟩ := hv2
                         subst hve
                         have k1 := (bel2.block bx hbl).trans k0
                         clear hask)
  obtain ⟨W3, hW3⟩ : ∃ W3, W3 = w2.alloc (.cells #[.int .i64 ra.err, .int .i64 ra.rev, .bool ra.thn, .slice p2 la.length c2, .int .i64 ra.tim] 33) := ⟨_, rfl⟩
  have bel3 : Below w2.heap.size w2 W3 := by rw [hW3]; exact (Below.refl _ _).alloc (Nat.le_refl _) _
  rw [← hW3]
  clear hW3
  have hb2 : bx < w2.heap.size := (Array.getElem?_eq_some_iff.1 k1).1
  have k3 := (bel3.block bx hb2).trans k1
  have HB3 : Hid (Below w.heap.size w W3) := (HB0.out.trans (bel2.mono HB0.out.size)).trans (bel3.mono (Nat.le_trans HB0.out.size bel2.size))
  have HT3 := Hid.mk'' (HT.out.below HB3.out)
  clear bel2 bel3 k0 k1 hb2 hbl
  by_cases c0 : c = 0
  · subst c0
    have e : noteA A 0 s rp rs = A := by simp [noteA]
    have HE := Hid.mk'' e
    clear k3 e
    go_wp2
    first | go_end0 | refine bodyPost_ret (results_none rfl _ _ _) rfl ?_
    exact ⟨rfl, ⟨f, by rw [HE.out]; exact HT3.out⟩, Upd.ofBelow HB3.out⟩
  cases bo with
  | false =>
    have e : noteA A c s rp rs = A := by rw [noteA, HRA.out]; simp
    have HE := Hid.mk'' e
    clear k3 e
    go_wp2
    first | go_end0 | refine bodyPost_ret (results_none rfl _ _ _) rfl ?_
    exact ⟨rfl, ⟨f, by rw [HE.out]; exact HT3.out⟩, Upd.ofBelow HB3.out⟩
  | true =>
    have q0 := HT3.out.c0
    have heq := eqlSome b
    have x0 : W3.cell? ⟨bx, 0, none⟩ = some (.int .i64 rp.err) := cell_of_row _ _ _ _ _ _ k3
    have x1 : W3.cell? ⟨bx, 1, none⟩ = some (.int .i64 rp.rev) := cell_of_row _ _ _ _ _ _ k3
    have x2 : W3.cell? ⟨bx, 2, none⟩ = some (.bool rp.thn) := cell_of_row _ _ _ _ _ _ k3
    have x3 : W3.cell? ⟨bx, 3, none⟩ = some (.slice p rs.length cc) := cell_of_row _ _ _ _ _ _ k3
    have x4 : W3.cell? ⟨bx, 4, none⟩ = some (.int .i64 rp.tim) := cell_of_row _ _ _ _ _ _ k3
    have hcall : Hid (Calls Try.prog 15 #[repV rp (.slice p rs.length cc)] W3.drew fun e w' => ∃ p' c' w'', e = .returned (repV rp (.slice p' rs.length c')) ∧ (Instr.mapUpdate 50 (.map (some b)) (.int .i64 c) (rowV c s rp (.slice p' rs.length c'))).run Try.prog w' = .ok () w'' ∧ Below W3.heap.size W3 w' ∧ (∃ f', Tb Z B w'' d b (noteA A c s rp rs) f') ∧ Upd w' w'' (fun k => k = b)) := by
      have hdd : Below W3.heap.size W3 W3.drew := ⟨rfl, rfl, rfl, Nat.le_refl _, fun _ _ => rfl⟩
      refine (own_rep rp rs _ W3.drew ((HV.out.below HB3.out).below hdd) (by omega)).mono ?_
      rintro e w4 ⟨v4, rfl, hv4, bel4⟩
      have hv5 := hv4
      obtain ⟨p4, c4, rfl, _⟩ := hv4
      have hT4 := HT3.out.below (w' := w4) (hdd.trans bel4)
      obtain ⟨w5, hst, ho, hu⟩ := store_run hT4.own ⟨c, s, rp, rs⟩ (.slice p4 rs.length c4) hc (by have := hT4.few; omega)
      refine ⟨p4, c4, w5, rfl, hst, hdd.trans bel4, ⟨_, hT4.noted (w := W3) (by rw [HRA.out]) c0 hc hl hv5 (fun k hk => hZ k (Nat.le_trans HB3.out.size hk)) ho hu⟩, hu⟩
    have hdl := HT3.out.ltd
    have hbl := (Array.getElem?_eq_some_iff.1 k3).1
    have HU3 : Hid (∀ w4 w5, Below W3.heap.size W3 w4 → Upd w4 w5 (fun k => k = b) → Upd w w5 (fun k => k = b)) := fun w4 w5 h1 h2 => (Upd.ofBelow (HB3.out.trans (h1.mono HB3.out.size))).trans h2 (fun _ _ e => e)
    clear k3
    go_upto_region 5 with fail
    go_region_held_law (fun W => W.cell? ⟨d, 0, none⟩ = some (.map (some b)) ∧ W.cell? ⟨bx, 0, none⟩ = some (.int .i64 rp.err) ∧ W.cell? ⟨bx, 1, none⟩ = some (.int .i64 rp.rev) ∧ W.cell? ⟨bx, 2, none⟩ = some (.bool rp.thn) ∧ W.cell? ⟨bx, 3, none⟩ = some (.slice p rs.length cc) ∧ W.cell? ⟨bx, 4, none⟩ = some (.int .i64 rp.tim)) (first | with_reducible assumption | (show _ ∧ _; with_reducible assumption) | exact ⟨q0, x0, x1, x2, x3, x4⟩ | exact ⟨y0, y1, y2, y3, y4, y5⟩ | exact ⟨u0, u1, u2, u3, u4, u5⟩)
      (first
        | (go_at_call 15; with_reducible refine hcall.out.mono ?_; rintro e w4 ⟨p4, c4, w5, rfl, hst, bel4, hT5, hu5⟩
           have y0 := (bel4.cell (p := ⟨d, 0, none⟩) hdl).trans q0
           have y1 := (bel4.cell (p := ⟨bx, 0, none⟩) hbl).trans x0
           have y2 := (bel4.cell (p := ⟨bx, 1, none⟩) hbl).trans x1
           have y3 := (bel4.cell (p := ⟨bx, 2, none⟩) hbl).trans x2
           have y4 := (bel4.cell (p := ⟨bx, 3, none⟩) hbl).trans x3
           have y5 := (bel4.cell (p := ⟨bx, 4, none⟩) hbl).trans x4
           have HT5 := Hid.mk'' hT5
           have HU5 := Hid.mk'' (HU3.out w4 w5 bel4 hu5)
           have hnd : ¬ (d = b) := Ne.symm HT3.out.ne
           have hnb : ¬ (bx = b) := by have := HT.out.ltb; have := HBX.out; omega
           have hl4 := bel4.size
           have u0 := (hu5.cell (p := ⟨d, 0, none⟩) (by show d < _; omega) hnd).trans y0
           have hb4 : bx < w4.heap.size := by omega
           have u1 := (hu5.cell (p := ⟨bx, 0, none⟩) hb4 hnb).trans y1
           have u2 := (hu5.cell (p := ⟨bx, 1, none⟩) hb4 hnb).trans y2
           have u3 := (hu5.cell (p := ⟨bx, 2, none⟩) hb4 hnb).trans y3
           have u4 := (hu5.cell (p := ⟨bx, 3, none⟩) hb4 hnb).trans y4
           have u5 := (hu5.cell (p := ⟨bx, 4, none⟩) hb4 hnb).trans y5
           clear hT5 hu5 bel4 hnd hnb hl4 hb4))
    go_wp2
    first | go_end0 | refine bodyPost_ret (results_none rfl _ _ _) rfl ?_
    exact ⟨rfl, HT5.out, HU5.out⟩
end Go.Proofs.Ytcghaepjklmggaa
