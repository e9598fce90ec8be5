/- A table's calls: New, Ask, Note. -/
import Derived.Test.YtcghaepjklmggaaFD
namespace Go.Proofs.Ytcghaepjklmggaa
open Go Go.RowKit
abbrev ptr (d : Nat) : Value := .pointer (some ⟨d, 0, none⟩)
theorem new_any (w : World) : Calls Try.prog 7 #[] w fun e w' => ∃ d b, e = .returned (ptr d) ∧ (∀ Z, ¬ Z b → ∀ f, Tb Z w.heap.size w' d b [] f) ∧ Below w.heap.size w w' ∧ d < w'.heap.size ∧ b < w'.heap.size := by
  have hmm := @run_makeMap Try.prog
  go_enter Try.func7, Try.ntmps7
  go_wp2
  go_ret
  refine ⟨_, w.heap.size, rfl, fun Z hZ f => ⟨?_, (World.ownsMap_made w Try.prog 3 RL).alloc _, List.Pairwise.nil, by simp, by simp, by simp, by simp, by simp, by simp, hZ⟩, ?_, by simp, by simp; omega⟩
  · simp
  · exact ((Below.refl _ _).alloc (Nat.le_refl _) _).alloc (by simp) _
theorem results_two {P : Program} {fn : Func} {p u : Tmp} {ty : TypeId} (h : fn.results = #[.cell p ty, .tmp u]) (tmps : Array Value) (w : World) (g : Nat) (t : TypeId) (cs : Array Value) (fr : Nat × Nat) (d : TypeDesc)
    (hp : tmps.getD p undef = .pointer (some ⟨g, 0, none⟩)) (hg : w.heap[g]? = some (.cells cs t fr))
    (hu : P.underlying ty = some d) (hd : (match d with | .struct _ | .array _ _ => true | _ => false) = true) (hi : (P.info? ty).map (·.size) = some cs.size) :
    (results fn tmps).run P w = .ok (.tuple #[.agg cs, tmps.getD u undef]) w := by
  have hp' : tmps[p]?.getD undef = .pointer (some ⟨g, 0, none⟩) := by simpa using hp
  simp [results, h, hp', asAddr, run_loadVar_row w g t ty cs fr d hg hu hd hi]
def AskP (w : World) (A : List Ro) (c s : Int) (e : Ending) (w' : World) : Prop :=
  ∃ v, e = .returned (.tuple #[repV (askA A c s).1 v, .bool (askA A c s).2.2]) ∧ RSs (fun k => w.heap.size ≤ k) w' v (askA A c s).2.1 ∧ Below w.heap.size w w'
variable {Z : Nat → Prop} {B : Nat} {d b : Nat} {A : List Ro} {f : Int → Value}
theorem AskP.nil {w w' : World} {c s : Int} {rp : Rp} {bo : Bool} (he : askA A c s = (rp, [], bo)) (hb : Below w.heap.size w w') : AskP w A c s (.returned (.tuple #[repV rp (.slice none 0 0), .bool bo])) w' := by
  unfold AskP
  rw [he]
  exact ⟨_, rfl, RSs.nil _ _, hb⟩
set_option maxRecDepth 20000 in
set_option maxHeartbeats 1000000 in
theorem ask_any (c s : Int) (w : World) (h : Tb Z B w d b A f) (hc : isI c) : Calls Try.prog 8 #[ptr d, .int .i64 c, .int .i64 s] w (AskP w A c s) := by
  by_cases c0 : c = 0
  · subst c0
    have e : askA A 0 s = (rp0, [], true) := by simp [askA]
    unfold AskP
    rw [e]
    clear h
    go_enter Try.func8, Try.ntmps8
    go_wp2
    refine bodyPost_ret (results_two rfl _ _ w.heap.size 33 #[.int .i64 0, .int .i64 0, .bool false, .slice none 0 0, .int .i64 0] (0, 0) _ rfl (heap_alloc_new w _) Try.underlying33 rfl (by kernel_rfl)) rfl ?_
    exact ⟨_, rfl, RSs.nil _ _, (Below.refl _ _).alloc (Nat.le_refl _) _⟩
  obtain ⟨i0, s0, r0, v0, p0, n0, cc0, hg, hv0, h1⟩ : ∃ (i0 s0 : Int) (r0 : Rp) (v0 : Value) (p0 : Option Addr) (n0 cc0 : Nat), getV f (lookL c A) = rowV i0 s0 r0 v0 ∧ v0 = .slice p0 n0 cc0 ∧ ((lookL c A = none ∧ s0 = 0) ∨ ∃ r, lookL c A = some r ∧ r ∈ A ∧ s0 = r.sq ∧ r0 = r.rp ∧ v0 = f r.id) := by
    cases hl : lookL c A with
    | none => exact ⟨0, 0, rp0, _, none, 0, 0, rfl, rfl, .inl ⟨rfl, rfl⟩⟩
    | some r =>
      have hm := List.mem_of_find?_eq_some hl
      obtain ⟨p, cc, hp, _⟩ := h.res r hm
      exact ⟨r.id, r.sq, r.rp, f r.id, p, _, cc, rfl, hp, .inr ⟨r, rfl, hm, rfl, rfl, rfl⟩⟩
  subst hv0
  obtain ⟨W0, hW0⟩ : ∃ W0, W0 = w.alloc (.cells #[.int .i64 0, .int .i64 0, .bool false, .slice none 0 0, .int .i64 0] 33) := ⟨_, rfl⟩
  have hb0 : Below w.heap.size w W0 := by rw [hW0]; exact (Below.refl _ _).alloc (Nat.le_refl _) _
  have k0 : W0.heap[w.heap.size]? = some (.cells #[.int .i64 0, .int .i64 0, .bool false, .slice none 0 0, .int .i64 0] 33 (0, 0)) := by rw [hW0]; exact heap_alloc_new w _
  have hs0 : W0.heap.size = w.heap.size + 1 := by rw [hW0]; simp
  have hT0 := h.below hb0
  have hlk := look_run hT0.own hc true
  rw [hg] at hlk
  simp only [if_true] at hlk
  have q0 := hT0.c0
  have hdl := hT0.ltd
  obtain ⟨W1, hW1⟩ : ∃ W1, W1 = W0.alloc (.cells #[.int .i64 i0, .int .i64 s0, .int .i64 r0.err, .int .i64 r0.rev, .bool r0.thn, .slice p0 n0 cc0, .int .i64 r0.tim] 43) := ⟨_, rfl⟩
  have hb1 : Below W0.heap.size W0 W1 := by rw [hW1]; exact (Below.refl _ _).alloc (Nat.le_refl _) _
  have k1 := (hb1.block w.heap.size (by omega)).trans k0
  have k2 : W1.heap[W0.heap.size]? = some (.cells #[.int .i64 i0, .int .i64 s0, .int .i64 r0.err, .int .i64 r0.rev, .bool r0.thn, .slice p0 n0 cc0, .int .i64 r0.tim] 43 (0, 0)) := by rw [hW1]; exact heap_alloc_new _ _
  have hT1 := hT0.below hb1
  have q1 := hT1.c0
  have hlen := fun ty => hT1.own.len Try.underlying50 ty
  simp only [size_mapD] at hlen
  have hs1 : W1.heap.size = w.heap.size + 2 := by rw [hW1]; simp; omega
  go_enter Try.func8, Try.ntmps8
  go_upto_region 1 with fail
  rw [← hW0]
  have HW1 := Hid.mk'' hW1
  have HS0 := Hid.mk'' hs0
  have HS1 := Hid.mk'' hs1
  clear hW0 hW1 hs0 hs1
  obtain ⟨rx, hrx⟩ : ∃ rx, rx = w.heap.size := ⟨_, rfl⟩
  rw [← hrx] at HS0 HS1 k0 k1 ⊢
  have HRX := Hid.mk'' hrx
  clear hrx
  obtain ⟨bx, hbx⟩ : ∃ bx, bx = W0.heap.size := ⟨_, rfl⟩
  have hbl : rx < W0.heap.size := (Array.getElem?_eq_some_iff.1 k0).1
  go_upto_region 4 with fail
  rw [← HW1.out]
  rw [← hbx] at HS0 k2 ⊢
  have HK1 := Hid.mk'' k1
  have HK2 := Hid.mk'' k2
  have HB : Hid (Below w.heap.size w W1) := hb0.trans (hb1.mono hb0.size)
  have HT1 := Hid.mk'' hT1
  have HT0 := Hid.mk'' hT0
  have x1 : W1.cell? ⟨bx, 1, none⟩ = some (.int .i64 s0) := cell_of_row _ _ _ _ _ _ k2
  have x2 : W1.cell? ⟨bx, 2, none⟩ = some (.int .i64 r0.err) := cell_of_row _ _ _ _ _ _ k2
  have x3 : W1.cell? ⟨bx, 3, none⟩ = some (.int .i64 r0.rev) := cell_of_row _ _ _ _ _ _ k2
  have x4 : W1.cell? ⟨bx, 4, none⟩ = some (.bool r0.thn) := cell_of_row _ _ _ _ _ _ k2
  have x5 : W1.cell? ⟨bx, 5, none⟩ = some (.slice p0 n0 cc0) := cell_of_row _ _ _ _ _ _ k2
  have x6 : W1.cell? ⟨bx, 6, none⟩ = some (.int .i64 r0.tim) := cell_of_row _ _ _ _ _ _ k2
  have y0 : W1.cell? ⟨rx, 0, none⟩ = some (.int .i64 0) := cell_of_row _ _ _ _ _ _ k1
  have y1 : W1.cell? ⟨rx, 1, none⟩ = some (.int .i64 0) := cell_of_row _ _ _ _ _ _ k1
  have y2 : W1.cell? ⟨rx, 2, none⟩ = some (.bool false) := cell_of_row _ _ _ _ _ _ k1
  have y3 : W1.cell? ⟨rx, 3, none⟩ = some (.slice none 0 0) := cell_of_row _ _ _ _ _ _ k1
  have y4 : W1.cell? ⟨rx, 4, none⟩ = some (.int .i64 0) := cell_of_row _ _ _ _ _ _ k1
  have yf : ∀ t, W1.frozen? ⟨rx, t, none⟩ = false := fun t => by simp [World.frozen?, k1]
  have HFW : Hid (∀ (e : Rp), Below w.heap.size w (((((W1.setCell ⟨rx, 0, none⟩ (.int .i64 e.err)).setCell ⟨rx, 1, none⟩ (.int .i64 e.rev)).setCell ⟨rx, 2, none⟩ (.bool e.thn)).setCell ⟨rx, 3, none⟩ (.slice none 0 0)).setCell ⟨rx, 4, none⟩ (.int .i64 e.tim))) := fun e => by
    have hr : w.heap.size ≤ rx := by rw [HRX.out]; exact Nat.le_refl _
    exact ((((HB.out.setCell hr _).setCell hr _).setCell hr _).setCell hr _).setCell hr _
  have HQQ : Hid (∀ (e : Rp), (((((W1.setCell ⟨rx, 0, none⟩ (.int .i64 e.err)).setCell ⟨rx, 1, none⟩ (.int .i64 e.rev)).setCell ⟨rx, 2, none⟩ (.bool e.thn)).setCell ⟨rx, 3, none⟩ (.slice none 0 0)).setCell ⟨rx, 4, none⟩ (.int .i64 e.tim)).heap[rx]? = some (.cells #[.int .i64 e.err, .int .i64 e.rev, .bool e.thn, .slice none 0 0, .int .i64 e.tim] 33 (0, 0))) := fun e => heap_setCell_row (heap_setCell_row (heap_setCell_row (heap_setCell_row (heap_setCell_row HK1.out 0 _) 1 _) 2 _) 3 _) 4 _
  have HH1 := Hid.mk'' h1
  have HG := Hid.mk'' hg
  have HBX := Hid.mk'' hbx
  have HH := Hid.mk'' h
  have hfin : Hid (∀ (e : Rp) (bo : Bool) (K : Act → Prop), True) := fun _ _ _ => trivial
  clear k0 k1 k2 hb0 hb1 hT0 hT1 hlk h hg hbx q0 hdl hfin
  by_cases hneg : c < 0
  · have e : askA A c s = (rpE 1, [], false) := by simp [askA, c0, hneg]
    clear h1
    go_wp2
    refine bodyPost_ret (results_two rfl _ _ rx 33 #[.int .i64 1, .int .i64 0, .bool false, .slice none 0 0, .int .i64 0] (0, 0) _ rfl (HQQ.out (rpE 1)) Try.underlying33 rfl (by kernel_rfl)) rfl ?_
    exact AskP.nil e (HFW.out (rpE 1))
  by_cases hs1 : s < 1
  · have e : askA A c s = (rpE 1, [], false) := by simp [askA, c0, hs1]
    clear h1
    go_wp2
    refine bodyPost_ret (results_two rfl _ _ rx 33 #[.int .i64 1, .int .i64 0, .bool false, .slice none 0 0, .int .i64 0] (0, 0) _ rfl (HQQ.out (rpE 1)) Try.underlying33 rfl (by kernel_rfl)) rfl ?_
    exact AskP.nil e (HFW.out (rpE 1))
  rcases h1 with ⟨hl, rfl⟩ | ⟨r, hl, hm, rfl, rfl, hv⟩
  · by_cases hf : 64 ≤ A.length
    · have e : askA A c s = (rpE 4, [], false) := by simp [askA, c0, hneg, hs1, hl, hf]
      rw [hl]
      have hz : (64 : Int) ≤ (A.length : Int) := by omega
      clear hl
      go_wp2
      refine bodyPost_ret (results_two rfl _ _ rx 33 #[.int .i64 4, .int .i64 0, .bool false, .slice none 0 0, .int .i64 0] (0, 0) _ rfl (HQQ.out (rpE 4)) Try.underlying33 rfl (by kernel_rfl)) rfl ?_
      exact AskP.nil e (HFW.out (rpE 4))
    · have e : askA A c s = (rp0, [], true) := by simp [askA, c0, hneg, hs1, hl, hf]
      rw [hl]
      have hz : ¬ (64 : Int) ≤ (A.length : Int) := by omega
      have hz2 : ¬ (0 : Int) > s := by omega
      have hz3 : ¬ (0 : Int) = s := by omega
      clear hl
      go_wp2
      refine bodyPost_ret (results_two rfl _ _ rx 33 #[.int .i64 0, .int .i64 0, .bool false, .slice none 0 0, .int .i64 0] (0, 0) _ rfl (HQQ.out rp0) Try.underlying33 rfl (by kernel_rfl)) rfl ?_
      exact AskP.nil e (HFW.out rp0)
  · by_cases h24 : s < r.sq
    · have e : askA A c s = (rpE 24, [], false) := by simp [askA, c0, hneg, hs1, hl, h24]
      rw [hl]
      clear hl
      go_wp2
      refine bodyPost_ret (results_two rfl _ _ rx 33 #[.int .i64 24, .int .i64 0, .bool false, .slice none 0 0, .int .i64 0] (0, 0) _ rfl (HQQ.out (rpE 24)) Try.underlying33 rfl (by kernel_rfl)) rfl ?_
      exact AskP.nil e (HFW.out (rpE 24))
    · by_cases heq : r.sq = s
      · have e : askA A c s = (r.rp, r.rs, false) := by simp [askA, c0, hneg, hs1, hl, heq]
        rw [hl]
        have hcall := own_rep r.rp r.rs (f r.id) W1 (HT1.out.res r hm) (by have := (HT1.out.ok r hm).d; omega)
        rw [← hv] at hcall
        have HBX2 : Hid (bx ≠ rx) := by
          have := HBX.out; show bx ≠ rx; omega
        have hrl : rx < W1.heap.size := (Array.getElem?_eq_some_iff.1 HK1.out).1
        have HE := Hid.mk'' e
        clear hl e hm hv
        go_wp2_with (go_at_call 15; refine hcall.mono ?_; rintro e w2 ⟨v2, rfl, hv2, bel2⟩
                     have k3 := (bel2.block rx hrl).trans HK1.out
                     have z0 : w2.cell? ⟨rx, 0, none⟩ = some (.int .i64 0) := cell_of_row _ _ _ _ _ _ k3
                     have z1 : w2.cell? ⟨rx, 1, none⟩ = some (.int .i64 0) := cell_of_row _ _ _ _ _ _ k3
                     have z2 : w2.cell? ⟨rx, 2, none⟩ = some (.bool false) := cell_of_row _ _ _ _ _ _ k3
                     have z3 : w2.cell? ⟨rx, 3, none⟩ = some (.slice none 0 0) := cell_of_row _ _ _ _ _ _ k3
                     have z4 : w2.cell? ⟨rx, 4, none⟩ = some (.int .i64 0) := cell_of_row _ _ _ _ _ _ k3
                     have zf : ∀ t, w2.frozen? ⟨rx, t, none⟩ = false := fun t => by simp [World.frozen?, k3]
                     have HK3 := Hid.mk'' k3
                     have HV2 := Hid.mk'' hv2
                     have HB2 := Hid.mk'' bel2
                     obtain ⟨p2, c2, hve, _⟩ := hv2
                     subst hve
                     clear k3 bel2 hcall)
        have HQ := heap_setCell_row (heap_setCell_row (heap_setCell_row (heap_setCell_row (heap_setCell_row HK3.out 0 (.int .i64 r.rp.err)) 1 (.int .i64 r.rp.rev)) 2 (.bool r.rp.thn)) 3 (.slice p2 r.rs.length c2)) 4 (.int .i64 r.rp.tim)
        refine bodyPost_ret (results_two rfl _ _ rx 33 #[.int .i64 r.rp.err, .int .i64 r.rp.rev, .bool r.rp.thn, .slice p2 r.rs.length c2, .int .i64 r.rp.tim] (0, 0) _ rfl HQ Try.underlying33 rfl (by kernel_rfl)) rfl ?_
        have hu0 : Upd w2 w2 (fun k => k = rx) := Upd.refl _ _
        have hu1 := hu0.setCell (p := ⟨rx, 0, none⟩) (.inr rfl) (.int .i64 r.rp.err)
        have hu2 := hu1.setCell (p := ⟨rx, 1, none⟩) (.inr rfl) (.int .i64 r.rp.rev)
        have hu3 := hu2.setCell (p := ⟨rx, 2, none⟩) (.inr rfl) (.bool r.rp.thn)
        have hu4 := hu3.setCell (p := ⟨rx, 3, none⟩) (.inr rfl) (.slice p2 r.rs.length c2)
        have hu5 := hu4.setCell (p := ⟨rx, 4, none⟩) (.inr rfl) (.int .i64 r.rp.tim)
        have e1 := HRX.out
        have e2 := HB.out.size
        have e3 := HB2.out.size
        unfold AskP
        rw [HE.out]
        refine ⟨_, rfl, (HV2.out.upd hu5 (fun k hk e => ?_)).mono (fun k hk => ?_), (HB.out.trans (HB2.out.mono e2)).trans (hu5.below (by omega) (fun k hk e => by omega))⟩
        · have hk' : W1.heap.size ≤ k := hk
          omega
        · have hk' : W1.heap.size ≤ k := hk
          show w.heap.size ≤ k
          omega
      · have e : askA A c s = (rp0, [], true) := by simp [askA, c0, hneg, hs1, hl, h24, heq]
        rw [hl]
        clear hl
        go_wp2
        refine bodyPost_ret (results_two rfl _ _ rx 33 #[.int .i64 0, .int .i64 0, .bool false, .slice none 0 0, .int .i64 0] (0, 0) _ rfl (HQQ.out rp0) Try.underlying33 rfl (by kernel_rfl)) rfl ?_
        exact AskP.nil e (HFW.out rp0)
end Go.Proofs.Ytcghaepjklmggaa
