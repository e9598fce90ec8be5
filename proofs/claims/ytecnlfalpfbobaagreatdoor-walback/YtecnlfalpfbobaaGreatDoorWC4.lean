/- What a base says: sayBase. -/
import Derived.Test.YtecnlfalpfbobaaGreatDoorWC2
import Derived.Deep.RegionWith
import Derived.Deep.CutRange
import Derived.Deep.RegionLaw
namespace Go.Proofs.YtecnlfalpfbobaaGreatDoor
open Go Go.RowKit
theorem SCells.setM {w : World} {b o : Nat} {ht hv hc mi mt : Int} {vv ev : Value} (h : SCells w b o ht hv hc mi mt vv ev) (i t : Int) (u : Value) :
    SCells (((w.setCell ⟨b, o + 3, none⟩ (.int .i64 i)).setCell ⟨b, o + 3 + 1, none⟩ (.int .i64 t)).setCell ⟨b, o + 3 + 2, none⟩ u) b o ht hv hc i t u ev := by
  have k3 : (w.setCell ⟨b, o + 3, none⟩ (.int .i64 i)).cell? ⟨b, o + 3, none⟩ = some (.int .i64 i) := World.cell?_setCell_same _ _ _ h.c3
  have k4 : (w.setCell ⟨b, o + 3, none⟩ (.int .i64 i)).cell? ⟨b, o + 3 + 1, none⟩ = some (.int .i64 mt) := by rw [World.cell?_setCell_other _ _ _ _ (by simp)]; exact h.c4
  have k4' := World.cell?_setCell_same _ _ (Value.int .i64 t) k4
  have k5 : ((w.setCell ⟨b, o + 3, none⟩ (.int .i64 i)).setCell ⟨b, o + 3 + 1, none⟩ (.int .i64 t)).cell? ⟨b, o + 3 + 2, none⟩ = some vv := by rw [World.cell?_setCell_other _ _ _ _ (by simp), World.cell?_setCell_other _ _ _ _ (by simp)]; exact h.c5
  refine ⟨?_, ?_, ?_, ?_, ?_, World.cell?_setCell_same _ _ u k5, ?_, fun j => ?_⟩
  · rw [World.cell?_setCell_other _ _ _ _ (by simp), World.cell?_setCell_other _ _ _ _ (by simp), World.cell?_setCell_other _ _ _ _ (by simp)]; exact h.c0
  · rw [World.cell?_setCell_other _ _ _ _ (by simp), World.cell?_setCell_other _ _ _ _ (by simp), World.cell?_setCell_other _ _ _ _ (by simp)]; exact h.c1
  · rw [World.cell?_setCell_other _ _ _ _ (by simp), World.cell?_setCell_other _ _ _ _ (by simp), World.cell?_setCell_other _ _ _ _ (by simp)]; exact h.c2
  · rw [World.cell?_setCell_other _ _ _ _ (by simp), World.cell?_setCell_other _ _ _ _ (by simp)]; exact k3
  · rw [World.cell?_setCell_other _ _ _ _ (by simp)]; exact k4'
  · rw [World.cell?_setCell_other _ _ _ _ (by simp), World.cell?_setCell_other _ _ _ _ (by simp), World.cell?_setCell_other _ _ _ _ (by simp)]; exact h.c6
  · rw [World.frozen?_setCell, World.frozen?_setCell, World.frozen?_setCell]; exact h.free j
theorem Smem.based {B : Nat} {w W : World} {b o : Nat} {s : Sm} {ev ev' : Value} (h : Smem B w b o s ev) (xs : List Ev) (i t : Int) (vv : Vv) (hu : Upd w W (fun k => k = b)) (hc : SCells W b o s.ht s.hv s.hc i t vv.v ev') (hr : RowO w B 60 4 ev' xs.length (rowOf xs)) (ho : ev'.ownBlock = ev.ownBlock ∨ ev'.ownBlock = none)
    (hs : ∀ x ∈ xs, x ∈ s.es) (hl : xs.length ≤ s.es.length) (hv : VvOk w vv) (hva : VvAway (fun k => k = b ∨ some k = ev.ownBlock) vv) (hok : (⟨s.ht, s.hv, s.hc, i, t, vv, xs⟩ : Sm).ok) (hkp : Keeps w W b o) : SmPost B w W b o ev ⟨s.ht, s.hv, s.hc, i, t, vv, xs⟩ := by
  have ho' : Owned w ev ev' := by rcases ho with ho | ho; exact .inl ho; exact .inr (.inl ho)
  have hne : ev'.ownBlock ≠ some b := by
    rcases ho with ho | ho <;> rw [ho]
    · exact h.rest.ne
    · intro e; cases e
  refine ⟨ev', ⟨hc, ⟨hr.upd hu (fun k hk e => hne (by rw [hk, e])), fun x hx => (h.rest.ents x (hs x hx)).upd hu ((h.rest.ea x (hs x hx)).mono (fun k hk => .inl hk)), hv.upd hu (hva.mono (fun k hk => .inl hk)), hne, fun x hx => (h.rest.ea x (hs x hx)).owned (h.rest.ents x (hs x hx)) ho', hva.owned hv ho', hok, ?_⟩⟩, hu.mono (fun k _ hk => .inl hk), ho', hkp⟩
  have := h.rest.few
  show xs.length ≤ _
  omega
theorem Upd.three {w W : World} {b : Nat} (hu : Upd w W (fun k => k = b)) (x y z : Nat) (p q r : Value) : Upd w (((W.setCell ⟨b, x, none⟩ p).setCell ⟨b, y, none⟩ q).setCell ⟨b, z, none⟩ r) (fun k => k = b) :=
  ((hu.setCell (p := ⟨b, x, none⟩) (.inr rfl) p).setCell (p := ⟨b, y, none⟩) (.inr rfl) q).setCell (p := ⟨b, z, none⟩) (.inr rfl) r
set_option maxRecDepth 100000 in
set_option maxHeartbeats 4000000 in
theorem sayBase_any (B b o : Nat) (s : Sm) (ev : Value) (i t : Int) (vv : Vv) (w : World) (h : Smem B w b o s ev) (hx : VvOk w vv) (hxa : VvAway (fun k => k = b ∨ some k = ev.ownBlock) vv) (hi : i64 i) (hf : s.es.length < 1000000) :
    Calls Tryz.prog 97 #[.pointer (some ⟨b, o, none⟩), .agg #[.int .i64 i, .int .i64 t, vv.v]] w fun e w' => e = .returned (.tuple #[]) ∧ SmPost B w w' b o ev (s.sayB i t vv) := by
  have hp := fun w' (hb : Below w.heap.size w w') => place_any B b o s ev i w' (h.below hb)
  have hpl := s.pos_le i
  obtain ⟨ao, cp, rfl, hcp, hcm⟩ := h.rest.row.form
  have HM := Hid.mk' h
  have HX := Hid.mk' hx
  have HXA := Hid.mk' hxa
  obtain ⟨vo, vc, hvv⟩ := hx.sees.form
  have HVV := Hid.mk' hvv
  rw [hvv]
  generalize hfnd : s.found i = fnd at *
  have HFND := Hid.mk' hfnd
  generalize hmi : s.mi = mi at *
  have HMI := Hid.mk' hmi
  generalize hmt : s.mt = mt at *
  have HMT := Hid.mk' hmt
  generalize hn : s.es.length = n at *
  have HN := Hid.mk' hn
  generalize hpos : s.pos i = pos at *
  have HPOS := Hid.mk' hpos
  clear h hx hxa hvv hfnd hmi hmt hn hpos
  go_enter Tryz.func97, Tryz.ntmps97
  go_upto_region 2 with (go_at_call 128; refine (hp _ ((Below.refl _ _).alloc (Nat.le_refl _) _)).mono ?_; rintro e w1 ⟨rfl, hb1⟩)
  have hB1 : Hid (Below w.heap.size w w1) := (((Below.refl w.heap.size w).alloc (Nat.le_refl _) _).trans (hb1.mono (by simp)))
  have HLT : Hid (w.heap.size < w1.heap.size) := by have := hb1.size; simp at this; exact this
  have HM1 := Hid.mk' (HM.out.below hB1.out)
  have c3 := HM1.out.cells.c3
  have c4 := HM1.out.cells.c4
  have c5 := HM1.out.cells.c5
  have c6 := HM1.out.cells.c6
  rw [HMI.out] at c3
  rw [HMT.out] at c4
  have f3 := HM1.out.cells.free (o + 3)
  have f4 := HM1.out.cells.free (o + 4)
  have f5 := HM1.out.cells.free (o + 5)
  have f6 := HM1.out.cells.free (o + 6)
  have hbox : ∀ j, w1.cell? ⟨w.heap.size, j, none⟩ = (#[.int .i64 i, .int .i64 t, .slice vo vv.vs.length vc] : Array Value)[j]? := fun j => by
    rw [hb1.cell (p := ⟨w.heap.size, j, none⟩) (by simp)]
    exact cell_of_row _ _ _ _ _ _ (heap_alloc_new w _)
  have b0 := hbox 0
  have b1 := hbox 1
  have b2 := hbox 2
  simp only [List.getElem?_toArray, List.getElem?_cons_zero, List.getElem?_cons_succ] at b0 b1 b2
  have hneb : b ≠ w.heap.size := by have := HM.out.cells.lt; omega
  clear hb1 hbox hp
  have hokB := HM.out.rest.ok.sayB i t vv hi
  have HOKB := Hid.mk' hokB
  clear hokB
  have HVA : Hid (VvOk w1 vv) := HX.out.upd (Upd.ofBelow hB1.out : Upd w w1 (fun _ => False)) (fun _ _ _ => id)
  have HFIN : Hid (∀ (W : World) (xs : List Ev) (ev' : Value), Upd w1 W (fun k => k = b) → SCells W b o s.ht s.hv s.hc i t vv.v ev' → RowO w1 B 60 4 ev' xs.length (rowOf xs) → (ev'.ownBlock = (Value.slice ao n cp).ownBlock ∨ ev'.ownBlock = none) → (∀ x ∈ xs, x ∈ s.es) → xs.length ≤ s.es.length → s.sayB i t vv = ⟨s.ht, s.hv, s.hc, i, t, vv, xs⟩ → Keeps w1 W b o → SmPost B w W b o (.slice ao n cp) (s.sayB i t vv)) := by
    intro W xs ev' hu hc hr ho hs hl he hkp
    have hok := HOKB.out
    rw [he] at hok ⊢
    obtain ⟨e2, g1, g2, g3, g4⟩ := HM1.out.based xs i t vv hu hc hr ho hs hl HVA.out HXA.out hok hkp
    refine ⟨e2, g1, (Upd.ofBelow hB1.out : Upd w w1 (fun k => k = b ∨ some k = (Value.slice ao n cp).ownBlock)).trans g2 (fun _ _ h => h), ?_, (Keeps.below hB1.out HM.out.cells.lt).trans g4⟩
    exact Owned.trans (.inl rfl) hB1.out.size g3
  have HCE := Hid.mk' HM1.out.cells
  have HROW := Hid.mk' HM1.out.rest.row
  have HFP : Hid (fnd = true → pos < n ∧ mi < i) := fun h => by
    have h1 := HFND.out.trans h
    have h2 := HPOS.out
    unfold St.found at h1
    rw [decide_eq_true_eq, HMI.out, HN.out] at h1
    unfold St.pos at h2
    rw [HMI.out, HN.out] at h2
    omega
  by_cases hme : s.meets i t = true
  · have hft : fnd = true := by rw [← HFND.out]; unfold St.meets at hme; rw [Bool.and_eq_true] at hme; exact hme.1
    subst hft
    obtain ⟨hpn, hmii⟩ := HFP.out rfl
    have HE : Hid (s.sayB i t vv = ⟨s.ht, s.hv, s.hc, i, t, vv, s.es.drop (pos + 1)⟩) := by
      show _ = _
      unfold St.sayB
      rw [hme, if_pos rfl, HPOS.out]
    have hrw := HROW.out
    rw [HN.out] at hrw
    rcases hrw.2 with ⟨_, h0⟩ | ⟨g, off, cap, cur, hv, _⟩
    · omega
    · simp only [Value.slice.injEq, true_and] at hv
      obtain ⟨rfl, rfl⟩ := hv
      have hpl' : pos < s.es.length := by rw [HN.out]; exact hpn
      obtain ⟨e0, e1, e2, e3⟩ := hrw.entry pos hpl'
      have ht : (s.es[pos].e.t == t) = true := by
        show (tm s.es[pos] == t) = true
        unfold St.meets at hme
        rw [Bool.and_eq_true, HPOS.out, List.getElem?_eq_getElem hpl'] at hme
        simpa using hme.2
      generalize s.es[pos] = x at *
      have HRD : Hid (RowO w1 B 60 4 (.slice (if cp = pos + 1 then some ⟨g, off, none⟩ else some ⟨g, off + (pos + 1) * 4, none⟩) (n - (pos + 1)) (cp - (pos + 1))) (s.es.drop (pos + 1)).length (rowOf (s.es.drop (pos + 1)))) := by
        show RowO _ _ _ _ _ _ _
        rw [← rowOf_drop, List.length_drop, HN.out]
        split
        · rename_i hcc
          obtain rfl : n = pos + 1 := by omega
          have := hrw.take 0 (Nat.zero_le _)
          rw [Nat.zero_mul, List.take_zero] at this
          rw [Nat.sub_self, hcc, Nat.sub_self, List.drop_of_length_le (by rw [rowOf_len, HN.out]; exact Nat.le_refl _)]
          obtain ⟨h1, h2⟩ := this
          refine ⟨h1, .inr ?_⟩
          rcases h2 with ⟨h2, _⟩ | ⟨g', off', cap', cur', h2, hb2, hh2, _, _, hcs2, _⟩
          · simp at h2
          · simp only [Value.slice.injEq, Option.some.injEq, Addr.mk.injEq, and_true, true_and] at h2
            obtain ⟨⟨rfl, rfl⟩, rfl⟩ := h2
            exact ⟨g, off, 0, cur', rfl, hb2, hh2, Nat.le_refl _, by decide, by omega, by simp⟩
        · exact hrw.drop (pos + 1) (by omega)
      have HOW : Hid (∀ c m, (Value.slice (if cp = pos + 1 then some (⟨g, off, none⟩ : Addr) else some ⟨g, off + (pos + 1) * 4, none⟩) m c).ownBlock = (Value.slice (some (⟨g, off, none⟩ : Addr)) n cp).ownBlock) := fun c m => by split <;> rfl
      clear hme hrw hpl'
      by_cases hcc : cp = pos + 1
      · rw [if_pos hcc, show cp - (pos + 1) = 0 by omega] at HRD
        rw [if_pos hcc] at HOW
        go_quiet (fail)
        go_wp2
        go_end0
        refine ⟨rfl, HFIN.out _ (s.es.drop (pos + 1)) _ (Upd.three ((Upd.drewN w1 _ (fun k => k = b)).setCell (p := ⟨b, o + 6, none⟩) (.inr rfl) _) _ _ _ _ _ _) ?_ HRD.out (.inl (HOW.out _ _)) (fun _ h => List.mem_of_mem_drop h) (by rw [List.length_drop]; omega) HE.out (((((Keeps.below (below_drewN (Below.refl _ w1) _) HM1.out.cells.lt).set (o + 6) (by omega) _).set (o + 3) (by omega) _).set (o + 3 + 1) (by omega) _).set (o + 3 + 2) (by omega) _)⟩
        rw [HVV.out]
        exact ((HCE.out.upd (Upd.drewN w1 _ (fun _ => False)) id).set6 _).setM _ _ _
      · rw [if_neg hcc] at HRD HOW
        go_quiet (fail)
        go_wp2
        go_end0
        refine ⟨rfl, HFIN.out _ (s.es.drop (pos + 1)) _ (Upd.three ((Upd.drewN w1 _ (fun k => k = b)).setCell (p := ⟨b, o + 6, none⟩) (.inr rfl) _) _ _ _ _ _ _) ?_ HRD.out (.inl (HOW.out _ _)) (fun _ h => List.mem_of_mem_drop h) (by rw [List.length_drop]; omega) HE.out (((((Keeps.below (below_drewN (Below.refl _ w1) _) HM1.out.cells.lt).set (o + 6) (by omega) _).set (o + 3) (by omega) _).set (o + 3 + 1) (by omega) _).set (o + 3 + 2) (by omega) _)⟩
        rw [HVV.out]
        exact ((HCE.out.upd (Upd.drewN w1 _ (fun _ => False)) id).set6 _).setM _ _ _
  · have hme : s.meets i t = false := by cases h : s.meets i t; rfl; exact absurd h hme
    by_cases hc : mi = i ∧ mt = t
    · have hg1 : (mi != i) = false := by rw [bne_eq_false_iff_eq]; exact hc.1
      have hg2 : (mt != t) = false := by rw [bne_eq_false_iff_eq]; exact hc.2
      have HE : Hid (s.sayB i t vv = ⟨s.ht, s.hv, s.hc, i, t, vv, s.es⟩) := by
        show _ = _
        unfold St.sayB
        rw [hme, HMI.out, HMT.out, if_neg (by decide), if_pos hc]
      cases fnd with
      | false =>
        clear hc hme
        go_quiet (fail)
        go_wp2
        go_quiet (fail)
        go_wp2
        go_end0
        refine ⟨rfl, HFIN.out _ s.es _ (Upd.three (Upd.drewN w1 _ _) _ _ _ _ _ _) ?_ HROW.out (.inl rfl) (fun _ h => h) (Nat.le_refl _) HE.out ((((Keeps.below (below_drewN (Below.refl _ w1) _) HM1.out.cells.lt).set (o + 3) (by omega) _).set (o + 3 + 1) (by omega) _).set (o + 3 + 2) (by omega) _)⟩
        rw [HVV.out]
        exact (HCE.out.upd (Upd.drewN w1 _ (fun _ => False)) id).setM _ _ _
      | true => exact absurd hc.1 (by have := (HFP.out rfl).2; omega)
    · have HE : Hid (s.sayB i t vv = ⟨s.ht, s.hv, s.hc, i, t, vv, []⟩) := by
        show _ = _
        unfold St.sayB
        rw [hme, HMI.out, HMT.out, if_neg (by decide), if_neg hc]
      have HLAST : Hid (∀ q, SmPost B w (((((w1.drewN q).setCell ⟨b, o + 6, none⟩ (.slice none 0 0)).setCell ⟨b, o + 3, none⟩ (.int .i64 i)).setCell ⟨b, o + 3 + 1, none⟩ (.int .i64 t)).setCell ⟨b, o + 3 + 2, none⟩ (.slice vo vv.vs.length vc)) b o (.slice ao n cp) (s.sayB i t vv)) := by
        intro q
        refine HFIN.out _ [] (.slice none 0 0) (Upd.three ((Upd.drewN w1 _ (fun k => k = b)).setCell (p := ⟨b, o + 6, none⟩) (.inr rfl) _) _ _ _ _ _ _) ?_ (RowO.nil _ _ _ _) (.inr rfl) (fun _ h => by cases h) (Nat.zero_le _) HE.out (((((Keeps.below (below_drewN (Below.refl _ w1) _) HM1.out.cells.lt).set (o + 6) (by omega) _).set (o + 3) (by omega) _).set (o + 3 + 1) (by omega) _).set (o + 3 + 2) (by omega) _)
        rw [HVV.out]
        exact ((HCE.out.upd (Upd.drewN w1 _ (fun _ => False)) id).set6 _).setM _ _ _
      cases fnd with
      | false =>
        by_cases hc1 : mi = i
        · have hg1 : (mi != i) = false := by rw [bne_eq_false_iff_eq]; exact hc1
          have hg2 : (mt != t) = true := by rw [bne_iff_ne]; exact fun h => hc ⟨hc1, h⟩
          clear hc hc1 hme
          go_quiet (fail)
          go_wp2
          go_quiet (fail)
          go_wp2
          go_end0
          exact ⟨rfl, HLAST.out _⟩
        · have hg1 : (mi != i) = true := by rw [bne_iff_ne]; exact hc1
          clear hc hc1 hme
          go_quiet (fail)
          go_wp2
          go_quiet (fail)
          go_wp2
          go_end0
          exact ⟨rfl, HLAST.out _⟩
      | true => 
        obtain ⟨hpn, hmii⟩ := HFP.out rfl
        have hg1 : (mi != i) = true := by rw [bne_iff_ne]; omega
        have hrw := HROW.out
        rw [HN.out] at hrw
        rcases hrw.2 with ⟨_, h0⟩ | ⟨g, off, cap, cur, hv, _⟩
        · omega
        · simp only [Value.slice.injEq, true_and] at hv
          obtain ⟨rfl, rfl⟩ := hv
          have hpl' : pos < s.es.length := by rw [HN.out]; exact hpn
          obtain ⟨e0, e1, e2, e3⟩ := hrw.entry pos hpl'
          have ht : (s.es[pos].e.t == t) = false := by
            show (tm s.es[pos] == t) = false
            unfold St.meets at hme
            rw [HFND.out, HPOS.out, List.getElem?_eq_getElem hpl', Bool.true_and] at hme
            simpa using hme
          generalize s.es[pos] = x at *
          clear hme hrw hpl' hc
          go_quiet (fail)
          go_wp2
          go_quiet (fail)
          go_wp2
          go_end0
          exact ⟨rfl, HLAST.out _⟩
end Go.Proofs.YtecnlfalpfbobaaGreatDoor
