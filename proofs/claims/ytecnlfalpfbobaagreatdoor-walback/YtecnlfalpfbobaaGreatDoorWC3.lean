/- What an entry says: sayEntry. -/
import Derived.Test.YtecnlfalpfbobaaGreatDoorWC2
import Derived.Deep.RegionWith
import Derived.Deep.CutRange
import Derived.Deep.RegionLaw
namespace Go.Proofs.YtecnlfalpfbobaaGreatDoor
open Go Go.RowKit
theorem St.sayE_yes {s : Sm} {x : Ev} (h : x.e.i = s.mi + s.pos x.e.i + 1) : s.sayE x = { s with es := s.es.take (s.pos x.e.i) ++ [x] } := by
  unfold St.sayE
  rw [show ix x = x.e.i from rfl, if_pos h]
theorem St.sayE_no {s : Sm} {x : Ev} (h : ¬ x.e.i = s.mi + s.pos x.e.i + 1) : s.sayE x = { s with es := s.es.take (s.pos x.e.i) } := by
  unfold St.sayE
  rw [show ix x = x.e.i from rfl, if_neg h]
theorem St.ok.front {s : Sm} (h : s.ok) (i : Nat) : ({ s with es := s.es.take i } : Sm).ok := by
  refine ⟨fun j hj => ?_, ?_, h.bot⟩
  · simp only [List.length_take] at hj ⊢
    rw [List.getElem_take]
    exact h.at_ j (by omega)
  · have := h.top
    simp only [List.length_take]
    omega
set_option maxRecDepth 100000 in
set_option maxHeartbeats 4000000 in
theorem sayEntry_any (B b o : Nat) (s : Sm) (ev : Value) (x : Ev) (w : World) (h : Smem B w b o s ev) (hx : EvOk w x) (hxa : EvAway (fun k => k = b ∨ some k = ev.ownBlock) x) (hxi : x.e.i ≤ 9223372036854775807) (hxl : -9223372036854775808 ≤ x.e.i) (hf : s.es.length < 1000000) (hB : B ≤ w.heap.size) :
    Calls Tryz.prog 96 #[.pointer (some ⟨b, o, none⟩), .agg #[.int .i64 x.e.i, .int .i64 x.e.t, .int .i64 x.e.k, x.v]] w fun e w' => e = .returned (.tuple #[]) ∧ SmPost B w w' b o ev (s.sayE x) := by
  have hp := fun w' (hb : Below w.heap.size w w') => place_any B b o s ev x.e.i w' (h.below hb)
  have hpl := s.pos_le x.e.i
  have HY := Hid.mk' (@St.sayE_yes s x)
  have HNo := Hid.mk' (@St.sayE_no s x)
  obtain ⟨ao, cp, rfl, hcp, hcm⟩ := h.rest.row.form
  have HM := Hid.mk' h
  have htop := h.rest.ok.top
  have hbot := h.rest.ok.bot
  generalize s.pos x.e.i = pos at *
  generalize hmi : s.mi = mi at *
  have HMI := Hid.mk' hmi
  generalize hn : s.es.length = n at *
  have HN := Hid.mk' hn
  have HX := Hid.mk' hx
  have HXA := Hid.mk' hxa
  clear hn hmi hx hxa h
  go_enter Tryz.func96, Tryz.ntmps96
  go_upto_region 2 with (go_at_call 128; refine (hp _ ((Below.refl _ _).alloc (Nat.le_refl _) _)).mono ?_; rintro e w1 ⟨rfl, hb1⟩)
  have hB1 : Hid (Below w.heap.size w w1) := (((Below.refl w.heap.size w).alloc (Nat.le_refl _) _).trans (hb1.mono (by simp)))
  have HLT : Hid (w.heap.size < w1.heap.size) := by have := hb1.size; simp at this; exact this
  have HM1 := Hid.mk' (HM.out.below hB1.out)
  have c6 := HM1.out.cells.c6
  have f6 := HM1.out.cells.free (o + 6)
  have hbox : ∀ j, w1.cell? ⟨w.heap.size, j, none⟩ = (#[Value.int IntKind.i64 x.e.i, Value.int IntKind.i64 x.e.t, Value.int IntKind.i64 x.e.k, x.v] : Array Value)[j]? := fun j => by
    rw [hb1.cell (p := ⟨w.heap.size, j, none⟩) (by simp)]
    exact cell_of_row _ _ _ _ _ _ (heap_alloc_new w _)
  have b0 := hbox 0
  have b1 := hbox 1
  have b2 := hbox 2
  have b3 := hbox 3
  simp only [List.getElem?_toArray, List.getElem?_cons_zero, List.getElem?_cons_succ] at b0 b1 b2 b3
  have hdel1 : Calls Tryz.prog 129 #[.slice ao n cp, .int .i64 pos, .int .i64 n] w1.drew _ := HN.out ▸ delete_any B _ s.es pos w1.drew (HM1.out.rest.row.upd (Upd.drewN w1 1 (fun _ => False)) (fun _ _ => id)) (by rw [HN.out]; exact hpl) (by rw [HN.out]; omega)
  have HNE := Hid.mk' HM1.out.rest.ne
  have HBL := Hid.mk' HM1.out.cells.lt
  clear hb1 hbox hp
  go_cut [] from 14 (fun wc => ∃ ao' cp', Hid (Smem B wc b o { s with es := s.es.take pos } (.slice ao' pos cp')) ∧ Hid (Upd w wc (fun k => k = b ∨ some k = (Value.slice ao n cp).ownBlock)) ∧ Hid (Owned w (.slice ao n cp) (.slice ao' pos cp')) ∧ Hid (w.heap.size < wc.heap.size) ∧ Hid (Keeps w wc b o) ∧
    wc.cell? ⟨w.heap.size, 0, none⟩ = some (.int .i64 x.e.i) ∧ wc.cell? ⟨w.heap.size, 1, none⟩ = some (.int .i64 x.e.t) ∧ wc.cell? ⟨w.heap.size, 2, none⟩ = some (.int .i64 x.e.k) ∧ wc.cell? ⟨w.heap.size, 3, none⟩ = some x.v)
  case first =>
    go_region_with (go_at_call 129; refine hdel1.mono ?_; rintro e w2 ⟨ev', rfl, hr2, hu2, ho2⟩; obtain ⟨ao', cp', rfl, hcp', hcm'⟩ := hr2.form; have c62 := (hu2.cell (p := ⟨b, o + 6, none⟩) HBL.out (fun e => HNE.out e.symm)).trans c6; have f62 := (hu2.frozen (p := ⟨b, o + 6, none⟩) HBL.out (fun e => HNE.out e.symm)).trans f6)
    all_goals (go_wp2_with fail; go_meet; case rel =>
      have hw : Upd w1 w2 (fun k => some k = (Value.slice ao n cp).ownBlock) := ⟨hu2.os, hu2.tape, hu2.output, hu2.size, hu2.block⟩
      have hlen : (s.es.take pos).length = pos := by rw [List.length_take, HN.out]; omega
      have key := HM1.out.row (s.es.take pos) hw (by rw [hlen]; exact hr2) (.inl ho2) (fun y hy => ⟨HM1.out.rest.ents y (List.mem_of_mem_take hy), HM1.out.rest.ea y (List.mem_of_mem_take hy)⟩) (HM1.out.rest.ok.front pos) (by omega)
      have hU := (Upd.ofBelow hB1.out : Upd w w1 (fun k => k = b ∨ some k = (Value.slice ao n cp).ownBlock)).trans key.2.1 (fun _ _ h => h)
      have hS : ¬ (w.heap.size = b ∨ some w.heap.size = (Value.slice ao n cp).ownBlock) := fun e => by
        rcases e with e | e
        · have := HM.out.cells.lt; omega
        · have := (HM.out.rest.row.lt e.symm).2; omega
      refine ⟨ao', cp', Hid.mk' key.1, Hid.mk' hU, Hid.mk' (.inl ho2), Hid.mk' (Nat.lt_of_lt_of_le HLT.out key.2.1.size), Hid.mk' ((Keeps.below hB1.out HM.out.cells.lt).trans key.2.2), ?_, ?_, ?_, ?_⟩
      · exact (key.2.1.cell (p := ⟨w.heap.size, 0, none⟩) HLT.out hS).trans b0
      · exact (key.2.1.cell (p := ⟨w.heap.size, 1, none⟩) HLT.out hS).trans b1
      · exact (key.2.1.cell (p := ⟨w.heap.size, 2, none⟩) HLT.out hS).trans b2
      · exact (key.2.1.cell (p := ⟨w.heap.size, 3, none⟩) HLT.out hS).trans b3)
  case rest =>
    obtain ⟨ao', cp', HS, HU, HO, HL, HKP, b0, b1, b2, b3⟩ := hcut
    clear c6 f6 hdel1 HNE HBL HM1 hB1 HLT
    have hlen : Hid ((s.es.take pos).length = pos) := by show _ = _; rw [List.length_take, HN.out]; omega
    obtain ⟨L, HLE⟩ : ∃ L : Int, Hid (L = mi + pos) := ⟨_, rfl⟩
    have hlast : Hid (({ s with es := s.es.take pos } : Sm).last = L) := by show _ = _; unfold St.last; rw [hlen.out, HMI.out, HLE.out]
    have c6 := HS.out.cells.c6
    have f6 := HS.out.cells.free (o + 6)
    by_cases hc : x.e.i = L + 1
    · have hg1 : decide (L < x.e.i) = true := by rw [decide_eq_true_eq]; omega
      have hg2 : (wrap64 (x.e.i - 1) == L) = true := by rw [beq_iff_eq]; unfold wrap64; have := HLE.out; omega
      have HSY := Hid.mk' (HY.out (by rw [hc, HLE.out]))
      have HC := Hid.mk' hc
      clear hc
      go_upto_region 5 with (go_at_call 125; refine (last_any _ _ _ _ _ _ HS.out).mono ?_; rintro e w3 ⟨rfl, q, hq⟩; rw [hlast.out]; have HB3 : Hid (Below wc.heap.size wc w3) := (by rw [hq]; exact below_drewN (Below.refl _ wc) q); clear hq; have b0 := (HB3.out.cell (p := ⟨w.heap.size, 0, none⟩) HL.out).trans b0; have b1 := (HB3.out.cell (p := ⟨w.heap.size, 1, none⟩) HL.out).trans b1; have b2 := (HB3.out.cell (p := ⟨w.heap.size, 2, none⟩) HL.out).trans b2; have b3 := (HB3.out.cell (p := ⟨w.heap.size, 3, none⟩) HL.out).trans b3)
      obtain ⟨i0, hi0, hz0, hz1, hz2⟩ := info_parts info60
      have HS3 := Hid.mk' (HS.out.below HB3.out)
      have HU3 : Hid (Upd w w3 (fun k => k = b ∨ some k = (Value.slice ao n cp).ownBlock)) := HU.out.trans (Upd.ofBelow HB3.out : Upd wc w3 (fun _ => False)) (fun _ _ h => h.elim)
      clear c6 f6
      have c6 := HS3.out.cells.c6
      have f6 := HS3.out.cells.free (o + 6)
      have hbl : b < w3.heap.size := HS3.out.cells.lt
      have c6a : ∀ o1, (w3.alloc o1).cell? ⟨b, o + 6, none⟩ = some (.slice ao' pos cp') := fun o1 => (((Below.refl _ w3).alloc (Nat.le_refl _) o1).cell (p := ⟨b, o + 6, none⟩) hbl).trans c6
      have hrowA : RowO (w3.alloc (.cells #[.int .i64 x.e.i, .int .i64 x.e.t, .int .i64 x.e.k, x.v] 60)).drew B 60 4 (.slice ao' pos cp') pos (rowOf (s.es.take pos)) := by
        have := HS3.out.rest.row
        rw [hlen.out] at this
        exact this.upd (S := fun _ => False) (Upd.ofBelow (((Below.refl _ w3).alloc (Nat.le_refl _) _).drew)) (fun _ _ => id)
      have hsrcA : Src Tryz.prog 4 38 (.slice (some ⟨w3.heap.size, 0, none⟩) 1 1) 1 x.cells (w3.alloc (.cells #[.int .i64 x.e.i, .int .i64 x.e.t, .int .i64 x.e.k, x.v] 60)).drew := by
        refine Src.ofSlice _ Tryz.underlying38 ⟨w3.heap.size, 0, none⟩ 1 1 x.cells rfl (fun j u hu => ?_) (fun u hu => rowOf_one (w := w) (xs := [x]) (fun y hy => by rw [List.mem_singleton.1 hy]; exact HX.out) u (by simpa [rowOf] using hu))
        rw [Addr.add_lit, Nat.zero_add]
        exact (cell_of_row _ _ _ _ _ _ (heap_alloc_new w3 _)).trans (by rw [← hu]; simp [Ev.cells])
      have HBW : Hid (B ≤ w3.heap.size) := by have := HU3.out.size; show _ ≤ _; omega
      have HNE := Hid.mk' HS3.out.rest.ne
      go_region_law (refine step_appO _ rfl (.tmp 45) (.tmp 47) 38 38 rfl B 60 i0 (.agg #[.int .i64 0, .int .i64 0, .int .i64 0, .slice none 0 0]) 4 Tryz.underlying38 hi0 hz0 hz1 rfl (by omega) _ pos (rowOf (s.es.take pos)) (by simp [Act.eval]) hrowA _ (by simp [Act.eval]) 1 x.cells hsrcA (by omega) (by have := HBW.out; simp; omega) ?_; intro v' w' h1 h2 h3; obtain ⟨ao2, cp2, rfl, _, _⟩ := h1.form; have c62 := (h2.cell (p := ⟨b, o + 6, none⟩) (by simp; omega) (fun e => HNE.out e.symm)).trans (c6a _); have f62 := (h2.frozen (p := ⟨b, o + 6, none⟩) (by simp; omega) (fun e => HNE.out e.symm)).trans ((((Below.refl _ w3).alloc (Nat.le_refl _) _).frozen (p := ⟨b, o + 6, none⟩) hbl).trans f6))
      all_goals (
        have hw : Upd w3 w' (fun k => some k = (Value.slice ao' pos cp').ownBlock) := (Upd.ofBelow (((Below.refl _ w3).alloc (Nat.le_refl _) _).drew) : Upd w3 _ (fun k => some k = (Value.slice ao' pos cp').ownBlock)).trans h2 (fun _ _ h => h)
        have hro : rowOf (s.es.take pos) ++ x.cells = rowOf (s.es.take pos ++ [x]) := by simp [rowOf]
        have hll : (s.es.take pos ++ [x]).length = pos + 1 := by rw [List.length_append, hlen.out]; rfl
        rw [hro] at h1
        have hown : Owned w3 (.slice ao' pos cp') (.slice ao2 (pos + 1) cp2) := by
          rcases h3 with h3 | h3
          · exact .inl h3
          · exact .inr (.inr ⟨_, by simp, h3⟩)
        have hokS := HM.out.rest.ok.sayE x hxi
        rw [HSY.out, ← HMI.out] at hokS
        have key := HS3.out.row (s.es.take pos ++ [x]) hw (by rw [hll]; exact h1) hown (fun y hy => by
          rcases List.mem_append.1 hy with hy | hy
          · exact ⟨HS3.out.rest.ents y hy, HS3.out.rest.ea y hy⟩
          · rw [List.mem_singleton.1 hy]
            exact ⟨HX.out.upd HU3.out HXA.out, HXA.out.owned HX.out HO.out⟩) hokS (by omega)
        go_wp2_with fail
        go_end0
        refine ⟨rfl, ?_⟩
        rw [HSY.out, ← HMI.out]
        refine ⟨_, key.1, HU3.out.trans key.2.1 (fun j hj h => ?_), HO.out.trans (by have := HU3.out.size; exact this) hown, (HKP.out.trans (Keeps.below HB3.out HS.out.cells.lt)).trans key.2.2⟩
        rcases h with h | h
        · exact .inl h
        · rcases HO.out with ho | ho | ⟨g, hg, ho⟩
          · exact .inr (by rw [h, ho])
          · rw [ho] at h; cases h
          · rw [ho] at h; have := Option.some.inj h; omega)
    · have HSN := Hid.mk' (HNo.out (by rw [← HLE.out]; exact hc))
      have fin : Hid (∀ q, SmPost B w (wc.drewN q) b o (.slice ao n cp) (s.sayE x)) := by
        intro q
        rw [HSN.out, ← HMI.out]
        exact ⟨_, HS.out.below (below_drewN (Below.refl _ _) q), HU.out.trans (Upd.drewN wc q (fun _ => False)) (fun _ _ h => h.elim), HO.out, HKP.out.trans (Keeps.below (below_drewN (Below.refl _ _) q) HS.out.cells.lt)⟩
      by_cases hc2 : L < x.e.i
      · have hg1 : decide (L < x.e.i) = true := by rw [decide_eq_true_eq]; exact hc2
        have hg2 : (wrap64 (x.e.i - 1) == L) = false := by rw [beq_eq_false_iff_ne]; unfold wrap64; have := HLE.out; omega
        clear hc hc2
        go_wp2_with (go_at_call 125; refine (last_any _ _ _ _ _ _ HS.out).mono ?_; rintro e w3 ⟨rfl, q, rfl⟩; rw [hlast.out])
        go_end0
        exact ⟨rfl, fin.out _⟩
      · have hg1 : decide (L < x.e.i) = false := by rw [decide_eq_false_iff_not]; exact hc2
        clear hc hc2
        go_wp2_with (go_at_call 125; refine (last_any _ _ _ _ _ _ HS.out).mono ?_; rintro e w3 ⟨rfl, q, rfl⟩; rw [hlast.out])
        go_end0
        exact ⟨rfl, fin.out _⟩
end Go.Proofs.YtecnlfalpfbobaaGreatDoor
