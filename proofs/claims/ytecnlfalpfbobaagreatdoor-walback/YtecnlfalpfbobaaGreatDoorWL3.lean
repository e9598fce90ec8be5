/- A log in memory beside its disk; what write does. -/
import Derived.Test.YtecnlfalpfbobaaGreatDoorWL1
namespace Go.Proofs.YtecnlfalpfbobaaGreatDoor
open Go Go.RowKit
theorem on_any' (l d : Nat) (w : World) (h : w.cell? ⟨l, 0, none⟩ = some (ptr d)) : Calls Tryz.prog 59 #[ptr l] w fun e w' => e = .returned (ptr d) ∧ w' = w := by
  go_enter Tryz.func59, Tryz.ntmps59
  go_wp2
  go_ret
  exact ⟨rfl, rfl⟩
/-- A log lies in memory, and its disk beside it. -/
structure Lg (B : Nat) (w : World) (l d : Nat) (g : Gu) (p : PS) (s : Sm) (ev : Value) (newest left : Int) : Prop where
  c0 : w.cell? ⟨l, 0, none⟩ = some (ptr d)
  sm : Smem B w l 1 s ev
  c8 : w.cell? ⟨l, 8, none⟩ = some (.int .i64 newest)
  c9 : w.cell? ⟨l, 9, none⟩ = some (.int .i64 left)
  c10 : w.cell? ⟨l, 10, none⟩ = some (.bool false)
  dk : Dk B w d g p
  fl : ∀ k, Foot d g k → k ≠ l ∧ ev.ownBlock ≠ some k
  fe : ∀ x ∈ s.es, EvAway (Foot d g) x
  fv : VvAway (Foot d g) s.vs
theorem Lg.below {B : Nat} {w w' : World} {l d : Nat} {g : Gu} {p : PS} {s : Sm} {ev : Value} {newest left : Int} (h : Lg B w l d g p s ev newest left) (hb : Below w.heap.size w w') : Lg B w' l d g p s ev newest left :=
  have hl := h.sm.cells.lt
  ⟨(hb.cell (p := ⟨l, 0, none⟩) hl).trans h.c0, h.sm.below hb, (hb.cell (p := ⟨l, 8, none⟩) hl).trans h.c8, (hb.cell (p := ⟨l, 9, none⟩) hl).trans h.c9, (hb.cell (p := ⟨l, 10, none⟩) hl).trans h.c10, h.dk.below hb, h.fl, h.fe, h.fv⟩
/-- Behind an operation of the disk. -/
theorem Lg.disk {B : Nat} {w w' : World} {l d : Nat} {g : Gu} {p p' : PS} {s : Sm} {ev : Value} {newest left : Int} (h : Lg B w l d g p s ev newest left) (hp : DkPost B w w' d g p') : ∃ g', Lg B w' l d g' p' s ev newest left ∧ Upd w w' (Foot d g) ∧ ∀ k, Foot d g' k → Foot d g k ∨ w.heap.size ≤ k := by
  obtain ⟨g', hd', hu, hf⟩ := hp
  have hl := h.sm.cells.lt
  have hnl : ¬ Foot d g l := fun e => (h.fl l e).1 rfl
  refine ⟨g', ⟨(hu.cell (p := ⟨l, 0, none⟩) hl hnl).trans h.c0, h.sm.upd hu hnl (fun k hk e => (h.fl k e).2 hk) h.fe h.fv, (hu.cell (p := ⟨l, 8, none⟩) hl hnl).trans h.c8, (hu.cell (p := ⟨l, 9, none⟩) hl hnl).trans h.c9, (hu.cell (p := ⟨l, 10, none⟩) hl hnl).trans h.c10, hd', fun k hk => ?_, fun x hx j hj h0 e => ?_, fun j hj h0 e => ?_⟩, hu, hf⟩
  · rcases hf k hk with hk | hk
    · exact h.fl k hk
    · exact ⟨by omega, fun e => by have := (h.sm.rest.row.lt e).2; omega⟩
  · rcases hf j e with e | e
    · exact h.fe x hx j hj h0 e
    · have := (h.sm.rest.ents x hx).lt hj h0; omega
  · rcases hf j e with e | e
    · exact h.fv j hj h0 e
    · have := h.sm.rest.vot.lt hj h0; omega
/-- Two numbers of the log are set. -/
theorem Lg.set89 {B : Nat} {w : World} {l d : Nat} {g : Gu} {p : PS} {s : Sm} {ev : Value} {newest left : Int} (h : Lg B w l d g p s ev newest left) (a b : Int) : Lg B ((w.setCell ⟨l, 8, none⟩ (.int .i64 a)).setCell ⟨l, 9, none⟩ (.int .i64 b)) l d g p s ev a b := by
  have hu : Upd w ((w.setCell ⟨l, 8, none⟩ (.int .i64 a)).setCell ⟨l, 9, none⟩ (.int .i64 b)) (fun k => k = l) := (upd_cell w l 8 _).trans (upd_cell _ l 9 _) (fun _ _ h => h)
  have hk9 : (w.setCell ⟨l, 8, none⟩ (.int .i64 a)).cell? ⟨l, 9, none⟩ = some (.int .i64 left) := by rw [World.cell?_setCell_other _ _ _ _ (by simp)]; exact h.c9
  have hc := h.sm.cells
  refine ⟨?_, ⟨?_, h.sm.rest.upd hu (fun k hk e => h.sm.rest.ne (by rw [hk, e])) (fun x hx => (h.sm.rest.ea x hx).mono (fun k hk => .inl hk)) (h.sm.rest.va.mono (fun k hk => .inl hk))⟩, ?_, World.cell?_setCell_same _ _ _ hk9, ?_, h.dk.upd hu (fun k hk e => (h.fl k hk).1 e), h.fl, h.fe, h.fv⟩
  · rw [World.cell?_setCell_other _ _ _ _ (by simp), World.cell?_setCell_other _ _ _ _ (by simp)]; exact h.c0
  · constructor <;> first | (rw [World.cell?_setCell_other _ _ _ _ (by simp), World.cell?_setCell_other _ _ _ _ (by simp)]; first | exact hc.c0 | exact hc.c1 | exact hc.c2 | exact hc.c3 | exact hc.c4 | exact hc.c5 | exact hc.c6) | (intro j; rw [World.frozen?_setCell, World.frozen?_setCell]; exact hc.free j)
  · rw [World.cell?_setCell_other _ _ _ _ (by simp)]; exact World.cell?_setCell_same _ _ _ h.c8
  · rw [World.cell?_setCell_other _ _ _ _ (by simp), World.cell?_setCell_other _ _ _ _ (by simp)]; exact h.c10
/-- Where a Save's bytes go: into which file, and how much room that one has. -/
def Goes (p : PS) (newest left : Int) (q : Nat) (room : Int) : Prop :=
  (0 < left ∧ newest = q ∧ room = left) ∨ (left ≤ 0 ∧ room = 4096 ∧ p.dead = false ∧ (∀ f ∈ p.fs, LogName f.name) ∧ nextOf (nums numW (p.fs.map PF.name)) = q)
theorem nums_bd {nms : List (List UInt8)} (h : ∀ x ∈ nms, LogName x) : ∀ m ∈ nums numW nms, 0 ≤ m ∧ m < 99999999 := by
  intro m hm
  unfold nums at hm
  obtain ⟨x, hx, rfl⟩ := List.mem_map.1 hm
  obtain ⟨hx, h0⟩ := List.mem_filter.1 hx
  have := logName_back (h x hx) (of_decide_eq_true h0)
  omega
/-- What a call on a log leaves beside the log itself. -/
def LgUpd (w w' : World) (l d : Nat) (g : Gu) (ev : Value) : Prop := Upd w w' (fun k => k = l ∨ some k = ev.ownBlock ∨ Foot d g k)
set_option maxRecDepth 100000 in
set_option maxHeartbeats 4000000 in
theorem write_any (B l d : Nat) (g : Gu) (p : PS) (s : Sm) (ev v : Value) (newest left room : Int) (q : Nat) (bs : List Int) (w : World) (h : Lg B w l d g p s ev newest left) (hB : B ≤ w.heap.size)
    (hg : Goes p newest left q room) (hq : q < 100) (hs : p.sane) (hs2 : (appP p (fname q) bs).sane) (ha : appE p (fname q) bs.length = 0) (hy : opE (appP p (fname q) bs) (fname q) = 0)
    (hv : Sees w v bs) (hvb : isB bs) (hvl : bs.length ≤ 900000) (hoff : ∀ k, v.ownBlock = some k → 0 < bs.length → ¬ Foot d g k) (hr : -10000000 ≤ room ∧ room ≤ 10000000) :
    Calls Tryz.prog 49 #[ptr l, v] w fun e w' => e = .returned (.int .i64 0) ∧ ∃ g', Lg B w' l d g' (syncP (appP p (fname q) bs) (fname q)) s ev q (room - bs.length) ∧ LgUpd w w' l d g ev ∧ ∀ k, Foot d g' k → Foot d g k ∨ w.heap.size ≤ k := by
  obtain ⟨ao, cp, rfl⟩ := hv.form
  have HL := Hid.mk' h
  have HV := Hid.mk' hv
  have HVB := Hid.mk' hvb
  have HO := Hid.mk' hoff
  have c8 := h.c8
  have c9 := h.c9
  have c0 := h.c0
  obtain ⟨n, hn⟩ : ∃ n, n = bs.length := ⟨_, rfl⟩
  have HA := Hid.mk' ha
  have HY := Hid.mk' hy
  have HS := Hid.mk' hs
  have HS2 := Hid.mk' hs2
  clear h hv hvb hoff ha hy hs hs2
  rcases hg with ⟨hl0, rfl, rfl⟩ | ⟨hl0, rfl, hdead, hnames, hnext⟩
  · have hg1 : decide (room ≤ 0) = false := by rw [decide_eq_false_iff_not]; omega
    go_enter Tryz.func49, Tryz.ntmps49
    go_wp2_with fail
    go_quiet (fail)
    go_wp2_with fail
    obtain ⟨wA, hwA⟩ : ∃ wA, wA = w.drewN nq := ⟨_, rfl⟩
    have HBA : Hid (Below w.heap.size w wA) := by rw [hwA]; exact below_drewN (Below.refl _ _) _
    rw [← hwA]
    clear hwA
    have HLA := Hid.mk' (HL.out.below HBA.out)
    have hfn := fileName_any q wA hq
    have hon := on_any' l d wA HLA.out.c0
    have hap := append_any B d g p ⟨(fname q).toArray⟩ (.slice ao bs.length cp) bs wA HLA.out.dk HS.out (Nat.le_trans hB HBA.out.size) (HV.out.below HBA.out) HVB.out HO.out (by omega)
    rw [show (⟨(fname q).toArray⟩ : ByteArray).data.toList = fname q from rfl, HA.out] at hap
    have HRL := Hid.mk' (show (⟨(fname q).toArray⟩ : ByteArray).data.toList = fname q from rfl)
    generalize hpA : appP p (fname q) bs = pA at *
    clear c0 c8 c9
    refine hfn.mono ?_
    rintro e w1 ⟨rfl, h1⟩
    have h1 := h1.symm
    subst h1
    go_wp2_with fail
    refine hon.mono ?_
    rintro e w1 ⟨rfl, h1⟩
    have h1 := h1.symm
    subst h1
    go_wp2_with fail
    refine hap.mono ?_
    rintro e w2 ⟨rfl, hp2⟩
    obtain ⟨g2, hL2, hu2, hf2⟩ := HLA.out.disk hp2
    have hon2 := on_any' l d w2 hL2.c0
    have hsy := sync_any B d g2 pA ⟨(fname q).toArray⟩ w2 hL2.dk HS2.out
    rw [show (⟨(fname q).toArray⟩ : ByteArray).data.toList = fname q from rfl, HY.out] at hsy
    have HL2 := Hid.mk' hL2
    have HU2 := Hid.mk' hu2
    have HF2 := Hid.mk' hf2
    clear hp2 hL2 hu2 hf2 hap hon hfn
    go_wp2_with fail
    refine hon2.mono ?_
    rintro e w3 ⟨rfl, h3⟩
    have h3 := h3.symm
    subst h3
    go_wp2_with fail
    refine hsy.mono ?_
    rintro e w3 ⟨rfl, hp3⟩
    obtain ⟨g3, hL3, hu3, hf3⟩ := HL2.out.disk hp3
    have c8 := hL3.c8
    have c9 := hL3.c9
    have f8 := hL3.sm.cells.free 8
    have f9 := hL3.sm.cells.free 9
    have HL3 := Hid.mk' hL3
    have HU3 := Hid.mk' hu3
    have HF3 := Hid.mk' hf3
    clear hp3 hL3 hu3 hf3 hsy hon2
    go_wp2
    go_ret
    have hset := HL3.out.set89 (q : Int) (room - bs.length)
    refine ⟨rfl, g3, by rw [hpA]; exact hset, ?_, fun k hk => ?_⟩
    · have huA : Upd w wA (fun k => k = l ∨ some k = ev.ownBlock ∨ Foot d g k) := Upd.ofBelow HBA.out
      have hu23 : Upd wA w3 (Foot d g) := HU2.out.trans HU3.out (fun j hj h => by rcases HF2.out j h with h | h; exact h; omega)
      exact (huA.trans (hu23.mono (fun k _ hk => .inr (.inr hk))) (fun _ _ h => h)).trans (((upd_cell w3 l 8 _).trans (upd_cell _ l 9 _) (fun _ _ h => h)).mono (fun k _ hk => .inl hk)) (fun _ _ h => h)
    · have hz1 := HBA.out.size
      have hz2 := HU2.out.size
      rcases HF3.out k hk with hk | hk
      · rcases HF2.out k hk with hk | hk
        · exact .inl hk
        · exact .inr (by omega)
      · exact .inr (by omega)
  · have hg1 : decide (left ≤ 0) = true := by rw [decide_eq_true_eq]; omega
    have hli := fun w1 (hb : Below w.heap.size w w1) => list_any B d g p w1 (HL.out.dk.below hb) (by have := HS.out.len; omega)
    have hE : listE p = 0 := by unfold listE; rw [hdead]; rfl
    have hBn : listB p = p.fs.map PF.name := by unfold listB; rw [hdead]; rfl
    rw [hE, hBn] at hli
    have HNM : Hid (∀ x ∈ p.fs.map PF.name, LogName x) := fun x hx => by obtain ⟨f, hf, rfl⟩ := List.mem_map.1 hx; exact hnames f hf
    have HNX := Hid.mk' hnext
    have hfl := HS.out.len
    clear hdead hnames hnext hE hBn
    go_enter Tryz.func49, Tryz.ntmps49
    go_wp2_with fail
    go_quiet (fail)
    go_wp2_with fail
    refine (on_any' l d _ (HL.out.below (below_drewN (Below.refl _ _) nq)).c0).mono ?_
    rintro e w1 ⟨rfl, h1⟩
    have HB1 : Hid (Below w.heap.size w w1) := by rw [h1]; exact below_drewN (Below.refl _ _) _
    clear h1
    have hli := hli _ HB1.out
    go_wp2_with fail
    refine hli.mono ?_
    rintro e w2 ⟨v2, rfl, hr2, hb2⟩
    obtain ⟨a2, c2, rfl⟩ := owns_form hr2
    have hno := numbersOf_any numW _ (p.fs.map PF.name) w2 ⟨_, RowO.of_owns hr2⟩ (by rw [List.length_map]; omega) (fun x hx w' => logName_num (HNM.out x hx) w')
    rw [List.length_map] at hno
    clear hli hr2
    go_wp2_with fail
    refine hno.mono ?_
    rintro e wA ⟨v3, rfl, hr3, hb3⟩
    have hnl : (nums numW (p.fs.map PF.name)).length ≤ p.fs.length := by
      unfold nums
      rw [List.length_map]
      refine Nat.le_trans (List.length_filter_le _ _) ?_
      rw [List.length_map]
      exact Nat.le_refl _
    have hnn := nextNumber_any v3 _ wA (seesI_row hr3) (by omega) (nums_bd HNM.out)
    rw [HNX.out] at hnn
    have HBA : Hid (Below w.heap.size w wA) := (HB1.out.trans (hb2.mono HB1.out.size)).trans (hb3.mono (by have := hb2.size; have := HB1.out.size; omega))
    obtain ⟨a3, c3, rfl, _, _⟩ := hr3.form
    clear hno hr3 hb3 hb2
    go_wp2_with fail
    refine hnn.mono ?_
    rintro e wB ⟨rfl, hB3⟩
    have hB3 := hB3.symm
    subst hB3
    clear hnn
    go_wp2_with fail
    have HLA := Hid.mk' (HL.out.below HBA.out)
    have hfn := fileName_any q wA hq
    have hon := on_any' l d wA HLA.out.c0
    have hap := append_any B d g p ⟨(fname q).toArray⟩ (.slice ao bs.length cp) bs wA HLA.out.dk HS.out (Nat.le_trans hB HBA.out.size) (HV.out.below HBA.out) HVB.out HO.out (by omega)
    rw [show (⟨(fname q).toArray⟩ : ByteArray).data.toList = fname q from rfl, HA.out] at hap
    have HRL := Hid.mk' (show (⟨(fname q).toArray⟩ : ByteArray).data.toList = fname q from rfl)
    generalize hpA : appP p (fname q) bs = pA at *
    clear c0 c8 c9
    refine hfn.mono ?_
    rintro e w1 ⟨rfl, h1⟩
    have h1 := h1.symm
    subst h1
    go_wp2_with fail
    refine hon.mono ?_
    rintro e w1 ⟨rfl, h1⟩
    have h1 := h1.symm
    subst h1
    go_wp2_with fail
    refine hap.mono ?_
    rintro e w2 ⟨rfl, hp2⟩
    obtain ⟨g2, hL2, hu2, hf2⟩ := HLA.out.disk hp2
    have hon2 := on_any' l d w2 hL2.c0
    have hsy := sync_any B d g2 pA ⟨(fname q).toArray⟩ w2 hL2.dk HS2.out
    rw [show (⟨(fname q).toArray⟩ : ByteArray).data.toList = fname q from rfl, HY.out] at hsy
    have HL2 := Hid.mk' hL2
    have HU2 := Hid.mk' hu2
    have HF2 := Hid.mk' hf2
    clear hp2 hL2 hu2 hf2 hap hon hfn
    go_wp2_with fail
    refine hon2.mono ?_
    rintro e w3 ⟨rfl, h3⟩
    have h3 := h3.symm
    subst h3
    go_wp2_with fail
    refine hsy.mono ?_
    rintro e w3 ⟨rfl, hp3⟩
    obtain ⟨g3, hL3, hu3, hf3⟩ := HL2.out.disk hp3
    have c8 := hL3.c8
    have c9 := hL3.c9
    have f8 := hL3.sm.cells.free 8
    have f9 := hL3.sm.cells.free 9
    have HL3 := Hid.mk' hL3
    have HU3 := Hid.mk' hu3
    have HF3 := Hid.mk' hf3
    clear hp3 hL3 hu3 hf3 hsy hon2
    go_wp2
    go_ret
    have hset := HL3.out.set89 (q : Int) ((4096 : Int) - bs.length)
    refine ⟨rfl, g3, by rw [hpA]; exact hset, ?_, fun k hk => ?_⟩
    · have huA : Upd w wA (fun k => k = l ∨ some k = ev.ownBlock ∨ Foot d g k) := Upd.ofBelow HBA.out
      have hu23 : Upd wA w3 (Foot d g) := HU2.out.trans HU3.out (fun j hj h => by rcases HF2.out j h with h | h; exact h; omega)
      exact (huA.trans (hu23.mono (fun k _ hk => .inr (.inr hk))) (fun _ _ h => h)).trans (((upd_cell w3 l 8 _).trans (upd_cell _ l 9 _) (fun _ _ h => h)).mono (fun k _ hk => .inl hk)) (fun _ _ h => h)
    · have hz1 := HBA.out.size
      have hz2 := HU2.out.size
      rcases HF3.out k hk with hk | hk
      · rcases HF2.out k hk with hk | hk
        · exact .inl hk
        · exact .inr (by omega)
      · exact .inr (by omega)
end Go.Proofs.YtecnlfalpfbobaaGreatDoor
