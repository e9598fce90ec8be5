/- What Open and State do. -/
import Derived.Test.YtecnlfalpfbobaaGreatDoorWL1
namespace Go.Proofs.YtecnlfalpfbobaaGreatDoor
open Go Go.RowKit
theorem results_tct {P : Program} {fn : Func} {p u q : Tmp} {ty : TypeId} (h : fn.results = #[.tmp p, .cell u ty, .tmp q]) (tmps : Array Value) (w : World) (g : Nat) (t : TypeId) (cs : Array Value) (fr : Nat × Nat) (d : TypeDesc)
    (hp : tmps.getD u undef = .pointer (some ⟨g, 0, none⟩)) (hg : w.heap[g]? = some (.cells cs t fr))
    (hu : P.underlying ty = some d) (hd : (match d with | .struct _ | .array _ _ => true | _ => false) = true) (hi : (P.info? ty).map (·.size) = some cs.size) :
    (results fn tmps).run P w = .ok (.tuple #[tmps.getD p undef, .agg cs, tmps.getD q undef]) w := by
  have hp' : tmps[u]?.getD undef = .pointer (some ⟨g, 0, none⟩) := by simpa using hp
  simp [results, h, hp', asAddr, run_loadVar_row w g t ty cs fr d hg hu hd hi]
set_option maxRecDepth 100000 in
set_option maxHeartbeats 1000000 in
theorem refresh_any (l : Nat) (w : World) (h : w.cell? ⟨l, 10, none⟩ = some (.bool false)) : Calls Tryz.prog 46 #[ptr l] w fun e w' => e = .returned (.tuple #[]) ∧ w' = w := by
  go_enter Tryz.func46, Tryz.ntmps46
  go_wp2
  go_returns
  exact ⟨rfl, rfl⟩
set_option maxRecDepth 100000 in
set_option maxHeartbeats 1000000 in
theorem on_any (l d : Nat) (w : World) (h : w.cell? ⟨l, 0, none⟩ = some (ptr d)) : Calls Tryz.prog 59 #[ptr l] w fun e w' => e = .returned (ptr d) ∧ w' = w := by
  go_enter Tryz.func59, Tryz.ntmps59
  go_wp2
  go_ret
  exact ⟨rfl, rfl⟩
/-- A state that was told: its numbers, its voters, its entries. -/
structure Told (B : Nat) (w : World) (vv ev : Value) (xs : List Ev) (s : Sm) : Prop where
  vot : SeesI w vv s.vs.vs
  row : RowO w B 60 4 ev xs.length (rowOf xs)
  ents : ∀ x ∈ xs, EvOk w x
  same : xs.map Ev.e = s.es.map Ev.e
  vnew : ∀ j, vv.ownBlock = some j → B ≤ j
  enew : ∀ x ∈ xs, EvAway (fun j => j < B) x
abbrev stVal (s : Sm) (vv ev : Value) : Value := .agg #[.int .i64 s.ht, .int .i64 s.hv, .int .i64 s.hc, .int .i64 s.mi, .int .i64 s.mt, vv, ev]
set_option maxRecDepth 100000 in
set_option maxHeartbeats 1000000 in
theorem state_any (B l : Nat) (s : Sm) (ev : Value) (w : World) (hm : Smem B w l 1 s ev) (hc : w.cell? ⟨l, 10, none⟩ = some (.bool false)) :
    Calls Tryz.prog 27 #[ptr l] w fun e w' => ∃ vv' ev' xs, e = .returned (stVal s vv' ev') ∧ Told w.heap.size w' vv' ev' xs s ∧ Below w.heap.size w w' := by
  have hl := hm.cells.lt
  have hc1 : ∀ o1, (w.alloc o1).cell? ⟨l, 10, none⟩ = some (.bool false) := fun o1 => (((Below.refl _ w).alloc (Nat.le_refl _) o1).cell (p := ⟨l, 10, none⟩) hl).trans hc
  have hcp := fun w' (hb : Below w.heap.size w w') => copied_any B l 1 s ev w' (hm.below hb)
  have HVV := Hid.mk' hm.rest.vot.sees.form
  clear hm
  go_enter Tryz.func27, Tryz.ntmps27
  go_wp2_with (first | (go_at_call 46; refine (refresh_any l _ (hc1 _)).mono ?_; rintro e w1 ⟨rfl, h1⟩; have h1 := h1.symm; subst h1))
  obtain ⟨w2, hw2⟩ : ∃ w2, w2 = w.alloc (.cells #[.int .i64 0, .int .i64 0, .int .i64 0, .int .i64 0, .int .i64 0, .slice none 0 0, .slice none 0 0] 40) := ⟨_, rfl⟩
  have HB2 : Hid (Below w.heap.size w w2) := by rw [hw2]; exact (Below.refl _ _).alloc (Nat.le_refl _) _
  have hs2 : w2.heap.size = w.heap.size + 1 := by rw [hw2]; simp
  have hrow : w2.heap[w.heap.size]? = some (.cells #[.int .i64 0, .int .i64 0, .int .i64 0, .int .i64 0, .int .i64 0, .slice none 0 0, .slice none 0 0] 40 (0, 0)) := by rw [hw2]; exact heap_alloc_new w _
  rw [← hw2]
  refine (hcp _ HB2.out).mono ?_
  rintro e w3 ⟨vv3, ev3, xs3, rfl, hv3, hr3, he3, hx3, hvn3, hen3, hb3⟩
  have hR3 := (hb3.block w.heap.size (by omega)).trans hrow
  have n0 := row_cells hR3 0; have n1 := row_cells hR3 1; have n2 := row_cells hR3 2; have n3 := row_cells hR3 3; have n4 := row_cells hR3 4; have n5 := row_cells hR3 5; have n6 := row_cells hR3 6
  simp only [List.getElem?_toArray, List.getElem?_cons_zero, List.getElem?_cons_succ] at n0 n1 n2 n3 n4 n5 n6
  have p0 := frozen_of_row w3 w.heap.size 0 _ 40 hR3; have p1 := frozen_of_row w3 w.heap.size 1 _ 40 hR3; have p2 := frozen_of_row w3 w.heap.size 2 _ 40 hR3; have p3 := frozen_of_row w3 w.heap.size 3 _ 40 hR3; have p4 := frozen_of_row w3 w.heap.size 4 _ 40 hR3; have p5 := frozen_of_row w3 w.heap.size 5 _ 40 hR3; have p6 := frozen_of_row w3 w.heap.size 6 _ 40 hR3
  obtain ⟨vo, vc, rfl⟩ := hv3.form
  obtain ⟨ao, ac, rfl, _, _⟩ := hr3.form
  have HQ7 := Hid.mk' (heap_setCell_row (heap_setCell_row (heap_setCell_row (heap_setCell_row (heap_setCell_row (heap_setCell_row (heap_setCell_row hR3 0 (.int .i64 s.ht)) 1 (.int .i64 s.hv)) 2 (.int .i64 s.hc)) 3 (.int .i64 s.mi)) 4 (.int .i64 s.mt)) 5 (.slice vo s.vs.vs.length vc)) 6 (.slice ao xs3.length ac))
  clear hcp hrow hw2
  go_wp2
  refine bodyPost_ret (results_cell_row rfl _ _ w.heap.size 40 #[.int .i64 s.ht, .int .i64 s.hv, .int .i64 s.hc, .int .i64 s.mi, .int .i64 s.mt, .slice vo s.vs.vs.length vc, .slice ao xs3.length ac] (0, 0) _ rfl HQ7.out Tryz.underlying40 rfl info40) rfl ?_
  have hUF : Upd w3 _ (fun j => j = w.heap.size) := (((((((Upd.refl w3 (fun j => j = w.heap.size)).setCell (p := ⟨w.heap.size, 0, none⟩) (.inr rfl) (.int .i64 s.ht)).setCell (p := ⟨w.heap.size, 1, none⟩) (.inr rfl) (.int .i64 s.hv)).setCell (p := ⟨w.heap.size, 2, none⟩) (.inr rfl) (.int .i64 s.hc)).setCell (p := ⟨w.heap.size, 3, none⟩) (.inr rfl) (.int .i64 s.mi)).setCell (p := ⟨w.heap.size, 4, none⟩) (.inr rfl) (.int .i64 s.mt)).setCell (p := ⟨w.heap.size, 5, none⟩) (.inr rfl) (.slice vo s.vs.vs.length vc)).setCell (p := ⟨w.heap.size, 6, none⟩) (.inr rfl) (.slice ao xs3.length ac)
  refine ⟨_, _, xs3, rfl, ⟨hv3.upd hUF (fun j hj _ e => by have := hvn3 j hj; omega), ?_, fun x hx => (he3 x hx).upd hUF ((hen3 x hx).mono (fun j hj => by show j < w2.heap.size; omega)), hx3, fun j hj => by have := hvn3 j hj; omega, fun x hx => (hen3 x hx).mono (fun j (hj : j < w.heap.size) => by show j < w2.heap.size; omega)⟩, (HB2.out.trans (hb3.mono HB2.out.size)).trans (hUF.below (by have := hb3.size; omega) (fun j hj e => by omega))⟩
  have h9 := hr3.upd hUF (fun j hj e => by have := (hr3.lt hj).1; omega)
  obtain ⟨g1, g2⟩ := h9
  refine ⟨g1, ?_⟩
  rcases g2 with g2 | ⟨g, off, cap, cur, g3, g4, g5⟩
  · exact .inl g2
  · exact .inr ⟨g, off, cap, cur, g3, by omega, g5⟩
theorem RowO.low {w : World} {B B' : Nat} {e : TypeId} {s : Nat} {v : Value} {n : Nat} {xs : List Value} (h : RowO w B e s v n xs) (hB : B' ≤ B) : RowO w B' e s v n xs := by
  obtain ⟨g1, g2⟩ := h
  refine ⟨g1, ?_⟩
  rcases g2 with g2 | ⟨g, off, cap, cur, g3, g4, g5⟩
  · exact .inl g2
  · exact .inr ⟨g, off, cap, cur, g3, by omega, g5⟩
theorem Smem.low {B B' : Nat} {w : World} {b o : Nat} {s : Sm} {ev : Value} (h : Smem B w b o s ev) (hB : B' ≤ B) : Smem B' w b o s ev :=
  ⟨h.cells, ⟨h.rest.row.low hB, h.rest.ents, h.rest.vot, h.rest.ne, h.rest.ea, h.rest.va, h.rest.ok, h.rest.few⟩⟩
theorem Loaded.low {B B' : Nat} {w : World} {l d : Nat} {s : Sm} {ev : Value} {p : PS} (h : Loaded B w l d s ev p) (hB : B' ≤ B) : Loaded B' w l d s ev p :=
  ⟨h.c0, h.sm.low hB, h.c8, h.c9, h.c10, h.says, ⟨fun x hx => (h.new.1 x hx).mono (fun j (hj : j < B') => by show j < B; omega), h.new.2.mono (fun j (hj : j < B') => by show j < B; omega)⟩, Nat.le_trans hB h.lnew⟩
theorem Loaded.upd {B : Nat} {w w' : World} {S : Nat → Prop} {l d : Nat} {s : Sm} {ev : Value} {p : PS} (h : Loaded B w l d s ev p) (hu : Upd w w' S) (hS : ∀ k, S k → k < B) : Loaded B w' l d s ev p := by
  have hl := h.sm.cells.lt
  have hnl : ¬ S l := fun e => by have := hS l e; have := h.lnew; omega
  exact ⟨(hu.cell (p := ⟨l, 0, none⟩) hl hnl).trans h.c0, h.sm.upd hu hnl (fun k hk e => by have := hS k e; have := (h.sm.rest.row.lt hk).1; omega) (fun x hx => (h.new.1 x hx).mono hS) (h.new.2.mono hS), (hu.cell (p := ⟨l, 8, none⟩) hl hnl).trans h.c8, (hu.cell (p := ⟨l, 9, none⟩) hl hnl).trans h.c9, (hu.cell (p := ⟨l, 10, none⟩) hl hnl).trans h.c10, h.says, h.new, h.lnew⟩
theorem Told.low {B B' : Nat} {w : World} {vv ev : Value} {xs : List Ev} {s : Sm} (h : Told B w vv ev xs s) (hB : B' ≤ B) : Told B' w vv ev xs s :=
  ⟨h.vot, h.row.low hB, h.ents, h.same, fun j hj => Nat.le_trans hB (h.vnew j hj), fun x hx => (h.enew x hx).mono (fun j (hj : j < B') => by show j < B; omega)⟩
theorem Told.upd {B : Nat} {w w' : World} {S : Nat → Prop} {vv ev : Value} {xs : List Ev} {s : Sm} (h : Told B w vv ev xs s) (hu : Upd w w' S) (hS : ∀ k, S k → k < B) : Told B w' vv ev xs s :=
  ⟨h.vot.upd hu (fun j hj _ e => by have := hS j e; have := h.vnew j hj; omega), h.row.upd hu (fun j hj e => by have := hS j e; have := (h.row.lt hj).1; omega), fun x hx => (h.ents x hx).upd hu ((h.enew x hx).mono hS), h.same, h.vnew, h.enew⟩
theorem Loaded.below {B : Nat} {w w' : World} {l d : Nat} {s : Sm} {ev : Value} {p : PS} (h : Loaded B w l d s ev p) (hu : Below w.heap.size w w') : Loaded B w' l d s ev p := h.upd (Upd.ofBelow hu : Upd w w' (fun _ => False)) (fun _ h => h.elim)
set_option maxRecDepth 100000 in
set_option maxHeartbeats 1000000 in
theorem open_any (B d : Nat) (g : Gu) (p : PS) (w : World) (hd : Dk B w d g p) (hp : Readable p) (hT : HasTab w) :
    Calls Tryz.prog 13 #[ptr d] w fun e w' => ∃ l s ev vv' ev' xs, e = .returned (.tuple #[ptr l, stVal s vv' ev', .int .i64 0]) ∧ Loaded w.heap.size w' l d s ev p ∧ Told w.heap.size w' vv' ev' xs s ∧ Below w.heap.size w w' := by
  obtain ⟨w1, hw1⟩ : ∃ w1, w1 = w.alloc (.cells #[.int .i64 0, .int .i64 0, .int .i64 0, .int .i64 0, .int .i64 0, .slice none 0 0, .slice none 0 0] 40) := ⟨_, rfl⟩
  have HB1 : Hid (Below w.heap.size w w1) := by rw [hw1]; exact (Below.refl _ _).alloc (Nat.le_refl _) _
  have hs1 : w1.heap.size = w.heap.size + 1 := by rw [hw1]; simp
  have hrow : w1.heap[w.heap.size]? = some (.cells #[.int .i64 0, .int .i64 0, .int .i64 0, .int .i64 0, .int .i64 0, .slice none 0 0, .slice none 0 0] 40 (0, 0)) := by rw [hw1]; exact heap_alloc_new w _
  have hlo := load_any B d g p w1 (hd.below HB1.out) hp (hT.below HB1.out)
  clear hd hp hT
  go_enter Tryz.func13, Tryz.ntmps13
  go_wp2_with fail
  rw [← hw1]
  refine hlo.mono ?_
  rintro e w2 ⟨l, s, ev, rfl, hL, hb2⟩
  have hst := state_any _ l s ev w2 hL.sm hL.c10
  have HL := Hid.mk' hL
  clear hL hlo hw1
  go_wp2_with fail
  refine hst.mono ?_
  rintro e w3 ⟨vv3, ev3, xs3, rfl, hto, hb3⟩
  have hz2 := hb2.size
  have hz3 := hb3.size
  have hR3 := (hb3.block w.heap.size (by omega)).trans ((hb2.block w.heap.size (by omega)).trans hrow)
  have n0 := row_cells hR3 0; have n1 := row_cells hR3 1; have n2 := row_cells hR3 2; have n3 := row_cells hR3 3; have n4 := row_cells hR3 4; have n5 := row_cells hR3 5; have n6 := row_cells hR3 6
  simp only [List.getElem?_toArray, List.getElem?_cons_zero, List.getElem?_cons_succ] at n0 n1 n2 n3 n4 n5 n6
  have p0 := frozen_of_row w3 w.heap.size 0 _ 40 hR3; have p1 := frozen_of_row w3 w.heap.size 1 _ 40 hR3; have p2 := frozen_of_row w3 w.heap.size 2 _ 40 hR3; have p3 := frozen_of_row w3 w.heap.size 3 _ 40 hR3; have p4 := frozen_of_row w3 w.heap.size 4 _ 40 hR3; have p5 := frozen_of_row w3 w.heap.size 5 _ 40 hR3; have p6 := frozen_of_row w3 w.heap.size 6 _ 40 hR3
  obtain ⟨vo, vc, rfl⟩ := hto.vot.form
  obtain ⟨ao, ac, rfl, _, _⟩ := hto.row.form
  have HQ7 := Hid.mk' (heap_setCell_row (heap_setCell_row (heap_setCell_row (heap_setCell_row (heap_setCell_row (heap_setCell_row (heap_setCell_row hR3 0 (.int .i64 s.ht)) 1 (.int .i64 s.hv)) 2 (.int .i64 s.hc)) 3 (.int .i64 s.mi)) 4 (.int .i64 s.mt)) 5 (.slice vo s.vs.vs.length vc)) 6 (.slice ao xs3.length ac))
  have HTO := Hid.mk' hto
  clear hst hrow hto
  unfold stVal
  go_wp2
  refine bodyPost_ret (results_tct rfl _ _ w.heap.size 40 #[.int .i64 s.ht, .int .i64 s.hv, .int .i64 s.hc, .int .i64 s.mi, .int .i64 s.mt, .slice vo s.vs.vs.length vc, .slice ao xs3.length ac] (0, 0) _ rfl HQ7.out Tryz.underlying40 rfl info40) rfl ?_
  have hUF : Upd w3 _ (fun j => j = w.heap.size) := (((((((Upd.refl w3 (fun j => j = w.heap.size)).setCell (p := ⟨w.heap.size, 0, none⟩) (.inr rfl) (.int .i64 s.ht)).setCell (p := ⟨w.heap.size, 1, none⟩) (.inr rfl) (.int .i64 s.hv)).setCell (p := ⟨w.heap.size, 2, none⟩) (.inr rfl) (.int .i64 s.hc)).setCell (p := ⟨w.heap.size, 3, none⟩) (.inr rfl) (.int .i64 s.mi)).setCell (p := ⟨w.heap.size, 4, none⟩) (.inr rfl) (.int .i64 s.mt)).setCell (p := ⟨w.heap.size, 5, none⟩) (.inr rfl) (.slice vo s.vs.vs.length vc)).setCell (p := ⟨w.heap.size, 6, none⟩) (.inr rfl) (.slice ao xs3.length ac)
  refine ⟨l, s, ev, _, _, xs3, rfl, ((HL.out.below hb3).upd hUF (fun k hk => by omega)).low (by omega), (HTO.out.upd hUF (fun k hk => by omega)).low (by omega), ?_⟩
  exact ((HB1.out.trans (hb2.mono HB1.out.size)).trans (hb3.mono (by omega))).trans (hUF.below (by omega) (fun j hj e => by omega))
end Go.Proofs.YtecnlfalpfbobaaGreatDoor
