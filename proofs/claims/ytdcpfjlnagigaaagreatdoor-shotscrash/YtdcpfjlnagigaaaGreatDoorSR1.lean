/- What parse tells of bytes: where they are no frame. -/
import Derived.Test.YtdcpfjlnagigaaaGreatDoorSV2
namespace Go.Proofs.YtdcpfjlnagigaaaGreatDoor
open Go Go.RowKit
theorem results_ct {P : Program} {fn : Func} {u q : Tmp} {ty : TypeId} (h : fn.results = #[.cell u ty, .tmp q]) (tmps : Array Value) (w : World) (g : Nat) (t : TypeId) (cs : Array Value) (fr : Nat × Nat) (d : TypeDesc)
    (hp : tmps.getD u undef = .pointer (some ⟨g, 0, none⟩)) (hg : w.heap[g]? = some (.cells cs t fr))
    (hu : P.underlying ty = some d) (hd : (match d with | .struct _ | .array _ _ => true | _ => false) = true) (hi : (P.info? ty).map (·.size) = some cs.size) :
    (results fn tmps).run P w = .ok (.tuple #[.agg cs, tmps.getD q undef]) w := by
  have hp' : tmps[u]?.getD undef = .pointer (some ⟨g, 0, none⟩) := by simpa using hp
  simp [results, h, hp', asAddr, run_loadVar_row w g t ty cs fr d hg hu hd hi]
theorem info81 : (Tryz.prog.info? 81).map (·.size) = some 4 := by kernel_rfl
theorem heap_setCell_row {w : World} {g : Nat} {cur : Array Value} {e : TypeId} (hg : w.heap[g]? = some (.cells cur e (0, 0))) (k : Nat) (u : Value) : (w.setCell ⟨g, k, none⟩ u).heap[g]? = some (.cells (cur.setIfInBounds k u) e (0, 0)) := by
  have hlt : g < w.heap.size := (Array.getElem?_eq_some_iff.1 hg).1
  have hv : w.heap[g] = .cells cur e (0, 0) := (Array.getElem?_eq_some_iff.1 hg).2
  unfold World.setCell
  rw [Array.getElem?_eq_getElem (by simpa using hlt), Array.getElem_modify]
  simp [hv]
theorem row4 {w : World} {b : Nat} {c0 c1 c2 c3 : Value} {t : TypeId} (h : w.heap[b]? = some (.cells #[c0, c1, c2, c3] t (0, 0))) :
    w.cell? ⟨b, 0, none⟩ = some c0 ∧ w.cell? ⟨b, 1, none⟩ = some c1 ∧ w.cell? ⟨b, 2, none⟩ = some c2 ∧ w.cell? ⟨b, 3, none⟩ = some c3 :=
  ⟨(cell_of_row _ _ _ _ _ _ h).trans rfl, (cell_of_row _ _ _ _ _ _ h).trans rfl, (cell_of_row _ _ _ _ _ _ h).trans rfl, (cell_of_row _ _ _ _ _ _ h).trans rfl⟩
/-- What the store of a snapshot into a box leaves. -/
abbrev put4 (w : World) (x : Nat) (c0 c1 c2 c3 : Value) : World := (((w.setCell ⟨x, 0, none⟩ c0).setCell ⟨x, 1, none⟩ c1).setCell ⟨x, 2, none⟩ c2).setCell ⟨x, 3, none⟩ c3
theorem put4_upd (w : World) (x : Nat) (c0 c1 c2 c3 : Value) : Upd w (put4 w x c0 c1 c2 c3) (fun j => j = x) :=
  ((((Upd.refl w (fun j => j = x)).setCell (p := ⟨x, 0, none⟩) (.inr rfl) c0).setCell (p := ⟨x, 1, none⟩) (.inr rfl) c1).setCell (p := ⟨x, 2, none⟩) (.inr rfl) c2).setCell (p := ⟨x, 3, none⟩) (.inr rfl) c3
theorem put4_row {w : World} {x : Nat} {a0 a1 a2 a3 : Value} {t : TypeId} (h : w.heap[x]? = some (.cells #[a0, a1, a2, a3] t (0, 0))) (c0 c1 c2 c3 : Value) : (put4 w x c0 c1 c2 c3).heap[x]? = some (.cells #[c0, c1, c2, c3] t (0, 0)) := by
  unfold put4
  have h0 : (w.setCell ⟨x, 0, none⟩ c0).heap[x]? = some (.cells #[c0, a1, a2, a3] t (0, 0)) := heap_setCell_row h 0 c0
  have h1 : ((w.setCell ⟨x, 0, none⟩ c0).setCell ⟨x, 1, none⟩ c1).heap[x]? = some (.cells #[c0, c1, a2, a3] t (0, 0)) := heap_setCell_row h0 1 c1
  generalize (w.setCell ⟨x, 0, none⟩ c0).setCell ⟨x, 1, none⟩ c1 = w1 at *
  have h2 : (w1.setCell ⟨x, 2, none⟩ c2).heap[x]? = some (.cells #[c0, c1, c2, a3] t (0, 0)) := heap_setCell_row h1 2 c2
  generalize w1.setCell ⟨x, 2, none⟩ c2 = w2 at *
  exact heap_setCell_row h2 3 c3
abbrev noShot : Value := .agg #[.int .i64 0, .int .i64 0, .slice none 0 0, .slice none 0 0]
set_option maxRecDepth 100000 in
set_option maxHeartbeats 1000000 in
theorem parse_no (v : Value) (zs : List Int) (w : World) (hT : HasTab w) (hv : Sees w v zs) (hb : isB zs) (hl : zs.length ≤ 100000) (hE : unfE zs ≠ 0) :
    Calls Tryz.prog 80 #[v] w fun e w' => e = .returned (.tuple #[noShot, .bool false]) ∧ Below w.heap.size w w' := by
  obtain ⟨ao, cp, rfl⟩ := hv.form
  obtain ⟨wa, hwa⟩ : ∃ wa, wa = w.alloc (.cells #[.int .i64 0, .int .i64 0, .slice none 0 0, .slice none 0 0] 81) := ⟨_, rfl⟩
  have hba : Below w.heap.size w wa := by rw [hwa]; exact (Below.refl _ _).alloc (Nat.le_refl _) _
  have hra : wa.heap[w.heap.size]? = some (.cells #[.int .i64 0, .int .i64 0, .slice none 0 0, .slice none 0 0] 81 (0, 0)) := by rw [hwa]; exact heap_alloc_new w _
  have hsa : w.heap.size < wa.heap.size := by rw [hwa]; simp
  have hun := unframe_any _ zs wa (hT.below hba) hb hl (hv.below hba)
  have hne : (unfE zs != 0) = true := by simp [hE]
  have HBA := Hid.mk' hba
  clear hv hb hT hba
  go_enter Tryz.func80, Tryz.ntmps80
  go_wp2_with fail
  rw [← hwa]
  clear hwa
  refine hun.mono ?_
  rintro e w2 ⟨v2, rfl, hs2, hb2⟩
  obtain ⟨a2, c2, rfl⟩ := hs2.form
  have hR := (hb2.block w.heap.size hsa).trans hra
  obtain ⟨n0, n1, n2, n3⟩ := row4 hR
  have p0 := frozen_of_row w2 w.heap.size 0 _ 81 hR; have p1 := frozen_of_row w2 w.heap.size 1 _ 81 hR; have p2 := frozen_of_row w2 w.heap.size 2 _ 81 hR; have p3 := frozen_of_row w2 w.heap.size 3 _ 81 hR
  have HQ := Hid.mk' (put4_row hR (.int .i64 0) (.int .i64 0) (.slice none 0 0) (.slice none 0 0))
  have HU := Hid.mk' (put4_upd w2 w.heap.size (.int .i64 0) (.int .i64 0) (.slice none 0 0) (.slice none 0 0))
  have HB2 : Hid (Below w.heap.size w w2) := HBA.out.trans (hb2.mono HBA.out.size)
  have HZ : Hid (w.heap.size < w2.heap.size) := Nat.lt_of_lt_of_le hsa hb2.size
  clear hun hs2 hb2 hra hsa hR
  go_wp2_with fail
  refine bodyPost_ret (results_ct rfl _ _ w.heap.size 81 #[.int .i64 0, .int .i64 0, .slice none 0 0, .slice none 0 0] (0, 0) _ rfl HQ.out Tryz.underlying81 rfl info81) rfl ?_
  exact ⟨rfl, HB2.out.trans (HU.out.below (by have := HZ.out; omega) (fun j hj e => by omega))⟩
end Go.Proofs.YtdcpfjlnagigaaaGreatDoor
