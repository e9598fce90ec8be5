/- The document's Same, of two messages that are the same: whole. -/
import Derived.Test.YtamgoknoapcnjaaDoorNP
namespace Go.Proofs.YtamgoknoapcnjaaDoor
open Go Go.RowKit
set_option maxRecDepth 100000 in
set_option maxHeartbeats 4000000 in
theorem refSame_yes {Z1 Z2 : Nat → Prop} {w : World} {m : Md} {ve vv vd ve' vv' vd' : Value} (h1 : Ms Z1 w ve vv vd m) (h2 : Ms Z2 w ve' vv' vd' m) (hl : m.es.length ≤ 1000000) (hv : m.vs.length ≤ 1000000) :
    Calls Tryd.prog 14 #[.agg (mrow m ve vv vd), .agg (mrow m ve' vv' vd')] w fun e w' => e = .returned (.bool true) ∧ Below w.heap.size w w' := by
  obtain ⟨pe, ce, rfl, -, -, -⟩ := h1.e
  obtain ⟨pv, cv, rfl, -, -, -⟩ := h1.v
  obtain ⟨pd, cd, rfl⟩ := h1.d.slice
  obtain ⟨pe', ce', rfl, -, -, -⟩ := h2.e
  obtain ⟨pv', cv', rfl, -, -, -⟩ := h2.v
  obtain ⟨pd', cd', rfl⟩ := h2.d.slice
  obtain ⟨c0, c1, c2, c3, c4, c5, c6, c7, c8, c9, c10, c11, c12, c13, c14⟩ := msg_cells w.heap.size m (.slice pe m.es.length ce) (.slice pv m.vs.length cv) (.slice pd m.data.length cd)
  obtain ⟨d0, d1, d2, d3, d4, d5, d6, d7, d8, d9, d10, d11, d12, d13, d14⟩ := msg_cells (w.heap.size + 1) m (.slice pe' m.es.length ce') (.slice pv' m.vs.length cv') (.slice pd' m.data.length cd')
  have hX : Bx w.heap.size (mrow m (.slice pe m.es.length ce) (.slice pv m.vs.length cv) (.slice pd m.data.length cd)) 28 ((w.alloc (.cells (mrow m (.slice pe m.es.length ce) (.slice pv m.vs.length cv) (.slice pd m.data.length cd)) 28)).alloc (.cells (mrow m (.slice pe' m.es.length ce') (.slice pv' m.vs.length cv') (.slice pd' m.data.length cd')) 28)) :=
    Bx.below (row_alloc w _ 28) ((Below.refl _ _).alloc (Nat.le_refl _) _)
  have hY : Bx (w.heap.size + 1) (mrow m (.slice pe' m.es.length ce') (.slice pv' m.vs.length cv') (.slice pd' m.data.length cd')) 28 ((w.alloc (.cells (mrow m (.slice pe m.es.length ce) (.slice pv m.vs.length cv) (.slice pd m.data.length cd)) 28)).alloc (.cells (mrow m (.slice pe' m.es.length ce') (.slice pv' m.vs.length cv') (.slice pd' m.data.length cd')) 28)) := by
    have := row_alloc (w.alloc (.cells (mrow m (.slice pe m.es.length ce) (.slice pv m.vs.length cv) (.slice pd m.data.length cd)) 28)) (mrow m (.slice pe' m.es.length ce') (.slice pv' m.vs.length cv') (.slice pd' m.data.length cd')) 28
    rw [show (w.alloc (.cells (mrow m (.slice pe m.es.length ce) (.slice pv m.vs.length cv) (.slice pd m.data.length cd)) 28)).heap.size = w.heap.size + 1 by simp] at this
    exact this
  have hb1 : Below w.heap.size w ((w.alloc (.cells (mrow m (.slice pe m.es.length ce) (.slice pv m.vs.length cv) (.slice pd m.data.length cd)) 28)).alloc (.cells (mrow m (.slice pe' m.es.length ce') (.slice pv' m.vs.length cv') (.slice pd' m.data.length cd')) 28)) := ((Below.refl _ _).alloc (Nat.le_refl _) _).alloc (by simp) _
  have HA := Hid.mkW h1
  have HB := Hid.mkW h2
  have HB1 := Hid.mkW hb1
  have hce := sameEnts_yes (h1.e.below hb1) (h2.e.below hb1) hl
  have hcm : ∀ W, Below w.heap.size w W → Calls Tryd.prog 43 #[.agg #[iv m.mi, iv m.mt, .slice pv m.vs.length cv], .agg #[iv m.mi, iv m.mt, .slice pv' m.vs.length cv']] W fun e w' => e = .returned (.bool true) ∧ Below W.heap.size W w' := fun W hW => sameMeta_yes _ _ (HA.out.v.below hW) (HB.out.v.below hW) hv
  have HC : Hid (∀ W, Below w.heap.size w W → (convert 26 9 (.slice pd m.data.length cd)).run Tryd.prog W = .ok (.string (strOfNums m.data)) W ∧ (convert 26 9 (.slice pd' m.data.length cd')).run Tryd.prog W = .ok (.string (strOfNums m.data)) W) := fun W hW => ⟨conv_sees ((HA.out.d.below hW).s), conv_sees ((HB.out.d.below hW).s)⟩
  clear h1 h2 hb1
  go_enter Tryd.func14, Tryd.ntmps14
  go_wp2_with (first
    | (go_at_call 42; refine hce.mono ?_; rintro e w2 ⟨rfl, hb2⟩; have hX2 := hX.below hb2; have hY2 := hY.below hb2; have HB2 := Hid.mkW (HB1.out.trans (hb2.mono HB1.out.size)); clear hb2)
    | (go_at_call 43; refine (hcm _ HB2.out).mono ?_; rintro e w3 ⟨rfl, hb3⟩; have hX3 := hX2.below hb3; have hY3 := hY2.below hb3; have HB3 := Hid.mkW (HB2.out.trans (hb3.mono HB2.out.size)); obtain ⟨x1, x2⟩ := HC.out _ HB3.out; clear hb3))
  go_ret
  exact ⟨rfl, HB3.out⟩
end Go.Proofs.YtamgoknoapcnjaaDoor
