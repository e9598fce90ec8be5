/- Same of any two messages, decided: the document's. -/
import Derived.Test.YtamgoknoapcnjaaDoorNSC
namespace Go.Proofs.YtamgoknoapcnjaaDoor
open Go Go.RowKit
set_option maxRecDepth 100000 in
set_option maxHeartbeats 8000000 in
theorem refSame_dec {Z1 Z2 : Nat → Prop} {w : World} {m o : Md} {ve vv vd ve' vv' vd' : Value} (h1 : Ms Z1 w ve vv vd m) (h2 : Ms Z2 w ve' vv' vd' o) (hl : m.es.length ≤ 1000000) (hv : m.vs.length ≤ 1000000) (b1 : ∀ x ∈ m.es, isB x.d) (b2 : ∀ x ∈ o.es, isB x.d) (BX : isB m.data) (BY : isB o.data) :
    Tells 14 #[.agg (mrow m ve vv vd), .agg (mrow o ve' vv' vd')] w (m = o) := by
  obtain ⟨pe, ce, rfl, -, -, -⟩ := h1.e
  obtain ⟨pv, cv, rfl, -, -, -⟩ := h1.v
  obtain ⟨pd, cd, rfl⟩ := h1.d.slice
  obtain ⟨pe', ce', rfl, -, -, -⟩ := h2.e
  obtain ⟨pv', cv', rfl, -, -, -⟩ := h2.v
  obtain ⟨pd', cd', rfl⟩ := h2.d.slice
  obtain ⟨c0, c1, c2, c3, c4, c5, c6, c7, c8, c9, c10, c11, c12, c13, c14⟩ := msg_cells w.heap.size m (.slice pe m.es.length ce) (.slice pv m.vs.length cv) (.slice pd m.data.length cd)
  obtain ⟨d0, d1, d2, d3, d4, d5, d6, d7, d8, d9, d10, d11, d12, d13, d14⟩ := msg_cells (w.heap.size + 1) o (.slice pe' o.es.length ce') (.slice pv' o.vs.length cv') (.slice pd' o.data.length cd')
  have hX : Bx w.heap.size (mrow m (.slice pe m.es.length ce) (.slice pv m.vs.length cv) (.slice pd m.data.length cd)) 28 ((w.alloc (.cells (mrow m (.slice pe m.es.length ce) (.slice pv m.vs.length cv) (.slice pd m.data.length cd)) 28)).alloc (.cells (mrow o (.slice pe' o.es.length ce') (.slice pv' o.vs.length cv') (.slice pd' o.data.length cd')) 28)) :=
    Bx.below (row_alloc w _ 28) ((Below.refl _ _).alloc (Nat.le_refl _) _)
  have hY : Bx (w.heap.size + 1) (mrow o (.slice pe' o.es.length ce') (.slice pv' o.vs.length cv') (.slice pd' o.data.length cd')) 28 ((w.alloc (.cells (mrow m (.slice pe m.es.length ce) (.slice pv m.vs.length cv) (.slice pd m.data.length cd)) 28)).alloc (.cells (mrow o (.slice pe' o.es.length ce') (.slice pv' o.vs.length cv') (.slice pd' o.data.length cd')) 28)) := by
    have := row_alloc (w.alloc (.cells (mrow m (.slice pe m.es.length ce) (.slice pv m.vs.length cv) (.slice pd m.data.length cd)) 28)) (mrow o (.slice pe' o.es.length ce') (.slice pv' o.vs.length cv') (.slice pd' o.data.length cd')) 28
    rw [show (w.alloc (.cells (mrow m (.slice pe m.es.length ce) (.slice pv m.vs.length cv) (.slice pd m.data.length cd)) 28)).heap.size = w.heap.size + 1 by simp] at this
    exact this
  have hb1 : Below w.heap.size w ((w.alloc (.cells (mrow m (.slice pe m.es.length ce) (.slice pv m.vs.length cv) (.slice pd m.data.length cd)) 28)).alloc (.cells (mrow o (.slice pe' o.es.length ce') (.slice pv' o.vs.length cv') (.slice pd' o.data.length cd')) 28)) := ((Below.refl _ _).alloc (Nat.le_refl _) _).alloc (by simp) _
  have HA := Hid.mkW h1
  have HB := Hid.mkW h2
  have HB1 := Hid.mkW hb1
  have hce : Tells 42 #[.slice pe m.es.length ce, .slice pe' o.es.length ce'] ((w.alloc (.cells (mrow m (.slice pe m.es.length ce) (.slice pv m.vs.length cv) (.slice pd m.data.length cd)) 28)).alloc (.cells (mrow o (.slice pe' o.es.length ce') (.slice pv' o.vs.length cv') (.slice pd' o.data.length cd')) 28)) (m.es = o.es) := sameEnts_dec (h1.e.below hb1) (h2.e.below hb1) hl b1 b2
  have hcm : ∀ W, Below w.heap.size w W → Tells 43 #[.agg #[iv m.mi, iv m.mt, .slice pv m.vs.length cv], .agg #[iv o.mi, iv o.mt, .slice pv' o.vs.length cv']] W (m.mi = o.mi ∧ m.mt = o.mt ∧ m.vs = o.vs) := fun W hW => refMeta_dec _ _ _ _ (HA.out.v.below hW) (HB.out.v.below hW) hv
  have HC : Hid (∀ W, Below w.heap.size w W → (convert 26 9 (.slice pd m.data.length cd)).run Tryd.prog W = .ok (.string (strOfNums m.data)) W ∧ (convert 26 9 (.slice pd' o.data.length cd')).run Tryd.prog W = .ok (.string (strOfNums o.data)) W) := fun W hW => ⟨conv_sees ((HA.out.d.below hW).s), conv_sees ((HB.out.d.below hW).s)⟩
  have HBX : Hid (isB m.data) := BX
  have HBY : Hid (isB o.data) := BY
  clear h1 h2 hb1 b1 b2 BX BY
  unfold Tells
  by_cases ekind : m.kind = o.kind
  case neg =>
    have HF : Hid (¬ m = o) := fun h => ekind (by rw [h])
    have nkind : (m.kind == o.kind) = false := by simpa using ekind
    clear ekind
    go_enter Tryd.func14, Tryd.ntmps14
    go_wp2
    go_ret
    exact ⟨false, rfl, ⟨(fun h => by cases h), fun h => absurd h HF.out⟩, HB1.out⟩
  by_cases esrc : m.src = o.src
  case neg =>
    have HF : Hid (¬ m = o) := fun h => esrc (by rw [h])
    have nkind : (m.kind == o.kind) = true := by simpa using ekind
    have nsrc : (m.src == o.src) = false := by simpa using esrc
    clear ekind esrc
    go_enter Tryd.func14, Tryd.ntmps14
    go_wp2
    go_ret
    exact ⟨false, rfl, ⟨(fun h => by cases h), fun h => absurd h HF.out⟩, HB1.out⟩
  by_cases edst : m.dst = o.dst
  case neg =>
    have HF : Hid (¬ m = o) := fun h => edst (by rw [h])
    have nkind : (m.kind == o.kind) = true := by simpa using ekind
    have nsrc : (m.src == o.src) = true := by simpa using esrc
    have ndst : (m.dst == o.dst) = false := by simpa using edst
    clear ekind esrc edst
    go_enter Tryd.func14, Tryd.ntmps14
    go_wp2
    go_ret
    exact ⟨false, rfl, ⟨(fun h => by cases h), fun h => absurd h HF.out⟩, HB1.out⟩
  by_cases eterm : m.term = o.term
  case neg =>
    have HF : Hid (¬ m = o) := fun h => eterm (by rw [h])
    have nkind : (m.kind == o.kind) = true := by simpa using ekind
    have nsrc : (m.src == o.src) = true := by simpa using esrc
    have ndst : (m.dst == o.dst) = true := by simpa using edst
    have nterm : (m.term == o.term) = false := by simpa using eterm
    clear ekind esrc edst eterm
    go_enter Tryd.func14, Tryd.ntmps14
    go_wp2
    go_ret
    exact ⟨false, rfl, ⟨(fun h => by cases h), fun h => absurd h HF.out⟩, HB1.out⟩
  by_cases eindex : m.index = o.index
  case neg =>
    have HF : Hid (¬ m = o) := fun h => eindex (by rw [h])
    have nkind : (m.kind == o.kind) = true := by simpa using ekind
    have nsrc : (m.src == o.src) = true := by simpa using esrc
    have ndst : (m.dst == o.dst) = true := by simpa using edst
    have nterm : (m.term == o.term) = true := by simpa using eterm
    have nindex : (m.index == o.index) = false := by simpa using eindex
    clear ekind esrc edst eterm eindex
    go_enter Tryd.func14, Tryd.ntmps14
    go_wp2
    go_ret
    exact ⟨false, rfl, ⟨(fun h => by cases h), fun h => absurd h HF.out⟩, HB1.out⟩
  by_cases elt : m.lt = o.lt
  case neg =>
    have HF : Hid (¬ m = o) := fun h => elt (by rw [h])
    have nkind : (m.kind == o.kind) = true := by simpa using ekind
    have nsrc : (m.src == o.src) = true := by simpa using esrc
    have ndst : (m.dst == o.dst) = true := by simpa using edst
    have nterm : (m.term == o.term) = true := by simpa using eterm
    have nindex : (m.index == o.index) = true := by simpa using eindex
    have nlt : (m.lt == o.lt) = false := by simpa using elt
    clear ekind esrc edst eterm eindex elt
    go_enter Tryd.func14, Tryd.ntmps14
    go_wp2
    go_ret
    exact ⟨false, rfl, ⟨(fun h => by cases h), fun h => absurd h HF.out⟩, HB1.out⟩
  by_cases ees : m.es = o.es
  case neg =>
    have HF : Hid (¬ m = o) := fun h => ees (by rw [h])
    have nkind : (m.kind == o.kind) = true := by simpa using ekind
    have nsrc : (m.src == o.src) = true := by simpa using esrc
    have ndst : (m.dst == o.dst) = true := by simpa using edst
    have nterm : (m.term == o.term) = true := by simpa using eterm
    have nindex : (m.index == o.index) = true := by simpa using eindex
    have nlt : (m.lt == o.lt) = true := by simpa using elt
    replace hce := hce.no ees
    clear ekind esrc edst eterm eindex elt ees
    go_enter Tryd.func14, Tryd.ntmps14
    go_wp2_with (first | (go_at_call 42; refine hce.mono ?_; rintro e w2 ⟨rfl, hb2⟩; have hX2 := hX.below hb2; have hY2 := hY.below hb2; have HB2 := Hid.mkW (HB1.out.trans (hb2.mono HB1.out.size)); clear hb2))
    go_ret
    exact ⟨false, rfl, ⟨(fun h => by cases h), fun h => absurd h HF.out⟩, HB2.out⟩
  by_cases ecommit : m.commit = o.commit
  case neg =>
    have HF : Hid (¬ m = o) := fun h => ecommit (by rw [h])
    have nkind : (m.kind == o.kind) = true := by simpa using ekind
    have nsrc : (m.src == o.src) = true := by simpa using esrc
    have ndst : (m.dst == o.dst) = true := by simpa using edst
    have nterm : (m.term == o.term) = true := by simpa using eterm
    have nindex : (m.index == o.index) = true := by simpa using eindex
    have nlt : (m.lt == o.lt) = true := by simpa using elt
    replace hce := hce.yes ees
    have ncommit : (m.commit == o.commit) = false := by simpa using ecommit
    clear ekind esrc edst eterm eindex elt ees ecommit
    go_enter Tryd.func14, Tryd.ntmps14
    go_wp2_with (first | (go_at_call 42; refine hce.mono ?_; rintro e w2 ⟨rfl, hb2⟩; have hX2 := hX.below hb2; have hY2 := hY.below hb2; have HB2 := Hid.mkW (HB1.out.trans (hb2.mono HB1.out.size)); clear hb2))
    go_ret
    exact ⟨false, rfl, ⟨(fun h => by cases h), fun h => absurd h HF.out⟩, HB2.out⟩
  by_cases eseq : m.seq = o.seq
  case neg =>
    have HF : Hid (¬ m = o) := fun h => eseq (by rw [h])
    have nkind : (m.kind == o.kind) = true := by simpa using ekind
    have nsrc : (m.src == o.src) = true := by simpa using esrc
    have ndst : (m.dst == o.dst) = true := by simpa using edst
    have nterm : (m.term == o.term) = true := by simpa using eterm
    have nindex : (m.index == o.index) = true := by simpa using eindex
    have nlt : (m.lt == o.lt) = true := by simpa using elt
    replace hce := hce.yes ees
    have ncommit : (m.commit == o.commit) = true := by simpa using ecommit
    have nseq : (m.seq == o.seq) = false := by simpa using eseq
    clear ekind esrc edst eterm eindex elt ees ecommit eseq
    go_enter Tryd.func14, Tryd.ntmps14
    go_wp2_with (first | (go_at_call 42; refine hce.mono ?_; rintro e w2 ⟨rfl, hb2⟩; have hX2 := hX.below hb2; have hY2 := hY.below hb2; have HB2 := Hid.mkW (HB1.out.trans (hb2.mono HB1.out.size)); clear hb2))
    go_ret
    exact ⟨false, rfl, ⟨(fun h => by cases h), fun h => absurd h HF.out⟩, HB2.out⟩
  by_cases eok : m.ok = o.ok
  case neg =>
    have HF : Hid (¬ m = o) := fun h => eok (by rw [h])
    have nkind : (m.kind == o.kind) = true := by simpa using ekind
    have nsrc : (m.src == o.src) = true := by simpa using esrc
    have ndst : (m.dst == o.dst) = true := by simpa using edst
    have nterm : (m.term == o.term) = true := by simpa using eterm
    have nindex : (m.index == o.index) = true := by simpa using eindex
    have nlt : (m.lt == o.lt) = true := by simpa using elt
    replace hce := hce.yes ees
    have ncommit : (m.commit == o.commit) = true := by simpa using ecommit
    have nseq : (m.seq == o.seq) = true := by simpa using eseq
    have nok : (m.ok == o.ok) = false := by simpa using eok
    clear ekind esrc edst eterm eindex elt ees ecommit eseq eok
    go_enter Tryd.func14, Tryd.ntmps14
    go_wp2_with (first | (go_at_call 42; refine hce.mono ?_; rintro e w2 ⟨rfl, hb2⟩; have hX2 := hX.below hb2; have hY2 := hY.below hb2; have HB2 := Hid.mkW (HB1.out.trans (hb2.mono HB1.out.size)); clear hb2))
    go_ret
    exact ⟨false, rfl, ⟨(fun h => by cases h), fun h => absurd h HF.out⟩, HB2.out⟩
  by_cases emat : m.mat = o.mat
  case neg =>
    have HF : Hid (¬ m = o) := fun h => emat (by rw [h])
    have nkind : (m.kind == o.kind) = true := by simpa using ekind
    have nsrc : (m.src == o.src) = true := by simpa using esrc
    have ndst : (m.dst == o.dst) = true := by simpa using edst
    have nterm : (m.term == o.term) = true := by simpa using eterm
    have nindex : (m.index == o.index) = true := by simpa using eindex
    have nlt : (m.lt == o.lt) = true := by simpa using elt
    replace hce := hce.yes ees
    have ncommit : (m.commit == o.commit) = true := by simpa using ecommit
    have nseq : (m.seq == o.seq) = true := by simpa using eseq
    have nok : (m.ok == o.ok) = true := by simpa using eok
    have nmat : (m.mat == o.mat) = false := by simpa using emat
    clear ekind esrc edst eterm eindex elt ees ecommit eseq eok emat
    go_enter Tryd.func14, Tryd.ntmps14
    go_wp2_with (first | (go_at_call 42; refine hce.mono ?_; rintro e w2 ⟨rfl, hb2⟩; have hX2 := hX.below hb2; have hY2 := hY.below hb2; have HB2 := Hid.mkW (HB1.out.trans (hb2.mono HB1.out.size)); clear hb2))
    go_ret
    exact ⟨false, rfl, ⟨(fun h => by cases h), fun h => absurd h HF.out⟩, HB2.out⟩
  by_cases emeta : m.mi = o.mi ∧ m.mt = o.mt ∧ m.vs = o.vs
  case neg =>
    have HF : Hid (¬ m = o) := fun h => emeta (by subst h; exact ⟨rfl, rfl, rfl⟩)
    have nkind : (m.kind == o.kind) = true := by simpa using ekind
    have nsrc : (m.src == o.src) = true := by simpa using esrc
    have ndst : (m.dst == o.dst) = true := by simpa using edst
    have nterm : (m.term == o.term) = true := by simpa using eterm
    have nindex : (m.index == o.index) = true := by simpa using eindex
    have nlt : (m.lt == o.lt) = true := by simpa using elt
    replace hce := hce.yes ees
    have ncommit : (m.commit == o.commit) = true := by simpa using ecommit
    have nseq : (m.seq == o.seq) = true := by simpa using eseq
    have nok : (m.ok == o.ok) = true := by simpa using eok
    have nmat : (m.mat == o.mat) = true := by simpa using emat
    have hcn := fun W hW => (hcm W hW).no emeta
    clear ekind esrc edst eterm eindex elt ees ecommit eseq eok emat emeta
    go_enter Tryd.func14, Tryd.ntmps14
    go_wp2_with (first | (go_at_call 42; refine hce.mono ?_; rintro e w2 ⟨rfl, hb2⟩; have hX2 := hX.below hb2; have hY2 := hY.below hb2; have HB2 := Hid.mkW (HB1.out.trans (hb2.mono HB1.out.size)); clear hb2) | (go_at_call 43; refine (hcn _ HB2.out).mono ?_; rintro e w3 ⟨rfl, hb3⟩; have hX3 := hX2.below hb3; have hY3 := hY2.below hb3; have HB3 := Hid.mkW (HB2.out.trans (hb3.mono HB2.out.size)); obtain ⟨x1, x2⟩ := HC.out _ HB3.out; clear hb3))
    go_ret
    exact ⟨false, rfl, ⟨(fun h => by cases h), fun h => absurd h HF.out⟩, HB3.out⟩
  by_cases edata : m.data = o.data
  case neg =>
    have HF : Hid (¬ m = o) := fun h => edata (by rw [h])
    have nkind : (m.kind == o.kind) = true := by simpa using ekind
    have nsrc : (m.src == o.src) = true := by simpa using esrc
    have ndst : (m.dst == o.dst) = true := by simpa using edst
    have nterm : (m.term == o.term) = true := by simpa using eterm
    have nindex : (m.index == o.index) = true := by simpa using eindex
    have nlt : (m.lt == o.lt) = true := by simpa using elt
    replace hce := hce.yes ees
    have ncommit : (m.commit == o.commit) = true := by simpa using ecommit
    have nseq : (m.seq == o.seq) = true := by simpa using eseq
    have nok : (m.ok == o.ok) = true := by simpa using eok
    have nmat : (m.mat == o.mat) = true := by simpa using emat
    have hcn := fun W hW => (hcm W hW).yes emeta
    have ndata := str_ne HBX.out HBY.out edata
    clear ekind esrc edst eterm eindex elt ees ecommit eseq eok emat emeta edata
    go_enter Tryd.func14, Tryd.ntmps14
    go_wp2_with (first | (go_at_call 42; refine hce.mono ?_; rintro e w2 ⟨rfl, hb2⟩; have hX2 := hX.below hb2; have hY2 := hY.below hb2; have HB2 := Hid.mkW (HB1.out.trans (hb2.mono HB1.out.size)); clear hb2) | (go_at_call 43; refine (hcn _ HB2.out).mono ?_; rintro e w3 ⟨rfl, hb3⟩; have hX3 := hX2.below hb3; have hY3 := hY2.below hb3; have HB3 := Hid.mkW (HB2.out.trans (hb3.mono HB2.out.size)); obtain ⟨x1, x2⟩ := HC.out _ HB3.out; clear hb3))
    go_ret
    exact ⟨false, rfl, ⟨(fun h => by cases h), fun h => absurd h HF.out⟩, HB3.out⟩
  have HQ : Hid (m = o) := md_ext ekind esrc edst eterm eindex elt ees ecommit eseq eok emat emeta edata
  have nkind : (m.kind == o.kind) = true := by simpa using ekind
  have nsrc : (m.src == o.src) = true := by simpa using esrc
  have ndst : (m.dst == o.dst) = true := by simpa using edst
  have nterm : (m.term == o.term) = true := by simpa using eterm
  have nindex : (m.index == o.index) = true := by simpa using eindex
  have nlt : (m.lt == o.lt) = true := by simpa using elt
  replace hce := hce.yes ees
  have ncommit : (m.commit == o.commit) = true := by simpa using ecommit
  have nseq : (m.seq == o.seq) = true := by simpa using eseq
  have nok : (m.ok == o.ok) = true := by simpa using eok
  have nmat : (m.mat == o.mat) = true := by simpa using emat
  have hcn := fun W hW => (hcm W hW).yes emeta
  have ndata := str_eq edata
  clear ekind esrc edst eterm eindex elt ees ecommit eseq eok emat emeta edata
  go_enter Tryd.func14, Tryd.ntmps14
  go_wp2_with (first | (go_at_call 42; refine hce.mono ?_; rintro e w2 ⟨rfl, hb2⟩; have hX2 := hX.below hb2; have hY2 := hY.below hb2; have HB2 := Hid.mkW (HB1.out.trans (hb2.mono HB1.out.size)); clear hb2) | (go_at_call 43; refine (hcn _ HB2.out).mono ?_; rintro e w3 ⟨rfl, hb3⟩; have hX3 := hX2.below hb3; have hY3 := hY2.below hb3; have HB3 := Hid.mkW (HB2.out.trans (hb3.mono HB2.out.size)); obtain ⟨x1, x2⟩ := HC.out _ HB3.out; clear hb3))
  go_ret
  exact ⟨true, rfl, ⟨fun _ => HQ.out, fun _ => rfl⟩, HB3.out⟩
end Go.Proofs.YtamgoknoapcnjaaDoor
