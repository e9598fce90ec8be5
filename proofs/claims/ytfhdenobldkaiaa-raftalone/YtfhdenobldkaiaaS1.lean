/- A leader that is the only voter: Read. -/
import Derived.Test.YtfhdenobldkaiaaRX
import Derived.BigRegion
import Derived.Deep.RegionHeldLaw
namespace Go.Proofs.Ytfhdenobldkaiaa
open Go Go.RowKit
set_option maxRecDepth 100000 in
set_option maxHeartbeats 1000000 in
theorem isReady_one {w : World} {d n : Nat} {a : Nd} {xs : List Value} (h : Nod w d a) (ho : w.ownsRow 0 43 4 a.ents n xs) (ht : xs[(n - 1) * 4 + 1]? = some (iv a.term)) (h1 : 1 ≤ n) (hn : n ≤ 1000) (hc : a.commit = n) :
    Calls Try.prog 31 #[ptr d] w fun e w' => e = .returned (.bool true) ∧ Below w.heap.size w w' := by
  have HS : Hid (∀ W, Below w.heap.size w W → W.cell? ⟨d, 3, none⟩ = some (iv n) ∧ W.cell? ⟨d, 1, none⟩ = some (iv a.term) ∧ Hid (Below w.heap.size w W)) := fun W hb => by
    have nW := h.below hb h.lt
    exact ⟨by rw [← hc]; exact nW.cell 3 rfl, nW.cell 1 rfl, hb⟩
  have hS := HS.out w.drew (Below.refl _ w).drew
  have hterm := term_at (w := w.drew) (show Nod w.drew d a from h) ho.drew ht h1 (by omega)
  have htt : (a.term == a.term) = true := by simp
  clear h ho ht
  go_enter Try.func31, Try.ntmps31
  go_upto_region 1 with fail
  go_region_held_law (fun V => V.cell? ⟨d, 3, none⟩ = some (iv n) ∧ V.cell? ⟨d, 1, none⟩ = some (iv a.term) ∧ Hid (Below w.heap.size w V)) (first | with_reducible assumption | (show _ ∧ _ ∧ _; with_reducible assumption)) (first | (go_at_call 19; (with_reducible refine hterm.mono ?_); rintro e w3 ⟨rfl, hb3⟩; have hS3 := HS.out w3 ((Below.refl _ w).drew.trans (hb3.mono (Nat.le_refl _))); clear hb3))
  go_wp2
  go_ret
  exact ⟨rfl, hS3.2.2.out⟩
theorem slice_cut (c : Nat) (p : Option Addr) (_hc : 1 ≤ c) (W : World) : (Instr.sliceAt 78 (.slice p 1 c) (some (iv 1)) none none).run Try.prog W = .ok (.slice (if c = 1 then p else p.map (·.add 3)) 0 (c - 1)) W := by
  simp [Instr.sliceAt, Instr.slice, Instr.sliceBounds, Instr.sliceBound, run_underlying Try.underlying78, asIntOf]
theorem infoR : (Try.prog.info? 48).map (fun i => (i.zero, i.size, i.bytes)) = some (some (.agg #[iv 0, iv 0]), 2, 16) := by kernel_rfl
theorem infoW : (Try.prog.info? 82).map (fun i => (i.zero, i.size, i.bytes)) = some (some (.agg #[iv 0, iv 0, iv 0]), 3, 24) := by kernel_rfl
/-- What the leader's block says. -/
def ldRow (pm : Nat) (r : Int) (v : Value) : Array Value := #[iv 0, .map (some pm), iv r, v]
/-- A read waits. -/
structure Wt (w : World) (d l g c pm : Nat) (a : Nd) (x n : Int) : Prop where
  nod : Nod w d a
  role : a.role = .iface 73 (ptr l)
  one : One w a.voters a.id
  ld : w.heap[l]? = some (.cells (ldRow pm 1 (.slice (some ⟨g, 0, none⟩) 1 c)) 80 (0, 0))
  row : w.ownsRow 0 82 3 (.slice (some ⟨g, 0, none⟩) 1 c) 1 [iv x, iv n, iv 1]
  rds : a.reads = .slice none 0 0
theorem heap_lt {w : World} {i : Nat} {o : Obj} (h : w.heap[i]? = some o) : i < w.heap.size := (Array.getElem?_eq_some_iff.1 h).1
theorem One.upd' {w w' : World} {v : Value} {id : Int} {S : Nat → Prop} (h : One w v id) (hu : Upd w w' S) (hS : ∀ z, v.ownBlock = some z → ¬ S z) : One w' v id := h.upd hu hS
set_option maxRecDepth 100000 in
set_option maxHeartbeats 2000000 in
theorem confirm_one {w : World} {d l g c pm : Nat} {a : Nd} {x n : Int} (h : Wt w d l g c pm a x n) :
    Calls Try.prog 32 #[ptr d] w fun e w' => e = .returned (.tuple #[]) ∧ ∃ b cb, Nod w' d { a with reads := .slice (some ⟨b, 0, none⟩) 1 cb } ∧ w'.ownsRow w.heap.size 48 2 (.slice (some ⟨b, 0, none⟩) 1 cb) 1 [iv x, iv n] ∧ Upd w w' (fun z => z = d ∨ z = l) := by
  have HH := Hid.mkW h
  have hle := leads_yes h.nod h.role
  have hre := reached_one (f := .func (.func 47) #[] #[]) (own := 1) h.nod h.role h.one
  have hdl : d ≠ l := fun e => by
    have h1 := h.nod
    rw [e] at h1
    exact absurd (row_types h1 h.ld) (by decide)
  have c2 : w.cell? ⟨l, 2, none⟩ = some (iv 1) := cell_of_row _ _ _ _ _ _ h.ld
  have h1 : 1 ≤ c := by
    rcases h.row.2 with ⟨e, _⟩ | ⟨g', cap, cur, e, hbg, hh, h1, _⟩
    · cases e
    · cases e; exact h1
  clear h
  go_enter Try.func32, Try.ntmps32
  go_wp2_with (first
    | (go_at_call 27; refine hle.mono ?_; rintro e w1 ⟨rfl, hw1⟩; obtain rfl := hw1.symm)
    | (go_at_call 41; refine hre.mono ?_; rintro e w2 ⟨rfl, hb2⟩))
  have h2 := HH.out
  have n2 : Nod w2 d a := h2.nod.below hb2 h2.nod.lt
  have l2 : w2.heap[l]? = some (.cells (ldRow pm 1 (.slice (some ⟨g, 0, none⟩) 1 c)) 80 (0, 0)) := (hb2.block l (heap_lt h2.ld)).trans h2.ld
  have r2 : w2.ownsRow 0 82 3 (.slice (some ⟨g, 0, none⟩) 1 c) 1 [iv x, iv n, iv 1] := ownsRow_upd h2.row (Upd.ofBelow (S := fun _ => False) hb2) (fun _ _ e => e)
  have hrd := h2.rds
  have H2 := Hid.mkW (And.intro n2 (And.intro l2 (And.intro r2 (And.intro hrd (And.intro hb2 hdl)))))
  clear h2 n2 l2 r2 hrd hb2 hle hre c2 HH hdl
  go_loopg [] 2 (fun kx wq => ∃ j : Nat, kx + j = 2 ∧ j ≤ 1 ∧ Hid ((j = 0 → wq = w2) ∧ (j = 1 → ∃ p c' b cb, wq.heap[l]? = some (.cells (ldRow pm 1 (.slice p 0 c')) 80 (0, 0)) ∧ Nod wq d { a with reads := .slice (some ⟨b, 0, none⟩) 1 cb } ∧ wq.ownsRow w.heap.size 48 2 (.slice (some ⟨b, 0, none⟩) 1 cb) 1 [iv x, iv n] ∧ Upd w wq (fun z => z = d ∨ z = l))))
  case atStart => exact ⟨0, rfl, by omega, fun _ => rfl, fun e => by omega⟩
  case round =>
    obtain ⟨j, hk, hj, HJ⟩ := hrel
    by_cases h0 : j = 0
    · subst h0
      have hwr := HJ.out.1 rfl
      obtain rfl := hwr.symm
      clear HJ
      obtain ⟨n2, l2, r2, hrd, hb2, hdl⟩ := H2.out
      have d3 : w2.cell? ⟨l, 3, none⟩ = some (.slice (some ⟨g, 0, none⟩) 1 c) := cell_of_row _ _ _ _ _ _ l2
      have f3 : w2.frozen? ⟨l, 3, none⟩ = false := frozen_of_row _ _ _ _ _ l2
      have e0 : w2.cell? ⟨g, 0, none⟩ = some (iv x) := by have := r2.cells (g := g) rfl 0 _ rfl; rwa [Addr.add_lit] at this
      have e1 : w2.cell? ⟨g, 1, none⟩ = some (iv n) := by have := r2.cells (g := g) rfl 1 _ rfl; rwa [Addr.add_lit] at this
      have e2 : w2.cell? ⟨g, 2, none⟩ = some (iv 1) := by have := r2.cells (g := g) rfl 2 _ rfl; rwa [Addr.add_lit] at this
      have d20 : w2.cell? ⟨d, 20, none⟩ = some (.slice none 0 0) := by have := n2.cell 20 (u := a.reads) rfl; rwa [hrd] at this
      have f20 : w2.frozen? ⟨d, 20, none⟩ = false := n2.free 20
      obtain ⟨t48, hti, hz0, hz1, hz2⟩ := info_parts infoR
      have hlt := n2.lt
      have hll := heap_lt l2
      have hgl := (r2.lt g rfl).2
      have hsrc : Src Try.prog 2 38 (.slice (some ⟨w2.heap.size, 0, none⟩) 1 1) 1 [iv x, iv n] (w2.alloc (.cells #[iv x, iv n] 48)).drew := by
        refine Src.ofSlice _ (e' := 48) Try.underlying38 ⟨w2.heap.size, 0, none⟩ 1 1 [iv x, iv n] rfl (fun j u hj => ?_) (fun u hu => ?_)
        · have hr := row_alloc w2 #[iv x, iv n] 48
          match j, hj with
          | 0, hj => cases hj; exact cell_of_row _ _ _ _ _ _ hr
          | 1, hj => cases hj; exact cell_of_row _ _ _ _ _ _ hr
        · simp at hu
          rcases hu with rfl | rfl <;> rfl
      have hnil : (w2.alloc (.cells #[iv x, iv n] 48)).drew.ownsRow w.heap.size 48 2 (.slice none 0 0) 0 [] := World.ownsRow_nil _ _ _ _
      have hbz : w.heap.size ≤ (w2.alloc (.cells #[iv x, iv n] 48)).drew.heap.size := by
        have := hb2.size
        show _ ≤ (w2.alloc (.cells #[iv x, iv n] 48)).heap.size
        simp; omega
      have HQ : Hid (∀ w3, Upd (w2.alloc (.cells #[iv x, iv n] 48)).drew w3 (fun k => some k = (Value.slice none 0 0).ownBlock) → w3.cell? ⟨d, 20, none⟩ = some (.slice none 0 0) ∧ w3.frozen? ⟨d, 20, none⟩ = false ∧ Upd w2 w3 (fun _ => False)) := fun w3 hu => by
        have u3 : Upd w2 w3 (fun _ => False) := (Upd.ofBelow (((Below.refl w2.heap.size w2).alloc (Nat.le_refl _) _).drew)).trans hu (fun z _ e => by cases e)
        exact ⟨by have := (n2.upd u3 (fun e => e)).cell 20 (u := a.reads) rfl; rwa [hrd] at this, (n2.upd u3 (fun e => e)).free 20, u3⟩
      go_upto_region 4 with fail
      clear l2 n2 r2 hrd hb2 hdl
      go_region_law (refine step_appS _ rfl _ _ 38 38 rfl w.heap.size 48 t48 _ 2 Try.underlying38 hti hz0 hz1 rfl (by rw [hz2]; decide) (.slice none 0 0) 0 [] (by simp [Act.eval]; done) hnil (.slice (some ⟨w2.heap.size, 0, none⟩) 1 1) (by simp [Act.eval]; done) 1 [iv x, iv n] hsrc (by omega) hbz ?_; intro v3 w3 q1 q2 _ _; obtain ⟨b, cb, hv3, _, _⟩ := owns_formB q1 (by decide); subst hv3; obtain ⟨g20, h20, u3⟩ := HQ.out w3 q2; have Q1 := Hid.mkW q1; have U3 := Hid.mkW u3; clear q1 q2 u3)
      all_goals
        obtain ⟨n2, l2, r2, hrd, hb2, hdl⟩ := H2.out
        obtain ⟨w4, hw4⟩ : ∃ w4, w4 = w3.setCell ⟨d, 20, none⟩ (.slice (some ⟨b, 0, none⟩) 1 cb) := ⟨_, rfl⟩
        have u4 : Upd w2 w4 (fun z => z = d ∨ z = l) := by rw [hw4]; exact ((Upd.refl w2 (fun z => z = d ∨ z = l)).trans U3.out (fun _ _ e => e.elim)).setCell (p := ⟨d, 20, none⟩) (.inr (.inl rfl)) _
        have n4 : Nod w4 d { a with reads := .slice (some ⟨b, 0, none⟩) 1 cb } := by rw [hw4]; exact (n2.upd U3.out (fun e => e)).set 20 _ rfl
        have ud : Upd w3 w4 (fun z => z = d) := by rw [hw4]; exact (Upd.refl w3 (fun z => z = d)).setCell (p := ⟨d, 20, none⟩) (.inr rfl) _
        have l4 : w4.heap[l]? = some (.cells (ldRow pm 1 (.slice (some ⟨g, 0, none⟩) 1 c)) 80 (0, 0)) := (ud.block l (Nat.lt_of_lt_of_le (heap_lt l2) U3.out.size) (fun e => hdl e.symm)).trans ((U3.out.block l (heap_lt l2) (fun e => e)).trans l2)
        have n3 := n2.upd U3.out (fun e => e)
        have q4 : w4.ownsRow w.heap.size 48 2 (.slice (some ⟨b, 0, none⟩) 1 cb) 1 [iv x, iv n] := ownsRow_upd Q1.out ud (fun z hz e => own_block Q1.out n3 (by decide) (e ▸ hz))
        have k3 : w4.cell? ⟨l, 3, none⟩ = some (.slice (some ⟨g, 0, none⟩) 1 c) := cell_of_row _ _ _ _ _ _ l4
        have kf : w4.frozen? ⟨l, 3, none⟩ = false := frozen_of_row _ _ _ _ _ l4
        have hsl := slice_cut c (some ⟨g, 0, none⟩) h1
        obtain ⟨p0, hp0⟩ : ∃ p0, p0 = (if c = 1 then (some ⟨g, 0, none⟩ : Option Addr) else Option.map (fun x : Addr => x.add 3) (some ⟨g, 0, none⟩)) := ⟨_, rfl⟩
        rw [← hp0] at hsl
        clear hp0
        rw [← hw4]
        have H4 := Hid.mkW (And.intro n4 (And.intro l4 (And.intro q4 (And.intro ((Upd.ofBelow (S := fun z => z = d ∨ z = l) hb2).trans u4 (fun _ _ e => e)) hdl))))
        clear n2 l2 r2 hrd hb2 hdl u4 n4 ud l4 n3 q4 hw4 d3 f3 e0 e1 e2 d20 f20 hsrc hnil hbz HQ g20 h20 Q1 U3 hti hz0 hz1 hz2 hlt hll hgl
        go_wp2
        go_roundg 1
        case measure => omega
        case rel =>
          obtain ⟨n4, l4, q4, u4, hdl⟩ := H4.out
          refine ⟨1, by omega, by omega, fun e => by omega, fun _ => ⟨p0, c - 1, b, cb, heap_setCell_row l4 _, n4.upd ((Upd.refl w4 (fun z => z = l)).setCell (p := ⟨l, 3, none⟩) (.inr rfl) _) hdl, ownsRow_upd q4 ((Upd.refl w4 (fun z => z = l)).setCell (p := ⟨l, 3, none⟩) (.inr rfl) _) (fun z hz e => own_block q4 l4 (by decide) (e ▸ hz)), u4.setCell (p := ⟨l, 3, none⟩) (.inr (.inr rfl)) _⟩⟩
    · obtain rfl : j = 1 := by omega
      obtain ⟨p0, c', b, cb, l4, n4, q4, u4⟩ := HJ.out.2 rfl
      have k3 : wr.cell? ⟨l, 3, none⟩ = some (.slice p0 0 c') := cell_of_row _ _ _ _ _ _ l4
      have HF := Hid.mkW (And.intro n4 (And.intro q4 u4))
      clear HJ l4 n4 q4 u4 H2
      go_wp2
      first | go_end0 | refine bodyPost_ret (results_none rfl _ _ _) rfl ?_
      exact ⟨rfl, b, cb, HF.out⟩
set_option maxRecDepth 100000 in
set_option maxHeartbeats 2000000 in
theorem read_one {w : World} {d l n pm : Nat} {a : Nd} {xs : List Value} {x : Int} (h : Ln w d l n a xs) (hl : w.heap[l]? = some (.cells (ldRow pm 0 (.slice none 0 0)) 80 (0, 0))) (ht : xs[(n - 1) * 4 + 1]? = some (iv a.term)) (h1 : 1 ≤ n) (hn : n ≤ 1000) (hc : a.commit = n) (hrd : a.reads = .slice none 0 0) :
    Calls Try.prog 10 #[ptr d, iv x] w fun e w' => e = .returned (iv 0) ∧ ∃ b cb, Ln w' d l n { a with reads := .slice (some ⟨b, 0, none⟩) 1 cb } xs ∧ w'.ownsRow w.heap.size 48 2 (.slice (some ⟨b, 0, none⟩) 1 cb) 1 [iv x, iv n] ∧ Upd w w' (fun z => z = d ∨ z = l) := by
  have HH := Hid.mkW (And.intro h hl)
  have hle := leads_yes h.nod h.role
  have hir := isReady_one h.nod h.ents ht h1 hn hc
  have HC := Hid.mkW (And.intro hc hrd)
  have hdl : d ≠ l := fun e => by
    have h1 := h.nod
    rw [e] at h1
    exact absurd (row_types h1 hl) (by decide)
  have HDL := Hid.mkW hdl
  clear h hl ht hc hrd hdl
  go_enter Try.func10, Try.ntmps10
  go_upto_region 8 with (first
    | (go_at_call 27; refine hle.mono ?_; rintro e w1 ⟨rfl, hw1⟩; obtain rfl := hw1.symm)
    | (go_at_call 31; refine hir.mono ?_; rintro e w1 ⟨rfl, hb1⟩; have l1 : w1.heap[l]? = some (.cells (ldRow pm 0 (.slice none 0 0)) 80 (0, 0)) := (hb1.block l (heap_lt HH.out.2)).trans HH.out.2; have k3 : w1.cell? ⟨l, 3, none⟩ = some (.slice none 0 0) := cell_of_row _ _ _ _ _ _ l1; have k2 : w1.cell? ⟨l, 2, none⟩ = some (iv 0) := cell_of_row _ _ _ _ _ _ l1; have f2 : w1.frozen? ⟨l, 2, none⟩ = false := frozen_of_row _ _ _ _ _ l1; have HL1 := Hid.mkW l1; clear l1))
  have HB1 := Hid.mkW hb1
  clear hle hir hb1
  go_upto_region 9 with fail
  obtain ⟨w2, hw2⟩ : ∃ w2, w2 = w1.setCell ⟨l, 2, none⟩ (iv 1) := ⟨_, rfl⟩
  have l2 : w2.heap[l]? = some (.cells (ldRow pm 1 (.slice none 0 0)) 80 (0, 0)) := by rw [hw2]; exact heap_setCell_row HL1.out _
  have u2 : Upd w1 w2 (fun z => z = l) := by rw [hw2]; exact (Upd.refl w1 (fun z => z = l)).setCell (p := ⟨l, 2, none⟩) (.inr rfl) _
  have n2 : Nod w2 d a := (HH.out.1.nod.below HB1.out HH.out.1.nod.lt).upd u2 HDL.out
  rw [← hw2]
  have j3 : w2.cell? ⟨l, 3, none⟩ = some (.slice none 0 0) := cell_of_row _ _ _ _ _ _ l2
  have j2 : w2.cell? ⟨l, 2, none⟩ = some (iv 1) := cell_of_row _ _ _ _ _ _ l2
  have jf : w2.frozen? ⟨l, 3, none⟩ = false := frozen_of_row _ _ _ _ _ l2
  have d3 : w2.cell? ⟨d, 3, none⟩ = some (iv n) := by rw [← HC.out.1]; exact n2.cell 3 rfl
  obtain ⟨t82, hti, hz0, hz1, hz2⟩ := info_parts infoW
  have hlt := n2.lt
  have hll := heap_lt l2
  have hsrc : Src Try.prog 3 78 (.slice (some ⟨w2.heap.size, 0, none⟩) 1 1) 1 [iv x, iv n, iv 1] (w2.alloc (.cells #[iv x, iv n, iv 1] 82)).drew := by
    refine Src.ofSlice _ (e' := 82) Try.underlying78 ⟨w2.heap.size, 0, none⟩ 1 1 [iv x, iv n, iv 1] rfl (fun j u hj => ?_) (fun u hu => ?_)
    · have hr := row_alloc w2 #[iv x, iv n, iv 1] 82
      match j, hj with
      | 0, hj => cases hj; exact cell_of_row _ _ _ _ _ _ hr
      | 1, hj => cases hj; exact cell_of_row _ _ _ _ _ _ hr
      | 2, hj => cases hj; exact cell_of_row _ _ _ _ _ _ hr
    · simp at hu
      rcases hu with rfl | rfl | rfl <;> rfl
  have hnil : (w2.alloc (.cells #[iv x, iv n, iv 1] 82)).drew.ownsRow 0 82 3 (.slice none 0 0) 0 [] := World.ownsRow_nil _ _ _ _
  have HQ : Hid (∀ w3, Upd (w2.alloc (.cells #[iv x, iv n, iv 1] 82)).drew w3 (fun k => some k = (Value.slice none 0 0).ownBlock) → w3.frozen? ⟨l, 3, none⟩ = false ∧ w3.cell? ⟨l, 3, none⟩ = some (.slice none 0 0) ∧ Upd w2 w3 (fun _ => False)) := fun w3 hu => by
    have u3 : Upd w2 w3 (fun _ => False) := (Upd.ofBelow (((Below.refl w2.heap.size w2).alloc (Nat.le_refl _) _).drew)).trans hu (fun z _ e => by cases e)
    have l3 := (u3.block l (heap_lt l2) (fun e => e)).trans l2
    exact ⟨frozen_of_row _ _ _ _ _ l3, cell_of_row _ _ _ _ _ _ l3, u3⟩
  have H2 := Hid.mkW (And.intro n2 (And.intro l2 u2))
  clear l2 u2 n2 hw2 k3 k2 f2
  go_region_law (refine step_appS _ rfl _ _ 78 78 rfl 0 82 t82 _ 3 Try.underlying78 hti hz0 hz1 rfl (by rw [hz2]; decide) (.slice none 0 0) 0 [] (by simp [Act.eval]; done) hnil (.slice (some ⟨w2.heap.size, 0, none⟩) 1 1) (by simp [Act.eval]; done) 1 [iv x, iv n, iv 1] hsrc (by omega) (Nat.zero_le _) ?_; intro v3 w3 q1 q2 _ _; obtain ⟨g, c, hv3, _, _⟩ := owns_formB q1 (by decide); subst hv3; obtain ⟨h3f, h3c, u3⟩ := HQ.out w3 q2; have Q1 := Hid.mkW q1; have U3 := Hid.mkW u3; clear q1 q2 u3)
  all_goals
    obtain ⟨w4, hw4⟩ : ∃ w4, w4 = w3.setCell ⟨l, 3, none⟩ (.slice (some ⟨g, 0, none⟩) 1 c) := ⟨_, rfl⟩
    have hW : Wt w4 d l g c pm a x n ∧ Ln w4 d l n a xs ∧ Upd w w4 (fun z => z = d ∨ z = l) := by
      have n3 := H2.out.1.upd U3.out (fun e => e)
      have l3 := (U3.out.block l (heap_lt H2.out.2.1) (fun e => e)).trans H2.out.2.1
      have u4 : Upd w3 w4 (fun z => z = l) := by rw [hw4]; exact (Upd.refl w3 (fun z => z = l)).setCell (p := ⟨l, 3, none⟩) (.inr rfl) _
      have l4 : w4.heap[l]? = some (.cells (ldRow pm 1 (.slice (some ⟨g, 0, none⟩) 1 c)) 80 (0, 0)) := by rw [hw4]; exact heap_setCell_row l3 _
      have uw : Upd w w4 (fun z => z = l) := (((Upd.ofBelow (S := fun z => z = l) HB1.out).trans H2.out.2.2 (fun _ _ e => e)).trans U3.out (fun _ _ e => e.elim)).trans u4 (fun _ _ e => e)
      have hL := HH.out.1
      have L4 : Ln w4 d l n a xs := ⟨n3.upd u4 HDL.out, hL.role, ownsRow_upd hL.vot uw (fun z hz e => own_block hL.vot HH.out.2 (by decide) (e ▸ hz)), ownsRow_upd hL.ents uw (fun z hz e => own_block hL.ents HH.out.2 (by decide) (e ▸ hz))⟩
      exact ⟨⟨L4.nod, hL.role, L4.one, l4, ownsRow_upd Q1.out u4 (fun z hz e => own_block Q1.out l3 (by decide) (e ▸ hz)), HC.out.2⟩, L4, (Upd.refl w (fun z => z = d ∨ z = l)).trans uw (fun _ _ e => .inr e)⟩
    rw [← hw4]
    have hst := sendToAll_none hW.2.1.nod hW.2.1.one
    have HW := Hid.mkW hW
    clear hw4 hW hsrc hnil HQ h3f h3c j3 j2 jf d3 hti hz0 hz1 hz2 hlt hll Q1 U3
    go_upto_region 11 with (go_at_call 29; refine hst.mono ?_; rintro e w5 ⟨rfl, hb5⟩)
    have hW5 : Wt w5 d l g c pm a x n := by
      have h4 := HW.out.1
      exact ⟨h4.nod.below hb5 h4.nod.lt, h4.role, h4.one.below hb5, (hb5.block l (heap_lt h4.ld)).trans h4.ld, ownsRow_upd h4.row (Upd.ofBelow (S := fun _ => False) hb5) (fun _ _ e => e), h4.rds⟩
    have hcf := confirm_one hW5
    have H5 := Hid.mkW (And.intro hb5 hW5)
    clear hb5 hW5 hst
    go_wp2_with (go_at_call 32; refine hcf.mono ?_; rintro e w6 ⟨rfl, b, cb, n6, q6, u6⟩; have H6 := Hid.mkW (And.intro n6 (And.intro q6 u6)); clear n6 q6 u6)
    go_ret
    obtain ⟨n6, q6, u6⟩ := H6.out
    obtain ⟨hb5, hW5⟩ := H5.out
    obtain ⟨_, L4, uw⟩ := HW.out
    have L5 := L4.below hb5
    have u5 : Upd w w5 (fun z => z = d ∨ z = l) := uw.trans (Upd.ofBelow (S := fun _ => False) hb5) (fun _ _ e => e.elim)
    refine ⟨rfl, b, cb, ⟨n6, L5.role, ownsRow_upd L5.vot u6 (fun z hz e => ?_), ownsRow_upd L5.ents u6 (fun z hz e => ?_)⟩, ?_, u5.trans u6 (fun _ _ e => e)⟩
    · rcases e with e | e
      · exact own_block L5.vot L5.nod (by decide) (e ▸ hz)
      · exact own_block L5.vot hW5.ld (by decide) (e ▸ hz)
    · rcases e with e | e
      · exact own_block L5.ents L5.nod (by decide) (e ▸ hz)
      · exact own_block L5.ents hW5.ld (by decide) (e ▸ hz)
    · exact ⟨q6.1, q6.2.imp id (fun ⟨g', cap, cur, e, hb, r⟩ => ⟨g', cap, cur, e, by have := u5.size; omega, r⟩)⟩
end Go.Proofs.Ytfhdenobldkaiaa
