/- MvccEvents. -/
import Derived.Test.YteeflkkoifgcbaaFEA
import Derived.Test.YteeflkkoifgcbaaMNA
import Derived.Test.YteeflkkoifgcbaaMVA
import Derived.Deep.CutBlock
namespace Go.Proofs.Yteeflkkoifgcbaa
open Go Go.RowKit
def withinG (a n : Int) : Int := if a.tmod n < 0 then a.tmod n + n else a.tmod n
theorem withinG_bd (a n : Int) (hn : 0 < n) : 0 ≤ withinG a n ∧ withinG a n < n := by
  have h1 := Int.lt_tmod_of_pos a (b := n) hn
  have h2 := Int.tmod_lt_of_pos a (b := n) hn
  unfold withinG
  split <;> omega
theorem ret_intG {k : IntKind} {a b : Int} (h : a = b) : Ending.returned (.int k a) = .returned (.int k b) := by rw [h]
set_option maxHeartbeats 1000000 in
theorem within_anyG (a n : Int) (w : World) (hn : 0 < n) (hm : n ≤ 1000000000000000) :
    Calls Try.prog 14 #[.int .i64 a, .int .i64 n] w fun e w' => e = .returned (.int .i64 (withinG a n)) ∧ w' = w := by
  have h1 := Int.lt_tmod_of_pos a (b := n) hn
  have h2 := Int.tmod_lt_of_pos a (b := n) hn
  have hn0 : (n == 0) = false := by simp; omega
  by_cases h : a.tmod n < 0
  · have HW : Hid (withinG a n = a.tmod n + n) := by show _ = _; rw [withinG, if_pos h]
    go_enter Try.func14, Try.ntmps14
    go_wp2
    go_ret
    exact ⟨ret_intG HW.out.symm, rfl⟩
  · have HW : Hid (withinG a n = a.tmod n) := by show _ = _; rw [withinG, if_neg h]
    go_enter Try.func14, Try.ntmps14
    go_wp2
    go_ret
    exact ⟨ret_intG HW.out.symm, rfl⟩
theorem wrapE {a : Int} (h1 : -9223372036854775808 ≤ a) (h2 : a ≤ 9223372036854775807) : IntKind.i64.wrap a = a := by
  rw [IntKind.wrap_i64]
  omega
theorem SE.later {w0 w w' : World} {s i : Nat} (H : SE w0 w s i) (hb : Below w.heap.size w w') : SE w0 w' s i := by
  obtain ⟨n, S, g, h⟩ := H
  exact ⟨n, S, g, h.later hb⟩
theorem WQ.later {w0 w w' : World} {s b i j : Nat} (H : WQ w0 w s b i j) (hb : Below w.heap.size w w') : WQ w0 w' s b i j := by
  obtain ⟨n, S, g, W, h, H⟩ := H
  exact ⟨n, S, g, W, h, H.ow.below hb, H.n, H.si, H.lg, H.bel.trans (hb.mono H.bel.size), H.fs, H.fw, H.ok, H.ps, H.lo, H.hi⟩
theorem WQ.below {w0 w : World} {s b i j : Nat} (H : WQ w0 w s b i j) : Below w0.heap.size w0 w := by
  obtain ⟨n, S, g, W, h, H⟩ := H
  exact H.bel
/-- What is there at a revision, told. -/
theorem SQ.range {w0 w : World} {s i n : Nat} {S : Sto} {g : Sg} (H : SQ w0 w s i n S g) (hi : i ≤ 40) (rev : Int) (h0 : 0 ≤ rev) (h1 : rev ≤ S.rev) : Calls Try.prog 15 #[ptr s, .string ⟨#[0]⟩, .string (topN 101), .int .i64 rev, .int .i64 0] w fun e w' => ∃ p c m, e = .returned (.tuple #[.slice p (valV S (revOf S rev)).length c, m, .int .i64 0]) ∧ Hid (KR w w' (.slice p (valV S (revOf S rev)).length c) (valV S (revOf S rev))) := by
  have hn := H.n
  have hp := H.si.past
  have ht : toldL 0 (rangeV S ⟨#[0]⟩ (topN 101) rev) = valV S (revOf S rev) := by
    unfold toldL
    rw [if_pos (by omega), rangeV_all H.st.sz]
  have := range_ok H.st (by omega) ⟨#[0]⟩ (topN 101) rev 0 (by decide) (by rw [topN_size]; omega) h0 h1 (by rw [hp]; omega)
  rw [ht] at this
  refine this.mono ?_
  rintro e w' ⟨p, c, rfl, hk⟩
  exact ⟨p, c, _, rfl, hk⟩
theorem SQ.since {w0 w : World} {s i n : Nat} {S : Sto} {g : Sg} (H : SQ w0 w s i n S g) (hi : i ≤ 40) (fr : Int) (h0 : 1 ≤ fr) (h1 : fr ≤ S.rev) : Calls Try.prog 17 #[ptr s, .int .i64 fr] w fun e w' => ∃ p c, e = .returned (.tuple #[.slice p (evN S fr ((S.rev : Int) + 1 - fr).toNat).length c, .int .i64 0]) ∧ Hid (ER w w' (.slice p (evN S fr ((S.rev : Int) + 1 - fr).toNat).length c) (evN S fr ((S.rev : Int) + 1 - fr).toNat)) := by
  have hp := H.si.past
  have hr := H.si.rev
  have hl := evN_len H.si fr (by omega) ((S.rev : Int) + 1 - fr).toNat (by omega)
  refine (since_any H.st fr (by omega) (by rw [hp]; omega) (by omega) (by omega) H.lg (by omega)).mono ?_
  rintro e w' ⟨p, c, rfl, hk⟩
  exact ⟨p, c, rfl, hk⟩
theorem SQ.upd {w0 w w' : World} {s i n : Nat} {S : Sto} {g : Sg} {x : Nat} (H : SQ w0 w s i n S g) (hu : Upd w w' (fun k => k = x)) (hx : ∀ k, ftS s g k → k ≠ x) (hw : w0.heap.size ≤ x) : SQ w0 w' s i n S g :=
  ⟨H.st.upd hu (fun k hk e => hx k hk e), H.n, H.si, H.lg, H.bel.trans (hu.below H.bel.size (fun k hk e => by omega)), H.fs⟩
theorem own_lowE {W : World} {base base' : Nat} {e : TypeId} {size : Nat} {v : Value} {k : Nat} {xs : List Value} (h : W.ownsRow base e size v k xs) (hb : base' ≤ base) : W.ownsRow base' e size v k xs := by
  refine ⟨h.1, ?_⟩
  rcases h.2 with hn | ⟨g, cap, cur, hv, hbg, rest⟩
  · exact .inl hn
  · exact .inr ⟨g, cap, cur, hv, by omega, rest⟩
theorem below_drewE {B : Nat} {a c : World} (h : Below B a c) (n : Nat) : Below B a (c.drewN n) := ⟨h.os, h.tape, h.output, h.size, h.block⟩
/-- The document's store as the law fills it, and the program's. -/
structure EQ (w0 w : World) (s i n x : Nat) (S : Sto) (g : Sg) (c0 : Int) (c2 c3 c4 : Value) : Prop where
  sq : SQ w0 w s i n S g
  hx : ∀ k, ftS s g k → k ≠ x
  lo : w0.heap.size ≤ x
  row : w.heap[x]? = some (.cells #[.int .i64 c0, .int .i64 0, c2, c3, c4] 43 (0, 0))
theorem EQ.later {w0 w w' : World} {s i n x : Nat} {S : Sto} {g : Sg} {c0 : Int} {c2 c3 c4 : Value} (H : EQ w0 w s i n x S g c0 c2 c3 c4) (hb : Below w.heap.size w w') : EQ w0 w' s i n x S g c0 c2 c3 c4 :=
  ⟨H.sq.later hb, H.hx, H.lo, (hb.block x (Array.getElem?_eq_some_iff.1 H.row).1).trans H.row⟩
theorem EQ.cells {w0 w : World} {s i n x : Nat} {S : Sto} {g : Sg} {c0 : Int} {c2 c3 c4 : Value} (H : EQ w0 w s i n x S g c0 c2 c3 c4) : (w.cell? ⟨x, 0, none⟩ = some (.int .i64 c0) ∧ w.cell? ⟨x, 2, none⟩ = some c2 ∧ w.cell? ⟨x, 3, none⟩ = some c3 ∧ w.cell? ⟨x, 4, none⟩ = some c4) ∧ w.frozen? ⟨x, 0, none⟩ = false ∧ w.frozen? ⟨x, 2, none⟩ = false ∧ w.frozen? ⟨x, 3, none⟩ = false ∧ w.frozen? ⟨x, 4, none⟩ = false :=
  ⟨⟨cell_of_row _ _ _ _ _ _ H.row, cell_of_row _ _ _ _ _ _ H.row, cell_of_row _ _ _ _ _ _ H.row, cell_of_row _ _ _ _ _ _ H.row⟩, frozen_of_row _ _ _ _ _ H.row, frozen_of_row _ _ _ _ _ H.row, frozen_of_row _ _ _ _ _ H.row, frozen_of_row _ _ _ _ _ H.row⟩
theorem EQ.setNow {w0 w : World} {s i n x : Nat} {S : Sto} {g : Sg} {c0 : Int} {c2 c3 c4 : Value} (H : EQ w0 w s i n x S g c0 c2 c3 c4) (v : Value) : EQ w0 (w.setCell ⟨x, 4, none⟩ v) s i n x S g c0 c2 c3 v ∧ Upd w (w.setCell ⟨x, 4, none⟩ v) (fun k => k = x) := by
  have hu : Upd w (w.setCell ⟨x, 4, none⟩ v) (fun k => k = x) := (Upd.refl w (fun k => k = x)).setCell (p := ⟨x, 4, none⟩) (.inr rfl) _
  exact ⟨⟨H.sq.upd hu H.hx H.lo, H.hx, H.lo, heap_setCell_row H.row v⟩, hu⟩
theorem EQ.fill {w0 w : World} {s i n x : Nat} {S : Sto} {g : Sg} {c0 : Int} {c2 c3 c4 : Value} (H : EQ w0 w s i n x S g c0 c2 c3 c4) (v2 v3 : Value) (r : Int) : EQ w0 (((w.setCell ⟨x, 2, none⟩ v2).setCell ⟨x, 3, none⟩ v3).setCell ⟨x, 0, none⟩ (.int .i64 r)) s i n x S g r v2 v3 c4 ∧ Upd w (((w.setCell ⟨x, 2, none⟩ v2).setCell ⟨x, 3, none⟩ v3).setCell ⟨x, 0, none⟩ (.int .i64 r)) (fun k => k = x) := by
  have hu : Upd w (((w.setCell ⟨x, 2, none⟩ v2).setCell ⟨x, 3, none⟩ v3).setCell ⟨x, 0, none⟩ (.int .i64 r)) (fun k => k = x) := (((Upd.refl w (fun k => k = x)).setCell (p := ⟨x, 2, none⟩) (.inr rfl) _).setCell (p := ⟨x, 3, none⟩) (.inr rfl) _).setCell (p := ⟨x, 0, none⟩) (.inr rfl) _
  exact ⟨⟨H.sq.upd hu H.hx H.lo, H.hx, H.lo, heap_setCell_row (heap_setCell_row (heap_setCell_row H.row v2) v3) (.int .i64 r)⟩, hu⟩
/-- What the changes make. -/
theorem SQ.fold {w0 w : World} {s i n : Nat} {S : Sto} {g : Sg} (H : SQ w0 w s i n S g) {fr : Int} (h0 : 1 ≤ fr) (h1 : fr ≤ S.rev) : (evN S fr ((S.rev : Int) + 1 - fr).toNat).foldl doneE (valV S (fr - 1)) = valV S S.rev := by
  have hp := H.si.past
  rw [valV_fold H.full (by rw [hp]; omega) _ (by omega)]
  congr 1
  omega
/-- The document's store tells what is there. -/
theorem EQ.at_ {w0 w : World} {s i n x B : Nat} {S : Sto} {g : Sg} {c2 c3 c4 : Value} {fr : Int} (H : EQ w0 w s i n x S g ((S.rev : Int) + 1) c2 c3 c4) (hi : i ≤ 40) (h0 : 1 ≤ fr) (h1 : fr ≤ S.rev) (hN : w.ownsRow B 56 6 c2 (valV S (fr - 1)).length (kvsC (valV S (fr - 1)))) (hE : w.ownsRow B 85 8 c3 (evN S fr ((S.rev : Int) + 1 - fr).toNat).length (evsC (evN S fr ((S.rev : Int) + 1 - fr).toNat))) :
    Calls Try.prog 19 #[ptr x, .int .i64 S.rev] w fun e w' => ∃ v, e = .returned v ∧ Hid (KVs w' v (valV S S.rev)) ∧ Hid (Below w.heap.size w w') := by
  have hp := H.sq.si.past
  have hks := H.sq.si.ks
  have hl := evN_len H.sq.si fr (by omega) ((S.rev : Int) + 1 - fr).toNat (by omega)
  have hrv := H.sq.si.rev
  obtain ⟨⟨d0, d2, d3, _⟩, _⟩ := H.cells
  have := rat_any d0 d2 d3 (rev := S.rev) (by omega) (KVs.of hN) (EVs.of hE) (fun e he => (evN_mem H.sq.full (by rw [hp]; omega) (by omega) e he).2) (fun m => by
    obtain ⟨f1, f2⟩ := front_ok H.sq.full (r := fr) (by rw [hp]; omega) (j := ((S.rev : Int) + 1 - fr).toNat) (by omega) m
    exact ⟨f1, by omega⟩) (by omega)
  rw [H.sq.fold h0 h1] at this
  refine this.mono ?_
  rintro e w' ⟨v, rfl, h2, h3⟩
  exact ⟨v, rfl, h2, h3⟩
set_option maxRecDepth 100000 in
set_option maxHeartbeats 4000000 in
theorem mvccEvents_walk (v0 : Value) (y : Int) (cs : List Cd) (w : World) (hC : SeesC w v0 cs) (_hcl : cs.length ≤ maxLen) (_hy : -9223372036854775808 ≤ y ∧ y ≤ 9223372036854775807) :
    Calls Try.prog 3 #[v0, .int .i64 y] w fun e w' => e = .returned (.bool true) ∧ Below w.heap.size w w' := by
  obtain ⟨ka, kc, rfl⟩ := hC.form
  have HK := Hid.mk'' hC
  have hml : cs.length ≤ 9223372036854775807 := by unfold maxLen at _hcl; omega
  have hkn := known_st w
  clear hC _hcl _hy
  go_enter Try.func3, Try.ntmps3
  go_wp2_with (first
    | (go_at_call 6; refine hkn.mono ?_; rintro e w1 ⟨rfl, bel1⟩; have hn := new_se w w1 bel1; clear hkn)
    | (go_at_call 7; refine hn.mono ?_; rintro e w2 ⟨s, rfl, HS0⟩; clear hn bel1))
  go_loopg [6] 41 (fun kx s6 wr => ∃ (i : Nat), s6 = .int .i64 i ∧ kx + i = 41 ∧ i ≤ 40 ∧ Hid (SE w wr s i))
  case atStart => exact ⟨0, rfl, rfl, by omega, HS0⟩
  case round =>
    clear HS0
    obtain ⟨i, rfl, hk, hi, HM⟩ := hrel
    by_cases hlt : i < cs.length ∧ i < 40
    · obtain ⟨c1, c2⟩ := hlt
      obtain ⟨cb, co, rfl, hcl, hcc⟩ := HK.out.at c1
      generalize cs.getD i noCd = c at *
      have HCC := Hid.mk'' hcc
      obtain ⟨q0, q1, q2, q3, q4, ⟨v5, q5, qd⟩, z3, z4, z5⟩ := hcc.below hcl HM.out.below
      have hfew := few_any c v5 wr qd z5 z3 z4
      have HV5 : Hid (∀ W, Below w.heap.size w W → W.cell? ⟨cb, co + i * 6 + 5, none⟩ = some v5 ∧ SeesD W v5 c.does) := fun W hb => by
        obtain ⟨v, h1, h2⟩ := hcc.c5
        have e1 := (HM.out.below.cell (p := ⟨cb, co + i * 6 + 5, none⟩) hcl).trans h1
        rw [q5] at e1
        cases e1
        exact ⟨(hb.cell (p := ⟨cb, co + i * 6 + 5, none⟩) hcl).trans h1, h2.below hb⟩
      obtain ⟨p5, k5, hv5⟩ := qd.form
      subst hv5
      clear hcc qd HK
      go_upto_region 8 with (go_at_call 8; refine hfew.mono ?_; rintro e w3 ⟨⟨bl, rfl, hbl⟩, bel3⟩; have HB3 := Hid.mk'' bel3; clear hfew bel3)
      · go_roundg (40 - i)
        case measure => omega
        case rel => exact ⟨i + 1, by congr 1, by omega, by omega, (HM.out.later HB3.out).more⟩
      · have hd30 : c.does.length ≤ 30 := hbl (by have hz : (!bl) = false := by assumption
                                                  simpa using hz)
        have hwr := (HM.out.later HB3.out).write
        clear HM q0 q1 q2 q3 q4 q5 hbl HB3
        go_upto_region 9 with (go_at_call 9; refine hwr.mono ?_; rintro e w4 ⟨b, rfl, HW0⟩; clear hwr)
        go_wp2
        go_loopg [8] (c.does.length + 1) (fun kx s8 wq => ∃ (j : Nat), s8 = .int .i64 j ∧ kx + j = c.does.length + 1 ∧ j ≤ c.does.length ∧ Hid (WQ w wq s b i j))
        case atStart => exact ⟨0, rfl, rfl, Nat.zero_le _, HW0⟩
        case round =>
          clear HW0
          obtain ⟨j, rfl, hkj, hj, HJ⟩ := hrel
          obtain ⟨r5, rd⟩ := HV5.out _ HJ.out.below
          have RD := Hid.mk'' rd
          clear rd
          by_cases hjl : j < c.does.length
          · obtain ⟨b5, o5, rfl, hb5, g0, g1, g2, g3, g4, y2, y3, y4⟩ := RD.out.at hjl
            generalize c.does.getD j noDd = dd at *
            obtain ⟨W1, hW1⟩ : ∃ W1, W1 = wr.alloc (.cells #[.int .i64 dd.kind, .int .i64 dd.lease, .string dd.key, .string dd.hi, .string dd.value] 33) := ⟨_, rfl⟩
            have hbW : Below wr.heap.size wr W1 := by rw [hW1]; exact (Below.refl _ _).alloc (Nat.le_refl _) _
            have x0 : W1.cell? ⟨wr.heap.size, 0, none⟩ = some (.int .i64 dd.kind) := by rw [hW1]; simp
            have x2 : W1.cell? ⟨wr.heap.size, 2, none⟩ = some (.string dd.key) := by rw [hW1]; simp
            have x3 : W1.cell? ⟨wr.heap.size, 3, none⟩ = some (.string dd.hi) := by rw [hW1]; simp
            have x4 : W1.cell? ⟨wr.heap.size, 4, none⟩ = some (.string dd.value) := by rw [hW1]; simp
            have HJ1 := Hid.mk'' (HJ.out.later hbW)
            have hput := HJ1.out.put c2 (by omega) dd.key dd.value y2 y4
            have hdel := HJ1.out.del c2 (by omega) dd.key dd.hi y2 y3
            go_upto_region 13 with fail
            rw [← hW1]
            clear hW1 hbW g0 g1 g2 g3 g4 r5 RD HJ HJ1
            generalize wr.heap.size = bx at *
            by_cases hgt : 0 < dd.kind.tmod 3
            · go_wp2_with (go_at_call 10; refine hput.mono ?_; rintro e w6 ⟨r6, rfl, HJ6⟩; clear hput)
              go_roundg (c.does.length - j)
              case measure => omega
              case rel => exact ⟨j + 1, by congr 1, by omega, by omega, HJ6⟩
            · go_wp2_with (go_at_call 11; refine hdel.mono ?_; rintro e w6 ⟨r6, rfl, HJ6⟩; clear hdel)
              go_roundg (c.does.length - j)
              case measure => omega
              case rel => exact ⟨j + 1, by congr 1, by omega, by omega, HJ6⟩
          · obtain rfl : j = c.does.length := by omega
            have hdn := HJ.out.done c2 hd30
            go_wp2_with (go_at_call 12; refine hdn.mono ?_; rintro e w7 ⟨r7, rfl, HS7⟩; clear hdn)
            go_roundg (40 - i)
            case measure => omega
            case rel => exact ⟨i + 1, by congr 1, by omega, by omega, HS7⟩
    · obtain ⟨n, S, g, HQ⟩ := HM.out
      have hor : (i < cs.length ∧ ¬ (i : Int) < 40) ∨ ¬ i < cs.length := by
        by_cases h1 : i < cs.length
        · exact .inl ⟨h1, by omega⟩
        · exact .inr h1
      have HQH := Hid.mk'' HQ
      have hrev := rev_st HQ.st
      have hsr := HQ.si.rev
      clear hlt HK HM
      by_cases hr0 : S.rev = 0
      · have hz : ((S.rev : Int) == 0) = true := by rw [hr0]; rfl
        rcases hor with ⟨h1, h2⟩ | h1
        all_goals
          go_wp2_with (go_at_call 13; refine hrev.mono ?_; rintro e w1 ⟨rfl, hw1⟩; obtain rfl := hw1.symm)
          go_ret
          exact ⟨rfl, HQH.out.bel⟩
      · have hz : ((S.rev : Int) == 0) = false := by simpa using hr0
        obtain ⟨u1, u2⟩ := withinG_bd y S.rev (by omega)
        obtain ⟨u, hu⟩ : ∃ u, u = withinG y S.rev := ⟨_, rfl⟩
        rw [← hu] at u1 u2
        have HU := Hid.mk'' hu
        clear hu
        have hltx : ∀ k, ftS s g k → k ≠ wr.heap.size := fun k hk e => by have := HQ.st.lt hk; omega
        obtain ⟨W1, hW1⟩ : ∃ W1, W1 = wr.alloc (.cells #[.int .i64 0, .int .i64 0, .slice none 0 0, .slice none 0 0, .slice none 0 0] 43) := ⟨_, rfl⟩
        have hbW : Below wr.heap.size wr W1 := by rw [hW1]; exact (Below.refl _ _).alloc (Nat.le_refl _) _
        have HX1 : Hid (EQ w W1 s i n wr.heap.size S g 0 (.slice none 0 0) (.slice none 0 0) (.slice none 0 0)) := ⟨HQ.later hbW, hltx, HQ.bel.size, by rw [hW1]; exact row_alloc wr _ _⟩
        have hxW : wr.heap.size < W1.heap.size := by rw [hW1]; simp
        clear HQ hltx hbW
        rcases hor with ⟨h1, h2⟩ | h1
        all_goals
          go_upto_region 21 with (first
            | (go_at_call 13; refine hrev.mono ?_; rintro e w1 ⟨rfl, hw1⟩; obtain rfl := hw1.symm)
            | (go_at_call 14; refine (within_anyG _ _ _ (by omega) (by omega)).mono ?_; rintro e w1 ⟨rfl, hw1⟩; obtain rfl := hw1.symm; rw [← HU.out]))
          rw [← hW1]
          clear hW1 hrev
          have htop := top_any W1
          generalize wr.heap.size = x at *
          have hpx : Value.pointer (some ⟨x, 0, none⟩) = ptr x := rfl
          rw [hpx]
          clear hpx
          obtain ⟨fr, hfr⟩ : ∃ fr, fr = 1 + u := ⟨_, rfl⟩
          rw [← hfr]
          have hf1 : 1 ≤ fr := by omega
          have hf2 : fr ≤ S.rev := by omega
          clear hfr u1 u2 HU
          obtain ⟨BB, hBB⟩ : ∃ BB, BB = W1.heap.size := ⟨_, rfl⟩
          have HBB := Hid.mk'' hBB
          rw [← hBB] at hxW
          clear hBB
          by_cases hff : fr ≤ 1
          · have hrg := HX1.out.sq.range hi 1 (by omega) (by omega)
            go_upto_region 26 with (first | (go_at_call 16; refine htop.mono ?_; rintro e w1 ⟨rfl, hw1⟩; obtain rfl := hw1.symm) | (go_at_call 15; refine hrg.mono ?_; rintro e w3 ⟨pn, cn, mn, rfl, HK3⟩))
            have HX3 := Hid.mk'' (HX1.out.later HK3.out.2)
            have HN3 : Hid (w3.ownsRow BB 56 6 (.slice none 0 0) (valV S (fr - 1)).length (kvsC (valV S (fr - 1)))) := by
              have e0 : fr - 1 = 0 := by omega
              have e : valV S (fr - 1) = [] := by rw [e0]; exact valV_zero HX1.out.sq.full
              rw [e]
              exact World.ownsRow_nil _ _ _ _
            have hBW : BB ≤ w3.heap.size := by have := HK3.out.2.size; have := HBB.out; omega
            clear hrg htop HX1 HK3
            have hsi := HX3.out.sq.since hi fr hf1 hf2
            go_upto_region 29 with (go_at_call 17; refine hsi.mono ?_; rintro e w4 ⟨pe, ce, rfl, HE4⟩; clear hsi)
            have HX4 := Hid.mk'' (HX3.out.later HE4.out.2)
            have HN4 := Hid.mk'' (ownsRow_upd HN3.out (Upd.ofBelow (S := fun _ => False) HE4.out.2) (fun _ _ h => h))
            have HE5 : Hid (w4.ownsRow BB 85 8 (.slice pe (evN S fr ((S.rev : Int) + 1 - fr).toNat).length ce) (evN S fr ((S.rev : Int) + 1 - fr).toNat).length (evsC (evN S fr ((S.rev : Int) + 1 - fr).toNat))) := own_lowE HE4.out.1 hBW
            obtain ⟨⟨d0, d2, d3, d4⟩, f0, f2, f3, f4⟩ := HX4.out.cells
            have hrv4 : ∀ q, Calls Try.prog 13 #[ptr s] (w4.drewN q) fun e w' => e = .returned (.int .i64 S.rev) ∧ w' = w4.drewN q := fun q => rev_st (HX4.out.later (below_drewE (Below.refl _ _) q)).sq.st
            have hrb : (S.rev : Int) ≤ 40 := by omega
            clear HX3 HN3 HE4
            have hwrap : IntKind.i64.wrap ((S.rev : Int) + 1) = (S.rev : Int) + 1 := wrapE (by omega) (by omega)
            go_region_with (go_at_call 13; refine (hrv4 1).mono ?_; rintro e w5 ⟨rfl, hw5⟩; obtain rfl := hw5.symm)
            all_goals
              obtain ⟨HX5', hu5⟩ := (HX4.out.later (below_drewE (Below.refl _ _) 1)).fill (.slice none 0 0) (.slice pe (evN S fr ((S.rev : Int) + 1 - fr).toNat).length ce) ((S.rev : Int) + 1)
              obtain ⟨w5, hw5'⟩ : ∃ w5, w5 = (((w4.drewN 1).setCell ⟨x, 2, none⟩ (.slice none 0 0)).setCell ⟨x, 3, none⟩ (.slice pe (evN S fr ((S.rev : Int) + 1 - fr).toNat).length ce)).setCell ⟨x, 0, none⟩ (.int .i64 ((S.rev : Int) + 1)) := ⟨_, rfl⟩
              rw [← hw5'] at HX5' hu5 ⊢
              have hu6 : Upd w4 w5 (fun k => k = x) := ⟨hu5.os, hu5.tape, hu5.output, hu5.size, hu5.block⟩
              have HX5 := Hid.mk'' HX5'
              have HN5 : Hid (w5.ownsRow BB 56 6 (.slice none 0 0) (valV S (fr - 1)).length (kvsC (valV S (fr - 1)))) := ownsRow_upd (S := fun k => k = x) HN4.out hu6 (fun k hk e => by have := (HN4.out.lt k hk).1; omega)
              have HE6 : Hid (w5.ownsRow BB 85 8 (.slice pe (evN S fr ((S.rev : Int) + 1 - fr).toNat).length ce) (evN S fr ((S.rev : Int) + 1 - fr).toNat).length (evsC (evN S fr ((S.rev : Int) + 1 - fr).toNat))) := ownsRow_upd (S := fun k => k = x) HE5.out hu6 (fun k hk e => by have := (HE5.out.lt k hk).1; omega)
              have htop5 := top_any w5
              have hrg5 := HX5.out.sq.range hi 0 (by omega) (by omega)
              have hro5 : revOf S 0 = S.rev := if_pos rfl
              rw [hro5] at hrg5
              have HAT : Hid (∀ W, Below w5.heap.size w5 W → Calls Try.prog 13 #[ptr s] W (fun e w' => e = .returned (.int .i64 S.rev) ∧ w' = W) ∧ Calls Try.prog 19 #[ptr x, .int .i64 S.rev] W (fun e w' => ∃ v, e = .returned v ∧ Hid (KVs w' v (valV S S.rev)) ∧ Hid (Below W.heap.size W w'))) := fun W hb => ⟨rev_st (HX5.out.later hb).sq.st, (HX5.out.later hb).at_ hi hf1 hf2 (ownsRow_upd HN5.out (Upd.ofBelow (S := fun _ => False) hb) (fun _ _ h => h)) (ownsRow_upd HE6.out (Upd.ofBelow (S := fun _ => False) hb) (fun _ _ h => h))⟩
              have hvl : (valV S S.rev).length ≤ 1000000 := by have h1 := valV_len (S := S) S.rev; have h2 := HX5.out.sq.si.ks; omega
              have HBEL := Hid.mk'' HX5.out.sq.bel
              clear HX4 HX5' hu5 hu6 hw5' HN4 HE5 d0 d2 d3 d4 f0 f2 f3 f4 hrv4 hwrap HX5 HN5 HE6 hro5
              go_wp2_with (first
                | (go_at_call 16; refine htop5.mono ?_; rintro e w1 ⟨rfl, hw1⟩; obtain rfl := hw1.symm)
                | (go_at_call 15; refine hrg5.mono ?_; rintro e w6 ⟨p6, c6, m6, rfl, HK6⟩; obtain ⟨hr6, ha6⟩ := HAT.out w6 HK6.out.2; clear hrg5 htop5)
                | (go_at_call 13; refine hr6.mono ?_; rintro e w1 ⟨rfl, hw1⟩; obtain rfl := hw1.symm)
                | (go_at_call 19; refine ha6.mono ?_; rintro e w7 ⟨v7, rfl, HK7, HB7⟩; have hsame := same_kvs HK7.out ((KVs.of HK6.out.1).below HB7.out (Nat.le_refl _)) hvl; clear ha6)
                | (go_at_call 18; refine hsame.mono ?_; rintro e w8 ⟨rfl, hb8⟩; clear hsame))
              go_ret
              exact ⟨rfl, HBEL.out.trans ((HK6.out.2.mono HBEL.out.size).trans ((HB7.out.mono (Nat.le_trans HBEL.out.size HK6.out.2.size)).trans (hb8.mono (Nat.le_trans HBEL.out.size (Nat.le_trans HK6.out.2.size HB7.out.size)))))⟩
          · have hf3 : 2 ≤ fr := by omega
            clear hff
            have hrg := HX1.out.sq.range hi (fr - 1) (by omega) (by omega)
            have hro : revOf S (fr - 1) = fr - 1 := if_neg (by omega)
            rw [hro] at hrg
            go_upto_region 25 with (first | (go_at_call 16; refine htop.mono ?_; rintro e w1 ⟨rfl, hw1⟩; obtain rfl := hw1.symm) | (go_at_call 15; refine hrg.mono ?_; rintro e w2 ⟨pn, cn, mn, rfl, HK3⟩))
            have HX2 := HX1.out.later HK3.out.2
            obtain ⟨⟨d0, d2, d3, d4⟩, f0, f2, f3, f4⟩ := HX2.cells
            obtain ⟨HX3', hu3⟩ := HX2.setNow (.slice pn (valV S (fr - 1)).length cn)
            have HX3 := Hid.mk'' HX3'
            have hBW2 : BB ≤ w2.heap.size := by have := HK3.out.2.size; have := HBB.out; omega
            have HN3 := Hid.mk'' (ownsRow_upd (own_lowE HK3.out.1 (Nat.le_of_eq HBB.out)) hu3 (fun k hk e => by have := (HK3.out.1.lt k hk).1; have := HBB.out; omega))
            go_upto_region 26 with fail
            obtain ⟨w3, hw3⟩ : ∃ w3, w3 = w2.setCell ⟨x, 4, none⟩ (.slice pn (valV S (fr - 1)).length cn) := ⟨_, rfl⟩
            rw [← hw3] at HX3 HN3 ⊢
            have hBW : BB ≤ w3.heap.size := by rw [hw3]; simpa using hBW2
            clear hrg htop HX1 HX2 HK3 HX3' hu3 hw3 d0 d2 d3 d4 f0 f2 f3 f4 hro
            have hsi := HX3.out.sq.since hi fr hf1 hf2
            go_upto_region 29 with (go_at_call 17; refine hsi.mono ?_; rintro e w4 ⟨pe, ce, rfl, HE4⟩; clear hsi)
            have HX4 := Hid.mk'' (HX3.out.later HE4.out.2)
            have HN4 := Hid.mk'' (ownsRow_upd HN3.out (Upd.ofBelow (S := fun _ => False) HE4.out.2) (fun _ _ h => h))
            have HE5 : Hid (w4.ownsRow BB 85 8 (.slice pe (evN S fr ((S.rev : Int) + 1 - fr).toNat).length ce) (evN S fr ((S.rev : Int) + 1 - fr).toNat).length (evsC (evN S fr ((S.rev : Int) + 1 - fr).toNat))) := own_lowE HE4.out.1 hBW
            obtain ⟨⟨d0, d2, d3, d4⟩, f0, f2, f3, f4⟩ := HX4.out.cells
            have hrv4 : ∀ q, Calls Try.prog 13 #[ptr s] (w4.drewN q) fun e w' => e = .returned (.int .i64 S.rev) ∧ w' = w4.drewN q := fun q => rev_st (HX4.out.later (below_drewE (Below.refl _ _) q)).sq.st
            have hrb : (S.rev : Int) ≤ 40 := by omega
            clear HX3 HN3 HE4
            have hwrap : IntKind.i64.wrap ((S.rev : Int) + 1) = (S.rev : Int) + 1 := wrapE (by omega) (by omega)
            go_region_with (go_at_call 13; refine (hrv4 1).mono ?_; rintro e w5 ⟨rfl, hw5⟩; obtain rfl := hw5.symm)
            all_goals
              obtain ⟨HX5', hu5⟩ := (HX4.out.later (below_drewE (Below.refl _ _) 1)).fill (.slice pn (valV S (fr - 1)).length cn) (.slice pe (evN S fr ((S.rev : Int) + 1 - fr).toNat).length ce) ((S.rev : Int) + 1)
              obtain ⟨w5, hw5'⟩ : ∃ w5, w5 = (((w4.drewN 1).setCell ⟨x, 2, none⟩ (.slice pn (valV S (fr - 1)).length cn)).setCell ⟨x, 3, none⟩ (.slice pe (evN S fr ((S.rev : Int) + 1 - fr).toNat).length ce)).setCell ⟨x, 0, none⟩ (.int .i64 ((S.rev : Int) + 1)) := ⟨_, rfl⟩
              rw [← hw5'] at HX5' hu5 ⊢
              have hu6 : Upd w4 w5 (fun k => k = x) := ⟨hu5.os, hu5.tape, hu5.output, hu5.size, hu5.block⟩
              have HX5 := Hid.mk'' HX5'
              have HN5 : Hid (w5.ownsRow BB 56 6 (.slice pn (valV S (fr - 1)).length cn) (valV S (fr - 1)).length (kvsC (valV S (fr - 1)))) := ownsRow_upd (S := fun k => k = x) HN4.out hu6 (fun k hk e => by have := (HN4.out.lt k hk).1; omega)
              have HE6 : Hid (w5.ownsRow BB 85 8 (.slice pe (evN S fr ((S.rev : Int) + 1 - fr).toNat).length ce) (evN S fr ((S.rev : Int) + 1 - fr).toNat).length (evsC (evN S fr ((S.rev : Int) + 1 - fr).toNat))) := ownsRow_upd (S := fun k => k = x) HE5.out hu6 (fun k hk e => by have := (HE5.out.lt k hk).1; omega)
              have htop5 := top_any w5
              have hrg5 := HX5.out.sq.range hi 0 (by omega) (by omega)
              have hro5 : revOf S 0 = S.rev := if_pos rfl
              rw [hro5] at hrg5
              have HAT : Hid (∀ W, Below w5.heap.size w5 W → Calls Try.prog 13 #[ptr s] W (fun e w' => e = .returned (.int .i64 S.rev) ∧ w' = W) ∧ Calls Try.prog 19 #[ptr x, .int .i64 S.rev] W (fun e w' => ∃ v, e = .returned v ∧ Hid (KVs w' v (valV S S.rev)) ∧ Hid (Below W.heap.size W w'))) := fun W hb => ⟨rev_st (HX5.out.later hb).sq.st, (HX5.out.later hb).at_ hi hf1 hf2 (ownsRow_upd HN5.out (Upd.ofBelow (S := fun _ => False) hb) (fun _ _ h => h)) (ownsRow_upd HE6.out (Upd.ofBelow (S := fun _ => False) hb) (fun _ _ h => h))⟩
              have hvl : (valV S S.rev).length ≤ 1000000 := by have h1 := valV_len (S := S) S.rev; have h2 := HX5.out.sq.si.ks; omega
              have HBEL := Hid.mk'' HX5.out.sq.bel
              clear HX4 HX5' hu5 hu6 hw5' HN4 HE5 d0 d2 d3 d4 f0 f2 f3 f4 hrv4 hwrap HX5 HN5 HE6 hro5
              go_wp2_with (first
                | (go_at_call 16; refine htop5.mono ?_; rintro e w1 ⟨rfl, hw1⟩; obtain rfl := hw1.symm)
                | (go_at_call 15; refine hrg5.mono ?_; rintro e w6 ⟨p6, c6, m6, rfl, HK6⟩; obtain ⟨hr6, ha6⟩ := HAT.out w6 HK6.out.2; clear hrg5 htop5)
                | (go_at_call 13; refine hr6.mono ?_; rintro e w1 ⟨rfl, hw1⟩; obtain rfl := hw1.symm)
                | (go_at_call 19; refine ha6.mono ?_; rintro e w7 ⟨v7, rfl, HK7, HB7⟩; have hsame := same_kvs HK7.out ((KVs.of HK6.out.1).below HB7.out (Nat.le_refl _)) hvl; clear ha6)
                | (go_at_call 18; refine hsame.mono ?_; rintro e w8 ⟨rfl, hb8⟩; clear hsame))
              go_ret
              exact ⟨rfl, HBEL.out.trans ((HK6.out.2.mono HBEL.out.size).trans ((HB7.out.mono (Nat.le_trans HBEL.out.size HK6.out.2.size)).trans (hb8.mono (Nat.le_trans HBEL.out.size (Nat.le_trans HK6.out.2.size HB7.out.size)))))⟩
end Go.Proofs.Yteeflkkoifgcbaa
