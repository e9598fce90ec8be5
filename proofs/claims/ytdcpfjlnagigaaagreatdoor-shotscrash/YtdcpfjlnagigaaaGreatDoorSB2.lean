/- newest: the whole snapshot with the greatest Index. -/
import Derived.Test.YtdcpfjlnagigaaaGreatDoorSB1
import Derived.Test.YtdcpfjlnagigaaaGreatDoorSR2
namespace Go.Proofs.YtdcpfjlnagigaaaGreatDoor
open Go Go.RowKit Go.Shelf
attribute [local go_sem] Oper.semAt_some
/-- Numbers that a snapshot may hold. -/
structure Sh.fine (s : Sh) : Prop where
  i0 : 1 ≤ s.i
  i1 : s.i ≤ 999999999999
  t : i64 s.t
  few : s.vs.length ≤ 7
  vs : ∀ v ∈ s.vs, i64 v
  db : isB s.d
  small : s.d.length ≤ 2500
/-- What parse tells of a snapshot's bytes. -/
def ParseYes : Prop := ∀ (v : Value) (s : Sh) (w : World), HasTab w → Sees w v (frameB s.body) → s.fine →
    Calls Tryz.prog 80 #[v] w fun e w' => ∃ vv dv, e = .returned (.tuple #[.agg #[.int .i64 s.i, .int .i64 s.t, vv, dv], .bool true]) ∧ SeesI w' vv s.vs ∧ Sees w' dv s.d ∧ (∀ k, vv.ownBlock = some k → w.heap.size ≤ k) ∧ (∀ k, dv.ownBlock = some k → w.heap.size ≤ k) ∧ Below w.heap.size w w'
/-- The file of an Index: a whole snapshot, or what is no frame. -/
def FileAt (p : PS) (got : Int → Option Sh) (m : Int) : Prop := ∃ n : Nat, m = n ∧ n < 100 ∧ readE p (sname n) = 0 ∧
  ((∃ s : Sh, got m = some s ∧ readB p (sname n) = frameB s.body ∧ s.fine ∧ s.i = m) ∨ (got m = none ∧ unfE (readB p (sname n)) ≠ 0 ∧ isB (readB p (sname n)) ∧ (readB p (sname n)).length ≤ 100000))
theorem seesI_kept {W W' : World} {row : Option Nat} {v : Value} {zs : List Int} (h : SeesI W v zs) (hg : W.grownBy W' row) (hr : ∀ r, row = some r → ∃ o : Obj, W.heap[r]? = some o ∧ o.isCells = false) : SeesI W' v zs := by
  rcases h with h | ⟨b, off, cap, rfl, h0, h1, hc⟩
  · exact .inl h
  · exact .inr ⟨b, off, cap, rfl, h0, Nat.lt_of_lt_of_le h1 hg.size, fun i hi => cell_kept (hc i hi) hg hr⟩
theorem sees_kept {W W' : World} {row : Option Nat} {v : Value} {zs : List Int} (h : Sees W v zs) (hg : W.grownBy W' row) (hr : ∀ r, row = some r → ∃ o : Obj, W.heap[r]? = some o ∧ o.isCells = false) : Sees W' v zs := by
  rcases h with h | ⟨b, off, cap, rfl, h0, h1, h2, hc⟩
  · exact .inl h
  · exact .inr ⟨b, off, cap, rfl, h0, h1, h2, fun i hi => cell_kept (hc i hi) hg hr⟩
theorem results_cc {tmps : Array Value} {w : World} {g g2 : Nat} {v0 v1 v2 v3 v4 : Value}
    (hp : tmps.getD 4 undef = .pointer (some ⟨g, 0, none⟩)) (hq : tmps.getD 5 undef = .pointer (some ⟨g2, 0, none⟩)) (c0 : w.cell? ⟨g, 0, none⟩ = some v0) (c1 : w.cell? ⟨g, 1, none⟩ = some v1) (c2 : w.cell? ⟨g, 2, none⟩ = some v2) (c3 : w.cell? ⟨g, 3, none⟩ = some v3) (hc : w.cell? ⟨g2, 0, none⟩ = some v4) :
    (results Tryz.f42 tmps).run Tryz.prog w = .ok (.tuple #[.agg #[v0, v1, v2, v3], v4]) w := by
  have hp' : tmps[4]?.getD undef = .pointer (some ⟨g, 0, none⟩) := by simpa using hp
  have hq' : tmps[5]?.getD undef = .pointer (some ⟨g2, 0, none⟩) := by simpa using hq
  simp [results, Tryz.f42, hp', hq', asAddr, go_sem, c0, c1, c2, c3, hc]
theorem lt_of_row {w : World} {g : Nat} {o : Obj} (h : w.heap[g]? = some o) : g < w.heap.size := (Array.getElem?_eq_some_iff.1 h).1
theorem keeps_of_below {W W' : World} (h : Below W.heap.size W W') : KeepsOthers W W' := ⟨h.size, fun k _ hk _ => (h.block k (Array.getElem?_eq_some_iff.1 hk).1).trans hk⟩
set_option maxRecDepth 100000 in
set_option maxHeartbeats 2000000 in
theorem newest_any (hPY : ParseYes) (B d : Nat) (g : Gu) (p : PS) (w : World) (hd : Dk B w d g p) (ht : total p.fs ≤ 1000000) (hT : HasTab w) (a : Option Addr) (len cap : Nat) (ms : List Int) (hl : ms.length ≤ 1000000) (hI : IntsIn w.heap.size w (.slice a len cap) ms)
    (got : Int → Option Sh) (hF : ∀ m ∈ ms, FileAt p got m) :
    Calls Tryz.prog 42 #[ptr d, .slice a len cap] w fun e w' =>
      ((e = .returned (.tuple #[noShot, .int .i64 2]) ∧ ∀ m ∈ ms, got m = none) ∨
       (∃ (k : Nat) (s : Sh) (vv dv : Value), k < ms.length ∧ got (fromBack ms k).2 = some s ∧ (∀ j, j < k → got (fromBack ms j).2 = none) ∧ e = .returned (.tuple #[.agg #[.int .i64 s.i, .int .i64 s.t, vv, dv], .int .i64 0]) ∧ SeesI w' vv s.vs ∧ Sees w' dv s.d ∧ (∀ k, vv.ownBlock = some k → w.heap.size ≤ k) ∧ (∀ k, dv.ownBlock = some k → w.heap.size ≤ k))) ∧ Below w.heap.size w w' := by
  refine (callsIn_wide (n := 3)).1 ?_
  refine callsIn_of_wp_marks Tryz.func42 rfl trivial ?_ rfl
  simp only [Tryz.ntmps42, List.size_toArray, List.length_cons, List.length_nil, Nat.reduceAdd, Nat.reduceSub, Array.replicate_succ, Array.replicate_zero, List.push_toArray, List.append_toArray, List.nil_append, List.cons_append]
  gi_wp2_with (refine ⟨trivial, ?_⟩; gi_at_call 78; refine (back_in Fence.wide _ trivial rfl _ _ _ _).mono ?_; rintro e w' ⟨rfl, rfl⟩)
  obtain ⟨W0, hW0⟩ : ∃ W0, W0 = ((((w.alloc (.cells #[ptr d] 25)).alloc (.cells #[.int .i64 0, .int .i64 0, .slice none 0 0, .slice none 0 0] 81)).alloc (.cells #[.int .i64 0] 26)).alloc (.cells #[.slice a len cap] 32)) := ⟨_, rfl⟩
  have hsz0 : W0.heap.size = w.heap.size + 1 + 1 + 1 + 1 := by rw [hW0]; simp
  have hB0 : Below w.heap.size w W0 := by rw [hW0]; exact ((((Below.refl _ w).alloc (Nat.le_refl _) _).alloc (by simp) _).alloc (by simp; omega) _).alloc (by simp; omega) _
  have rA : W0.heap[w.heap.size]? = some (.cells #[ptr d] 25 (0, 0)) := by
    rw [hW0]
    exact (heap_alloc_old _ _ _ (by simp; omega)).trans ((heap_alloc_old _ _ _ (by simp; omega)).trans ((heap_alloc_old _ _ _ (by simp)).trans (heap_alloc_new w _)))
  have rR : W0.heap[w.heap.size + 1]? = some (.cells #[.int .i64 0, .int .i64 0, .slice none 0 0, .slice none 0 0] 81 (0, 0)) := by
    rw [hW0]
    have h := heap_alloc_new (w.alloc (.cells #[ptr d] 25)) (.cells #[.int .i64 0, .int .i64 0, .slice none 0 0, .slice none 0 0] 81)
    rw [World.size_alloc] at h
    exact (heap_alloc_old _ _ _ (by simp)).trans ((heap_alloc_old _ _ _ (by simp)).trans h)
  have rE : W0.heap[w.heap.size + 1 + 1]? = some (.cells #[.int .i64 0] 26 (0, 0)) := by
    rw [hW0]
    have h := heap_alloc_new ((w.alloc (.cells #[ptr d] 25)).alloc (.cells #[.int .i64 0, .int .i64 0, .slice none 0 0, .slice none 0 0] 81)) (.cells #[.int .i64 0] 26)
    rw [World.size_alloc, World.size_alloc] at h
    exact (heap_alloc_old _ _ _ (by simp)).trans h
  have rS : W0.heap[w.heap.size + 1 + 1 + 1]? = some (.cells #[.slice a len cap] 32 (0, 0)) := by
    rw [hW0]
    have h := heap_alloc_new (((w.alloc (.cells #[ptr d] 25)).alloc (.cells #[.int .i64 0, .int .i64 0, .slice none 0 0, .slice none 0 0] 81)).alloc (.cells #[.int .i64 0] 26)) (.cells #[.slice a len cap] 32)
    rw [World.size_alloc, World.size_alloc, World.size_alloc] at h
    exact h
  have hI0 : IntsIn W0.heap.size W0 (.slice a len cap) ms := by
    rcases hI.below hB0 with h | ⟨b, off, cp, e, hb, hc⟩
    · exact .inl h
    · exact .inr ⟨b, off, cp, e, by omega, hc⟩
  rw [← hW0]
  clear hW0
  refine wpIn_rangeFunc_ownG rfl (by omega) (gf := 100) (lb := #[.pointer (some ⟨w.heap.size + 1 + 1 + 1, 0, none⟩)]) rfl trivial (enters_of Tryz.func100 (by kernel_rfl) rfl)
    (back_stops Fence.wide _ trivial rfl (by omega) (w.heap.size + 1 + 1 + 1) W0.heap.size (.slice a len cap) ms hl W0 (by omega) (Nat.le_refl _) ((cell_of_row _ _ _ _ _ _ rS).trans rfl) hI0) belowK_t (belowK_b (Nat.le_refl _)) (Below.refl _ _) (fun _ => rfl)
    (fun pre W => (∀ x ∈ pre, got x.1.2 = none) ∧ Below W0.heap.size W0 W)
    (fun c pre W => (c = .ret ∧ ∃ (ini : List (Came ms)) (last : Came ms) (s : Sh) (vv dv : Value), pre = ini ++ [last] ∧ (∀ x ∈ ini, got x.1.2 = none) ∧ got last.1.2 = some s ∧ (W.cell? ⟨w.heap.size + 1, 0, none⟩ = some (.int .i64 s.i) ∧ W.cell? ⟨w.heap.size + 1, 1, none⟩ = some (.int .i64 s.t) ∧ W.cell? ⟨w.heap.size + 1, 2, none⟩ = some vv ∧ W.cell? ⟨w.heap.size + 1, 3, none⟩ = some dv) ∧ W.cell? ⟨w.heap.size + 1 + 1, 0, none⟩ = some (.int .i64 0) ∧ SeesI W vv s.vs ∧ Sees W dv s.d ∧ (∀ k, vv.ownBlock = some k → w.heap.size ≤ k) ∧ (∀ k, dv.ownBlock = some k → w.heap.size ≤ k)) ∧ Below w.heap.size w W)
    (OwnFrom.and (ownFrom_pure _ (fun pre : List (Came ms) => ∀ x ∈ pre, got x.1.2 = none)) (ownFrom_below (Nat.le_refl _) (Nat.le_refl _)))
    (fun c => OwnFrom.and (Own.from (fun s A B row hs hg hr => by
      obtain ⟨hc, ini, last, s, vv, dv, e1, e2, e3, ⟨c0, c1, c2, c3⟩, c4, e5, e6, e7⟩ := hs
      exact ⟨hc, ini, last, s, vv, dv, e1, e2, e3, ⟨cell_kept c0 hg hr, cell_kept c1 hg hr, cell_kept c2 hg hr, cell_kept c3 hg hr⟩, cell_kept c4 hg hr, seesI_kept e5 hg hr, sees_kept e6 hg hr, e7⟩) _) (ownFrom_below (Nat.le_refl _) (by omega)))
    ⟨fun x hx => (by cases hx), Below.refl _ _⟩
    (fun x => { tmps := #[ptr d, .slice a len cap, .pointer (some ⟨w.heap.size, 0, none⟩), undef, .pointer (some ⟨w.heap.size + 1, 0, none⟩), .pointer (some ⟨w.heap.size + 1 + 1, 0, none⟩), undef, .int .i64 x.1.2, undef, undef, undef, undef, .slice a len cap, .func (.func 100) #[] #[.pointer (some ⟨w.heap.size + 1 + 1 + 1, 0, none⟩)], .int .i64 x.1.1, .int .i64 x.1.2, undef, undef, undef, undef, undef, undef, undef, undef, undef, undef, undef, undef, undef, undef, undef, undef, undef, undef, undef, undef, undef, undef, undef, undef, undef, undef], defers := [] }) ?assign ?body ?done ?stop
  case assign =>
    intro l x W K hK
    gi_wp2
    exact hK
  case body =>
    rintro l pre ⟨⟨ix, m⟩, hm⟩ W ⟨hp, hB⟩ _
    have hBW : Below w.heap.size w W := hB0.trans (hB.mono hB0.size)
    obtain ⟨n, rfl, hn, hre, hcase⟩ := hF m hm
    have hread := read_any B d g p ⟨(sname n).toArray⟩ W.drew (hd.below hBW.drew) ht
    have hcA : W.cell? ⟨w.heap.size, 0, none⟩ = some (ptr d) := (hB.cell (p := ⟨w.heap.size, 0, none⟩) (by show w.heap.size < W0.heap.size; omega)).trans ((cell_of_row _ _ _ _ _ _ rA).trans rfl)
    have hnm : (⟨(sname n).toArray⟩ : ByteArray).data.toList = sname n := rfl
    rw [hnm, hre] at hread
    have hsW : W0.heap.size ≤ W.heap.size := hB.size
    have hd1 : 1 ≤ 3 - 1 - 1 := by decide
    have hmx : Tryz.prog.follows .mixedOrders = true := by kernel_rfl
    gi_wp2
    gi_region_with_o (first
      | (refine ⟨trivial, ?_⟩; gi_at_call 33; refine (CallsIn.inRound l (callsIn_wide.2 (fileName_any n _ hn))).mono ?_; rintro e w' ⟨rfl, rfl⟩)
      | (refine ⟨trivial, ?_⟩; gi_at_call 79; refine (CallsIn.inRound l (callsIn_wide.2 hread)).mono ?_; rintro e w3 ⟨v3, rfl, ho3, hb3⟩))
    all_goals
      have hb3' : Below W.heap.size W w3 := (Below.refl _ W).drew.trans hb3
      have hs3 := sees_own ho3
      obtain ⟨a3, c3, rfl⟩ := owns_form ho3
      have hT3 : HasTab w3 := hT.below (hBW.trans (hb3'.mono hBW.size))
      clear ho3 hb3 hread
      rcases hcase with ⟨s, hgs, hrb, hsf, hsi⟩ | ⟨hgn, hE, hib, hlen⟩
      · rw [hrb] at hs3
        have hpa := hPY _ s w3 hT3 hs3 hsf
        rw [hsi] at hpa
        rw [hrb]
        clear hs3
        generalize (frameB s.body).length = L3 at *
        gi_wp2_with (refine ⟨trivial, ?_⟩; gi_at_call 80; refine (CallsIn.inRound l (callsIn_wide.2 hpa)).mono ?_; rintro e w4 ⟨vv, dv, rfl, hvv, hdv, hfv, hfd, hb4⟩; obtain ⟨vo, vc, rfl⟩ := hvv.form; obtain ⟨do_, dc, rfl⟩ := hdv.form; have hb4' : Below W.heap.size W w4 := hb3'.trans (hb4.mono hb3'.size); have hR4 := (hb4'.block (w.heap.size + 1) (by omega)).trans ((hB.block (w.heap.size + 1) (by omega)).trans rR); have hE4 := (hb4'.block (w.heap.size + 1 + 1) (by omega)).trans ((hB.block (w.heap.size + 1 + 1) (by omega)).trans rE); obtain ⟨n0, n1, n2, n3⟩ := row4 hR4; have n4 : w4.cell? ⟨w.heap.size + 1 + 1, 0, none⟩ = some (.int .i64 0) := (cell_of_row _ _ _ _ _ _ hE4).trans rfl; have f0 := frozen_of_row w4 _ 0 _ 81 hR4; have f1 := frozen_of_row w4 _ 1 _ 81 hR4; have f2 := frozen_of_row w4 _ 2 _ 81 hR4; have f3 := frozen_of_row w4 _ 3 _ 81 hR4; have f4 := frozen_of_row w4 _ 0 _ 26 hE4; have hl4 : w.heap.size + 1 + 1 < w4.heap.size := lt_of_row hE4; have hRo : ∀ o, (w4.alloc o).heap[w.heap.size + 1]? = _ := fun o => (heap_alloc_old w4 o _ (lt_of_row hR4)).trans hR4; have hEo : ∀ o, (w4.alloc o).heap[w.heap.size + 1 + 1]? = _ := fun o => (heap_alloc_old w4 o _ (lt_of_row hE4)).trans hE4; have o0 := fun o => (row4 (hRo o)).1; have o1 := fun o => (row4 (hRo o)).2.1; have o2 := fun o => (row4 (hRo o)).2.2.1; have o3 := fun o => (row4 (hRo o)).2.2.2; have o4 : ∀ o, (w4.alloc o).cell? ⟨w.heap.size + 1 + 1, 0, none⟩ = some (.int .i64 0) := fun o => (cell_of_row _ _ _ _ _ _ (hEo o)).trans rfl; have p0 := fun o => frozen_of_row _ _ 0 _ 81 (hRo o); have p1 := fun o => frozen_of_row _ _ 1 _ 81 (hRo o); have p2 := fun o => frozen_of_row _ _ 2 _ 81 (hRo o); have p3 := fun o => frozen_of_row _ _ 3 _ 81 (hRo o); have p4 := fun o => frozen_of_row _ _ 0 _ 26 (hEo o); have HS34 := Hid.mk' hb4.size; have HRo := Hid.mk' hRo; have HEo := Hid.mk' hEo; have HX4 := Hid.mk' (And.intro hvv (And.intro hdv (And.intro hb4' (And.intro hfv hfd)))); clear hRo hEo hvv hdv hb4' hb4 hR4 hE4 hfv hfd)
        obtain ⟨hvv, hdv, hb4, hfv, hfd⟩ := HX4.out
        have hs34 : w3.heap.size ≤ w4.heap.size := HS34.out
        have hs3W : W.heap.size ≤ w3.heap.size := hb3'.size
        have hb5 : Below W.heap.size W (w4.alloc (.cells #[.int .i64 n, .int .i64 s.t, .slice vo s.vs.length vc, .slice do_ s.d.length dc] 81)) := hb4.alloc hb4.size _
        have hu4 : Upd w4 (w4.alloc (.cells #[.int .i64 n, .int .i64 s.t, .slice vo s.vs.length vc, .slice do_ s.d.length dc] 81)) (fun k => k = w.heap.size + 1 ∨ k = w.heap.size + 1 + 1) := Upd.alloc w4 _ _
        have hR5 := HRo.out (.cells #[.int .i64 n, .int .i64 s.t, .slice vo s.vs.length vc, .slice do_ s.d.length dc] 81)
        have hE5 := HEo.out (.cells #[.int .i64 n, .int .i64 s.t, .slice vo s.vs.length vc, .slice do_ s.d.length dc] 81)
        clear o0 o1 o2 o3 o4 p0 p1 p2 p3 p4
        generalize (w4.alloc (.cells #[.int .i64 n, .int .i64 s.t, .slice vo s.vs.length vc, .slice do_ s.d.length dc] 81)) = w5 at *
        have hP := put4_row hR5 (.int .i64 n) (.int .i64 s.t) (.slice vo s.vs.length vc) (.slice do_ s.d.length dc)
        have hPU := put4_upd w5 (w.heap.size + 1) (.int .i64 n) (.int .i64 s.t) (.slice vo s.vs.length vc) (.slice do_ s.d.length dc)
        have hPE := (hPU.block (w.heap.size + 1 + 1) (lt_of_row hE5) (by omega)).trans hE5
        have hQE := heap_setCell_row hPE 0 (.int .i64 0)
        have hQU : Upd w4 ((put4 w5 (w.heap.size + 1) (.int .i64 n) (.int .i64 s.t) (.slice vo s.vs.length vc) (.slice do_ s.d.length dc)).setCell ⟨w.heap.size + 1 + 1, 0, none⟩ (.int .i64 0)) (fun k => k = w.heap.size + 1 ∨ k = w.heap.size + 1 + 1) := (hu4.trans (hPU.mono (fun _ _ h => .inl h)) (fun _ _ h => h)).setCell (p := ⟨w.heap.size + 1 + 1, 0, none⟩) (.inr (.inr rfl)) _
        have hQR : ((put4 w5 (w.heap.size + 1) (.int .i64 n) (.int .i64 s.t) (.slice vo s.vs.length vc) (.slice do_ s.d.length dc)).setCell ⟨w.heap.size + 1 + 1, 0, none⟩ (.int .i64 0)).heap[w.heap.size + 1]? = _ := (((Upd.refl _ (fun k => k = w.heap.size + 1 + 1)).setCell (p := ⟨w.heap.size + 1 + 1, 0, none⟩) (.inr rfl) (.int .i64 0)).block (w.heap.size + 1) (lt_of_row hP) (by omega)).trans hP
        have hk5 : KeepsOthers W w5 := keeps_of_below hb5
        refine ⟨((((((hk5.trans (KeepsOthers.setCell _ _ _)).trans (KeepsOthers.setCell _ _ _)).trans (KeepsOthers.setCell _ _ _)).trans (KeepsOthers.setCell _ _ _)).trans (KeepsOthers.setCell _ _ _))).from _, ⟨rfl, pre, ⟨(ix, (n : Int)), hm⟩, s, .slice vo s.vs.length vc, .slice do_ s.d.length dc, rfl, hp, hgs, ?_, (cell_of_row _ _ _ _ _ _ hQE).trans rfl, hvv.upd hQU (fun k hk _ e => ?_), hdv.upd hQU (fun k hk _ e => ?_), fun k hk => by have := hfv k hk; omega, fun k hk => by have := hfd k hk; omega⟩, ?_⟩
        · rw [hsi]; exact row4 hQR
        · have := hfv k hk; omega
        · have := hfd k hk; omega
        · exact (hBW.trans (hb4.mono hBW.size)).trans (hQU.below (by omega) (fun k hk e => by omega))
      · have hpa := parse_no _ _ w3 hT3 hs3 hib hlen hE
        clear hs3
        generalize (readB p (sname n)).length = L3 at *
        gi_wp2_with (refine ⟨trivial, ?_⟩; gi_at_call 80; refine (CallsIn.inRound l (callsIn_wide.2 hpa)).mono ?_; rintro e w4 ⟨rfl, hb4⟩)
        have hb5 : Below W.heap.size W (w4.alloc (.cells #[.int .i64 0, .int .i64 0, .slice none 0 0, .slice none 0 0] 81)) := (hb3'.trans (hb4.mono hb3'.size)).alloc (Nat.le_trans hb3'.size hb4.size) _
        refine ⟨(keeps_of_below hb5).from _, hb5.mono hsW, fun y hy => ?_, hB.trans (hb5.mono hsW)⟩
        rcases List.mem_append.1 hy with h | h
        · exact hp y h
        · rw [List.mem_singleton.1 h]; exact hgn
  case done =>
    rintro D ys W hD hys ⟨hp, hB⟩ hK
    have hRW := (hB.block (w.heap.size + 1) (by omega)).trans rR
    have hEW := (hB.block (w.heap.size + 1 + 1) (by omega)).trans rE
    obtain ⟨n0, n1, n2, n3⟩ := row4 hRW
    have n4 : W.cell? ⟨w.heap.size + 1 + 1, 0, none⟩ = some (.int .i64 0) := (cell_of_row _ _ _ _ _ _ hEW).trans rfl
    have f0 := frozen_of_row W _ 0 _ 81 hRW
    have f1 := frozen_of_row W _ 1 _ 81 hRW
    have f2 := frozen_of_row W _ 2 _ 81 hRW
    have f3 := frozen_of_row W _ 3 _ 81 hRW
    have f4 := frozen_of_row W _ 0 _ 26 hEW
    gi_wp2
    have hk5 : KeepsOthers W ((put4 W (w.heap.size + 1) (.int .i64 0) (.int .i64 0) (.slice none 0 0) (.slice none 0 0)).setCell ⟨w.heap.size + 1 + 1, 0, none⟩ (.int .i64 2)) := ((((KeepsOthers.setCell _ _ _).trans (KeepsOthers.setCell _ _ _)).trans (KeepsOthers.setCell _ _ _)).trans (KeepsOthers.setCell _ _ _)).trans (KeepsOthers.setCell _ _ _)
    have hK' := hk5.same D _ hK rfl
    have hP := put4_row hRW (.int .i64 0) (.int .i64 0) (.slice none 0 0) (.slice none 0 0)
    have hPU := put4_upd W (w.heap.size + 1) (.int .i64 0) (.int .i64 0) (.slice none 0 0) (.slice none 0 0)
    have hPE := (hPU.block (w.heap.size + 1 + 1) (lt_of_row hEW) (by omega)).trans hEW
    have hQE := heap_setCell_row hPE 0 (.int .i64 2)
    have hQU : Upd W ((put4 W (w.heap.size + 1) (.int .i64 0) (.int .i64 0) (.slice none 0 0) (.slice none 0 0)).setCell ⟨w.heap.size + 1 + 1, 0, none⟩ (.int .i64 2)) (fun k => k = w.heap.size + 1 ∨ k = w.heap.size + 1 + 1) := (hPU.mono (fun _ _ h => .inl h)).setCell (p := ⟨w.heap.size + 1 + 1, 0, none⟩) (.inr (.inr rfl)) _
    have hQR : ((put4 W (w.heap.size + 1) (.int .i64 0) (.int .i64 0) (.slice none 0 0) (.slice none 0 0)).setCell ⟨w.heap.size + 1 + 1, 0, none⟩ (.int .i64 2)).heap[w.heap.size + 1]? = _ := (((Upd.refl _ (fun k => k = w.heap.size + 1 + 1)).setCell (p := ⟨w.heap.size + 1 + 1, 0, none⟩) (.inr rfl) (.int .i64 2)).block (w.heap.size + 1) (lt_of_row hP) (by omega)).trans hP
    have hBW : Below w.heap.size w W := hB0.trans (hB.mono hB0.size)
    have hBQ : Below w.heap.size w ((put4 W (w.heap.size + 1) (.int .i64 0) (.int .i64 0) (.slice none 0 0) (.slice none 0 0)).setCell ⟨w.heap.size + 1 + 1, 0, none⟩ (.int .i64 2)) := hBW.trans (hQU.below hBW.size (fun k hk e => by omega))
    generalize ((put4 W (w.heap.size + 1) (.int .i64 0) (.int .i64 0) (.slice none 0 0) (.slice none 0 0)).setCell ⟨w.heap.size + 1 + 1, 0, none⟩ (.int .i64 2)) = W9 at *
    obtain ⟨r0, r1, r2, r3⟩ := row4 hQR
    have r4 : W9.cell? ⟨w.heap.size + 1 + 1, 0, none⟩ = some (.int .i64 2) := (cell_of_row _ _ _ _ _ _ hQE).trans rfl
    have hgr := grownBy_putObj' W9 D (.deferred none)
    have hrr : ∀ r, some D = some r → ∃ o : Obj, W9.heap[r]? = some o ∧ o.isCells = false := fun r e => by cases e; exact ⟨_, hK', rfl⟩
    refine ⟨by simp, .inl ⟨_, _, rfl, run_takeDeferred hK', ?_⟩⟩
    refine ⟨.tuple #[noShot, .int .i64 2], results_cc rfl rfl (cell_kept r0 hgr hrr) (cell_kept r1 hgr hrr) (cell_kept r2 hgr hrr) (cell_kept r3 hgr hrr) (cell_kept r4 hgr hrr), .inl ⟨rfl, fun m hm => ?_⟩, hBQ.trans (belowK_b (w := w) (Nat.le_refl _) W9 D _ _ (by omega) hK' rfl rfl)⟩
    obtain ⟨j, hj, rfl⟩ := List.getElem_of_mem hm
    have hmem : fromBack ms (ms.length - 1 - j) ∈ ys.map (·.1) := by rw [hys]; simp only [upto, List.mem_map, List.mem_range]; exact ⟨_, by omega, rfl⟩
    obtain ⟨y, hy, he⟩ := List.mem_map.1 hmem
    have h2 := hp y hy
    rw [he] at h2
    have h3 : (fromBack ms (ms.length - 1 - j)).2 = ms[j] := by show ms[ms.length - 1 - (ms.length - 1 - j)]?.getD 0 = _; rw [show ms.length - 1 - (ms.length - 1 - j) = j by omega, List.getElem?_eq_getElem hj]; rfl
    rw [h3] at h2
    exact h2
  case stop =>
    rintro D c pre W hD ⟨k, hk, hpre⟩ ⟨⟨rfl, ini, last, s, vv, dv, e1, e2, e3, ⟨c0, c1, c2, c3⟩, c4, e5, e6, e7, e8⟩, hB⟩ hK
    gi_wp2
    have hgr := grownBy_putObj' W D (.deferred none)
    have hrr : ∀ r, some D = some r → ∃ o : Obj, W.heap[r]? = some o ∧ o.isCells = false := fun r e => by cases e; exact ⟨_, hK, rfl⟩
    refine ⟨by simp, .inl ⟨_, _, rfl, run_takeDeferred hK, ?_⟩⟩
    refine ⟨.tuple #[.agg #[.int .i64 s.i, .int .i64 s.t, vv, dv], .int .i64 0], results_cc rfl rfl (cell_kept c0 hgr hrr) (cell_kept c1 hgr hrr) (cell_kept c2 hgr hrr) (cell_kept c3 hgr hrr) (cell_kept c4 hgr hrr), .inr ?_, hB.trans (belowK_b (w := w) (Nat.le_refl _) W D _ _ (by omega) hK rfl rfl)⟩
    subst e1
    rw [List.map_append] at hpre
    have hkl : k = ini.length + 1 := by have := congrArg List.length hpre; simpa [upto] using this.symm
    subst hkl
    rw [upto_succ] at hpre
    obtain ⟨h1, h2⟩ := List.append_inj hpre (by simp [upto])
    have h3 : last.1 = fromBack ms ini.length := by simpa using h2
    refine ⟨ini.length, s, vv, dv, by omega, (by have h5 := e3; rw [h3] at h5; exact h5), fun j hj => ?_, rfl, seesI_kept e5 hgr hrr, sees_kept e6 hgr hrr, e7, e8⟩
    have hmem : fromBack ms j ∈ ini.map (·.1) := by rw [h1]; simp only [upto, List.mem_map, List.mem_range]; exact ⟨j, hj, rfl⟩
    obtain ⟨y, hy, he⟩ := List.mem_map.1 hmem
    have h4 := e2 y hy
    rw [he] at h4
    exact h4
end Go.Proofs.YtdcpfjlnagigaaaGreatDoor
