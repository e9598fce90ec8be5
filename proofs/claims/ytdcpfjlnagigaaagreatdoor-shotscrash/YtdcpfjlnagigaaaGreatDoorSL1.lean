/- Load. -/
import Derived.Test.YtdcpfjlnagigaaaGreatDoorSB2
namespace Go.Proofs.YtdcpfjlnagigaaaGreatDoor
open Go Go.RowKit
/-- The Indexes of a disk's files. -/
abbrev ixs (p : PS) : List Int := nums numS (p.fs.map PF.name)
theorem rowO_ints {w : World} {B : Nat} {v : Value} {zs : List Int} (h : RowO w B 3 1 v zs.length (i64s zs)) (hn : v = .slice none 0 0 ∨ ∃ g off cap, v = .slice (some ⟨g, off, none⟩) zs.length cap) : IntsIn w.heap.size w v zs := by
  rcases h.2 with ⟨rfl, h0⟩ | ⟨g, off, cap, cur, rfl, hb, hh, hn, hc, hs, ht⟩
  · refine .inl ⟨?_, List.eq_nil_of_length_eq_zero h0⟩
    rcases hn with hn | ⟨g, off, cap, hn⟩
    · exact hn
    · cases hn
  · refine .inr ⟨g, off, cap, rfl, (Array.getElem?_eq_some_iff.1 hh).1, fun j hj => ?_⟩
    have := h.cell j (.int .i64 zs[j]) (by simp [i64s, hj])
    rw [this]
    simp [hj]
theorem results_ctt {P : Program} {fn : Func} {u q r : Tmp} {ty : TypeId} (h : fn.results = #[.cell u ty, .tmp q, .tmp r]) (tmps : Array Value) (w : World) (g : Nat) (t : TypeId) (cs : Array Value) (fr : Nat × Nat) (d : TypeDesc)
    (hp : tmps.getD u undef = .pointer (some ⟨g, 0, none⟩)) (hg : w.heap[g]? = some (.cells cs t fr))
    (hu : P.underlying ty = some d) (hd : (match d with | .struct _ | .array _ _ => true | _ => false) = true) (hi : (P.info? ty).map (·.size) = some cs.size) :
    (results fn tmps).run P w = .ok (.tuple #[.agg cs, tmps.getD q undef, tmps.getD r undef]) w := by
  have hp' : tmps[u]?.getD undef = .pointer (some ⟨g, 0, none⟩) := by simpa using hp
  simp [results, h, hp', asAddr, run_loadVar_row w g t ty cs fr d hg hu hd hi]
theorem info34 : (Tryz.prog.info? 34).map (·.size) = some 3 := by kernel_rfl
set_option maxRecDepth 100000 in
set_option maxHeartbeats 2000000 in
theorem load_any (hPY : ParseYes) (B d : Nat) (g : Gu) (p : PS) (w : World) (hd : Dk B w d g p) (ht : total p.fs ≤ 1000000) (hfl : p.fs.length < 1000000) (hlive : p.dead = false) (hnm : ∀ f ∈ p.fs, ShotName f.name) (hT : HasTab w)
    (got : Int → Option Sh) (hF : ∀ m ∈ ixs p, FileAt p got m) :
    Calls Tryz.prog 12 #[ptr d] w fun e w' =>
      ((e = .returned (.tuple #[.agg #[.int .i64 0, .int .i64 0, .slice none 0 0], .slice none 0 0, .int .i64 2]) ∧ ∀ m ∈ ixs p, got m = none) ∨
       (∃ (k : Nat) (s : Sh) (vv dv : Value), k < (ixs p).length ∧ got (fromBack (ixs p) k).2 = some s ∧ (∀ j, j < k → got (fromBack (ixs p) j).2 = none) ∧ e = .returned (.tuple #[.agg #[.int .i64 s.i, .int .i64 s.t, vv], dv, .int .i64 0]) ∧ SeesI w' vv s.vs ∧ Sees w' dv s.d ∧ (∀ k, vv.ownBlock = some k → w.heap.size ≤ k) ∧ (∀ k, dv.ownBlock = some k → w.heap.size ≤ k))) ∧ Below w.heap.size w w' := by
  obtain ⟨wa, hwa⟩ : ∃ wa, wa = w.alloc (.cells #[.int .i64 0, .int .i64 0, .slice none 0 0] 34) := ⟨_, rfl⟩
  have hba : Below w.heap.size w wa := by rw [hwa]; exact (Below.refl _ _).alloc (Nat.le_refl _) _
  have hra : wa.heap[w.heap.size]? = some (.cells #[.int .i64 0, .int .i64 0, .slice none 0 0] 34 (0, 0)) := by rw [hwa]; exact heap_alloc_new w _
  have hfi := filesOf_any B d g p wa (hd.below hba) hfl hlive hnm
  go_enter Tryz.func12, Tryz.ntmps12
  go_wp2_with fail
  rw [← hwa]
  clear hwa
  refine hfi.mono ?_
  rintro e w1 ⟨v1, rfl, hr1, hb1⟩
  have hb1' : Below w.heap.size w w1 := hba.trans (hb1.mono hba.size)
  have hIn : IntsIn w1.heap.size w1 v1 (ixs p) := by
    rcases hr1.2 with ⟨h, h0⟩ | ⟨g', off, cap, cur, h, _⟩
    · exact .inl ⟨h, List.eq_nil_of_length_eq_zero h0⟩
    · exact rowO_ints hr1 (.inr ⟨g', off, cap, h⟩)
  have hz1 := (hb1.block w.heap.size (Array.getElem?_eq_some_iff.1 hra).1).trans hra
  obtain ⟨a1, c1, rfl, _, _⟩ := hr1.form
  have hlen : (ixs p).length ≤ 1000000 := by
    have h1 : (ixs p).length ≤ p.fs.length := by
      show (nums numS (p.fs.map PF.name)).length ≤ _
      unfold nums
      rw [List.length_map]
      exact Nat.le_trans (List.length_filter_le _ _) (by simp)
    omega
  have hnw := newest_any hPY B d g p w1 (hd.below hb1') ht (hT.below hb1') a1 _ c1 (ixs p) hlen hIn got hF
  clear hfi hr1 hIn hd hF hT hnm
  generalize hN : (ixs p).length = N at *
  have HN := Hid.mk' hN
  clear hN
  go_wp2_with fail
  refine hnw.mono ?_
  rintro e w2 ⟨hres, hb2⟩
  have hb2' : Below w.heap.size w w2 := hb1'.trans (hb2.mono hb1'.size)
  have hz2 := (hb2.block w.heap.size (lt_of_row hz1)).trans hz1
  have hs12 := hb2.size
  have hs1 := hb1'.size
  have hlz : w.heap.size < w1.heap.size := lt_of_row hz1
  clear hb2
  rcases hres with ⟨rfl, hno⟩ | ⟨k, s, vv, dv, hk, hgk, hj, rfl, hvv, hdv, hfv, hfd⟩
  · skip
    go_wp2_with fail
    obtain ⟨w3, hw3⟩ : ∃ w3, w3 = w2.alloc (.cells #[.int .i64 0, .int .i64 0, .slice none 0 0, .slice none 0 0] 81) := ⟨_, rfl⟩
    rw [← hw3]
    have hz3 : w3.heap[w.heap.size]? = some (.cells #[.int .i64 0, .int .i64 0, .slice none 0 0] 34 (0, 0)) := by rw [hw3]; exact (heap_alloc_old w2 _ _ (lt_of_row hz2)).trans hz2
    have hx3 : w3.heap[w2.heap.size]? = some (.cells #[.int .i64 0, .int .i64 0, .slice none 0 0, .slice none 0 0] 81 (0, 0)) := by rw [hw3]; exact heap_alloc_new w2 _
    have HB3 : Hid (Below w.heap.size w w3) := by rw [hw3]; exact hb2'.alloc hb2'.size _
    have HU3 : Hid (Upd w2 w3 (fun _ => False)) := by rw [hw3]; exact Upd.alloc w2 _ _
    have hneq : ¬ w2.heap.size = w.heap.size := by have := lt_of_row hz2; omega
    have hneq' : ¬ w.heap.size = w2.heap.size := by have := lt_of_row hz2; omega
    obtain ⟨x0, x1, x2, x3⟩ := row4 hx3
    have y0 : w3.cell? ⟨w.heap.size, 0, none⟩ = some (.int .i64 0) := (cell_of_row _ _ _ _ _ _ hz3).trans rfl
    have y1 : w3.cell? ⟨w.heap.size, 1, none⟩ = some (.int .i64 0) := (cell_of_row _ _ _ _ _ _ hz3).trans rfl
    have y2 : w3.cell? ⟨w.heap.size, 2, none⟩ = some (.slice none 0 0) := (cell_of_row _ _ _ _ _ _ hz3).trans rfl
    have f0 := frozen_of_row w3 _ 0 _ 34 hz3
    have f1 := frozen_of_row w3 _ 1 _ 34 hz3
    have f2 := frozen_of_row w3 _ 2 _ 34 hz3
    have HZ3 := Hid.mk' hz3
    clear hw3 hz3 hx3 hz2 hb2' hz1 hb1 hb1' hba hra hnw
    go_region
    go_wp2
    have hq := heap_setCell_row (heap_setCell_row (heap_setCell_row HZ3.out 0 (.int .i64 0)) 1 (.int .i64 0)) 2 (.slice none 0 0)
    have hu : Upd w3 (((w3.setCell ⟨w.heap.size, 0, none⟩ (.int .i64 0)).setCell ⟨w.heap.size, 1, none⟩ (.int .i64 0)).setCell ⟨w.heap.size, 2, none⟩ (.slice none 0 0)).drew (fun k => k = w.heap.size) := ((((Upd.refl w3 (fun k => k = w.heap.size)).setCell (p := ⟨w.heap.size, 0, none⟩) (.inr rfl) _).setCell (p := ⟨w.heap.size, 1, none⟩) (.inr rfl) _).setCell (p := ⟨w.heap.size, 2, none⟩) (.inr rfl) _).drew
    refine bodyPost_ret (results_ctt rfl _ _ w.heap.size 34 #[.int .i64 0, .int .i64 0, .slice none 0 0] (0, 0) _ rfl (show (((w3.setCell ⟨w.heap.size, 0, none⟩ (.int .i64 0)).setCell ⟨w.heap.size, 1, none⟩ (.int .i64 0)).setCell ⟨w.heap.size, 2, none⟩ (.slice none 0 0)).drew.heap[w.heap.size]? = _ from hq) Tryz.underlying34 rfl info34) rfl ?_
    refine ⟨.inl ⟨rfl, hno⟩, HB3.out.trans (hu.below HB3.out.size (fun k hk e => by omega))⟩
  · obtain ⟨vo, vc, rfl⟩ := hvv.form
    obtain ⟨do_, dc, rfl⟩ := hdv.form
    have HX := Hid.mk' (And.intro hvv (And.intro hdv (And.intro hfv (And.intro hfd (And.intro hgk hj)))))
    clear hvv hdv hfv hfd hgk hj
    go_wp2_with fail
    obtain ⟨w3, hw3⟩ : ∃ w3, w3 = w2.alloc (.cells #[.int .i64 s.i, .int .i64 s.t, .slice vo s.vs.length vc, .slice do_ s.d.length dc] 81) := ⟨_, rfl⟩
    rw [← hw3]
    have hz3 : w3.heap[w.heap.size]? = some (.cells #[.int .i64 0, .int .i64 0, .slice none 0 0] 34 (0, 0)) := by rw [hw3]; exact (heap_alloc_old w2 _ _ (lt_of_row hz2)).trans hz2
    have hx3 : w3.heap[w2.heap.size]? = some (.cells #[.int .i64 s.i, .int .i64 s.t, .slice vo s.vs.length vc, .slice do_ s.d.length dc] 81 (0, 0)) := by rw [hw3]; exact heap_alloc_new w2 _
    have HB3 : Hid (Below w.heap.size w w3) := by rw [hw3]; exact hb2'.alloc hb2'.size _
    have HU3 : Hid (Upd w2 w3 (fun _ => False)) := by rw [hw3]; exact Upd.alloc w2 _ _
    have hneq : ¬ w2.heap.size = w.heap.size := by have := lt_of_row hz2; omega
    have hneq' : ¬ w.heap.size = w2.heap.size := by have := lt_of_row hz2; omega
    obtain ⟨x0, x1, x2, x3⟩ := row4 hx3
    have y0 : w3.cell? ⟨w.heap.size, 0, none⟩ = some (.int .i64 0) := (cell_of_row _ _ _ _ _ _ hz3).trans rfl
    have y1 : w3.cell? ⟨w.heap.size, 1, none⟩ = some (.int .i64 0) := (cell_of_row _ _ _ _ _ _ hz3).trans rfl
    have y2 : w3.cell? ⟨w.heap.size, 2, none⟩ = some (.slice none 0 0) := (cell_of_row _ _ _ _ _ _ hz3).trans rfl
    have f0 := frozen_of_row w3 _ 0 _ 34 hz3
    have f1 := frozen_of_row w3 _ 1 _ 34 hz3
    have f2 := frozen_of_row w3 _ 2 _ 34 hz3
    have HZ3 := Hid.mk' hz3
    clear hw3 hz3 hx3 hz2 hb2' hz1 hb1 hb1' hba hra hnw
    go_region
    go_wp2
    have hq := heap_setCell_row (heap_setCell_row (heap_setCell_row HZ3.out 0 (.int .i64 s.i)) 1 (.int .i64 s.t)) 2 (.slice vo s.vs.length vc)
    have hu : Upd w3 (((w3.setCell ⟨w.heap.size, 0, none⟩ (.int .i64 s.i)).setCell ⟨w.heap.size, 1, none⟩ (.int .i64 s.t)).setCell ⟨w.heap.size, 2, none⟩ (.slice vo s.vs.length vc)).drew (fun k => k = w.heap.size) := ((((Upd.refl w3 (fun k => k = w.heap.size)).setCell (p := ⟨w.heap.size, 0, none⟩) (.inr rfl) _).setCell (p := ⟨w.heap.size, 1, none⟩) (.inr rfl) _).setCell (p := ⟨w.heap.size, 2, none⟩) (.inr rfl) _).drew
    refine bodyPost_ret (results_ctt rfl _ _ w.heap.size 34 #[.int .i64 s.i, .int .i64 s.t, .slice vo s.vs.length vc] (0, 0) _ rfl (show (((w3.setCell ⟨w.heap.size, 0, none⟩ (.int .i64 s.i)).setCell ⟨w.heap.size, 1, none⟩ (.int .i64 s.t)).setCell ⟨w.heap.size, 2, none⟩ (.slice vo s.vs.length vc)).drew.heap[w.heap.size]? = _ from hq) Tryz.underlying34 rfl info34) rfl ?_
    refine ⟨.inr ⟨k, s, _, _, by rw [HN.out]; exact hk, HX.out.2.2.2.2.1, HX.out.2.2.2.2.2, rfl, (HX.out.1.upd HU3.out (fun _ _ _ => id)).upd hu (fun k hk _ e => by have := HX.out.2.2.1 k hk; omega), (HX.out.2.1.upd HU3.out (fun _ _ _ => id)).upd hu (fun k hk _ e => by have := HX.out.2.2.2.1 k hk; omega), fun k hk => by have := HX.out.2.2.1 k hk; omega, fun k hk => by have := HX.out.2.2.2.1 k hk; omega⟩, HB3.out.trans (hu.below HB3.out.size (fun k hk e => by omega))⟩
end Go.Proofs.YtdcpfjlnagigaaaGreatDoor
