/- A net of small messages: taking the first. -/
import Derived.Test.YtamgoknoapcnjaaDoorNS
import Derived.Deep.RegionWith
import Derived.Laws.IdiomCopy
import Derived.Deep.CutRange
namespace Go.Proofs.YtamgoknoapcnjaaDoor
open Go Go.RowKit
theorem cutA (p : Option Addr) (n c : Nat) (hc : n + 1 ≤ c) : ∃ p', ∀ W, (Instr.sliceAt 86 (.slice p (n + 1) c) (some (.int .i64 1)) (some (.int .i64 1)) none).run Tryd.prog W = .ok (.slice p' 0 (c - 1)) W := by
  refine ⟨if c = 1 then p else p.map (·.add 1), fun W => ?_⟩
  have h1 : (1 : Int) ≤ c := by omega
  simp [Instr.sliceAt, Instr.slice, Instr.sliceBounds, Instr.sliceBound, run_underlying Tryd.underlying86, asIntOf]
  omega
theorem cutB (g off n c : Nat) : ∀ W, (Instr.sliceAt 86 (.slice (some ⟨g, off, none⟩) (n + 1) c) none (some (.int .i64 0)) none).run Tryd.prog W = .ok (.slice (some ⟨g, off, none⟩) 0 c) W := by
  intro W
  simp [Instr.sliceAt, Instr.slice, Instr.sliceBounds, Instr.sliceBound, run_underlying Tryd.underlying86, asIntOf, Addr.add_lit]
theorem cutC (g off n c : Nat) (hc : n + 1 ≤ c) : ∀ W, (Instr.sliceAt 86 (.slice (some ⟨g, off, none⟩) (n + 1) c) (some (.int .i64 1)) none none).run Tryd.prog W = .ok (.slice (some ⟨g, if c = 1 then off else off + 1, none⟩) n (c - 1)) W := by
  intro W
  have h1 : (1 : Int) ≤ (n : Int) + 1 := by omega
  by_cases h : c = 1
  · subst h
    simp [Instr.sliceAt, Instr.slice, Instr.sliceBounds, Instr.sliceBound, run_underlying Tryd.underlying86, asIntOf, h1]
  · simp [Instr.sliceAt, Instr.slice, Instr.sliceBounds, Instr.sliceBound, run_underlying Tryd.underlying86, asIntOf, h, h1, Addr.add_lit]
set_option maxRecDepth 100000 in
set_option maxHeartbeats 2000000 in
theorem take_first {base d : Nat} {w : World} {v : Value} {s : Int} {l : List Int} {b : Nat} {bs : List Nat} (h : Nt base w d v (s :: l) (b :: bs)) (hl : l.length ≤ 100000) :
    Calls Tryd.prog 50 #[ptr d, iv 0] w fun e w' => e = .returned (.agg (srow s)) ∧ ∃ v', Nt base w' d v' l bs ∧ Upd w w' (fun k => k = d ∨ some k = v.ownBlock) := by
  have hxb := h.m 0 b s rfl rfl
  rcases h.row.2 with ⟨_, h0⟩ | ⟨g, off, c, cur, rfl, hbg, hh, hnc, hcm, hoc, htk⟩
  · simp at h0
  have hlen : (s :: l).length = l.length + 1 := rfl
  rw [hlen] at hnc h ⊢
  have hcell := h.row.cell 0 (ptr b) rfl
  rw [Nat.add_zero] at hcell
  obtain ⟨w1, hw1⟩ : ∃ w1, w1 = w.alloc (.cells zrow 28) := ⟨_, rfl⟩
  have hb1 : Below w.heap.size w w1 := by rw [hw1]; exact (Below.refl _ _).alloc (Nat.le_refl _) _
  have HY1 : Bx w.heap.size zrow 28 w1 := by rw [hw1]; exact row_alloc w _ 28
  have hr2 : (w1.alloc (.cells zrow 28)).heap[w1.heap.size]? = some (.cells zrow 28 (0, 0)) := row_alloc w1 zrow 28
  obtain ⟨hx2, hb2⟩ := boxed w1 (srow s)
  have hxb1 := hxb.below hb1
  have e1 : w1.cell? ⟨d, 0, none⟩ = some (.slice (some ⟨g, off, none⟩) (l.length + 1) c) := (h.x.below hb1).cell 0
  have hgl : g < w.heap.size := (Array.getElem?_eq_some_iff.1 hh).1
  have c1 : w1.cell? ⟨g, off, none⟩ = some (ptr b) := (hb1.cell (p := ⟨g, off, none⟩) hgl).trans hcell
  have HTK : Hid ((cur.toList.drop off).take ((l.length + 1) * 1) = ptr b :: bs.map ptr) := htk
  have HOC : Hid (off + c * 1 ≤ cur.size) := hoc
  have HCM : Hid (c ≤ maxLen) := hcm
  have HNC : Hid (l.length + 1 ≤ c) := hnc
  have HBG : Hid (base ≤ g) := hbg
  have HN := Hid.mkW h
  have HB1 := Hid.mkW hb1
  have hcm' : c ≤ 9223372036854775807 := by unfold maxLen at hcm; omega
  have HH := Hid.mkW hh
  clear h hb1 hlen htk hh
  unfold zrow at hw1
  go_enter Tryd.func50, Tryd.ntmps50
  go_upto_region 1 with fail
  rw [← hw1]
  clear hw1
  go_upto_region 2 with (first
    | (refine wpList_load_row rfl 28 _ rfl b rfl 28 _ (0, 0) _ hxb1 Tryd.underlying28 rfl (by kernel_rfl) ?_)
    | (refine wpList_store_row rfl 28 _ _ rfl w1.heap.size (srow s) rfl rfl 28 zrow hr2 (by kernel_rfl) rfl (by kernel_rfl) ?_))
  obtain ⟨w2, hw2⟩ : ∃ w2, w2 = (w1.alloc (.cells zrow 28)).setRow w1.heap.size (srow s) := ⟨_, rfl⟩
  rw [← hw2] at hx2 hb2
  unfold zrow at hw2
  rw [← hw2]
  clear hw2 hr2 hxb1
  have e2 : w2.cell? ⟨d, 0, none⟩ = some (.slice (some ⟨g, off, none⟩) (l.length + 1) c) := (hb2.cell (p := ⟨d, 0, none⟩) (World.block_lt_of_cell? _ _ e1)).trans e1
  have e3 : w2.drew.cell? ⟨d, 0, none⟩ = some (.slice (some ⟨g, off, none⟩) (l.length + 1) c) := e2
  have HB2 := Hid.mkW (HB1.out.trans (hb2.mono HB1.out.size))
  have HB12 := Hid.mkW hb2
  clear e1 c1 hb2
  obtain ⟨p', hA⟩ := cutA (some ⟨g, off, none⟩) l.length c hnc
  have hBB := cutB g off l.length c
  have hln : (1 : Int) ≤ (l.length : Int) + 1 := by omega
  have hc1 : (1 : Int) ≤ (c : Int) := by omega
  have HC := Hid.mkW hnc
  have hwr : IntKind.i64.wrap 1 = 1 := by decide
  have hmx : max (1 : Int) 0 = 1 := by decide
  have hcp := fun (W : World) (a b : Option Addr) (m n : Nat) => run_copy_none (P := Tryd.prog) W 86 86 3 90 a b 0 m 0 n Tryd.underlying86 (by kernel_rfl) rfl
  have HC2 := Hid.mkW (cutC g off l.length c hnc)
  go_frame
  go_cut [28] from 15 to 28 (fun s28 wc => s28 = iv 0 ∧ wc = w2.drew)
  case first =>
    by_cases hcc : c = 1
    · subst hcc
      go_region
      all_goals
        go_wp2_with fail
        go_meet
        exact ⟨rfl, rfl⟩
    · go_region
      all_goals
        go_wp2_with fail
        go_meet
        exact ⟨rfl, rfl⟩
  case rest =>
  obtain ⟨-, rfl⟩ := hcut
  clear hA hBB hcp hwr hmx e2
  have HBd : Hid (Below w.heap.size w w2.drew) := HB2.out.drew
  have hnt := HN.out.below HBd.out
  have hxd : Bx w1.heap.size (srow s) 28 w2.drew := hx2
  have hy : Bx w.heap.size zrow 28 w2.drew := by
    have h1 : Below w1.heap.size w1 w2 := HB12.out
    exact (HY1.below h1).drewQ
  obtain ⟨w3, hw3⟩ : ∃ w3, w3 = w2.drew := ⟨_, rfl⟩
  rw [← hw3] at HBd hnt hxd hy e3 ⊢
  clear hw3 hx2 HY1
  have c3 : w3.cell? ⟨g, off, none⟩ = some (ptr b) := (HBd.out.cell (p := ⟨g, off, none⟩) hgl).trans hcell
  have f3 : w3.frozen? ⟨g, off, none⟩ = false := by
    have : w3.heap[g]? = some (.cells cur 90 (0, 0)) := (HBd.out.block g hgl).trans HH.out
    exact frozen_of_row _ _ _ _ _ this
  clear hcell
  go_upto_region 4 with fail
  obtain ⟨w4, hw4⟩ : ∃ w4, w4 = w3.setCell ⟨g, off, none⟩ (.pointer none) := ⟨_, rfl⟩
  have u4 : Upd w3 w4 (fun k => k = g) := by rw [hw4]; exact (Upd.refl w3 (fun k => k = g)).setCell (.inr rfl) _
  have hg4 : w4.heap[g]? = some (.cells (cur.set! off (.pointer none)) 90 (0, 0)) := by
    rw [hw4]
    exact heap_setCell_row ((HBd.out.block g hgl).trans HH.out) _
  rw [← hw4]
  clear hw4
  have HG4 := Hid.mkW hg4
  clear hg4
  have hgd : d ≠ g := by
    have := rowO_ne hnt.row hnt.x (by decide)
    intro e
    exact this (by rw [e]; rfl)
  have HX4 := hnt.x.upd u4 hgd
  have e4 : w4.cell? ⟨d, 0, none⟩ = some (.slice (some ⟨g, off, none⟩) (l.length + 1) c) := HX4.cell 0
  have f4 : w4.frozen? ⟨d, 0, none⟩ = false := HX4.free 0
  have hC := HC2.out
  clear c3 f3 e3
  go_upto_region 5 with fail
  obtain ⟨q, hq⟩ : ∃ q, q = (if c = 1 then off else off + 1) := ⟨_, rfl⟩
  rw [← hq]
  obtain ⟨w5, hw5⟩ : ∃ w5, w5 = w4.setCell ⟨d, 0, none⟩ (.slice (some ⟨g, q, none⟩) l.length (c - 1)) := ⟨_, rfl⟩
  have HX5 : Bx d #[.slice (some ⟨g, q, none⟩) l.length (c - 1)] 88 w5 := by rw [hw5]; exact HX4.set 0 _ rfl
  have u5 : Upd w4 w5 (fun k => k = d) := by rw [hw5]; exact (Upd.refl w4 (fun k => k = d)).setCell (.inr rfl) _
  rw [← hw5]
  clear hw5 e4 f4
  have hg3 : Bx g cur 90 w3 := (HBd.out.block g hgl).trans HH.out
  have hx5 : Bx w1.heap.size (srow s) 28 w5 := (hxd.upd u4 (bx_ne hxd hg3 (by decide))).upd u5 (bx_ne (hxd.upd u4 (bx_ne hxd hg3 (by decide))) HX4 (by decide))
  have hy5 : Bx w.heap.size zrow 28 w5 := (hy.upd u4 (bx_ne hy hg3 (by decide))).upd u5 (bx_ne (hy.upd u4 (bx_ne hy hg3 (by decide))) HX4 (by decide))
  have HQ := Hid.mkW hq
  have H3 := Hid.mkW (And.intro u4 (And.intro u5 (And.intro hg3 (And.intro HX4 HX5))))
  have HNT := Hid.mkW hnt
  clear hq hg3 HX4 HX5 u4 u5 hxd hy hnt hC
  go_wp2_with (first
    | (refine wpList_load_row rfl 28 _ rfl w1.heap.size rfl 28 _ (0, 0) _ hx5 Tryd.underlying28 rfl (by kernel_rfl) ?_)
    | (refine wpList_store_row rfl 28 _ _ rfl w.heap.size (srow s) rfl rfl 28 zrow hy5 (by kernel_rfl) rfl (by kernel_rfl) ?_))
  obtain ⟨HXF, uF⟩ := hy5.fill (row' := srow s)
  refine bodyPost_ret (results_c1 rfl _ _ w.heap.size 28 (srow s) (0, 0) _ rfl HXF Tryd.underlying28 rfl (by kernel_rfl)) rfl ?_
  obtain ⟨u4, u5, hg3, HX4, HX5⟩ := H3.out
  have hgd' : ¬ g = d := fun e => hgd e.symm
  have hg4 : Bx g (cur.set! off (.pointer none)) 90 w4 := HG4.out
  have hg5 := hg4.upd u5 hgd'
  have hg6 := hg5.upd uF (bx_ne hg5 hy5 (by decide))
  have hnc := HNC.out
  refine ⟨rfl, .slice (some ⟨g, q, none⟩) l.length (c - 1), ⟨HX5.upd uF (bx_ne HX5 hy5 (by decide)), ⟨?_, .inr ⟨g, q, c - 1, _, rfl, HBG.out, hg6, by omega, by have := HCM.out; omega, ?_, ?_⟩⟩, ?_, fun i b' s' h1 h2 => ?_⟩, ?_⟩
  · have := HN.out.len
    simp at this
    simp [this]
  · have h1 := HOC.out
    have h2 := HQ.out
    have h3 : (cur.set! off (.pointer none)).size = cur.size := by simp
    rw [h3, h2]
    split <;> omega
  · have h1 := HTK.out
    have h2 := HQ.out
    have hlb : bs.length = l.length := by have := HN.out.len; simpa using this
    rw [Nat.mul_one] at h1 ⊢
    by_cases hc : c = 1
    · have h0 : l.length = 0 := by omega
      have hb0 : bs = [] := List.eq_nil_of_length_eq_zero (by omega)
      rw [h0, hb0]
      simp
    · rw [if_neg hc] at h2
      rw [h2]
      have h3 := congrArg (List.drop 1) h1
      rw [List.drop_take, List.drop_drop, List.drop_succ_cons, List.drop_zero] at h3
      rw [← h3, Nat.add_sub_cancel, Array.set!_eq_setIfInBounds, Array.toList_setIfInBounds, List.drop_set_of_lt (by omega)]
  · have := HN.out.len
    simpa using this
  · have hb0 := HN.out.m (i + 1) b' s' (by simpa using h1) (by simpa using h2)
    have hb3 := hb0.below HBd.out
    have hb4 := hb3.upd u4 (bx_ne hb3 hg3 (by decide))
    have hb5 := hb4.upd u5 (bx_ne hb4 HX4 (by decide))
    refine hb5.upd uF (fun e => ?_)
    have e1 : b' = w.heap.size := e
    have := hb0.lt
    omega
  · refine (((Upd.ofBelow (S := fun k => k = d ∨ some k = (Value.slice (some ⟨g, off, none⟩) (l.length + 1) c).ownBlock) HBd.out).trans (u4.mono (fun k _ e => .inr (by have e1 : k = g := e; rw [e1]; rfl))) (fun _ _ h => h)).trans (u5.mono (fun k _ e => .inl e)) (fun _ _ h => h)).trans uF (fun j hj e => ?_)
    have e1 : j = w.heap.size := e
    omega
end Go.Proofs.YtamgoknoapcnjaaDoor
