/- A net of any messages: taking one away, wherever it stands. -/
import Derived.Test.YtamgoknoapcnjaaDoorGPF
import Derived.Test.YtamgoknoapcnjaaDoorNT
namespace Go.Proofs.YtamgoknoapcnjaaDoor
open Go Go.RowKit
theorem cutD (g off n c k : Nat) (hk : k + 1 ≤ n) (hc : n ≤ c) (h2 : 2 ≤ c) : ∀ W, (Instr.sliceAt 86 (.slice (some ⟨g, off, none⟩) n c) (some (.int .i64 1)) (some (.int .i64 ((k : Int) + 1))) none).run Tryd.prog W = .ok (.slice (some ⟨g, off + 1, none⟩) k (c - 1)) W := by
  intro W
  have h1 : ¬ (c : Int) ≤ 1 := by omega
  have h3 : (1 : Int) ≤ (k : Int) + 1 := by omega
  have h4 : (k : Int) + 1 ≤ (c : Int) := by omega
  have h5 : ¬ c = 1 := by omega
  simp [Instr.sliceAt, Instr.slice, Instr.sliceBounds, Instr.sliceBound, run_underlying Tryd.underlying86, asIntOf, Addr.add_lit, h3, h4, h5]
  intro hh
  omega
theorem cutF (g off n c k : Nat) (hk : k ≤ n) (hc : n ≤ c) : ∀ W, (Instr.sliceAt 86 (.slice (some ⟨g, off, none⟩) n c) none (some (.int .i64 k)) none).run Tryd.prog W = .ok (.slice (some ⟨g, off, none⟩) k c) W := by
  intro W
  have h4 : (k : Int) ≤ (c : Int) := by omega
  simp [Instr.sliceAt, Instr.slice, Instr.sliceBounds, Instr.sliceBound, run_underlying Tryd.underlying86, asIntOf, Addr.add_lit]
  intro hh
  omega
theorem erase_row {bs : List Nat} {cur : List Value} {off k n : Nat} (hn : bs.length = n) (hk : k < n) (h : (cur.drop off).take n = bs.map ptr) (hl : off + n ≤ cur.length) :
    (((cur.take (off + 1) ++ (bs.take k).map ptr ++ cur.drop (off + 1 + k)).set off (.pointer none)).drop (off + 1)).take (n - 1) = (bs.eraseIdx k).map ptr := by
  have h1 : (cur.take (off + 1)).length = off + 1 := by simp; omega
  have h2 : ((bs.take k).map ptr).length = k := by simp; omega
  rw [List.drop_set_of_lt (by omega), List.append_assoc, List.drop_append_of_le_length (by omega), List.drop_eq_nil_of_le (by omega), List.nil_append, List.take_append, h2, List.take_of_length_le (by omega), List.eraseIdx_eq_take_drop_succ, List.map_append]
  congr 1
  have h3 := congrArg (List.drop (k + 1)) h
  rw [List.drop_take, List.drop_drop] at h3
  rw [show off + 1 + k = off + (k + 1) by omega, show n - 1 - k = n - (k + 1) by omega, h3, List.map_drop]
set_option maxRecDepth 100000 in
set_option maxHeartbeats 4000000 in
theorem Nn.take {base d : Nat} {X : Nat → Prop} {w : World} {v : Value} {l : List Md} {bs : List Nat} (h : Nn base X w d v l bs) (k : Nat) (m : Md) (hs : l[k]? = some m) (hl : l.length ≤ 100000) :
    Calls Tryd.prog 50 #[ptr d, iv k] w fun e w' => ∃ ve vv vd, e = .returned (.agg (mrow m ve vv vd)) ∧ Ms (fun j => j < w.heap.size ∧ ¬ X j) w' ve vv vd m ∧ ∃ v', Nn base X w' d v' (l.eraseIdx k) (bs.eraseIdx k) ∧ Upd w w' (fun k => k = d ∨ some k = v.ownBlock) := by
  have hkl := (List.getElem?_eq_some_iff.1 hs).1
  obtain ⟨b, hbk⟩ : ∃ b, bs[k]? = some b := ⟨_, List.getElem?_eq_getElem (by rw [h.len]; exact hkl)⟩
  obtain ⟨ve, vv, vd, hxb, hmb⟩ := h.m k b m hbk hs
  have hpk : (bs.map ptr)[k]? = some (ptr b) := by rw [List.getElem?_map, hbk]; rfl
  rcases h.row.2 with ⟨_, h0⟩ | ⟨g, off, c, cur, rfl, hbg, hh, hnc, hcm, hoc, htk⟩
  · omega
  have hcell := h.row.cell k _ hpk
  obtain ⟨n, hn⟩ : ∃ n, n = l.length := ⟨_, rfl⟩
  obtain ⟨R, hR⟩ : ∃ R, R = mrow m ve vv vd := ⟨_, rfl⟩
  rw [← hR] at hxb
  have HR := Hid.mkW hR
  have HRs : Hid (R.size = 15) := by show _ = _; rw [hR]; rfl
  have hRa : R.all (·.oneCell') = true := by
    obtain ⟨pe, ce, rfl, -, -, -⟩ := hmb.e
    obtain ⟨pv, cv, rfl, -, -, -⟩ := hmb.v
    obtain ⟨pd, cd, rfl⟩ := hmb.d.slice
    rw [hR]
    kernel_rfl
  obtain ⟨w1, hw1⟩ : ∃ w1, w1 = w.alloc (.cells zrow 28) := ⟨_, rfl⟩
  have hb1 : Below w.heap.size w w1 := by rw [hw1]; exact (Below.refl _ _).alloc (Nat.le_refl _) _
  have HY1 : Bx w.heap.size zrow 28 w1 := by rw [hw1]; exact row_alloc w _ 28
  have hr2 : (w1.alloc (.cells zrow 28)).heap[w1.heap.size]? = some (.cells zrow 28 (0, 0)) := row_alloc w1 zrow 28
  obtain ⟨hx2, hb2⟩ := boxed w1 R
  have hxb1 := hxb.below hb1
  have e1 : w1.cell? ⟨d, 0, none⟩ = some (.slice (some ⟨g, off, none⟩) n c) := by rw [hn]; exact (h.x.below hb1).cell 0
  have hgl : g < w.heap.size := (Array.getElem?_eq_some_iff.1 hh).1
  have c1 : w1.cell? ⟨g, off + k, none⟩ = some (ptr b) := (hb1.cell (p := ⟨g, off + k, none⟩) hgl).trans hcell
  rw [← hn] at hnc htk hkl hl
  have HTK : Hid ((cur.toList.drop off).take n = bs.map ptr) := by show _ = _; rw [Nat.mul_one] at htk; exact htk
  have HOC : Hid (off + c ≤ cur.size) := by show _ ≤ _; omega
  have HNC : Hid (n ≤ c) := hnc
  have HBG : Hid (base ≤ g) := hbg
  have HN := Hid.mkW h
  have HB1 := Hid.mkW hb1
  have HNL := Hid.mkW hn
  have hcm' : c ≤ 9223372036854775807 := by unfold maxLen at hcm; omega
  have HCM : Hid (c ≤ maxLen) := hcm
  have HH := Hid.mkW hh
  have HMB := Hid.mkW hmb
  have hkn : (k : Int) < n := by omega
  clear h hb1 htk hh hmb hR hcell hpk hbk hs hn hoc hcm
  unfold zrow at hw1
  go_enter Tryd.func50, Tryd.ntmps50
  go_upto_region 1 with fail
  rw [← hw1]
  clear hw1
  go_upto_region 2 with (first
    | (refine wpList_load_row rfl 28 _ rfl b rfl 28 _ (0, 0) _ hxb1 Tryd.underlying28 rfl (by rw [HRs.out]; kernel_rfl) ?_)
    | (refine wpList_store_row rfl 28 _ _ rfl w1.heap.size R rfl rfl 28 zrow hr2 (by rw [HRs.out]; kernel_rfl) (by rw [HRs.out]; rfl) hRa ?_))
  obtain ⟨w2, hw2⟩ : ∃ w2, w2 = (w1.alloc (.cells zrow 28)).setRow w1.heap.size R := ⟨_, rfl⟩
  rw [← hw2] at hx2 hb2
  unfold zrow at hw2
  rw [← hw2]
  clear hw2 hr2 hxb1
  have e2 : w2.cell? ⟨d, 0, none⟩ = some (.slice (some ⟨g, off, none⟩) n c) := (hb2.cell (p := ⟨d, 0, none⟩) (World.block_lt_of_cell? _ _ e1)).trans e1
  have e3 : w2.drew.cell? ⟨d, 0, none⟩ = some (.slice (some ⟨g, off, none⟩) n c) := e2
  have HB2 := Hid.mkW (HB1.out.trans (hb2.mono HB1.out.size))
  have HB12 := Hid.mkW hb2
  have hg2 : Bx g cur 90 w2.drew := (HB2.out.block g hgl).trans HH.out
  clear e1 c1 hb2
  obtain ⟨cur1, hcur1⟩ : ∃ cur1, cur1 = cur.toList.take (off + 1) ++ (bs.take k).map ptr ++ cur.toList.drop (off + 1 + k) := ⟨_, rfl⟩
  have HCU := Hid.mkW hcur1
  have hlb : bs.length = n := by rw [HNL.out]; exact HN.out.len
  have hnl : n ≤ 100000 := hl
  have hoc := HOC.out
  go_frame
  go_cut [] from 15 to 28 (fun wc => Hid (Upd w2.drew wc (fun j => j = g) ∧ Bx g cur1.toArray 90 wc))
  case first =>
    by_cases hk0 : k = 0
    · subst hk0
      obtain ⟨n, rfl⟩ : ∃ n', n = n' + 1 := ⟨n - 1, by omega⟩
      have HD0 : Hid (Upd w2.drew w2.drew (fun j => j = g) ∧ Bx g cur1.toArray 90 w2.drew) := by
        refine ⟨Upd.refl _ _, ?_⟩
        have e : cur1.toArray = cur := by rw [hcur1]; simp
        rw [e]
        exact hg2
      obtain ⟨p', hA⟩ := cutA (some ⟨g, off, none⟩) n c hnc
      have hBB := cutB g off n c
      have hln : (1 : Int) ≤ (n : Int) + 1 := by omega
      have hc1 : (1 : Int) ≤ (c : Int) := by omega
      have hwr : IntKind.i64.wrap 1 = 1 := by decide
      have hmx : max (1 : Int) 0 = 1 := by decide
      have hcp := fun (W : World) (a b : Option Addr) (m n : Nat) => run_copy_none (P := Tryd.prog) W 86 86 3 90 a b 0 m 0 n Tryd.underlying86 (by kernel_rfl) rfl
      clear hcur1
      by_cases hcc : c = 1
      · subst hcc
        go_region
        all_goals
          go_wp2_with fail
          go_meet
          exact HD0
      · go_region
        all_goals
          go_wp2_with fail
          go_meet
          exact HD0
    · have hD := cutD g off n c k (by omega) hnc (by omega)
      have hF := cutF g off n c k (by omega) hnc
      obtain ⟨i0, hi, hz0, hz1, hz2⟩ := info_parts infoP
      have hcp : ∀ ty, (Builtin.copy_ #[86, 86] ty #[.slice (some ⟨g, off + 1, none⟩) k (c - 1), .slice (some ⟨g, off, none⟩) k c]).run Tryd.prog w2.drew = .ok (goInt (Nat.min k k : Nat)) (w2.drew.setRow g cur1.toArray) := fun ty => by
        have hml : ((bs.take k).map ptr).length = k := by simp; omega
        have := run_copyS (P := Tryd.prog) w2.drew 86 86 ty 90 90 i0 Tryd.underlying86 hi g (off + 1) k (c - 1) cur hg2 ⟨g, off, none⟩ k c ((bs.take k).map ptr) (by rw [hml, hz1, Nat.min_self, Nat.mul_one]) (fun j v hj => by
          rw [Addr.add_lit, hg2.cell]
          have h1 : (bs.map ptr)[j]? = some v := by
            rw [← List.take_append_drop k bs, List.map_append, List.getElem?_append_left (by have := (List.getElem?_eq_some_iff.1 hj).1; omega)]
            exact hj
          rw [← HTK.out, List.getElem?_take] at h1
          split at h1
          · rw [List.getElem?_drop] at h1
            simpa using h1
          · cases h1) (by rw [hml]; omega) (fun u hu => by
          obtain ⟨x, _, rfl⟩ := List.mem_map.1 hu
          rfl)
        rw [hml, ← hcur1] at this
        exact this
      have HD1 : Hid (Upd w2.drew (w2.drew.setRow g cur1.toArray) (fun j => j = g) ∧ Bx g cur1.toArray 90 (w2.drew.setRow g cur1.toArray)) := by
        obtain ⟨a1, a2⟩ := hg2.fill (row' := cur1.toArray)
        exact ⟨a2, a1⟩
      have hkk : (k : Int) + 1 ≤ n := by omega
      clear hcur1 hz0 hz1 hz2 hi
      go_region
      all_goals
        go_wp2_with fail
        go_meet
        exact HD1
  case rest =>
  have HC := hcut
  clear hcut e2 e3 hcur1
  generalize wc = w3 at *
  obtain ⟨n, rfl⟩ : ∃ n', n = n' + 1 := ⟨n - 1, by omega⟩
  have HBd : Hid (Below w.heap.size w w2.drew) := HB2.out.drew
  have hnt := HN.out.below HBd.out
  have hxd0 : Bx w1.heap.size R 28 w2.drew := hx2
  have hy0 : Bx w.heap.size zrow 28 w2.drew := by
    have h1 : Below w1.heap.size w1 w2 := HB12.out
    exact (HY1.below h1).drewQ
  have hgd : d ≠ g := by
    have := rowO_ne hnt.row hnt.x (by decide)
    intro e
    exact this (by rw [e]; rfl)
  have hX3 := hnt.x.upd HC.out.1 hgd
  rw [← HNL.out] at hX3
  have hxd := hxd0.upd HC.out.1 (bx_ne hxd0 hg2 (by decide))
  have hy := hy0.upd HC.out.1 (bx_ne hy0 hg2 (by decide))
  have e3 : w3.cell? ⟨d, 0, none⟩ = some (.slice (some ⟨g, off, none⟩) (n + 1) c) := hX3.cell 0
  have hcl : Hid (cur1.length = cur.size) := by
    show _ = _
    rw [HCU.out]
    simp
    omega
  obtain ⟨u3, hu3⟩ : ∃ u3, cur1.toArray[off]? = some u3 := ⟨_, Array.getElem?_eq_getElem (by simp [hcl.out]; omega)⟩
  have c3 : w3.cell? ⟨g, off, none⟩ = some u3 := (HC.out.2.cell off).trans hu3
  have f3 := HC.out.2.free off
  clear hu3 hg2 hxd0 hy0 hx2 HY1
  go_upto_region 4 with fail
  obtain ⟨w4, hw4⟩ : ∃ w4, w4 = w3.setCell ⟨g, off, none⟩ (.pointer none) := ⟨_, rfl⟩
  have u4 : Upd w3 w4 (fun k => k = g) := by rw [hw4]; exact (Upd.refl w3 (fun k => k = g)).setCell (.inr rfl) _
  have hg4 : Bx g (cur1.set off (.pointer none)).toArray 90 w4 := by
    rw [hw4]
    exact HC.out.2.set off _ (by simp [Array.set!_eq_setIfInBounds])
  rw [← hw4]
  clear hw4 c3 f3 e3
  have HG4 := Hid.mkW hg4
  have HX4 := hX3.upd u4 hgd
  have e4 : w4.cell? ⟨d, 0, none⟩ = some (.slice (some ⟨g, off, none⟩) (n + 1) c) := HX4.cell 0
  have f4 : w4.frozen? ⟨d, 0, none⟩ = false := HX4.free 0
  have hC := cutC g off n c hnc
  clear hg4
  go_upto_region 5 with fail
  obtain ⟨q, hq⟩ : ∃ q, q = (if c = 1 then off else off + 1) := ⟨_, rfl⟩
  rw [← hq]
  obtain ⟨w5, hw5⟩ : ∃ w5, w5 = w4.setCell ⟨d, 0, none⟩ (.slice (some ⟨g, q, none⟩) n (c - 1)) := ⟨_, rfl⟩
  have HX5 : Bx d #[.slice (some ⟨g, q, none⟩) n (c - 1)] 88 w5 := by rw [hw5]; exact HX4.set 0 _ rfl
  have u5 : Upd w4 w5 (fun k => k = d) := by rw [hw5]; exact (Upd.refl w4 (fun k => k = d)).setCell (.inr rfl) _
  rw [← hw5]
  clear hw5 e4 f4
  have hx4 := hxd.upd u4 (bx_ne hxd HC.out.2 (by decide))
  have hy4 := hy.upd u4 (bx_ne hy HC.out.2 (by decide))
  have hx5 := hx4.upd u5 (bx_ne hx4 HX4 (by decide))
  have hy5 := hy4.upd u5 (bx_ne hy4 HX4 (by decide))
  have HQ := Hid.mkW hq
  have H3 := Hid.mkW (And.intro u4 (And.intro u5 (And.intro HX4 HX5)))
  have HNT := Hid.mkW hnt
  clear hq HX4 HX5 u4 u5 hxd hy hnt hC hx4 hy4 hX3
  go_wp2_with (first
    | (refine wpList_load_row rfl 28 _ rfl w1.heap.size rfl 28 _ (0, 0) _ hx5 Tryd.underlying28 rfl (by rw [HRs.out]; kernel_rfl) ?_)
    | (refine wpList_store_row rfl 28 _ _ rfl w.heap.size R rfl rfl 28 zrow hy5 (by rw [HRs.out]; kernel_rfl) (by rw [HRs.out]; rfl) hRa ?_))
  obtain ⟨HXF, uF⟩ := hy5.fill (row' := R)
  refine bodyPost_ret (results_c1 rfl _ _ w.heap.size 28 R (0, 0) _ rfl HXF Tryd.underlying28 rfl (by rw [HRs.out]; kernel_rfl)) rfl ?_
  obtain ⟨u4, u5, HX4, HX5⟩ := H3.out
  have hgd' : ¬ g = d := fun e => hgd e.symm
  have hg5 := HG4.out.upd u5 hgd'
  have hg6 := hg5.upd uF (bx_ne hg5 hy5 (by decide))
  have hBs := HBd.out.size
  -- what was there, but for the net's box and its row, is as it was
  have hall : Upd w (w5.setRow w.heap.size R) (fun j => j = g ∨ j = d) :=
    ((((Upd.ofBelow (S := fun j => j = g ∨ j = d) HBd.out).trans (HC.out.1.mono (fun j _ e => .inl e)) (fun _ _ h => h)).trans (u4.mono (fun j _ e => .inl e)) (fun _ _ h => h)).trans (u5.mono (fun j _ e => .inr e)) (fun _ _ h => h)).trans uF (fun j hj e => by
      have e1 : j = w.heap.size := e
      omega)
  have hms : ∀ (a1 a2 a3 : Value) (t : Md), Ms (Zn base X w d (.slice (some ⟨g, off, none⟩) l.length c)) w a1 a2 a3 t → Ms (Zn base X w d (.slice (some ⟨g, off, none⟩) l.length c)) (w5.setRow w.heap.size R) a1 a2 a3 t := fun a1 a2 a3 t ht => ht.upd hall (fun j hj _ e => by
    rcases e with e | e
    · exact hj.2.2.2.2 (by rw [e]; rfl)
    · exact hj.2.2.2.1 e)
  have hlen := HN.out.len
  have hnl' := HNL.out
  refine ⟨ve, vv, vd, congrArg (fun r => Ending.returned (.agg r)) HR.out, (hms _ _ _ _ HMB.out).mono (fun j hj => ⟨hj.2.1, hj.2.2.1⟩), .slice (some ⟨g, q, none⟩) n (c - 1), ⟨?_, ?_, ?_, HN.out.nd, fun j hj => HN.out.nv j hj, fun b' hb' => HN.out.nb b' (List.mem_of_mem_eraseIdx hb'), fun i b' m' h1 h2 => ?_⟩, ?_⟩
  · exact HX5.upd uF (bx_ne HX5 hy5 (by decide))
  · have hle : (l.eraseIdx k).length = n := by rw [List.length_eraseIdx_of_lt (by omega)]; omega
    have hlb2 : (bs.eraseIdx k).length = n := by rw [List.length_eraseIdx_of_lt (by omega)]; omega
    rw [hle]
    refine ⟨by simp [hlb2], .inr ⟨g, q, c - 1, _, rfl, HBG.out, hg6, by omega, by have := HCM.out; omega, ?_, ?_⟩⟩
    · have h1 := HOC.out
      have h2 := HQ.out
      have h3 : (cur1.set off (.pointer none)).toArray.size = cur.size := by simp [hcl.out]
      rw [h3, h2]
      split <;> omega
    · have h2 := HQ.out
      rw [Nat.mul_one]
      show ((cur1.set off (.pointer none)).drop q).take n = _
      by_cases hc : c = 1
      · have h0 : n = 0 := by omega
        have hb0 : bs.eraseIdx k = [] := List.eq_nil_of_length_eq_zero (by omega)
        rw [h0, hb0]
        simp
      · rw [if_neg hc] at h2
        rw [h2, HCU.out]
        exact erase_row hlb (by omega) HTK.out (by have := HOC.out; simp; omega)
  · rw [List.length_eraseIdx_of_lt (by omega), List.length_eraseIdx_of_lt (by omega), hlen]
  · obtain ⟨j, hj1, hj2⟩ : ∃ j, bs[j]? = some b' ∧ l[j]? = some m' := by
      rw [List.getElem?_eraseIdx] at h1 h2
      split at h1
      · rename_i hi
        rw [if_pos hi] at h2
        exact ⟨i, h1, h2⟩
      · rename_i hi
        rw [if_neg hi] at h2
        exact ⟨i + 1, h1, h2⟩
    obtain ⟨a1, a2, a3, hx, hm⟩ := HN.out.m j b' m' hj1 hj2
    refine ⟨a1, a2, a3, hx.upd hall (fun e => ?_), (hms _ _ _ _ hm).mono (fun k' hk' => ⟨hk'.1, Nat.lt_of_lt_of_le hk'.2.1 hall.size, hk'.2.2⟩)⟩
    rcases e with e | e
    · have hgw : Bx g cur 90 w := HH.out
      exact bx_ne hx hgw (by decide) e
    · exact bx_ne hx HN.out.x (by decide) e
  · exact hall.mono (fun j _ e => by
      rcases e with e | e
      · exact .inr (by rw [e]; rfl)
      · exact .inl e)
end Go.Proofs.YtamgoknoapcnjaaDoor
