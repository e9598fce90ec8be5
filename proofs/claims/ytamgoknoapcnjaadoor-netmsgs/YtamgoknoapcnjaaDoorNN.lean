/- The walk of NetCuts. -/
import Derived.Test.YtamgoknoapcnjaaDoorNL
namespace Go.Proofs.YtamgoknoapcnjaaDoor
open Go Go.RowKit
theorem sees_front {B : Nat} {w : World} {g cap : Nat} {xs : List Int} (h : w.ownsRow B 5 1 (.slice (some ⟨g, 0, none⟩) xs.length cap) xs.length (u8s xs)) (k : Nat) (hk : k ≤ xs.length) : Sees w (.slice (some ⟨g, 0, none⟩) k cap) (xs.take k) := by
  have hl : (xs.take k).length = k := by simp; omega
  have hcm : xs.length ≤ cap ∧ cap ≤ maxLen := by
    rcases h.2 with ⟨e, _⟩ | ⟨g', c', cur, e, _, _, h1, h2, _⟩
    · cases e
    · cases e; exact ⟨h1, h2⟩
  by_cases h0 : k = 0
  · subst h0
    exact .inl ⟨by simp, _, _, rfl, (fun e => by cases e), hcm.2⟩
  · refine .inr ⟨g, 0, cap, by rw [hl], by omega, by omega, hcm.2, fun i hi => ?_⟩
    have hi' : i < xs.length := by omega
    have := owns_cells h i hi'
    rw [Nat.zero_add, this]
    congr 2
    simp only [List.getD_eq_getElem?_getD, List.getElem?_take]
    rw [if_pos (by omega)]
/-- A frame with one summed byte turned. -/
theorem turned (z : List Int) (i : Nat) (hi : i < z.length) (y : Int) (hz : isB z) (hl : z.length ≤ 90000) (hy : 0 ≤ y ∧ y ≤ 255) (hne : z[i] ≠ y) : unfE ((frameB z).set (8 + i) y) = 12 := by
  have e : z = z.take i ++ z[i] :: z.drop (i + 1) := by rw [← List.drop_eq_getElem_cons hi, List.take_append_drop]
  have h1 : ((be (z.length : Nat)).drop 4).length = 4 := rfl
  have h2 : ((be (crc z : Nat)).drop 4).length = 4 := rfl
  have hs : (frameB z).set (8 + i) y = (be (z.length : Nat)).drop 4 ++ ((be (crc z : Nat)).drop 4 ++ (z.set i y)) := by
    unfold frameB
    rw [List.set_append_right _ _ (by rw [h1]; omega), List.set_append_right _ _ (by rw [h1, h2]; omega), h1, h2, show 8 + i - 4 - 4 = i by omega]
  have hset : z.set i y = z.take i ++ y :: z.drop (i + 1) := by
    rw [List.set_eq_take_append_cons_drop, if_pos hi]
  have ht := unfE_turn (l := z.take i) (r := z.drop (i + 1)) (x := z[i]) (y := y) (fun x hx => hz x (List.mem_of_mem_take hx)) (fun x hx => hz x (List.mem_of_mem_drop hx)) (hz _ (List.getElem_mem hi)) hy hne (by rw [← e]; omega)
  rw [← e] at ht
  rw [hs, hset]
  exact ht
theorem pX_cut (xs : List Int) (h : unfE xs ≠ 0) : pX xs = unfE xs := by unfold pX; rw [if_pos h]
set_option maxRecDepth 100000 in
set_option maxHeartbeats 4000000 in
theorem cuts_any (Z : Nat → Prop) (w : World) (m : Md) (ve vv vd : Value) (cut at_ by_ : Int) (hT : HasTab w) (hm : Ms Z w ve vv vd m) (hg : Big m) (ho : MOk m) (hZ : ∀ k, Z k → k < w.heap.size) (hby : 0 ≤ by_ ∧ by_ ≤ 255) :
    Calls Tryd.prog 6 #[.agg (mrow m ve vv vd), iv cut, iv at_, .int .u8 by_] w fun e w' => e = .returned (.bool true) ∧ Below w.heap.size w w' := by
  obtain ⟨w1, hw1⟩ : ∃ w1, w1 = w.alloc (.cells (mrow m ve vv vd) 28) := ⟨_, rfl⟩
  have hb1 : Below w.heap.size w w1 := by rw [hw1]; exact (Below.refl _ _).alloc (Nat.le_refl _) _
  obtain ⟨d, hd⟩ : ∃ d, d = w.heap.size := ⟨_, rfl⟩
  have HX1 : Bx d (mrow m ve vv vd) 28 w1 := by rw [hd, hw1]; exact row_alloc w _ 28
  have HM := Hid.mkW hm
  have HT := Hid.mkW hT
  have HG := Hid.mkW hg
  have HO := Hid.mkW ho
  have HZ := Hid.mkW hZ
  have HB1 := Hid.mkW hb1
  have hkn := known_any w1 (hT.below hb1)
  clear hm hT hg ho hZ hb1
  go_enter Tryd.func6, Tryd.ntmps6
  go_upto_region 1 with fail
  rw [← hw1, ← hd]
  clear hw1 hd
  go_upto_region 3 with (go_at_call 8; refine hkn.mono ?_; rintro e w2 ⟨rfl, hb2⟩)
  have HX2 := HX1.below hb2
  have HB2 := Hid.mkW (HB1.out.trans (hb2.mono HB1.out.size))
  have hfew := few_any Z w2 m ve vv vd (HM.out.below HB2.out) HG.out
  clear hkn hb2 HX1
  by_cases hf : fewM m = false
  · rw [hf] at hfew
    go_wp2_with (first | (refine wpList_load_row rfl 28 _ rfl d rfl 28 _ (0, 0) _ HX2 Tryd.underlying28 rfl (by kernel_rfl) ?_) | (go_at_call 9; refine hfew.mono ?_; rintro e w3 ⟨rfl, hb3⟩))
    go_ret
    exact ⟨rfl, HB2.out.trans (hb3.mono HB2.out.size)⟩
  have hf' : fewM m = true := by simpa using hf
  rw [hf'] at hfew
  have HS : Hid (Small m) := few_small hf'
  clear hf hf'
  by_cases h0 : by_ = 0
  · subst h0
    go_wp2_with (first | (refine wpList_load_row rfl 28 _ rfl d rfl 28 _ (0, 0) _ HX2 Tryd.underlying28 rfl (by kernel_rfl) ?_) | (go_at_call 9; refine hfew.mono ?_; rintro e w3 ⟨rfl, hb3⟩))
    go_ret
    exact ⟨rfl, HB2.out.trans (hb3.mono HB2.out.size)⟩
  have h0' : (by_ == 0) = false := by simpa using h0
  have HY : Hid (by_ ≠ 0) := h0
  clear h0
  go_upto_region 5 with (first | (refine wpList_load_row rfl 28 _ rfl d rfl 28 _ (0, 0) _ HX2 Tryd.underlying28 rfl (by kernel_rfl) ?_) | (go_at_call 9; refine hfew.mono ?_; rintro e w3 ⟨rfl, hb3⟩))
  have HX3 := HX2.below hb3
  have HB3 := Hid.mkW (HB2.out.trans (hb3.mono HB2.out.size))
  have henc := encode_any Z w3 m ve vv vd (HT.out.below HB3.out) (HM.out.below HB3.out) HS.out HO.out (fun k hk => Nat.lt_of_lt_of_le (HZ.out k hk) HB3.out.size)
  clear hfew hb3 HX2
  by_cases he : encE m = 0
  case neg =>
    obtain ⟨q, hq⟩ : ∃ q, q = encE m := ⟨_, rfl⟩
    rw [← hq] at henc he
    have hqn : (q == 0) = false := by simpa using he
    clear hq he
    go_wp2_with (first | (refine wpList_load_row rfl 28 _ rfl d rfl 28 _ (0, 0) _ HX3 Tryd.underlying28 rfl (by kernel_rfl) ?_) | (go_at_call 10; refine henc.mono ?_; rintro e w4 ⟨v4, rfl, ho4, hb4⟩))
    go_ret
    exact ⟨rfl, HB3.out.trans (hb4.mono HB3.out.size)⟩
  have HR : Hid (encR m = frameB (msgB m)) := by show encR m = _; unfold encR; rw [if_pos he]
  have HE := Hid.mkW he
  rw [he] at henc
  clear he
  go_upto_region 8 with (first | (refine wpList_load_row rfl 28 _ rfl d rfl 28 _ (0, 0) _ HX3 Tryd.underlying28 rfl (by kernel_rfl) ?_) | (go_at_call 10; refine henc.mono ?_; rintro e w4 ⟨v4, rfl, ho4, hb4⟩))
  obtain ⟨z, hz⟩ : ∃ z, z = msgB m := ⟨_, rfl⟩
  have hzb : isB z := by rw [hz]; exact msgB_isB m HO.out
  have hzl : z.length ≤ 40000 ∧ 88 ≤ z.length := by
    rw [hz]
    have h1 := msg_pre m (HS.out.fit HE.out)
    have h2 := msgB_len m
    omega
  rw [HR.out, ← hz] at ho4
  have hlen := frameB_len z
  have hfb := frameB_isB hzb (by omega)
  obtain ⟨xs, hxs⟩ : ∃ xs, xs = frameB z := ⟨_, rfl⟩
  rw [← hxs] at ho4 hlen hfb
  obtain ⟨g, c4, rfl, hgc, hgb⟩ := owns_formB ho4 (by omega)
  have hcm : c4 ≤ maxLen := by
    rcases ho4.2 with ⟨e, _⟩ | ⟨g', c', cur, e, _, _, h1, h2, _⟩
    · cases e
    · cases e; exact h2
  have HB4 := Hid.mkW (HB3.out.trans (hb4.mono HB3.out.size))
  have HXS := Hid.mkW hxs
  obtain ⟨n, hn⟩ : ∃ n, n = xs.length := ⟨_, rfl⟩
  have hnb : n ≤ 40008 ∧ 96 ≤ n := by omega
  -- the front
  obtain ⟨k, hk⟩ : ∃ k : Nat, withinF cut n = (k : Int) := ⟨(withinF cut n).toNat, by have := withinF_bd cut n (by omega); omega⟩
  have hkn : k < n := by have := withinF_bd cut n (by omega); omega
  have hwi := within_any cut n w4 (by omega) (by omega)
  rw [hk] at hwi
  have hpf := parse_any _ (xs.take k) w4 (HT.out.below HB4.out) (fun x hx => hfb x (List.mem_of_mem_take hx)) (by simp; omega) (sees_front ho4 k (by omega))
  have hcut : unfE (xs.take k) = 8 := by rw [hxs]; exact unfE_cut z (by omega) k (by rw [← hxs, ← hn]; exact hkn)
  have hpx : pX (xs.take k) = 8 := by rw [pX_cut _ (by rw [hcut]; decide), hcut]
  have hpm : pM (xs.take k) = zMd := by unfold pM; rw [if_neg (by rw [hpx]; decide)]
  rw [hpx, hpm] at hpf
  simp only [mrow, zMd] at hpf
  have HO4 := Hid.mkW ho4
  have HN := Hid.mkW hn
  rw [← hn]
  have hln : (xs.length : Int) = n := by rw [hn]
  have hml : c4 ≤ 9223372036854775807 := by unfold maxLen at hcm; omega
  have hgc' : n ≤ c4 := by omega
  clear hcut hpx hpm henc hxs hn ho4 hb4 HX3
  go_upto_region 9 with (first
    | (go_at_call 16; refine hwi.mono ?_; rintro e w5 ⟨rfl, hw5⟩; obtain rfl := hw5.symm)
    | (go_at_call 12; refine hpf.mono ?_; rintro e w6 ⟨pe, ce, pv, cv, pd, cd, rfl, hm6, hb6⟩))
  have HB6 := Hid.mkW hb6
  obtain ⟨w7, hw7⟩ : ∃ w7, w7 = w6.alloc (.cells #[iv 0, iv 0, iv 0, iv 0, iv 0, iv 0, .slice pe 0 ce, iv 0, iv 0, .bool false, iv 0, iv 0, iv 0, .slice pv 0 cv, .slice pd 0 cd] 28) := ⟨_, rfl⟩
  rw [← hw7]
  have hb7 : Below w6.heap.size w6 w7 := by rw [hw7]; exact (Below.refl _ _).alloc (Nat.le_refl _) _
  have HB47 : Hid (Below w4.heap.size w4 w7) := hb6.trans (hb7.mono hb6.size)
  have hown0 : (w7.alloc (.cells #[] 5)).ownsRow w7.heap.size 5 1 (.slice (some ⟨w7.heap.size, 0, none⟩) 0 0) 0 [] := World.ownsRow_lit (size := 1) (e := 5) w7 #[] 0 (Nat.le_refl _) (by decide) rfl
  have hsrc : Src Tryd.prog 1 26 (.slice (some ⟨g, 0, none⟩) n c4) n (u8s xs) (w7.alloc (.cells #[] 5)) := by
    have h1 := Src_sees (((sees_own HO4.out).below HB47.out).below ((Below.refl _ w7).alloc (Nat.le_refl _) (.cells #[] 5)))
    rw [← HN.out] at h1
    exact h1
  obtain ⟨i0, hi, hz0, hz1, hz2⟩ := info_parts info5
  clear hw7 hb7 hb6 hm6 hpf hwi
  go_upto_region 10 with (at_builtin; refine wpList_app _ rfl (.tmp 42) (.tmp 43) 26 26 rfl w7.heap.size 5 i0 Tryd.underlying26 hi hz0 hz1 hz2 _ 0 [] rfl hown0 _ rfl _ _ hsrc (by omega) (by simp) ?_; intro v8 w8 q1 q2 q3 q4)
  clear hown0 hsrc hi hz0 hz1 hz2
  rw [Nat.zero_add, List.nil_append] at q1
  obtain ⟨g8, c8, rfl, hgc8, hgb8⟩ := owns_formB q1 (by omega)
  have HB8 : Hid (Below w7.heap.size w7 w8) := ((Below.refl _ _).alloc (Nat.le_refl _) _).trans (q2.below (by simp) (fun k hk e => by have e1 : some k = some w7.heap.size := e; cases e1; omega))
  obtain ⟨i, hi⟩ : ∃ i : Nat, withinF at_ z.length = (i : Int) := ⟨(withinF at_ z.length).toNat, by have := withinF_bd at_ z.length (by omega); omega⟩
  have hin : i < z.length := by have := withinF_bd at_ z.length (by omega); omega
  have hw2 : Calls Tryd.prog 16 #[iv at_, .int .i64 ((n : Int) - 8)] w8 fun e w' => e = .returned (iv i) ∧ w' = w8 := by
    have := within_any at_ z.length w8 (by omega) (by omega)
    rw [hi] at this
    have e : ((z.length : Nat) : Int) = (n : Int) - 8 := by have := HN.out; omega
    rwa [e] at this
  obtain ⟨x, hx⟩ : ∃ x, x = z[i] := ⟨_, rfl⟩
  have hxb : 0 ≤ x ∧ x ≤ 255 := by rw [hx]; exact hzb _ (List.getElem_mem hin)
  have hxi : xs[8 + i]? = some x := by
    rw [HXS.out, frameB, List.getElem?_append_right (by rw [len4]; omega), List.getElem?_append_right (by rw [len4, len4]; omega), len4, len4, show 8 + i - 4 - 4 = i by omega, hx, List.getElem?_eq_getElem hin]
  have hcell : w8.cell? ⟨g8, 8 + i, none⟩ = some (.int .u8 x) := by
    have := q1.cells (g := g8) rfl (8 + i) (.int .u8 x) (by rw [List.getElem?_map, hxi]; rfl)
    rwa [Addr.add_lit, Nat.zero_add] at this
  have hfz : w8.frozen? ⟨g8, 8 + i, none⟩ = false := by
    rcases q1.2 with ⟨e, _⟩ | ⟨g', c', cur, e, _, hh, _⟩
    · cases e
    · cases e; exact frozen_of_row _ _ _ _ _ hh
  have hin2 : 8 + i < n := by have := HN.out; omega
  have hiz : (i : Int) ≤ 40000 := by omega
  have HQ1 := Hid.mkW q1
  have HX := Hid.mkW hx
  have HI := Hid.mkW hin
  clear q1 q2 q3 q4 hx hi hxi
  go_upto_region 11 with (go_at_call 16; refine hw2.mono ?_; rintro e w9 ⟨rfl, hw9⟩; obtain rfl := hw9.symm)
  obtain ⟨y, hy⟩ : ∃ y, y = (x + by_) % 256 := ⟨_, rfl⟩
  have hyb : 0 ≤ y ∧ y ≤ 255 := by omega
  have hyx : x ≠ y := by have := HY.out; omega
  rw [← hy]
  obtain ⟨w10, hw10⟩ : ∃ w10, w10 = w8.setCell ⟨g8, 8 + i, none⟩ (.int .u8 y) := ⟨_, rfl⟩
  rw [← hw10]
  have q2 : w10.ownsRow w7.heap.size 5 1 (.slice (some ⟨g8, 0, none⟩) n c8) n (u8s (xs.set (8 + i) y)) := by
    rw [hw10]
    have := row_set HQ1.out (8 + i) (.int .u8 y)
    rwa [← List.map_set] at this
  have hlz : (xs.set (8 + i) y).length = n := by rw [List.length_set]; exact HN.out.symm
  have hgl := HQ1.out.lt g8 rfl
  have HB10 : Hid (Below w7.heap.size w7 w10) := by
    show Below _ _ _
    rw [hw10]
    exact (HB8.out).setCell hgl.1 _
  have HBw : Hid (Below w.heap.size w w10) := HB4.out.trans (HB47.out.trans ((HB10.out).mono (HB47.out.size)) |>.mono HB4.out.size)
  have hsee : Sees w10 (.slice (some ⟨g8, 0, none⟩) n c8) (xs.set (8 + i) y) := sees_own (xs := xs.set (8 + i) y) (by rw [hlz]; exact q2)
  have hpt := parse_any _ (xs.set (8 + i) y) w10 (HT.out.below HBw.out) (fun u hu => by
    rcases List.mem_or_eq_of_mem_set hu with h | h
    · exact hfb u h
    · rw [h]; exact hyb) (by omega) hsee
  have hE : unfE (xs.set (8 + i) y) = 12 := by rw [HXS.out]; exact turned z i HI.out y hzb (by omega) hyb (by rw [← HX.out]; exact hyx)
  have hpx : pX (xs.set (8 + i) y) = 12 := by rw [pX_cut _ (by rw [hE]; decide), hE]
  have hpm : pM (xs.set (8 + i) y) = zMd := by unfold pM; rw [if_neg (by rw [hpx]; decide)]
  rw [hpx, hpm] at hpt
  simp only [mrow, zMd] at hpt
  clear hE hpx hpm hsee q2 hw10 hcell hfz hw2 hy hyx
  go_wp2_with (go_at_call 12; refine hpt.mono ?_; rintro e w11 ⟨pe1, ce1, pv1, cv1, pd1, cd1, rfl, hm11, hb11⟩)
  go_ret
  exact ⟨rfl, (HBw.out.trans (hb11.mono HBw.out.size)).trans (((Below.refl _ _).alloc (Nat.le_refl _) _).mono (Nat.le_trans HBw.out.size hb11.size))⟩
end Go.Proofs.YtamgoknoapcnjaaDoor
