/- The walk of NetTurns. -/
import Derived.Test.YtamgoknoapcnjaaDoorNZE
import Derived.Test.YtamgoknoapcnjaaDoorNPR
import Derived.Test.YtamgoknoapcnjaaDoorNPa
import Derived.Test.YtamgoknoapcnjaaDoorNN
namespace Go.Proofs.YtamgoknoapcnjaaDoor
open Go Go.RowKit
theorem wpList_load_rowG {P : Program} {ops : Array Oper} {rest : List Oper} {o : Oper} {a : Act} {w : World} {Q : Exit → Act → World → Prop} (hw : Region.wanted o (yielded ops a.tmps) = true) (ty : TypeId) (x : Operand) (ho : o.op = .load ty x)
    (g : Nat) (hx : a.eval x = .pointer (some ⟨g, 0, none⟩)) (t : TypeId) (cs : Array Value) (fr : Nat × Nat) (d : TypeDesc) (hg : w.heap[g]? = some (.cells cs t fr))
    (hu : P.underlying ty = some d) (hd : (match d with | .struct _ | .array _ _ => true | _ => false) = true) (hi : (P.info? ty).map (·.size) = some cs.size)
    (h : wpList P ops Q rest (a.put o.dst (.agg cs)) w) : wpList P ops Q (o :: rest) a w := by
  unfold wpList
  rw [if_pos hw]
  exact .inl (wp_load_row ty x ho g hx t cs fr d hg hu hd hi h)
theorem rMany_len {α : Type} (one : St → α × St) : ∀ (n : Nat) (s : St), (rMany one n s).1.length ≤ n
  | 0, _ => Nat.le_refl _
  | n + 1, s => by
    unfold rMany
    split
    · have := rMany_len one n (one s).2
      simp only [List.length_cons]
      omega
    · simp
theorem pM_len {xs : List Int} (h : isB xs) : (pM xs).es.length ≤ 1000000 ∧ (pM xs).vs.length ≤ 1000000 := by
  unfold pM
  split
  · have hb := unfR_isB h
    have h1 := rU_bd hb (sA5 (unfR xs))
    have h2 := rU_bd hb (sA12 (unfR xs))
    have e1 := rMany_len (rE (unfR xs)) (rU (unfR xs) (sA5 (unfR xs))).1.toNat (rU (unfR xs) (sA5 (unfR xs))).2
    have e2 := rMany_len (rI (unfR xs)) (rU (unfR xs) (sA12 (unfR xs))).1.toNat (rU (unfR xs) (sA12 (unfR xs))).2
    constructor
    · show (rList _ _ _).1.length ≤ _
      unfold rList
      omega
    · show (rList _ _ _).1.length ≤ _
      unfold rList
      omega
  · exact ⟨by simp [zMd], by simp [zMd]⟩
theorem is_at {Z : Nat → Prop} {w : World} {p : Option Addr} {c : Nat} {l : List Int} (h : Is Z w (.slice p l.length c) l) {j : Nat} (hj : j < l.length) : ∃ g o, p = some ⟨g, o, none⟩ ∧ g < w.heap.size ∧ w.cell? ⟨g, o + j, none⟩ = some (iv l[j]) := by
  obtain ⟨p', c', e, _, _, hh⟩ := h
  cases e
  obtain ⟨g, o, rfl, hz, hc⟩ := hh j l[j] (List.getElem?_eq_getElem hj)
  exact ⟨g, o, rfl, World.block_lt_of_cell? _ _ hc, hc⟩
theorem bs_at {Z : Nat → Prop} {w : World} {p : Option Addr} {c : Nat} {l : List Int} (h : Bs Z w (.slice p l.length c) l) {j : Nat} (hj : j < l.length) : ∃ g o, p = some ⟨g, o, none⟩ ∧ g < w.heap.size ∧ w.cell? ⟨g, o + j, none⟩ = some (.int .u8 l[j]) := by
  rcases h.s with ⟨rfl, _⟩ | ⟨g, o, c', e, _, _, _, hc⟩
  · simp at hj
  · cases e
    have hh := hc j hj
    refine ⟨g, o, rfl, World.block_lt_of_cell? _ _ hh, hh.trans ?_⟩
    simp [List.getD_eq_getElem?_getD, List.getElem?_eq_getElem hj]
theorem own_cut {B : Nat} {w : World} {g c n : Nat} {zs : List Int} (h : w.ownsRow B 5 1 (.slice (some ⟨g, 0, none⟩) n c) n (u8s zs)) (k : Nat) (hk : k ≤ n) : w.ownsRow B 5 1 (.slice (some ⟨g, 0, none⟩) k c) k (u8s (zs.take k)) := by
  have h1 := h.1
  simp at h1
  refine ⟨by simp; omega, .inr ?_⟩
  rcases h.2 with ⟨e, _⟩ | ⟨g', c', cur, e, hb, hh, a1, a2, a3, a4⟩
  · cases e
  · cases e
    refine ⟨g, c, cur, rfl, hb, hh, by omega, a2, a3, ?_⟩
    have e2 : u8s (zs.take k) = (u8s zs).take k := List.map_take
    rw [e2, ← a4, List.take_take, Nat.mul_one, Nat.mul_one, Nat.min_eq_left hk]
set_option maxRecDepth 100000 in
set_option maxHeartbeats 8000000 in
theorem turns_any (Z : Nat → Prop) (w : World) (m : Md) (ve vv vd va vb vm : Value) (A Y M : List Int) (cut : Int) (hT : HasTab w) (hm : Ms Z w ve vv vd m) (hg : Big m) (ho : MOk m) (hZ : ∀ k, Z k → k < w.heap.size)
    (ha : Is Z w va A) (_hal : A.length ≤ 140737488355328) (hy : Bs Z w vb Y) (_hyl : Y.length ≤ 140737488355328) (hyb : isB Y) (hmo : Bs Z w vm M) (hml : M.length ≤ 140737488355328) (hmb : isB M) :
    Calls Tryd.prog 4 #[.agg (mrow m ve vv vd), va, vb, iv cut, vm] w fun e w' => e = .returned (.bool true) ∧ Below w.heap.size w w' := by
  obtain ⟨pa, ca, rfl, -, -, -⟩ := id ha
  obtain ⟨pb, cb, rfl⟩ := hy.slice
  obtain ⟨pm, cm, rfl⟩ := hmo.slice
  obtain ⟨w1, hw1⟩ : ∃ w1, w1 = w.alloc (.cells (mrow m ve vv vd) 28) := ⟨_, rfl⟩
  have hb1 : Below w.heap.size w w1 := by rw [hw1]; exact (Below.refl _ _).alloc (Nat.le_refl _) _
  obtain ⟨d, hd⟩ : ∃ d, d = w.heap.size := ⟨_, rfl⟩
  have HX1 : Bx d (mrow m ve vv vd) 28 w1 := by rw [hd, hw1]; exact row_alloc w _ 28
  have HM := Hid.mkW hm
  have HT := Hid.mkW hT
  have HG := Hid.mkW hg
  have HO := Hid.mkW ho
  have HZ := Hid.mkW hZ
  have HA := Hid.mkW ha
  have HY := Hid.mkW hy
  have HYB := Hid.mkW hyb
  have HMO := Hid.mkW hmo
  have HMB := Hid.mkW hmb
  have HB1 := Hid.mkW hb1
  have hkn := known_any w1 (hT.below hb1)
  clear hm hT hg ho hZ hb1 ha hy hyb hmo hmb
  go_enter Tryd.func4, Tryd.ntmps4
  go_upto_region 1 with fail
  rw [← hw1, ← hd]
  clear hw1 hd
  go_upto_region 3 with (go_at_call 8; refine hkn.mono ?_; rintro e w2 ⟨rfl, hb2⟩)
  have HX2 := HX1.below hb2
  have HB2 := Hid.mkW (HB1.out.trans (hb2.mono HB1.out.size))
  have hfew := few_any Z w2 m ve vv vd (HM.out.below HB2.out) HG.out
  clear hkn hb2 HX1
  by_cases hf : fewM m = false
  · rw [hf] at hfew
    go_wp2_with (first | (refine wpList_load_row rfl 28 _ rfl d rfl 28 _ (0, 0) _ HX2 Tryd.underlying28 rfl (by kernel_rfl) ?_) | (go_at_call 9; refine hfew.mono ?_; rintro e w3 ⟨rfl, hb3⟩))
    go_ret
    exact ⟨rfl, HB2.out.trans (hb3.mono HB2.out.size)⟩
  have hf' : fewM m = true := by simpa using hf
  rw [hf'] at hfew
  have HS : Hid (Small m) := few_small hf'
  clear hf hf'
  by_cases hM : 100 < M.length
  · go_wp2_with (first | (refine wpList_load_row rfl 28 _ rfl d rfl 28 _ (0, 0) _ HX2 Tryd.underlying28 rfl (by kernel_rfl) ?_) | (go_at_call 9; refine hfew.mono ?_; rintro e w3 ⟨rfl, hb3⟩))
    go_ret
    exact ⟨rfl, HB2.out.trans (hb3.mono HB2.out.size)⟩
  have hM' : decide (100 < M.length) = false := by simpa using hM
  have hM1 : M.length ≤ 100 := by omega
  go_upto_region 5 with (first | (refine wpList_load_row rfl 28 _ rfl d rfl 28 _ (0, 0) _ HX2 Tryd.underlying28 rfl (by kernel_rfl) ?_) | (go_at_call 9; refine hfew.mono ?_; rintro e w3 ⟨rfl, hb3⟩))
  have HX3 := HX2.below hb3
  have HB3 := Hid.mkW (HB2.out.trans (hb3.mono HB2.out.size))
  have henc := dEncode_any Z w3 m ve vv vd (HM.out.below HB3.out) HS.out HO.out (fun k hk => Nat.lt_of_lt_of_le (HZ.out k hk) HB3.out.size)
  clear hfew hb3 HX2 hM hM'
  by_cases he : encE m = 0
  case neg =>
    obtain ⟨q, hq⟩ : ∃ q, q = encE m := ⟨_, rfl⟩
    rw [← hq] at henc he
    have hqn : (q == 0) = false := by simpa using he
    have hqn2 : (q != 0) = true := by simpa using he
    clear hq he
    go_wp2_with (first | (refine wpList_load_row rfl 28 _ rfl d rfl 28 _ (0, 0) _ HX3 Tryd.underlying28 rfl (by kernel_rfl) ?_) | (go_at_call 11; refine henc.mono ?_; rintro e w4 ⟨v4, rfl, ho4, hb4⟩))
    go_ret
    exact ⟨rfl, HB3.out.trans (hb4.mono HB3.out.size)⟩
  have HR : Hid (encR m = frameB (msgB m)) := by show encR m = _; unfold encR; rw [if_pos he]
  have HE := Hid.mkW he
  rw [he] at henc
  clear he
  go_upto_region 8 with (first | (refine wpList_load_row rfl 28 _ rfl d rfl 28 _ (0, 0) _ HX3 Tryd.underlying28 rfl (by kernel_rfl) ?_) | (go_at_call 11; refine henc.mono ?_; rintro e w4 ⟨v4, rfl, ho4, hb4⟩))
  have hzb : isB (msgB m) := msgB_isB m HO.out
  have hzl : (msgB m).length ≤ 40000 := msg_pre m (HS.out.fit HE.out)
  rw [HR.out] at ho4
  have hlen := frameB_len (msgB m)
  have hfb := frameB_isB hzb (by omega)
  obtain ⟨z0, hz0⟩ : ∃ z0, z0 = frameB (msgB m) := ⟨_, rfl⟩
  rw [← hz0] at ho4 hlen hfb
  obtain ⟨g, c4, rfl, hgc, hgb⟩ := owns_formB ho4 (by omega)
  obtain ⟨n, hn⟩ : ∃ n, n = z0.length := ⟨_, rfl⟩
  have hnb : 8 ≤ n ∧ n ≤ 40008 := by omega
  rw [← hn]
  have hgc' : n ≤ c4 := by omega
  have hcm : c4 ≤ maxLen := by
    rcases ho4.2 with ⟨e, _⟩ | ⟨g', c', cur, e, _, _, h1, h2, _⟩
    · cases e
    · cases e; exact h2
  have hml4 : c4 ≤ 9223372036854775807 := by unfold maxLen at hcm; omega
  have HB4 := Hid.mkW (HB3.out.trans (hb4.mono HB3.out.size))
  have hgw : w.heap.size ≤ g := Nat.le_trans HB3.out.size hgb
  have H0 : Hid (isB z0 ∧ z0.length = n ∧ w4.ownsRow w.heap.size 5 1 (.slice (some ⟨g, 0, none⟩) n c4) n (u8s z0) ∧ Below w.heap.size w w4) := by
    rw [← hn] at ho4
    exact ⟨hfb, hn.symm, ho4.mono HB3.out.size, HB4.out⟩
  clear henc hzb hzl hlen hfb hz0 hn ho4 hb4 HX3 hgc hcm hgb HR HE HB4
  go_wp2
  go_loopg [13] 4 (fun kx s13 wq => ∃ (j : Nat) (zs : List Int), s13 = .int .i64 j ∧ kx + j = 4 ∧ j ≤ 3 ∧ Hid (isB zs ∧ zs.length = n ∧ wq.ownsRow w.heap.size 5 1 (.slice (some ⟨g, 0, none⟩) n c4) n (u8s zs) ∧ Below w.heap.size w wq))
  case atStart => exact ⟨0, z0, rfl, rfl, by omega, H0⟩
  case round =>
    obtain ⟨j, zs, rfl, hk, hj, HW⟩ := hrel
    clear H0
    by_cases hjk : j < A.length ∧ j < Y.length ∧ j < 3
    · obtain ⟨hj1, hj2, hj3⟩ := hjk
      obtain ⟨g1, o1, rfl, hl1, hc1⟩ := is_at HA.out hj1
      obtain ⟨g2, o2, rfl, hl2, hc2⟩ := bs_at HY.out hj2
      have ck := (HW.out.2.2.2.cell (p := ⟨g1, o1 + j, none⟩) hl1).trans hc1
      have cb2 := (HW.out.2.2.2.cell (p := ⟨g2, o2 + j, none⟩) hl2).trans hc2
      clear hc1 hc2
      obtain ⟨qa, hqa⟩ : ∃ qa, qa = A[j] := ⟨_, rfl⟩
      obtain ⟨y, hy⟩ : ∃ y, y = Y[j] := ⟨_, rfl⟩
      rw [← hqa] at ck
      rw [← hy] at cb2
      clear hqa hy hl1 hl2
      have hwb := withinF_bd qa n (by omega)
      obtain ⟨kk, hkk⟩ : ∃ kk : Nat, withinF qa n = kk := ⟨(withinF qa n).toNat, by omega⟩
      have hkN : kk < n := by omega
      have hwc := within_any qa n
      rw [hkk] at hwc
      have HWC := Hid.mkW hwc
      clear hwb hwc hkk
      obtain ⟨x, hx⟩ : ∃ x, zs[kk]? = some x := ⟨_, List.getElem?_eq_getElem (by rw [HW.out.2.1]; exact hkN)⟩
      have cy : wr.cell? ⟨g, kk, none⟩ = some (.int .u8 x) := by
        have := HW.out.2.2.1.cells (g := g) rfl kk (.int .u8 x) (by rw [List.getElem?_map, hx]; rfl)
        rwa [Addr.add_lit, Nat.zero_add] at this
      have fy : wr.frozen? ⟨g, kk, none⟩ = false := by
        rcases HW.out.2.2.1.2 with ⟨e, _⟩ | ⟨g', c', cur, e, _, hh, _⟩
        · cases e
        · cases e; exact frozen_of_row _ _ _ _ _ hh
      have hkI : (kk : Int) < n := by omega
      have hkI0 : (0 : Int) ≤ kk := by omega
      clear hx
      go_wp2_with fail
      go_region_with (go_at_call 16; refine (HWC.out _ (by omega) (by omega)).mono ?_; rintro e w' ⟨rfl, rfl⟩)
      all_goals
        go_wp2
        go_roundg (4 - (j + 1))
        case measure => omega
        case rel =>
          refine ⟨j + 1, zs.set kk ((x + y) % 256), by congr 1, by omega, by omega, ?_, by rw [List.length_set]; exact HW.out.2.1, ?_, ?_⟩
          · intro u hu
            rcases List.mem_or_eq_of_mem_set hu with h | h
            · exact HW.out.1 u h
            · rw [h]; omega
          · have := row_set HW.out.2.2.1 kk (.int .u8 ((x + y) % 256))
            have e : u8s (zs.set kk ((x + y) % 256)) = (u8s zs).set kk (.int .u8 ((x + y) % 256)) := List.map_set
            rw [e]
            exact this
          · exact (HW.out.2.2.2.setCell (p := ⟨g, kk, none⟩) hgw _).drew
    · have hex : ¬ j < A.length ∨ (j < A.length ∧ ¬ j < Y.length) ∨ (j < A.length ∧ j < Y.length ∧ ¬ j < 3) := by omega
      clear hjk
      go_upto_region 9 with fail
      go_cut [48] from 35 to 48 (fun s48 wc => s48 = .bool false ∧ wc = wr)
      case first =>
        rcases hex with h | ⟨h1, h2⟩ | ⟨h1, h2, h3⟩
        all_goals
          go_wp2
          go_meet
          first
            | exact ⟨rfl, rfl⟩
            | exact ⟨by congr 1; exact decide_eq_false (by omega), rfl⟩
      case rest =>
      obtain ⟨rfl, hwc⟩ := hcut
      obtain rfl := hwc.symm
      clear hex
      by_cases hc : 0 < cut
      · obtain ⟨r, hr⟩ : ∃ r : Nat, withinF cut ((n + 1 : Nat) : Int) = (r : Int) := ⟨(withinF cut ((n + 1 : Nat) : Int)).toNat, by have := withinF_bd cut (n + 1) (by omega); omega⟩
        have hrn : r ≤ n := by have := withinF_bd cut (n + 1) (by omega); omega
        have hwi := within_any cut (n + 1)
        rw [hr] at hwi
        have HWI : Hid (∀ W, Calls Tryd.prog 16 #[.int .i64 cut, .int .i64 ((n : Int) + 1)] W fun e w' => e = .returned (iv r) ∧ w' = W) := fun W => by
          have := hwi W (by omega) (by omega)
          simpa using this
        clear hwi hr
        obtain ⟨k, hk'⟩ : ∃ k, k = n - r := ⟨_, rfl⟩
        have hkr : (n : Int) - r = (k : Int) := by omega
        have hkn : k ≤ n := by omega
        have HOC := Hid.mkW (own_cut HW.out.2.2.1 k hkn)
        have HBc := Hid.mkW HW.out.2.2.2
        have HTB : Hid (isB (zs.take k)) := fun x hx => HW.out.1 x (List.mem_of_mem_take hx)
        have HTL : Hid ((zs.take k).length = k) := by show _ = _; simp [HW.out.2.1]; omega
        obtain ⟨ts, hts⟩ : ∃ ts, ts = zs.take k := ⟨_, rfl⟩
        rw [← hts] at HOC HTB HTL
        clear hts hk' HW
        go_upto_region 14 with (go_at_call 16; refine (HWI.out _).mono ?_; rintro e w' ⟨rfl, hw'⟩; obtain rfl := hw'.symm)
        -- behind the cut: the bytes ts, of length k, at the row's front
        have hsM : Src Tryd.prog 1 26 (.slice pm M.length cm) M.length (u8s M) wr := Src_sees ((HMO.out.below HBc.out).s)
        obtain ⟨i0, hi, hz0, hz1, hz2⟩ := info_parts info5
        have hoc := HOC.out
        go_upto_region 15 with (at_builtin; refine wpList_app _ rfl (.tmp 79) (.tmp 80) 26 26 rfl w.heap.size 5 i0 Tryd.underlying26 hi hz0 hz1 hz2 _ k (u8s ts) rfl hoc _ rfl _ _ hsM (by omega) HBc.out.size ?_; intro v8 w8 q1 q2 q3 q4)
        clear hsM hoc
        obtain ⟨xs, hxs⟩ : ∃ xs, xs = ts ++ M := ⟨_, rfl⟩
        have hxl : xs.length = k + M.length := by rw [hxs, List.length_append, HTL.out]
        have q1' : w8.ownsRow w.heap.size 5 1 v8 xs.length (u8s xs) := by
          rw [hxl, hxs]
          have e : u8s (ts ++ M) = u8s ts ++ u8s M := List.map_append
          rw [e]
          exact q1
        have hxb : isB xs := by
          rw [hxs]
          intro x hx
          rcases List.mem_append.1 hx with h | h
          · exact HTB.out x h
          · exact HMB.out x h
        have HB8 : Hid (Below w.heap.size w w8) := HBc.out.trans (q2.below HBc.out.size (fun k' hk e => by have := (HOC.out.lt k' e.symm).1; omega))
        have hxl2 : xs.length ≤ 90000 := by omega
        obtain ⟨p8, c8, rfl⟩ := owns_formB0 q1'
        have HXB := Hid.mkW hxb
        have HQ8 := Hid.mkW q1'
        clear q1 q2 q3 q4 q1' hxb hxs
        clear hxl
        have hown : (w8.alloc (.cells #[] 5)).ownsRow w8.heap.size 5 1 (.slice (some ⟨w8.heap.size, 0, none⟩) 0 0) 0 [] := World.ownsRow_lit (size := 1) (e := 5) w8 #[] 0 (Nat.le_refl _) (by decide) rfl
        have hsA : Src Tryd.prog 1 26 (.slice p8 xs.length c8) xs.length (u8s xs) (w8.alloc (.cells #[] 5)) := Src_sees ((sees_own HQ8.out).below ((Below.refl _ w8).alloc (Nat.le_refl _) _))
        have hpar : ∀ v9 w9, w9.ownsRow w8.heap.size 5 1 v9 (0 + xs.length) ([] ++ u8s xs) → Upd (w8.alloc (.cells #[] 5)) w9 (fun k => some k = (Value.slice (some ⟨w8.heap.size, 0, none⟩) 0 0).ownBlock) → Calls Tryd.prog 12 #[v9] w9 fun e w' => ∃ pe ce pv cv pd cd, e = .returned (.tuple #[.agg (mrow (pM xs) (.slice pe (pM xs).es.length ce) (.slice pv (pM xs).vs.length cv) (.slice pd (pM xs).data.length cd)), iv (pX xs)]) ∧ Hid (Ms (fun k => w8.heap.size ≤ k) w' (.slice pe (pM xs).es.length ce) (.slice pv (pM xs).vs.length cv) (.slice pd (pM xs).data.length cd) (pM xs) ∧ Below w8.heap.size w8 w') := by
          intro v9 w9 r1 r2
          rw [Nat.zero_add, List.nil_append] at r1
          have hb9 : Below w8.heap.size w8 w9 := ((Below.refl _ _).alloc (Nat.le_refl _) _).trans (r2.below (by simp) (fun k hk e => by have e1 : some k = some w8.heap.size := e; cases e1; omega))
          refine (parse_any v9 xs w9 (HT.out.below (HB8.out.trans (hb9.mono HB8.out.size))) HXB.out (by omega) (sees_own r1)).mono ?_
          rintro e w' ⟨pe, ce, pv, cv, pd, cd, rfl, h1, h2⟩
          exact ⟨pe, ce, pv, cv, pd, cd, rfl, h1.mono (fun k hk => Nat.le_trans hb9.size hk), hb9.trans (h2.mono hb9.size)⟩
        go_wp2_with (first | (at_builtin; refine wpList_app _ rfl (.tmp 83) (.tmp 84) 26 26 rfl w8.heap.size 5 i0 Tryd.underlying26 hi hz0 hz1 hz2 _ 0 [] rfl hown _ rfl _ _ hsA (by omega) (by simp) ?_; intro v9 w9 r1 r2 _ _; have hpc := hpar v9 w9 r1 r2; clear r1 r2))
        refine hpc.mono ?_
        rintro e w10 ⟨pe, ce, pv, cv, pd, cd, rfl, h10⟩
        obtain ⟨P, hP⟩ : ∃ P, P = pM xs := ⟨_, rfl⟩
        obtain ⟨E, hE⟩ : ∃ E, E = pX xs := ⟨_, rfl⟩
        obtain ⟨R1, hR1⟩ : ∃ R1, R1 = mrow P (.slice pe P.es.length ce) (.slice pv P.vs.length cv) (.slice pd P.data.length cd) := ⟨_, rfl⟩
        rw [← hP] at h10 ⊢
        rw [← hE, ← hR1]
        have HPP := Hid.mkW hP
        have HEE := Hid.mkW hE
        have HRR := Hid.mkW hR1
        have H10 := Hid.mkW h10.out
        clear hpc hpar h10 hown hsA hP hE hR1
        obtain ⟨d14, hd14⟩ : ∃ d14, d14 = w10.heap.size := ⟨_, rfl⟩
        have hr14 : (w10.alloc (.cells zrow 28)).heap[w10.heap.size]? = some (.cells zrow 28 (0, 0)) := row_alloc w10 zrow 28
        have hb11 : Below w10.heap.size w10 (w10.alloc (.cells zrow 28)) := (Below.refl _ _).alloc (Nat.le_refl _) _
        obtain ⟨HX11, u11⟩ := (show Bx w10.heap.size zrow 28 (w10.alloc (.cells zrow 28)) from hr14).fill (row' := R1)
        have HR1s : R1.size = 15 := by rw [HRR.out]; rfl
        have HR1a : R1.all (·.oneCell') = true := by rw [HRR.out]; kernel_rfl
        go_upto_region 16 with (refine wpList_store_row rfl 28 _ _ rfl w10.heap.size R1 rfl rfl 28 zrow hr14 (by rw [HR1s]; kernel_rfl) (by rw [HR1s]; rfl) HR1a ?_)
        obtain ⟨w11, hw11⟩ : ∃ w11, w11 = (w10.alloc (.cells zrow 28)).setRow w10.heap.size R1 := ⟨_, rfl⟩
        rw [← hw11] at HX11 u11
        have hw11' := hw11
        unfold zrow at hw11'
        rw [← hw11']
        have HB11 : Hid (Below w10.heap.size w10 w11) := hb11.trans (u11.below hb11.size (fun k' hk e => by have e1 : k' = w10.heap.size := e; omega))
        rw [← hd14] at HX11 ⊢
        have HD14 : Hid (w8.heap.size ≤ d14) := by show _ ≤ _; have := H10.out.2.size; omega
        clear hw11 hw11' hr14 hb11 u11 hd14
        have HBx : Hid (Below w8.heap.size w8 w11) := H10.out.2.trans (HB11.out.mono H10.out.2.size)
        have HM11 := Hid.mkW (H10.out.1.below HB11.out)
        have hp2 := dParse_any _ xs w11 HXB.out (by omega) ((sees_own HQ8.out).below HBx.out)
        rw [← HPP.out, ← HEE.out] at hp2
        clear H10 HB11
        go_wp2_with (fail)
        refine hp2.mono ?_
        rintro e w12 ⟨pe2, ce2, pv2, cv2, pd2, cd2, rfl, h12, hb12⟩
        obtain ⟨R2, hR2⟩ : ∃ R2, R2 = mrow P (.slice pe2 P.es.length ce2) (.slice pv2 P.vs.length cv2) (.slice pd2 P.data.length cd2) := ⟨_, rfl⟩
        rw [← hR2]
        have HX12 := HX11.below hb12
        have HRQ := Hid.mkW hR2
        have HM12 := Hid.mkW (HM11.out.below hb12)
        have H12 := Hid.mkW h12
        have HB12 := Hid.mkW hb12
        have hr16 : (w12.alloc (.cells zrow 28)).heap[w12.heap.size]? = some (.cells zrow 28 (0, 0)) := row_alloc w12 zrow 28
        have hb13 : Below w12.heap.size w12 (w12.alloc (.cells zrow 28)) := (Below.refl _ _).alloc (Nat.le_refl _) _
        obtain ⟨HX13, u13⟩ := (show Bx w12.heap.size zrow 28 (w12.alloc (.cells zrow 28)) from hr16).fill (row' := R2)
        have HR2s : R2.size = 15 := by rw [HRQ.out]; rfl
        have HR2a : R2.all (·.oneCell') = true := by rw [HRQ.out]; kernel_rfl
        clear hp2 hR2 hb12 h12 HX11 HM11
        go_upto_region 17 with (refine wpList_store_row rfl 28 _ _ rfl w12.heap.size R2 rfl rfl 28 zrow hr16 (by rw [HR2s]; kernel_rfl) (by rw [HR2s]; rfl) HR2a ?_)
        obtain ⟨w13, hw13⟩ : ∃ w13, w13 = (w12.alloc (.cells zrow 28)).setRow w12.heap.size R2 := ⟨_, rfl⟩
        rw [← hw13] at HX13 u13
        have hw13' := hw13
        unfold zrow at hw13'
        rw [← hw13']
        have hb13' : Below w12.heap.size w12 w13 := hb13.trans (u13.below hb13.size (fun k' hk e => by have e1 : k' = w12.heap.size := e; omega))
        have HX14 := HX12.below hb13'
        have HB13 : Hid (Below w.heap.size w w13) := HB8.out.trans (((HBx.out.trans (HB12.out.mono HBx.out.size)).trans (hb13'.mono (Nat.le_trans HBx.out.size HB12.out.size))).mono HB8.out.size)
        obtain ⟨d16, hd16⟩ : ∃ d16, d16 = w12.heap.size := ⟨_, rfl⟩
        rw [← hd16] at HX13 ⊢
        have hes : P.es.length ≤ 1000000 ∧ P.vs.length ≤ 1000000 := by rw [HPP.out]; exact pM_len HXB.out
        have hsame := refSame_yes (HM12.out.below hb13') (H12.out.below hb13') hes.1 hes.2
        rw [← HRR.out, ← HRQ.out] at hsame
        have hEE : (E == E) = true := by simp
        clear hw13 hw13' hr16 hb13 u13 hd16 hb13' hes HX12
        go_wp2_with (first
          | (refine wpList_load_rowG (by kernel_rfl) 28 _ rfl d14 rfl 28 _ (0, 0) _ HX14 Tryd.underlying28 rfl (by rw [HR1s]; kernel_rfl) ?_)
          | (refine wpList_load_rowG (by kernel_rfl) 28 _ rfl d16 rfl 28 _ (0, 0) _ HX13 Tryd.underlying28 rfl (by rw [HR2s]; kernel_rfl) ?_)
          | (go_at_call 14; refine hsame.mono ?_; rintro e w14 ⟨rfl, hb14⟩))
        go_ret
        exact ⟨rfl, HB13.out.trans (hb14.mono HB13.out.size)⟩
      · have hc' : decide (0 < cut) = false := by simpa using hc
        obtain ⟨k, hk'⟩ : ∃ k, k = n := ⟨_, rfl⟩
        rw [← hk'] at HW hnb hgc' ⊢
        have HOC := Hid.mkW HW.out.2.2.1
        have HBc := Hid.mkW HW.out.2.2.2
        have HTB : Hid (isB zs) := HW.out.1
        have HTL : Hid (zs.length = k) := HW.out.2.1
        obtain ⟨ts, hts⟩ : ∃ ts, ts = zs := ⟨_, rfl⟩
        rw [← hts] at HOC HTB HTL
        clear hts hk' HW
        go_upto_region 14 with fail
        -- behind the cut: the bytes ts, of length k, at the row's front
        have hsM : Src Tryd.prog 1 26 (.slice pm M.length cm) M.length (u8s M) wr := Src_sees ((HMO.out.below HBc.out).s)
        obtain ⟨i0, hi, hz0, hz1, hz2⟩ := info_parts info5
        have hoc := HOC.out
        go_upto_region 15 with (at_builtin; refine wpList_app _ rfl (.tmp 79) (.tmp 80) 26 26 rfl w.heap.size 5 i0 Tryd.underlying26 hi hz0 hz1 hz2 _ k (u8s ts) rfl hoc _ rfl _ _ hsM (by omega) HBc.out.size ?_; intro v8 w8 q1 q2 q3 q4)
        clear hsM hoc
        obtain ⟨xs, hxs⟩ : ∃ xs, xs = ts ++ M := ⟨_, rfl⟩
        have hxl : xs.length = k + M.length := by rw [hxs, List.length_append, HTL.out]
        have q1' : w8.ownsRow w.heap.size 5 1 v8 xs.length (u8s xs) := by
          rw [hxl, hxs]
          have e : u8s (ts ++ M) = u8s ts ++ u8s M := List.map_append
          rw [e]
          exact q1
        have hxb : isB xs := by
          rw [hxs]
          intro x hx
          rcases List.mem_append.1 hx with h | h
          · exact HTB.out x h
          · exact HMB.out x h
        have HB8 : Hid (Below w.heap.size w w8) := HBc.out.trans (q2.below HBc.out.size (fun k' hk e => by have := (HOC.out.lt k' e.symm).1; omega))
        have hxl2 : xs.length ≤ 90000 := by omega
        obtain ⟨p8, c8, rfl⟩ := owns_formB0 q1'
        have HXB := Hid.mkW hxb
        have HQ8 := Hid.mkW q1'
        clear q1 q2 q3 q4 q1' hxb hxs
        clear hxl
        have hown : (w8.alloc (.cells #[] 5)).ownsRow w8.heap.size 5 1 (.slice (some ⟨w8.heap.size, 0, none⟩) 0 0) 0 [] := World.ownsRow_lit (size := 1) (e := 5) w8 #[] 0 (Nat.le_refl _) (by decide) rfl
        have hsA : Src Tryd.prog 1 26 (.slice p8 xs.length c8) xs.length (u8s xs) (w8.alloc (.cells #[] 5)) := Src_sees ((sees_own HQ8.out).below ((Below.refl _ w8).alloc (Nat.le_refl _) _))
        have hpar : ∀ v9 w9, w9.ownsRow w8.heap.size 5 1 v9 (0 + xs.length) ([] ++ u8s xs) → Upd (w8.alloc (.cells #[] 5)) w9 (fun k => some k = (Value.slice (some ⟨w8.heap.size, 0, none⟩) 0 0).ownBlock) → Calls Tryd.prog 12 #[v9] w9 fun e w' => ∃ pe ce pv cv pd cd, e = .returned (.tuple #[.agg (mrow (pM xs) (.slice pe (pM xs).es.length ce) (.slice pv (pM xs).vs.length cv) (.slice pd (pM xs).data.length cd)), iv (pX xs)]) ∧ Hid (Ms (fun k => w8.heap.size ≤ k) w' (.slice pe (pM xs).es.length ce) (.slice pv (pM xs).vs.length cv) (.slice pd (pM xs).data.length cd) (pM xs) ∧ Below w8.heap.size w8 w') := by
          intro v9 w9 r1 r2
          rw [Nat.zero_add, List.nil_append] at r1
          have hb9 : Below w8.heap.size w8 w9 := ((Below.refl _ _).alloc (Nat.le_refl _) _).trans (r2.below (by simp) (fun k hk e => by have e1 : some k = some w8.heap.size := e; cases e1; omega))
          refine (parse_any v9 xs w9 (HT.out.below (HB8.out.trans (hb9.mono HB8.out.size))) HXB.out (by omega) (sees_own r1)).mono ?_
          rintro e w' ⟨pe, ce, pv, cv, pd, cd, rfl, h1, h2⟩
          exact ⟨pe, ce, pv, cv, pd, cd, rfl, h1.mono (fun k hk => Nat.le_trans hb9.size hk), hb9.trans (h2.mono hb9.size)⟩
        go_wp2_with (first | (at_builtin; refine wpList_app _ rfl (.tmp 83) (.tmp 84) 26 26 rfl w8.heap.size 5 i0 Tryd.underlying26 hi hz0 hz1 hz2 _ 0 [] rfl hown _ rfl _ _ hsA (by omega) (by simp) ?_; intro v9 w9 r1 r2 _ _; have hpc := hpar v9 w9 r1 r2; clear r1 r2))
        refine hpc.mono ?_
        rintro e w10 ⟨pe, ce, pv, cv, pd, cd, rfl, h10⟩
        obtain ⟨P, hP⟩ : ∃ P, P = pM xs := ⟨_, rfl⟩
        obtain ⟨E, hE⟩ : ∃ E, E = pX xs := ⟨_, rfl⟩
        obtain ⟨R1, hR1⟩ : ∃ R1, R1 = mrow P (.slice pe P.es.length ce) (.slice pv P.vs.length cv) (.slice pd P.data.length cd) := ⟨_, rfl⟩
        rw [← hP] at h10 ⊢
        rw [← hE, ← hR1]
        have HPP := Hid.mkW hP
        have HEE := Hid.mkW hE
        have HRR := Hid.mkW hR1
        have H10 := Hid.mkW h10.out
        clear hpc hpar h10 hown hsA hP hE hR1
        obtain ⟨d14, hd14⟩ : ∃ d14, d14 = w10.heap.size := ⟨_, rfl⟩
        have hr14 : (w10.alloc (.cells zrow 28)).heap[w10.heap.size]? = some (.cells zrow 28 (0, 0)) := row_alloc w10 zrow 28
        have hb11 : Below w10.heap.size w10 (w10.alloc (.cells zrow 28)) := (Below.refl _ _).alloc (Nat.le_refl _) _
        obtain ⟨HX11, u11⟩ := (show Bx w10.heap.size zrow 28 (w10.alloc (.cells zrow 28)) from hr14).fill (row' := R1)
        have HR1s : R1.size = 15 := by rw [HRR.out]; rfl
        have HR1a : R1.all (·.oneCell') = true := by rw [HRR.out]; kernel_rfl
        go_upto_region 16 with (refine wpList_store_row rfl 28 _ _ rfl w10.heap.size R1 rfl rfl 28 zrow hr14 (by rw [HR1s]; kernel_rfl) (by rw [HR1s]; rfl) HR1a ?_)
        obtain ⟨w11, hw11⟩ : ∃ w11, w11 = (w10.alloc (.cells zrow 28)).setRow w10.heap.size R1 := ⟨_, rfl⟩
        rw [← hw11] at HX11 u11
        have hw11' := hw11
        unfold zrow at hw11'
        rw [← hw11']
        have HB11 : Hid (Below w10.heap.size w10 w11) := hb11.trans (u11.below hb11.size (fun k' hk e => by have e1 : k' = w10.heap.size := e; omega))
        rw [← hd14] at HX11 ⊢
        have HD14 : Hid (w8.heap.size ≤ d14) := by show _ ≤ _; have := H10.out.2.size; omega
        clear hw11 hw11' hr14 hb11 u11 hd14
        have HBx : Hid (Below w8.heap.size w8 w11) := H10.out.2.trans (HB11.out.mono H10.out.2.size)
        have HM11 := Hid.mkW (H10.out.1.below HB11.out)
        have hp2 := dParse_any _ xs w11 HXB.out (by omega) ((sees_own HQ8.out).below HBx.out)
        rw [← HPP.out, ← HEE.out] at hp2
        clear H10 HB11
        go_wp2_with (fail)
        refine hp2.mono ?_
        rintro e w12 ⟨pe2, ce2, pv2, cv2, pd2, cd2, rfl, h12, hb12⟩
        obtain ⟨R2, hR2⟩ : ∃ R2, R2 = mrow P (.slice pe2 P.es.length ce2) (.slice pv2 P.vs.length cv2) (.slice pd2 P.data.length cd2) := ⟨_, rfl⟩
        rw [← hR2]
        have HX12 := HX11.below hb12
        have HRQ := Hid.mkW hR2
        have HM12 := Hid.mkW (HM11.out.below hb12)
        have H12 := Hid.mkW h12
        have HB12 := Hid.mkW hb12
        have hr16 : (w12.alloc (.cells zrow 28)).heap[w12.heap.size]? = some (.cells zrow 28 (0, 0)) := row_alloc w12 zrow 28
        have hb13 : Below w12.heap.size w12 (w12.alloc (.cells zrow 28)) := (Below.refl _ _).alloc (Nat.le_refl _) _
        obtain ⟨HX13, u13⟩ := (show Bx w12.heap.size zrow 28 (w12.alloc (.cells zrow 28)) from hr16).fill (row' := R2)
        have HR2s : R2.size = 15 := by rw [HRQ.out]; rfl
        have HR2a : R2.all (·.oneCell') = true := by rw [HRQ.out]; kernel_rfl
        clear hp2 hR2 hb12 h12 HX11 HM11
        go_upto_region 17 with (refine wpList_store_row rfl 28 _ _ rfl w12.heap.size R2 rfl rfl 28 zrow hr16 (by rw [HR2s]; kernel_rfl) (by rw [HR2s]; rfl) HR2a ?_)
        obtain ⟨w13, hw13⟩ : ∃ w13, w13 = (w12.alloc (.cells zrow 28)).setRow w12.heap.size R2 := ⟨_, rfl⟩
        rw [← hw13] at HX13 u13
        have hw13' := hw13
        unfold zrow at hw13'
        rw [← hw13']
        have hb13' : Below w12.heap.size w12 w13 := hb13.trans (u13.below hb13.size (fun k' hk e => by have e1 : k' = w12.heap.size := e; omega))
        have HX14 := HX12.below hb13'
        have HB13 : Hid (Below w.heap.size w w13) := HB8.out.trans (((HBx.out.trans (HB12.out.mono HBx.out.size)).trans (hb13'.mono (Nat.le_trans HBx.out.size HB12.out.size))).mono HB8.out.size)
        obtain ⟨d16, hd16⟩ : ∃ d16, d16 = w12.heap.size := ⟨_, rfl⟩
        rw [← hd16] at HX13 ⊢
        have hes : P.es.length ≤ 1000000 ∧ P.vs.length ≤ 1000000 := by rw [HPP.out]; exact pM_len HXB.out
        have hsame := refSame_yes (HM12.out.below hb13') (H12.out.below hb13') hes.1 hes.2
        rw [← HRR.out, ← HRQ.out] at hsame
        have hEE : (E == E) = true := by simp
        clear hw13 hw13' hr16 hb13 u13 hd16 hb13' hes HX12
        go_wp2_with (first
          | (refine wpList_load_rowG (by kernel_rfl) 28 _ rfl d14 rfl 28 _ (0, 0) _ HX14 Tryd.underlying28 rfl (by rw [HR1s]; kernel_rfl) ?_)
          | (refine wpList_load_rowG (by kernel_rfl) 28 _ rfl d16 rfl 28 _ (0, 0) _ HX13 Tryd.underlying28 rfl (by rw [HR2s]; kernel_rfl) ?_)
          | (go_at_call 14; refine hsame.mono ?_; rintro e w14 ⟨rfl, hb14⟩))
        go_ret
        exact ⟨rfl, HB13.out.trans (hb14.mono HB13.out.size)⟩
end Go.Proofs.YtamgoknoapcnjaaDoor
