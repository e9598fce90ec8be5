/- The document's ReadMeta. -/
import Derived.Test.YtamgoknoapcnjaaDoorNY
import Derived.Test.YtamgoknoapcnjaaDoorNH
import Derived.Deep.RegionLaw
import Derived.Deep.LoopGhost
import Derived.Deep.CutRange
namespace Go.Proofs.YtamgoknoapcnjaaDoor
open Go Go.RowKit
theorem rMany_cut {α : Type} (one : St → α × St) {n : Nat} {s : St} (h : s.2 ≠ 0) : rMany one n s = ([], s) := by
  cases n with
  | zero => rfl
  | succ n => simp [rMany, h]
theorem owI_ne {B d T n : Nat} {W : World} {v : Value} {xs : List Value} {row : Array Value} (h : W.ownsRow B 3 1 v n xs) (hx : Bx d row T W) (hT : T ≠ 3) : some d ≠ v.ownBlock := by
  intro e
  rcases h.2 with ⟨rfl, _⟩ | ⟨g, cap, cur, rfl, _, hh, _⟩
  · simp [Value.ownBlock] at e
  · obtain rfl : d = g := by simpa [Value.ownBlock] using e
    have := hx.symm.trans hh
    simp at this
    exact hT this.2
theorem is_own {base : Nat} {w : World} {v : Value} {l : List Int} (h : w.ownsRow base 3 1 v l.length (l.map iv)) : Is (fun k => base ≤ k ∧ some k = v.ownBlock) w v l := by
  rcases h.2 with ⟨rfl, h0⟩ | ⟨g, cap, cur, rfl, hb, hh, h1, h2, h3, h4⟩
  · obtain rfl := List.eq_nil_of_length_eq_zero h0
    exact Is.nil _ _
  · refine ⟨_, _, rfl, h1, h2, fun i x hi => ⟨g, 0, rfl, ⟨hb, rfl⟩, ?_⟩⟩
    have := h.cells (g := g) rfl i (iv x) (by simp [hi])
    rwa [Addr.add_lit] at this
theorem Rf.vlt {w : World} {b : Nat} {v : Value} {xs : List Int} {a : Nat} {e : Int} (h : Rf w b v xs a e) : ∀ k, v.ownBlock = some k → 0 < xs.length → k < w.heap.size := by
  intro k hk h0
  rcases h.sees with ⟨rfl, _⟩ | ⟨g, off, cap, rfl, h1, h2, h3, hc⟩
  · simp at h0
  · have : g < w.heap.size := World.block_lt_of_cell? _ _ (hc 0 h1)
    have e : g = k := by simpa [Value.ownBlock] using hk
    omega
set_option maxRecDepth 100000 in
set_option maxHeartbeats 2000000 in
theorem zMeta {b : Nat} {w0 W : World} {v : Value} {xs : List Int} {s0 : St} (h : Rg w0 W b v xs s0) :
    Calls Tryd.prog 41 #[ptr b] W fun e w' => ∃ p c, e = .returned (.agg #[iv (rI xs s0).1, iv (rI xs (rI xs s0).2).1, .slice p (rList (rI xs) xs (rI xs (rI xs s0).2).2).1.length c]) ∧ Is (fun k => W.heap.size ≤ k) w' (.slice p (rList (rI xs) xs (rI xs (rI xs s0).2).2).1.length c) (rList (rI xs) xs (rI xs (rI xs s0).2).2).1 ∧ Rg w0 w' b v xs (rList (rI xs) xs (rI xs (rI xs s0).2).2).2 ∧ Upd W w' (fun k => k = b) := by
  obtain ⟨w1, hw1⟩ : ∃ w1, w1 = W.alloc (.cells #[iv 0, iv 0, .slice none 0 0] 25) := ⟨_, rfl⟩
  have hb1 : Below W.heap.size W w1 := by rw [hw1]; exact (Below.refl _ _).alloc (Nat.le_refl _) _
  obtain ⟨d2, hd2⟩ : ∃ d2, d2 = W.heap.size := ⟨_, rfl⟩
  have HY1 : Bx d2 #[iv 0, iv 0, .slice none 0 0] 25 w1 := by rw [hd2, hw1]; exact row_alloc W _ 25
  have H1 := h.below hb1
  have HV : Hid (∀ k, v.ownBlock = some k → 0 < xs.length → k < W.heap.size) := h.r.vlt
  have HU0 : Hid (w0.heap.size ≤ W.heap.size) := h.u.size
  have HBW : Hid (b < W.heap.size) := h.r.lt
  have HD2 : Hid (d2 = W.heap.size) := hd2
  have HB1 := Hid.mkW hb1
  have hdb : d2 ≠ b := by have := HBW.out; omega
  have HS1 : Hid (w1.heap.size = W.heap.size + 1) := by show _ = _; rw [hw1]; simp
  have hn := rU_bd h.r.bytes (rI xs (rI xs s0).2).2
  obtain ⟨n, hnn⟩ : ∃ n : Nat, (rU xs (rI xs (rI xs s0).2).2).1 = (n : Int) := ⟨(rU xs (rI xs (rI xs s0).2).2).1.toNat, by omega⟩
  have hn255 : n ≤ 255 := by omega
  have HL : Hid (rList (rI xs) xs (rI xs (rI xs s0).2).2 = rMany (rI xs) n (rU xs (rI xs (rI xs s0).2).2).2) := by show _ = _; unfold rList; rw [hnn]; rfl
  obtain ⟨i0, hi, hz0, hz1, hz2⟩ := info_parts infoI
  have k1 := zInt H1
  have k2 := fun W' (h2 : Rg w0 W' b v xs (rI xs s0).2) => zInt h2
  obtain ⟨mi, hmi⟩ : ∃ mi, mi = (rI xs s0).1 := ⟨_, rfl⟩
  obtain ⟨mt, hmt⟩ : ∃ mt, mt = (rI xs (rI xs s0).2).1 := ⟨_, rfl⟩
  obtain ⟨sn, hsn⟩ : ∃ sn, sn = (rI xs (rI xs s0).2).2 := ⟨_, rfl⟩
  obtain ⟨s1, hs1⟩ : ∃ s1, s1 = (rI xs s0).2 := ⟨_, rfl⟩
  rw [← hmi, ← hs1] at k1
  rw [← hmt, ← hsn, ← hs1] at k2
  rw [← hmi, ← hmt, ← hsn]
  rw [← hsn] at HL hnn
  have HNN := Hid.mkW hnn
  clear h hb1 hn hnn H1 hmi hmt hsn hs1
  go_enter Tryd.func41, Tryd.ntmps41
  go_upto_region 1 with fail
  rw [← hw1, ← hd2]
  clear hw1 hd2
  go_wp2_with (fail)
  refine k1.mono ?_
  rintro e w2 ⟨rfl, h2, u2⟩
  have HY2 := HY1.upd u2 hdb
  replace k2 := k2 _ h2
  have HU2 := Hid.mkW u2
  clear k1 h2 u2 HY1
  go_wp2_with (fail)
  refine k2.mono ?_
  rintro e w3 ⟨rfl, h3, u3⟩
  have HY3 := HY2.upd u3 hdb
  have HU3 := Hid.mkW (HU2.out.trans u3 (fun _ _ h => h))
  have H3 := Hid.mkW h3
  clear k2 h3 u3 HY2 HU2
  go_upto_region 2 with fail
  obtain ⟨w4, hw4⟩ : ∃ w4, w4 = w3.alloc (.cells #[iv mi, iv mt, .slice none 0 0] 25) := ⟨_, rfl⟩
  have hb4 : Below w3.heap.size w3 w4 := by rw [hw4]; exact (Below.refl _ _).alloc (Nat.le_refl _) _
  obtain ⟨d3, hd3⟩ : ∃ d3, d3 = w3.heap.size := ⟨_, rfl⟩
  have HX4 : Bx d3 #[iv mi, iv mt, .slice none 0 0] 25 w4 := by rw [hw4, hd3]; exact row_alloc w3 _ 25
  rw [← hw4, ← hd3]
  have HY4 := HY3.below hb4
  have HU4 := Hid.mkW (HU3.out.trans (Upd.ofBelow (S := fun k => k = b) hb4) (fun _ _ h => h))
  have H4 := H3.out.below hb4
  have HD3 : Hid (W.heap.size ≤ d3) := by
    show _ ≤ _
    have := HU3.out.size
    have := HS1.out
    omega
  have hd3b : d3 ≠ b := by have := HBW.out; have := HD3.out; omega
  have hd32 : d3 ≠ d2 := by
    have := HD2.out
    have := HU3.out.size
    have := HS1.out
    omega
  have k4 := zU8 H4
  rw [HNN.out] at k4
  clear hw4 hd3 HY3 HU3 H3 H4 hb4
  go_upto_region 3 with (go_at_call 38; refine k4.mono ?_; rintro e w5 ⟨rfl, h5, u5⟩; have H5 := Hid.mkW h5; have HY5 := HY4.upd u5 hdb; have HX5 := HX4.upd u5 hd3b; have HU5 := Hid.mkW (HU4.out.trans u5 (fun _ _ h => h)); clear h5 u5)
  have H0 : Hid (Rg w0 w5 b v xs (rU xs sn).2 ∧ w5.ownsRow W.heap.size 3 1 (.slice none 0 0) ([] : List Int).length (([] : List Int).map iv) ∧ Bx d3 #[iv mi, iv mt, .slice none ([] : List Int).length 0] 25 w5 ∧ Bx d2 #[iv 0, iv 0, .slice none 0 0] 25 w5 ∧ Upd W w5 (fun k => k = b) ∧ rMany (rI xs) n (rU xs sn).2 = ([] ++ (rMany (rI xs) n (rU xs sn).2).1, (rMany (rI xs) n (rU xs sn).2).2) ∧ ([] : List Int).length + n ≤ 255) :=
    ⟨H5.out, World.ownsRow_nil _ _ _ _, HX5, HY5, (Upd.ofBelow (S := fun k => k = b) HB1.out).trans HU5.out (fun _ _ h => h), rfl, by simpa using hn255⟩
  clear HX5 HY5 H5 HU5 HX4 HY4 HU4 k4
  go_wp2
  go_loopg [5] (n + 1) (fun kx s5 wq => ∃ (k j : Nat) (L : List Int) (s : St) (p : Option Addr) (c : Nat), s5 = .int .i64 j ∧ kx = k + 1 ∧ j + k = n ∧ Hid (Rg w0 wq b v xs s ∧ wq.ownsRow W.heap.size 3 1 (.slice p L.length c) L.length (L.map iv) ∧ Bx d3 #[iv mi, iv mt, .slice p L.length c] 25 wq ∧ Bx d2 #[iv 0, iv 0, .slice none 0 0] 25 wq ∧ Upd W wq (fun k => k = b) ∧ rMany (rI xs) n (rU xs sn).2 = (L ++ (rMany (rI xs) k s).1, (rMany (rI xs) k s).2) ∧ L.length + k ≤ 255))
  case atStart => exact ⟨n, 0, [], _, none, 0, rfl, rfl, by omega, H0⟩
  case round =>
    obtain ⟨k, j, L, s, p, c, rfl, hk, hjk, HW⟩ := hrel
    clear H0
    have r2 : wr.cell? ⟨b, 2, none⟩ = some (.bool (!(s.2 == 0))) := HW.out.1.r.c2
    by_cases hk0 : k = 0
    · subst hk0
      have hjn : ¬ (j < n) := by omega
      have HSP : Hid (rMany (rI xs) n (rU xs sn).2 = (L, s)) := by
        show _ = _
        rw [HW.out.2.2.2.2.2.1]
        simp [rMany]
      obtain ⟨h1, h2, h3, h4, h5, h6, h7⟩ := HW.out
      have a0 : wr.cell? ⟨d3, 0, none⟩ = some (iv mi) := h3.cell 0
      have a1 : wr.cell? ⟨d3, 1, none⟩ = some (iv mt) := h3.cell 1
      have a2 : wr.cell? ⟨d3, 2, none⟩ = some (.slice p L.length c) := h3.cell 2
      have f0 := h4.free 0
      have f1 := h4.free 1
      have f2 := h4.free 2
      have e0 : wr.cell? ⟨d2, 0, none⟩ = some (iv 0) := h4.cell 0
      have e1 : wr.cell? ⟨d2, 1, none⟩ = some (iv 0) := h4.cell 1
      have e2 : wr.cell? ⟨d2, 2, none⟩ = some (.slice none 0 0) := h4.cell 2
      have HX := Hid.mkW h4
      have HIS := Hid.mkW (is_own h2)
      have HH1 := Hid.mkW h1
      have HH5 := Hid.mkW h5
      have HH6 := Hid.mkW h6
      have HNO := Hid.mkW (owI_ne h2 h4 (by decide))
      clear h1 h2 h3 h4 h5 h6 HW
      go_wp2
      obtain ⟨w6, hw6⟩ : ∃ w6, w6 = ((wr.setCell ⟨d2, 0, none⟩ (iv mi)).setCell ⟨d2, 1, none⟩ (iv mt)).setCell ⟨d2, 2, none⟩ (.slice p L.length c) := ⟨_, rfl⟩
      have HX6 : Bx d2 #[iv mi, iv mt, .slice p L.length c] 25 w6 := by
        rw [hw6]
        exact ((HX.out.set 0 _ rfl).set 1 _ rfl).set 2 _ rfl
      have hu6 : Upd wr w6 (fun k => k = d2) := by
        rw [hw6]
        exact (((Upd.refl wr (fun k => k = d2)).setCell (.inr rfl) _).setCell (.inr rfl) _).setCell (.inr rfl) _
      rw [← hw6]
      clear hw6 a0 a1 a2 e0 e1 e2 f0 f1 f2
      have g0 : w6.cell? ⟨d2, 0, none⟩ = some (iv mi) := HX6.cell 0
      have g1 : w6.cell? ⟨d2, 1, none⟩ = some (iv mt) := HX6.cell 1
      have g2 : w6.cell? ⟨d2, 2, none⟩ = some (.slice p L.length c) := HX6.cell 2
      refine bodyPost_ret (v := .agg #[iv mi, iv mt, .slice p L.length c]) (by simp [results, Tryd.results41, go_sem, g0, g1, g2]) rfl ?_
      rw [HL.out, HSP.out]
      refine ⟨p, c, rfl, (HIS.out.upd hu6 (fun k hk _ e => HNO.out (by rw [← hk.2, e]))).mono (fun k hk => hk.1), HH1.out.upd hu6 (fun e => hdb e.symm) (fun k hk h0 e => ?_) (fun k hk e => ?_), HH5.out.trans hu6 (fun j hj e => by have := HD2.out; omega)⟩
      · have := HV.out k hk h0
        have := HD2.out
        omega
      · have := HD2.out
        have := HU0.out
        omega
    by_cases hs : s.2 = 0
    · have hsd : (s.2 == 0) = true := by simp [hs]
      obtain ⟨k, rfl⟩ : ∃ k', k = k' + 1 := ⟨k - 1, by omega⟩
      have hjn : j < n := by omega
      have hLl : L.length ≤ 255 := by have := HW.out.2.2.2.2.2.2; omega
      have hr := zInt (HW.out.1.below (Below.refl wr.heap.size wr).drew)
      obtain ⟨x, hx⟩ : ∃ x, x = rI xs s := ⟨_, rfl⟩
      rw [← hx] at hr
      have HXX := Hid.mkW hx
      have HSS := Hid.mkW hs
      have c2 := fun W' (h : Bx d3 #[iv mi, iv mt, .slice p L.length c] 25 W') => (h.cell 2 : _ = some (Value.slice p L.length c))
      have HXr : Bx d3 #[iv mi, iv mt, .slice p L.length c] 25 wr.drew := HW.out.2.2.1
      have HP : Hid (∀ w6, Rg w0 w6 b v xs x.2 → Upd wr.drew w6 (fun k => k = b) →
          (w6.alloc (.cells #[iv x.1] 3)).ownsRow W.heap.size 3 1 (.slice p L.length c) L.length (L.map iv) ∧ Bx d3 #[iv mi, iv mt, .slice p L.length c] 25 w6 ∧ Bx d3 #[iv mi, iv mt, .slice p L.length c] 25 (w6.alloc (.cells #[iv x.1] 3)) ∧ W.heap.size ≤ (w6.alloc (.cells #[iv x.1] 3)).heap.size ∧
          ∀ v7 w7, w7.ownsRow W.heap.size 3 1 v7 (L.length + 1) (L.map iv ++ [iv x.1]) → Upd (w6.alloc (.cells #[iv x.1] 3)) w7 (fun k => some k = (Value.slice p L.length c).ownBlock) →
            w7.cell? ⟨d3, 2, none⟩ = some (.slice p L.length c) ∧ w7.frozen? ⟨d3, 2, none⟩ = false ∧
            Hid (Rg w0 (w7.setCell ⟨d3, 2, none⟩ v7) b v xs x.2 ∧ (w7.setCell ⟨d3, 2, none⟩ v7).ownsRow W.heap.size 3 1 v7 (L ++ [x.1]).length ((L ++ [x.1]).map iv) ∧ Bx d3 #[iv mi, iv mt, v7] 25 (w7.setCell ⟨d3, 2, none⟩ v7) ∧ Bx d2 #[iv 0, iv 0, .slice none 0 0] 25 (w7.setCell ⟨d3, 2, none⟩ v7) ∧ Upd W (w7.setCell ⟨d3, 2, none⟩ v7) (fun k => k = b))) := by
        intro w6 r6 u6
        obtain ⟨h1, h2, h3, h4, h5, -, -⟩ := HW.out
        have u6' : Upd wr w6 (fun k => k = b) := (Upd.ofBelow (S := fun k => k = b) (Below.refl wr.heap.size wr).drew).trans u6 (fun _ _ h => h)
        have hb6 : Below w6.heap.size w6 (w6.alloc (.cells #[iv x.1] 3)) := (Below.refl _ _).alloc (Nat.le_refl _) _
        have hlt := h2.lt
        have hbb := HBW.out
        have q3 := (h3.upd u6' hd3b)
        have q4 := (h4.upd u6' hdb).below hb6
        have q2 := ownsRow_upd (ownsRow_upd h2 u6' (fun k hk e => by have := (hlt k hk).1; omega)) (Upd.ofBelow (S := fun _ => False) hb6) (fun _ _ h => h)
        have n3 := owI_ne q2 (q3.below hb6) (by decide)
        have n4 := owI_ne q2 q4 (by decide)
        refine ⟨q2, q3, q3.below hb6, by have := h5.size; have := u6'.size; simp; omega, fun v7 w7 y1 y2 => ?_⟩
        have z3 := (q3.below hb6).upd y2 n3
        have z4 := q4.upd y2 n4
        have n5 := owI_ne y1 z3 (by decide)
        have us : Upd w7 (w7.setCell ⟨d3, 2, none⟩ v7) (fun k => k = d3) := (Upd.refl w7 (fun k => k = d3)).setCell (p := ⟨d3, 2, none⟩) (.inr rfl) _
        have hD := HD3.out
        refine ⟨z3.cell 2, z3.free 2, ?_, ?_, z3.set 2 v7 rfl, z4.upd us (fun e => hd32 e.symm), ?_⟩
        · have r7 : Rg w0 w7 b v xs x.2 := by
            refine (r6.below hb6).upd y2 (fun e => ?_) (fun k hk h0 e => ?_) (fun k hk e => ?_)
            · have := (hlt _ e.symm).1; omega
            · have := (hlt _ e.symm).1; have := HV.out k hk h0; omega
            · have := (hlt _ e.symm).1; have := HU0.out; omega
          refine r7.upd us (fun e => hd3b e.symm) (fun k hk h0 e => ?_) (fun k hk e => ?_)
          · have := HV.out k hk h0; omega
          · have := HU0.out; omega
        · have := ownsRow_upd y1 us (fun k hk e => n5 (by rw [hk, e]))
          simpa using this
        · refine (((h5.trans u6' (fun _ _ h => h)).trans (Upd.ofBelow (S := fun k => k = b) hb6) (fun _ _ h => h)).trans y2 (fun j hj e => ?_)).trans us (fun j hj e => ?_)
          · have := (hlt _ e.symm).1
            omega
          · omega
      clear hx hs
      go_upto_region 6 with fail
      go_region_law (first
        | (go_simp; go_at_call 39; (with_reducible refine hr.mono ?_); rintro e w6 ⟨rfl, h6, u6⟩; obtain ⟨y0, HX6, HX6a, y1, hy⟩ := HP.out w6 h6 u6; have HY0 := Hid.mkW y0; have HYY := Hid.mkW hy; clear y0 hy h6 u6)
        | (refine step_appS _ rfl _ _ 23 23 rfl W.heap.size 3 i0 _ 1 Tryd.underlying23 hi hz0 hz1 rfl (by rw [hz2]; decide) (.slice p L.length c) L.length (L.map iv) (by simp [Act.eval]; done) HY0.out (.slice (some ⟨w6.heap.size, 0, none⟩) 1 1) (by simp [Act.eval]; done) 1 [iv x.1] (src_int w6 x.1) (by omega) y1 ?_; intro v7 w7 q1 q2 _ _; obtain ⟨z0, z1, HZ⟩ := HYY.out v7 w7 q1 q2; obtain ⟨np, nc, rfl⟩ := owns_formB0 q1; clear q1 q2))
      all_goals
        go_wp2
        go_roundg (k + 1)
        case measure => omega
        case rel =>
          obtain ⟨n1, n2, n3, n4, n5⟩ := HZ.out
          refine ⟨k, j + 1, L ++ [x.1], x.2, np, nc, by congr 1, rfl, by omega, n1, by simpa using n2, by simpa using n3, n4, n5, ?_, by have := HW.out.2.2.2.2.2.2; simp; omega⟩
          rw [HW.out.2.2.2.2.2.1]
          simp only [rMany, if_pos HSS.out, ← HXX.out, List.append_assoc, List.singleton_append]
    · have hsd : (s.2 == 0) = false := by simpa using hs
      have hjn : j < n := by omega
      have HSP : Hid (rMany (rI xs) n (rU xs sn).2 = (L, s)) := by
        show _ = _
        rw [HW.out.2.2.2.2.2.1, rMany_cut _ hs]
        simp
      clear hs
      obtain ⟨h1, h2, h3, h4, h5, h6, h7⟩ := HW.out
      have a0 : wr.cell? ⟨d3, 0, none⟩ = some (iv mi) := h3.cell 0
      have a1 : wr.cell? ⟨d3, 1, none⟩ = some (iv mt) := h3.cell 1
      have a2 : wr.cell? ⟨d3, 2, none⟩ = some (.slice p L.length c) := h3.cell 2
      have f0 := h4.free 0
      have f1 := h4.free 1
      have f2 := h4.free 2
      have e0 : wr.cell? ⟨d2, 0, none⟩ = some (iv 0) := h4.cell 0
      have e1 : wr.cell? ⟨d2, 1, none⟩ = some (iv 0) := h4.cell 1
      have e2 : wr.cell? ⟨d2, 2, none⟩ = some (.slice none 0 0) := h4.cell 2
      have HX := Hid.mkW h4
      have HIS := Hid.mkW (is_own h2)
      have HH1 := Hid.mkW h1
      have HH5 := Hid.mkW h5
      have HH6 := Hid.mkW h6
      have HNO := Hid.mkW (owI_ne h2 h4 (by decide))
      clear h1 h2 h3 h4 h5 h6 HW
      go_wp2
      obtain ⟨w6, hw6⟩ : ∃ w6, w6 = ((wr.setCell ⟨d2, 0, none⟩ (iv mi)).setCell ⟨d2, 1, none⟩ (iv mt)).setCell ⟨d2, 2, none⟩ (.slice p L.length c) := ⟨_, rfl⟩
      have HX6 : Bx d2 #[iv mi, iv mt, .slice p L.length c] 25 w6 := by
        rw [hw6]
        exact ((HX.out.set 0 _ rfl).set 1 _ rfl).set 2 _ rfl
      have hu6 : Upd wr w6 (fun k => k = d2) := by
        rw [hw6]
        exact (((Upd.refl wr (fun k => k = d2)).setCell (.inr rfl) _).setCell (.inr rfl) _).setCell (.inr rfl) _
      rw [← hw6]
      clear hw6 a0 a1 a2 e0 e1 e2 f0 f1 f2
      have g0 : w6.cell? ⟨d2, 0, none⟩ = some (iv mi) := HX6.cell 0
      have g1 : w6.cell? ⟨d2, 1, none⟩ = some (iv mt) := HX6.cell 1
      have g2 : w6.cell? ⟨d2, 2, none⟩ = some (.slice p L.length c) := HX6.cell 2
      refine bodyPost_ret (v := .agg #[iv mi, iv mt, .slice p L.length c]) (by simp [results, Tryd.results41, go_sem, g0, g1, g2]) rfl ?_
      rw [HL.out, HSP.out]
      refine ⟨p, c, rfl, (HIS.out.upd hu6 (fun k hk _ e => HNO.out (by rw [← hk.2, e]))).mono (fun k hk => hk.1), HH1.out.upd hu6 (fun e => hdb e.symm) (fun k hk h0 e => ?_) (fun k hk e => ?_), HH5.out.trans hu6 (fun j hj e => by have := HD2.out; omega)⟩
      · have := HV.out k hk h0
        have := HD2.out
        omega
      · have := HD2.out
        have := HU0.out
        omega
end Go.Proofs.YtamgoknoapcnjaaDoor
