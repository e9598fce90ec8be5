/- The document's bytes of a meta. -/
import Derived.Test.YtamgoknoapcnjaaDoorNY
import Derived.Deep.RegionLaw
import Derived.Deep.CutRange
import Derived.Deep.LoopGhost
namespace Go.Proofs.YtamgoknoapcnjaaDoor
open Go Go.RowKit
theorem OwPost.below0 {B : Nat} {w0 W W' : World} {v0 v : Value} {xs : List Int} (h : OwPost B w0 W v0 v xs) (hb : Below W.heap.size W W') : OwPost B w0 W' v0 v xs :=
  ⟨ownsRow_upd h.1 (Upd.ofBelow (S := fun _ => False) hb) (fun _ _ h => h), h.2.1.trans (Upd.ofBelow (S := fun _ => False) hb) (fun _ _ h => h.elim), h.2.2⟩
theorem OwPost.old {B : Nat} {w0 W : World} {v0 v : Value} {ys : List Int} (h : OwPost B w0 W v0 v ys) (hB : B ≤ w0.heap.size) (h0 : ∀ k, v0.ownBlock = some k → B ≤ k) : Below B w0 W :=
  h.2.1.below hB (fun k hk e => by have := h0 k e.symm; omega)
/-- Boxes stay, but for rows of bytes. -/
def Kp (W w' : World) : Prop := ∀ d row T, T ≠ 5 → Bx d row T W → Bx d row T w'
theorem ow_bx {B : Nat} {W w' : World} {v v' : Value} {xs ys : List Int} (h : W.ownsRow B 5 1 v xs.length (u8s xs)) (k : OwPost B W w' v v' ys) : Kp W w' := by
  intro d row T hT hx
  refine hx.upd k.2.1 (fun e => ?_)
  rcases h.2 with ⟨rfl, _⟩ | ⟨g, cap, cur, rfl, _, hh, _⟩
  · simp [Value.ownBlock] at e
  · obtain rfl : d = g := by simpa [Value.ownBlock] using e
    have := hx.symm.trans hh
    simp at this
    exact hT this.2
theorem yU8w {B : Nat} {w0 W : World} {v0 v : Value} {xs : List Int} (h : OwPost B w0 W v0 v xs) (hB : B ≤ w0.heap.size) (hl : xs.length ≤ 800000) (n : Int) :
    Calls Tryd.prog 28 #[v, iv n] W fun e w' => ∃ p m c, e = .returned (.slice p m c) ∧ OwPost B w0 w' v0 (.slice p m c) (xs ++ b1 n) ∧ Kp W w' := by
  refine (fU8w B v xs n W h.1 (by omega) (Nat.le_trans hB h.2.1.size)).mono ?_
  rintro e w' ⟨v', rfl, k⟩
  obtain ⟨p, c, rfl⟩ := owns_formB0 k.1
  exact ⟨p, _, c, rfl, h.trans k, ow_bx h.1 k⟩
theorem yIntw {B : Nat} {w0 W : World} {v0 v : Value} {xs : List Int} (h : OwPost B w0 W v0 v xs) (hB : B ≤ w0.heap.size) (hl : xs.length ≤ 800000) (n : Int) :
    Calls Tryd.prog 29 #[v, iv n] W fun e w' => ∃ p m c, e = .returned (.slice p m c) ∧ OwPost B w0 w' v0 (.slice p m c) (xs ++ b8 n) ∧ Kp W w' := by
  refine (fIntw B v xs n W h.1 (by omega) (Nat.le_trans hB h.2.1.size)).mono ?_
  rintro e w' ⟨v', rfl, k⟩
  obtain ⟨p, c, rfl⟩ := owns_formB0 k.1
  exact ⟨p, _, c, rfl, h.trans k, ow_bx h.1 k⟩
set_option maxRecDepth 100000 in
set_option maxHeartbeats 2000000 in
theorem fMeta {B : Nat} {w0 W : World} {v0 v : Value} {xs vs : List Int} {p : Option Addr} {c : Nat} {Z : Nat → Prop} (mi mt : Int) (h : OwPost B w0 W v0 v xs) (hB : B ≤ w0.heap.size) (hl : xs.length + 8 * vs.length ≤ 700000) (hv : Is Z W (.slice p vs.length c) vs) (hZ : ∀ k, Z k → k < B) (hv0 : ∀ k, v0.ownBlock = some k → B ≤ k) :
    Calls Tryd.prog 32 #[v, .agg #[iv mi, iv mt, .slice p vs.length c]] W fun e w' => ∃ v', e = .returned v' ∧ OwPost B w0 w' v0 v' (xs ++ (b8 mi ++ (b8 mt ++ (b1 (vs.length : Nat) ++ intsB vs)))) := by
  obtain ⟨w1, hw1⟩ : ∃ w1, w1 = W.alloc (.cells #[iv mi, iv mt, .slice p vs.length c] 25) := ⟨_, rfl⟩
  have hb1 : Below W.heap.size W w1 := by rw [hw1]; exact (Below.refl _ _).alloc (Nat.le_refl _) _
  obtain ⟨d, hd⟩ : ∃ d, d = W.heap.size := ⟨_, rfl⟩
  have HX1 : Bx d #[iv mi, iv mt, .slice p vs.length c] 25 w1 := by rw [hd, hw1]; exact row_alloc W _ 25
  have HXd : Bx d #[iv mi, iv mt, .slice p vs.length c] 25 w1.drew := HX1
  have HP := (h.below0 hb1).below0 (Below.refl w1.heap.size w1).drew
  have c0 := fun W' (h : Bx d #[iv mi, iv mt, .slice p vs.length c] 25 W') => (h.cell 0 : _ = some (iv mi))
  have c1 := fun W' (h : Bx d #[iv mi, iv mt, .slice p vs.length c] 25 W') => (h.cell 1 : _ = some (iv mt))
  have c2 := fun W' (h : Bx d #[iv mi, iv mt, .slice p vs.length c] 25 W') => (h.cell 2 : _ = some (Value.slice p vs.length c))
  have k1 := yIntw HP hB (by omega) mi
  have HH := Hid.mkW h
  clear h hb1 HP
  go_enter Tryd.func32, Tryd.ntmps32
  go_upto_region 1 with fail
  rw [← hw1, ← hd]
  clear hw1 hd
  go_cut [0] from 6 to 16 (fun s0 wc => ∃ p1 m1 q1, s0 = .slice p1 m1 q1 ∧ Hid (OwPost B w0 wc v0 (.slice p1 m1 q1) (((xs ++ b8 mi) ++ b8 mt) ++ b1 (vs.length : Nat))) ∧ Bx d #[iv mi, iv mt, .slice p vs.length c] 25 wc)
  case first =>
    go_region_law ((first
      | (go_simp; go_at_call 28; (with_reducible refine (yU8w HQ2.out hB (by simp only [List.length_append, b8_len]; omega) _).mono ?_); rintro e w4 ⟨p4, m4, c4, rfl, hp4, hk4⟩; have HX4 := hk4 _ _ _ (by decide) HX3; have HQ3 := Hid.mkW hp4; clear hp4 hk4)
      | (go_simp; go_at_call 29; (with_reducible refine k1.mono ?_); rintro e w2 ⟨p2, m2, c2', rfl, hp2, hk2⟩; have HX2 := hk2 _ _ _ (by decide) HXd; have HQ1 := Hid.mkW hp2; have k2 := yIntw hp2 hB (by simp only [List.length_append, b8_len]; omega) mt; clear hp2 hk2)
      | (go_simp; go_at_call 29; (with_reducible refine k2.mono ?_); rintro e w3 ⟨p3, m3, c3, rfl, hp3, hk3⟩; have HX3 := hk3 _ _ _ (by decide) HX2; have HQ2 := Hid.mkW hp3; clear hp3 hk3)))
    all_goals
      go_wp2_with fail
      go_meet
      exact ⟨p4, m4, c4, rfl, HQ3, HX4⟩
  case rest =>
  obtain ⟨p1, m1, q1, rfl, HP1, HXc⟩ := hcut
  have hvl : vs.length ≤ 9223372036854775807 := by omega
  have HV := Hid.mkW hv
  have HZ := Hid.mkW hZ
  have H0 : Hid (OwPost B w0 wc v0 (.slice p1 m1 q1) ((((xs ++ b8 mi) ++ b8 mt) ++ b1 (vs.length : Nat)) ++ intsB (vs.take 0)) ∧ Bx d #[iv mi, iv mt, .slice p vs.length c] 25 wc) := by
    refine ⟨?_, HXc⟩
    have := HP1.out
    simpa [intsB] using this
  clear HP1 k1 HXd HX1 HXc hv hZ
  go_wp2
  go_loopg [0, 5] (vs.length + 1) (fun kx s0 s5 wq => ∃ (j : Nat) (p1 : Option Addr) (m1 q1 : Nat), s5 = .int .i64 j ∧ kx + j = vs.length + 1 ∧ j ≤ vs.length ∧ s0 = .slice p1 m1 q1 ∧ Hid (OwPost B w0 wq v0 (.slice p1 m1 q1) ((((xs ++ b8 mi) ++ b8 mt) ++ b1 (vs.length : Nat)) ++ intsB (vs.take j)) ∧ Bx d #[iv mi, iv mt, .slice p vs.length c] 25 wq))
  case atStart => exact ⟨0, p1, m1, q1, rfl, rfl, Nat.zero_le _, rfl, H0⟩
  case round =>
    obtain ⟨j, p1, m1, q1, rfl, hk, hj, rfl, HW⟩ := hrel
    clear H0
    have HX := HW.out.2
    by_cases hlt : j < vs.length
    · obtain ⟨x, hx⟩ : ∃ x, vs[j]? = some x := ⟨_, List.getElem?_eq_getElem hlt⟩
      obtain ⟨p', c', e', hlc, hcm, hh⟩ := HV.out
      cases e'
      obtain ⟨g, o, rfl, hz, hc⟩ := hh j x hx
      have hgB := HZ.out g hz
      have hgl := World.block_lt_of_cell? _ _ hc
      have hcx : wr.cell? ⟨g, o + j, none⟩ = some (iv x) := by
        have hb0 := HH.out.old hB hv0
        have hb1 := HW.out.1.old hB hv0
        exact (hb1.cell (p := ⟨g, o + j, none⟩) hgB).trans ((hb0.cell (p := ⟨g, o + j, none⟩) hgB).symm.trans hc)
      have hci := yIntw HW.out.1 hB (by
        have h1 := intsB_len (vs.take j)
        have h2 := List.length_take_le j vs
        have h3 : (vs.take j).length ≤ vs.length := by simp; omega
        simp only [List.length_append, b8_len, b1_len]
        omega) x
      have HXX := Hid.mkW hx
      clear hh hlc hcm hx hz hgl hc
      go_wp2_with (go_at_call 29; refine hci.mono ?_; rintro e w5 ⟨p5, m5, c5, rfl, hp5, hk5⟩; have HP5 := Hid.mkW (And.intro hp5 (hk5 _ _ _ (by decide) HW.out.2)); clear hp5 hk5)
      go_roundg (vs.length - j)
      case measure => omega
      case rel =>
        refine ⟨j + 1, p5, m5, c5, by congr 1, by omega, by omega, rfl, ?_, HP5.out.2⟩
        have h5 := HP5.out.1
        have ex : vs[j] = x := by
          have := HXX.out
          rw [List.getElem?_eq_getElem hlt] at this
          exact Option.some.inj this
        rw [List.take_succ_eq_append_getElem hlt, intsB_snoc, ex, ← List.append_assoc]
        exact h5
    · obtain rfl : j = vs.length := by omega
      go_wp2
      go_ret
      refine ⟨_, rfl, ?_⟩
      have h5 := HW.out.1
      rw [List.take_length] at h5
      simpa [List.append_assoc] using h5
end Go.Proofs.YtamgoknoapcnjaaDoor
