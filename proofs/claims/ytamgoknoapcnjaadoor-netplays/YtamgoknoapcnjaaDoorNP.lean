/- The document's Same, of two messages that are the same. -/
import Derived.Test.YtamgoknoapcnjaaDoorND
import Derived.Deep.QuietTactic
import Derived.BigQuiet
namespace Go.Proofs.YtamgoknoapcnjaaDoor
open Go Go.RowKit
theorem int_cell {Z : Nat → Prop} {w wr : World} {p : Option Addr} {c : Nat} {l : List Int} (h : Is Z w (.slice p l.length c) l) (hb : Below w.heap.size w wr) {j : Nat} {x : Int} (hx : l[j]? = some x) :
    ∃ g o, p = some ⟨g, o, none⟩ ∧ g < w.heap.size ∧ wr.cell? ⟨g, o + j, none⟩ = some (iv x) := by
  obtain ⟨p', c', e, _, _, hh⟩ := h
  cases e
  obtain ⟨g, o, rfl, hz, hc⟩ := hh j x hx
  have hl := World.block_lt_of_cell? _ _ hc
  exact ⟨g, o, rfl, hl, (hb.cell (p := ⟨g, o + j, none⟩) hl).trans hc⟩
set_option maxRecDepth 100000 in
set_option maxHeartbeats 1000000 in
theorem sameInts_yes {Z1 Z2 : Nat → Prop} {w : World} {p q : Option Addr} {c e : Nat} {l : List Int} (h1 : Is Z1 w (.slice p l.length c) l) (h2 : Is Z2 w (.slice q l.length e) l) (hl : l.length ≤ 1000000) :
    Calls Tryd.prog 77 #[.slice p l.length c, .slice q l.length e] w fun e w' => e = .returned (.bool true) ∧ Below w.heap.size w w' := by
  have H1 := Hid.mkW h1
  have H2 := Hid.mkW h2
  have H0 : Hid (Below w.heap.size w w) := Below.refl _ _
  clear h1 h2
  go_enter Tryd.func77, Tryd.ntmps77
  go_wp2
  go_loopg [5] (l.length + 1) (fun kx s5 wq => ∃ j : Nat, s5 = .int .i64 j ∧ kx + j = l.length + 1 ∧ j ≤ l.length ∧ Hid (Below w.heap.size w wq))
  case atStart => exact ⟨0, rfl, rfl, Nat.zero_le _, H0⟩
  case round =>
    obtain ⟨j, rfl, hk, hj, HW⟩ := hrel
    clear H0
    by_cases hlt : j < l.length
    · obtain ⟨x, hx⟩ : ∃ x, l[j]? = some x := ⟨_, List.getElem?_eq_getElem hlt⟩
      have hbd : Below w.heap.size w wr.drew := HW.out.drew
      obtain ⟨g1, o1, rfl, hg1, a1⟩ := int_cell H1.out HW.out hx
      obtain ⟨g2, o2, rfl, hg2, a2⟩ := int_cell H2.out HW.out hx
      have b1 : wr.drew.cell? ⟨g1, o1 + j, none⟩ = some (iv x) := a1
      have b2 : wr.drew.cell? ⟨g2, o2 + j, none⟩ = some (iv x) := a2
      clear hx hbd
      go_upto_region 6 with fail
      go_quiet (fail)
      go_wp2
      go_roundg (l.length - j)
      case measure => omega
      case rel => exact ⟨j + 1, by congr 1, by omega, by omega, HW.out.trans ((below_drewN (Below.refl _ _) _).mono HW.out.size)⟩
    · obtain rfl : j = l.length := by omega
      go_wp2
      go_ret
      exact ⟨rfl, HW.out⟩
set_option maxRecDepth 100000 in
set_option maxHeartbeats 4000000 in
theorem sameEnts_yes {Z1 Z2 : Nat → Prop} {w : World} {p q : Option Addr} {c e : Nat} {l : List Ent} (h1 : Es Z1 w (.slice p l.length c) l) (h2 : Es Z2 w (.slice q l.length e) l) (hl : l.length ≤ 1000000) :
    Calls Tryd.prog 42 #[.slice p l.length c, .slice q l.length e] w fun e w' => e = .returned (.bool true) ∧ Below w.heap.size w w' := by
  have H1 := Hid.mkW h1
  have H2 := Hid.mkW h2
  have H0 : Hid (Below w.heap.size w w) := Below.refl _ _
  clear h1 h2
  go_enter Tryd.func42, Tryd.ntmps42
  go_wp2
  go_loopg [5] (l.length + 1) (fun kx s5 wq => ∃ j : Nat, s5 = .int .i64 j ∧ kx + j = l.length + 1 ∧ j ≤ l.length ∧ Hid (Below w.heap.size w wq))
  case atStart => exact ⟨0, rfl, rfl, Nat.zero_le _, H0⟩
  case round =>
    obtain ⟨j, rfl, hk, hj, HW⟩ := hrel
    clear H0
    by_cases hlt : j < l.length
    · obtain ⟨g1, o1, p1, c1, x, rfl, hx, -, -, a0, a1, a2, a3, hd1⟩ := ent_cells H1.out HW.out hlt
      obtain ⟨g2, o2, p2, c2, y, rfl, hy, -, -, b0, b1, b2, b3, hd2⟩ := ent_cells H2.out HW.out hlt
      obtain rfl : x = y := Option.some.inj (hx.symm.trans hy)
      have hc1 : ∀ k, (convert 26 9 (.slice p1 x.d.length c1)).run Tryd.prog (wr.drewN k) = .ok (.string (strOfNums x.d)) (wr.drewN k) := fun k => conv_sees ((hd1.below (below_drewN (Below.refl _ _) k)).s)
      have hc2 : ∀ k, (convert 26 9 (.slice p2 x.d.length c2)).run Tryd.prog (wr.drewN k) = .ok (.string (strOfNums x.d)) (wr.drewN k) := fun k => conv_sees ((hd2.below (below_drewN (Below.refl _ _) k)).s)
      have n1 : (x.i != x.i) = false := by simp
      have n2 : (x.t != x.t) = false := by simp
      have n3 : (x.k != x.k) = false := by simp
      clear hx hy hd1 hd2
      go_upto_region 6 with fail
      go_quiet (fail)
      go_wp2
      go_roundg (l.length - j)
      case measure => omega
      case rel => exact ⟨j + 1, by congr 1, by omega, by omega, HW.out.trans ((below_drewN (Below.refl _ _) _).mono HW.out.size)⟩
    · obtain rfl : j = l.length := by omega
      go_wp2
      go_ret
      exact ⟨rfl, HW.out⟩
set_option maxRecDepth 100000 in
set_option maxHeartbeats 1000000 in
theorem sameMeta_yes {Z1 Z2 : Nat → Prop} {w : World} {p q : Option Addr} {c e : Nat} {l : List Int} (a b : Int) (h1 : Is Z1 w (.slice p l.length c) l) (h2 : Is Z2 w (.slice q l.length e) l) (hl : l.length ≤ 1000000) :
    Calls Tryd.prog 43 #[.agg #[iv a, iv b, .slice p l.length c], .agg #[iv a, iv b, .slice q l.length e]] w fun e w' => e = .returned (.bool true) ∧ Below w.heap.size w w' := by
  obtain ⟨w1, hw1⟩ : ∃ w1, w1 = (w.alloc (.cells #[iv a, iv b, .slice p l.length c] 25)).alloc (.cells #[iv a, iv b, .slice q l.length e] 25) := ⟨_, rfl⟩
  have hb1 : Below w.heap.size w w1 := by rw [hw1]; exact ((Below.refl _ _).alloc (Nat.le_refl _) _).alloc (by simp) _
  have hc := sameInts_yes (h1.below hb1) (h2.below hb1) hl
  have HB1 := Hid.mkW hb1
  rw [hw1] at hc
  clear hw1 hb1 h1 h2
  go_enter Tryd.func43, Tryd.ntmps43
  go_wp2_with (go_at_call 77; refine hc.mono ?_; rintro e w2 ⟨rfl, hb2⟩)
  go_ret
  exact ⟨rfl, (((Below.refl _ _).alloc (Nat.le_refl _) _).alloc (by simp) _).trans (hb2.mono (by simp; omega))⟩
end Go.Proofs.YtamgoknoapcnjaaDoor
