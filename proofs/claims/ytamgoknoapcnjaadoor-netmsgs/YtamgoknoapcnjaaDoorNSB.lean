/- Same, decided: entries. -/
import Derived.Test.YtamgoknoapcnjaaDoorNSA
import Derived.Deep.LoopGhost
namespace Go.Proofs.YtamgoknoapcnjaaDoor
open Go Go.RowKit
theorem ent_ext {x y : Ent} (h1 : x.i = y.i) (h2 : x.t = y.t) (h3 : x.k = y.k) (h4 : x.d = y.d) : x = y := by
  cases x
  cases y
  simp_all
theorem str_eq {xs ys : List Int} (h : xs = ys) : ((strOfNums xs).toList == (strOfNums ys).toList) = true := by rw [h]; simp
theorem bne_of {α : Type} [BEq α] {a b : α} {o : Bool} (h : (a == b) = o) : (a != b) = !o := by unfold bne; rw [h]
set_option maxRecDepth 100000 in
set_option maxHeartbeats 8000000 in
theorem sameEnts_no {Z1 Z2 : Nat → Prop} {w : World} {p q : Option Addr} {c e : Nat} {l l' : List Ent} (h1 : Es Z1 w (.slice p l.length c) l) (h2 : Es Z2 w (.slice q l'.length e) l') (hl : l.length ≤ 1000000) (b1 : ∀ x ∈ l, isB x.d) (b2 : ∀ x ∈ l', isB x.d) (hne : l ≠ l') :
    Calls Tryd.prog 42 #[.slice p l.length c, .slice q l'.length e] w fun e w' => e = .returned (.bool false) ∧ Below w.heap.size w w' := by
  by_cases hn : l.length = l'.length
  case neg =>
    have n1 : (((l.length : Nat) : Int) == ((l'.length : Nat) : Int)) = false := by simpa using by omega
    have n2 : (((l.length : Nat) : Int) != ((l'.length : Nat) : Int)) = true := by simpa using by omega
    go_enter Tryd.func42, Tryd.ntmps42
    go_wp2
    go_ret
    exact ⟨rfl, Below.refl _ _⟩
  have H1 := Hid.mkW h1
  have H2 := Hid.mkW h2
  have HN := Hid.mkW hn
  have HNE := Hid.mkW hne
  have HB1 := Hid.mkW b1
  have HB2 := Hid.mkW b2
  rw [← hn]
  have H0 : Hid (Below w.heap.size w w ∧ l.take 0 = l'.take 0) := ⟨Below.refl _ _, by simp⟩
  clear h1 h2 hn b1 b2 hne
  go_enter Tryd.func42, Tryd.ntmps42
  go_wp2
  go_loopg [5] (l.length + 1) (fun kx s5 wq => ∃ j : Nat, s5 = .int .i64 j ∧ kx + j = l.length + 1 ∧ j ≤ l.length ∧ Hid (Below w.heap.size w wq ∧ l.take j = l'.take j))
  case atStart => exact ⟨0, rfl, rfl, Nat.zero_le _, H0⟩
  case round =>
    obtain ⟨j, rfl, hk, hj, HW⟩ := hrel
    clear H0
    by_cases hlt : j < l.length
    · obtain ⟨g1, o1, p1, c1, x, rfl, hx, -, -, a0, a1, a2, a3, hd1⟩ := ent_cells H1.out HW.out.1 hlt
      obtain ⟨g2, o2, p2, c2, y, rfl, hy, -, -, b0, b1, b2, b3, hd2⟩ := ent_cells H2.out HW.out.1 (j := j) (by rw [← HN.out]; exact hlt)
      have hc1 : ∀ k, (convert 26 9 (.slice p1 x.d.length c1)).run Tryd.prog (wr.drewN k) = .ok (.string (strOfNums x.d)) (wr.drewN k) := fun k => conv_sees ((hd1.below (below_drewN (Below.refl _ _) k)).s)
      have hc2 : ∀ k, (convert 26 9 (.slice p2 y.d.length c2)).run Tryd.prog (wr.drewN k) = .ok (.string (strOfNums y.d)) (wr.drewN k) := fun k => conv_sees ((hd2.below (below_drewN (Below.refl _ _) k)).s)
      have BX : Hid (isB x.d) := HB1.out x (List.mem_of_getElem? hx)
      have BY : Hid (isB y.d) := HB2.out y (List.mem_of_getElem? hy)
      have HX := Hid.mkW hx
      have HY := Hid.mkW hy
      clear hx hy hd1 hd2
      by_cases ei : x.i = y.i
      case neg =>
        have ni : (x.i == y.i) = false := by simpa using ei
        have mi : (x.i != y.i) = true := by simpa using ei
        clear ei
        go_upto_region 6 with fail
        go_quiet (fail)
        go_wp2
        go_ret
        exact ⟨rfl, HW.out.1.trans ((below_drewN (Below.refl _ _) _).mono HW.out.1.size)⟩
      by_cases et : x.t = y.t
      case neg =>
        have ni : (x.i == y.i) = true := by simpa using ei
        have mi : (x.i != y.i) = false := by simpa using ei
        have nt : (x.t == y.t) = false := by simpa using et
        have mt : (x.t != y.t) = true := by simpa using et
        clear ei et
        go_upto_region 6 with fail
        go_quiet (fail)
        go_wp2
        go_ret
        exact ⟨rfl, HW.out.1.trans ((below_drewN (Below.refl _ _) _).mono HW.out.1.size)⟩
      by_cases ek : x.k = y.k
      case neg =>
        have ni : (x.i == y.i) = true := by simpa using ei
        have mi : (x.i != y.i) = false := by simpa using ei
        have nt : (x.t == y.t) = true := by simpa using et
        have mt : (x.t != y.t) = false := by simpa using et
        have nk : (x.k == y.k) = false := by simpa using ek
        have mk : (x.k != y.k) = true := by simpa using ek
        clear ei et ek
        go_upto_region 6 with fail
        go_quiet (fail)
        go_wp2
        go_ret
        exact ⟨rfl, HW.out.1.trans ((below_drewN (Below.refl _ _) _).mono HW.out.1.size)⟩
      by_cases ed : x.d = y.d
      case neg =>
        have ni : (x.i == y.i) = true := by simpa using ei
        have mi : (x.i != y.i) = false := by simpa using ei
        have nt : (x.t == y.t) = true := by simpa using et
        have mt : (x.t != y.t) = false := by simpa using et
        have nk : (x.k == y.k) = true := by simpa using ek
        have mk : (x.k != y.k) = false := by simpa using ek
        have nd := str_ne BX.out BY.out ed
        have md := bne_of nd
        clear ei et ek ed
        go_upto_region 6 with fail
        go_quiet (fail)
        go_wp2
        go_ret
        exact ⟨rfl, HW.out.1.trans ((below_drewN (Below.refl _ _) _).mono HW.out.1.size)⟩
      have hxy : x = y := ent_ext ei et ek ed
      have ni : (x.i == y.i) = true := by simpa using ei
      have mi : (x.i != y.i) = false := by simpa using ei
      have nt : (x.t == y.t) = true := by simpa using et
      have mt : (x.t != y.t) = false := by simpa using et
      have nk : (x.k == y.k) = true := by simpa using ek
      have mk : (x.k != y.k) = false := by simpa using ek
      have nd := str_eq ed
      have md := bne_of nd
      have HE : Hid (l.take (j + 1) = l'.take (j + 1)) := by
        show _ = _
        rw [List.take_add_one, List.take_add_one, HX.out, HY.out, HW.out.2, hxy]
      clear ei et ek ed hxy
      go_upto_region 6 with fail
      go_quiet (fail)
      go_wp2
      go_roundg (l.length - j)
      case measure => omega
      case rel => exact ⟨j + 1, by congr 1, by omega, by omega, HW.out.1.trans ((below_drewN (Below.refl _ _) _).mono HW.out.1.size), HE.out⟩
    · obtain rfl : j = l.length := by omega
      have h := HW.out.2
      rw [List.take_length, HN.out, List.take_length] at h
      exact absurd h HNE.out
set_option maxRecDepth 100000 in
set_option maxHeartbeats 4000000 in
theorem sameEntry_dec {w : World} {p q : Option Addr} {c c' : Nat} {x y : Ent} (h1 : Sees w (.slice p x.d.length c) x.d) (h2 : Sees w (.slice q y.d.length c') y.d) (BX : isB x.d) (BY : isB y.d) :
    Calls Tryd.prog 45 #[.agg #[iv x.i, iv x.t, iv x.k, .slice p x.d.length c], .agg #[iv y.i, iv y.t, iv y.k, .slice q y.d.length c']] w fun e w' => ∃ bo : Bool, e = .returned (.bool bo) ∧ (bo = true ↔ x = y) ∧ Below w.heap.size w w' := by
  have hb1 : Below w.heap.size w ((w.alloc (.cells #[iv x.i, iv x.t, iv x.k, .slice p x.d.length c] 58)).alloc (.cells #[iv y.i, iv y.t, iv y.k, .slice q y.d.length c'] 58)) := ((Below.refl _ _).alloc (Nat.le_refl _) _).alloc (by simp) _
  have hc := bytesEq_dec (h1.below hb1) (h2.below hb1) BX BY
  have HB1 := Hid.mkW hb1
  have NE : Hid (∀ f : Ent → Prop, f x → ¬ f y → ¬ x = y) := fun f a b e => b (e ▸ a)
  clear hb1 h1 h2
  by_cases ei : x.i = y.i
  case neg =>
    have HF : Hid (¬ x = y) := fun e => ei (by rw [e])
    have ni : (x.i == y.i) = false := by simpa using ei
    have mi : (x.i != y.i) = true := by simpa using ei
    clear ei hc
    go_enter Tryd.func45, Tryd.ntmps45
    go_wp2
    go_ret
    exact ⟨false, rfl, ⟨(fun h => by cases h), fun h => absurd h HF.out⟩, HB1.out⟩
  by_cases et : x.t = y.t
  case neg =>
    have HF : Hid (¬ x = y) := fun e => et (by rw [e])
    have ni : (x.i == y.i) = true := by simpa using ei
    have mi : (x.i != y.i) = false := by simpa using ei
    have nt : (x.t == y.t) = false := by simpa using et
    have mt : (x.t != y.t) = true := by simpa using et
    clear ei et hc
    go_enter Tryd.func45, Tryd.ntmps45
    go_wp2
    go_ret
    exact ⟨false, rfl, ⟨(fun h => by cases h), fun h => absurd h HF.out⟩, HB1.out⟩
  by_cases ek : x.k = y.k
  case neg =>
    have HF : Hid (¬ x = y) := fun e => ek (by rw [e])
    have ni : (x.i == y.i) = true := by simpa using ei
    have mi : (x.i != y.i) = false := by simpa using ei
    have nt : (x.t == y.t) = true := by simpa using et
    have mt : (x.t != y.t) = false := by simpa using et
    have nk : (x.k == y.k) = false := by simpa using ek
    have mk : (x.k != y.k) = true := by simpa using ek
    clear ei et ek hc
    go_enter Tryd.func45, Tryd.ntmps45
    go_wp2
    go_ret
    exact ⟨false, rfl, ⟨(fun h => by cases h), fun h => absurd h HF.out⟩, HB1.out⟩
  have HQ : Hid (decide (x.d = y.d) = true ↔ x = y) := ⟨fun h => ent_ext ei et ek (of_decide_eq_true h), fun h => decide_eq_true (by rw [h])⟩
  have ni : (x.i == y.i) = true := by simpa using ei
  have mi : (x.i != y.i) = false := by simpa using ei
  have nt : (x.t == y.t) = true := by simpa using et
  have mt : (x.t != y.t) = false := by simpa using et
  have nk : (x.k == y.k) = true := by simpa using ek
  have mk : (x.k != y.k) = false := by simpa using ek
  generalize decide (x.d = y.d) = bo at hc HQ
  clear ei et ek
  go_enter Tryd.func45, Tryd.ntmps45
  go_wp2_with (go_at_call 47; refine hc.mono ?_; rintro e w2 ⟨rfl, hw2⟩; obtain rfl := hw2.symm)
  go_ret
  exact ⟨bo, rfl, HQ.out, HB1.out⟩
set_option maxRecDepth 100000 in
set_option maxHeartbeats 4000000 in
theorem equalFunc_dec {Z1 Z2 : Nat → Prop} {w : World} {p q : Option Addr} {c e : Nat} {l l' : List Ent} (h1 : Es Z1 w (.slice p l.length c) l) (h2 : Es Z2 w (.slice q l'.length e) l') (hl : l.length ≤ 1000000) (b1 : ∀ x ∈ l, isB x.d) (b2 : ∀ x ∈ l', isB x.d) :
    Calls Tryd.prog 44 #[.slice p l.length c, .slice q l'.length e, .func (.func 45) #[] #[]] w fun e w' => ∃ bo : Bool, e = .returned (.bool bo) ∧ (bo = true ↔ l = l') ∧ Below w.heap.size w w' := by
  by_cases hn : l.length = l'.length
  case neg =>
    have n1 : (((l.length : Nat) : Int) == ((l'.length : Nat) : Int)) = false := by simpa using by omega
    have n2 : (((l.length : Nat) : Int) != ((l'.length : Nat) : Int)) = true := by simpa using by omega
    have HF : Hid (¬ l = l') := fun e => hn (by rw [e])
    go_enter Tryd.func44, Tryd.ntmps44
    go_wp2
    go_ret
    exact ⟨false, rfl, ⟨(fun h => by cases h), fun h => absurd h HF.out⟩, Below.refl _ _⟩
  have H1 := Hid.mkW h1
  have H2 := Hid.mkW h2
  have HN := Hid.mkW hn
  have HB1 := Hid.mkW b1
  have HB2 := Hid.mkW b2
  rw [← hn]
  have H0 : Hid (Below w.heap.size w w ∧ l.take 0 = l'.take 0) := ⟨Below.refl _ _, by simp⟩
  clear h1 h2 hn b1 b2
  go_enter Tryd.func44, Tryd.ntmps44
  go_wp2
  go_loopg [7, 8, 9, 17] (l.length + 1) (fun kx _s7 _s8 _s9 s17 wq => ∃ j : Nat, s17 = .int .i64 j ∧ kx + j = l.length + 1 ∧ j ≤ l.length ∧ Hid (Below w.heap.size w wq ∧ l.take j = l'.take j))
  case atStart => exact ⟨0, rfl, rfl, Nat.zero_le _, H0⟩
  case round =>
    obtain ⟨j, rfl, hk, hj, HW⟩ := hrel
    clear H0
    by_cases hlt : j < l.length
    · obtain ⟨g1, o1, p1, c1, x, rfl, hx, -, hg1, a0, a1, a2, a3, hd1⟩ := ent_cells H1.out HW.out.1 hlt
      obtain ⟨g2, o2, p2, c2, y, rfl, hy, -, hg2, b0, b1, b2, b3, hd2⟩ := ent_cells H2.out HW.out.1 (j := j) (by rw [← HN.out]; exact hlt)
      have hb1 : Below wr.heap.size wr ((wr.alloc (.cells #[iv x.i, iv x.t, iv x.k, .slice p1 x.d.length c1] 58)).alloc (.cells #[iv y.i, iv y.t, iv y.k, .slice p2 y.d.length c2] 58)) := ((Below.refl _ _).alloc (Nat.le_refl _) _).alloc (by simp) _
      have hc := sameEntry_dec (hd1.below hb1).s (hd2.below hb1).s (HB1.out x (List.mem_of_getElem? hx)) (HB2.out y (List.mem_of_getElem? hy))
      have hb0 : Below wr.heap.size wr (wr.alloc (.cells #[iv x.i, iv x.t, iv x.k, .slice p1 x.d.length c1] 58)) := (Below.refl _ _).alloc (Nat.le_refl _) _
      have hsz := HW.out.1.size
      have d0 := (hb0.cell (p := ⟨g2, o2 + j * 4, none⟩) (by show g2 < _; omega)).trans b0
      have d1 := (hb0.cell (p := ⟨g2, o2 + j * 4 + 1, none⟩) (by show g2 < _; omega)).trans b1
      have d2 := (hb0.cell (p := ⟨g2, o2 + j * 4 + 2, none⟩) (by show g2 < _; omega)).trans b2
      have d3 := (hb0.cell (p := ⟨g2, o2 + j * 4 + 3, none⟩) (by show g2 < _; omega)).trans b3
      have HX := Hid.mkW hx
      have HY := Hid.mkW hy
      have HBB := Hid.mkW hb1
      clear hx hy hd1 hd2 hb1 hb0 hsz hg1 hg2
      go_upto_region 7 with fail
      have HX8 : Bx wr.heap.size #[iv x.i, iv x.t, iv x.k, .slice p1 x.d.length c1] 58 ((wr.alloc (.cells #[iv x.i, iv x.t, iv x.k, .slice p1 x.d.length c1] 58)).alloc (.cells #[iv y.i, iv y.t, iv y.k, .slice p2 y.d.length c2] 58)) :=
        Bx.below (row_alloc wr _ 58) ((Below.refl _ _).alloc (Nat.le_refl _) _)
      have HX9 : Bx (wr.heap.size + 1) #[iv y.i, iv y.t, iv y.k, .slice p2 y.d.length c2] 58 ((wr.alloc (.cells #[iv x.i, iv x.t, iv x.k, .slice p1 x.d.length c1] 58)).alloc (.cells #[iv y.i, iv y.t, iv y.k, .slice p2 y.d.length c2] 58)) := by
        have := row_alloc (wr.alloc (.cells #[iv x.i, iv x.t, iv x.k, .slice p1 x.d.length c1] 58)) #[iv y.i, iv y.t, iv y.k, .slice p2 y.d.length c2] 58
        rw [show (wr.alloc (.cells #[iv x.i, iv x.t, iv x.k, .slice p1 x.d.length c1] 58)).heap.size = wr.heap.size + 1 by simp] at this
        exact this
      obtain ⟨g8, hg8⟩ : ∃ g8, g8 = wr.heap.size := ⟨_, rfl⟩
      obtain ⟨w2, hw2⟩ : ∃ w2, w2 = (wr.alloc (.cells #[iv x.i, iv x.t, iv x.k, .slice p1 x.d.length c1] 58)).alloc (.cells #[iv y.i, iv y.t, iv y.k, .slice p2 y.d.length c2] 58) := ⟨_, rfl⟩
      have HBw : Hid (Below w.heap.size w w2) := by
        show Below _ _ _
        rw [hw2]
        exact HW.out.1.trans (HBB.out.mono HW.out.1.size)
      rw [← hw2] at hc HX8 HX9 ⊢
      rw [← hg8] at HX8 HX9 ⊢
      clear hw2 hg8 HBB a0 a1 a2 a3 b0 b1 b2 b3 d0 d1 d2 d3
      have a0 : w2.cell? ⟨g8, 0, none⟩ = some (iv x.i) := HX8.cell 0
      have a1 : w2.cell? ⟨g8, 1, none⟩ = some (iv x.t) := HX8.cell 1
      have a2 : w2.cell? ⟨g8, 2, none⟩ = some (iv x.k) := HX8.cell 2
      have a3 : w2.cell? ⟨g8, 3, none⟩ = some (.slice p1 x.d.length c1) := HX8.cell 3
      have b0 : w2.cell? ⟨g8 + 1, 0, none⟩ = some (iv y.i) := HX9.cell 0
      have b1 : w2.cell? ⟨g8 + 1, 1, none⟩ = some (iv y.t) := HX9.cell 1
      have b2 : w2.cell? ⟨g8 + 1, 2, none⟩ = some (iv y.k) := HX9.cell 2
      have b3 : w2.cell? ⟨g8 + 1, 3, none⟩ = some (.slice p2 y.d.length c2) := HX9.cell 3
      clear HX8 HX9
      go_wp2_with (fail)
      refine hc.mono ?_
      rintro e w3 ⟨bo, rfl, hbo, hb3⟩
      have HBO := Hid.mkW hbo
      have HB3 := Hid.mkW hb3
      clear hbo hb3 hc
      cases bo with
      | true =>
        have hxy : x = y := HBO.out.1 rfl
        have HE : Hid (l.take (j + 1) = l'.take (j + 1)) := by
          show _ = _
          rw [List.take_add_one, List.take_add_one, HX.out, HY.out, HW.out.2, hxy]
        clear hxy
        go_wp2
        go_roundg (l.length - j)
        case measure => omega
        case rel => exact ⟨j + 1, by congr 1, by omega, by omega, HBw.out.trans (HB3.out.mono HBw.out.size), HE.out⟩
      | false =>
        have HF : Hid (¬ l = l') := by
          intro e
          have h := HX.out
          rw [e, HY.out] at h
          have := HBO.out.2 (Option.some.inj h).symm
          cases this
        go_wp2
        go_ret
        exact ⟨false, rfl, ⟨(fun h => by cases h), fun h => absurd h HF.out⟩, HBw.out.trans (HB3.out.mono HBw.out.size)⟩
    · obtain rfl : j = l.length := by omega
      have HE : Hid (l = l') := by
        have h := HW.out.2
        rw [List.take_length, HN.out, List.take_length] at h
        exact h
      go_wp2
      go_ret
      exact ⟨true, rfl, ⟨fun _ => HE.out, fun _ => rfl⟩, HW.out.1⟩
end Go.Proofs.YtamgoknoapcnjaaDoor
