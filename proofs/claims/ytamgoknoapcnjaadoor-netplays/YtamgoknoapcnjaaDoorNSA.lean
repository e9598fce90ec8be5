/- Same, decided: bytes, numbers. -/
import Derived.Test.YtamgoknoapcnjaaDoorNPa
namespace Go.Proofs.YtamgoknoapcnjaaDoor
open Go Go.RowKit
theorem str_inj {xs ys : List Int} (hx : isB xs) (hy : isB ys) (h : strOfNums xs = strOfNums ys) : xs = ys := by rw [← strB_nums hx, ← strB_nums hy, h]
theorem str_ne {xs ys : List Int} (hx : isB xs) (hy : isB ys) (h : xs ≠ ys) : ((strOfNums xs).toList == (strOfNums ys).toList) = false := by
  rw [ByteArray.toList_eq, ByteArray.toList_eq]
  refine beq_eq_false_iff_ne.2 (fun e => h (str_inj hx hy ?_))
  have := Array.toList_inj.1 e
  exact ByteArray.ext this
theorem bytesEq_dec {v v' : Value} {xs ys : List Int} {w : World} (h1 : Sees w v xs) (h2 : Sees w v' ys) (b1 : isB xs) (b2 : isB ys) :
    Calls Tryd.prog 47 #[v, v'] w fun e w' => e = .returned (.bool (decide (xs = ys))) ∧ w' = w := by
  have c1 := conv_sees h1
  have c2 := conv_sees h2
  by_cases h : xs = ys
  · subst h
    have hd : decide (xs = xs) = true := by simp
    rw [hd]
    go_enter Tryd.func47, Tryd.ntmps47
    go_wp2
    go_ret
    exact ⟨rfl, rfl⟩
  · have hd : decide (xs = ys) = false := by simpa using h
    have hs : ¬ strOfNums xs = strOfNums ys := fun e => h (str_inj b1 b2 e)
    have hs2 := str_ne b1 b2 h
    clear hs
    rw [hd]
    go_enter Tryd.func47, Tryd.ntmps47
    go_wp2
    go_ret
    exact ⟨rfl, rfl⟩

set_option maxRecDepth 100000 in
set_option maxHeartbeats 2000000 in
theorem sameInts_dec {Z1 Z2 : Nat → Prop} {w : World} {p q : Option Addr} {c e : Nat} {l l' : List Int} (h1 : Is Z1 w (.slice p l.length c) l) (h2 : Is Z2 w (.slice q l'.length e) l') (hl : l.length ≤ 1000000) :
    Calls Tryd.prog 77 #[.slice p l.length c, .slice q l'.length e] w fun e w' => e = .returned (.bool (decide (l = l'))) ∧ Below w.heap.size w w' := by
  by_cases hn : l.length = l'.length
  case neg =>
    have hd : decide (l = l') = false := by
      simp
      intro e
      exact hn (by rw [e])
    have n1 : (((l.length : Nat) : Int) == ((l'.length : Nat) : Int)) = false := by simpa using by omega
    have n2 : (((l.length : Nat) : Int) != ((l'.length : Nat) : Int)) = true := by simpa using by omega
    rw [hd]
    go_enter Tryd.func77, Tryd.ntmps77
    go_wp2
    go_ret
    exact ⟨rfl, Below.refl _ _⟩
  have H1 := Hid.mkW h1
  have H2 := Hid.mkW h2
  have HN := Hid.mkW hn
  rw [← hn]
  have H0 : Hid (Below w.heap.size w w ∧ l.take 0 = l'.take 0) := ⟨Below.refl _ _, by simp⟩
  clear h1 h2 hn
  go_enter Tryd.func77, Tryd.ntmps77
  go_wp2
  go_loopg [5] (l.length + 1) (fun kx s5 wq => ∃ j : Nat, s5 = .int .i64 j ∧ kx + j = l.length + 1 ∧ j ≤ l.length ∧ Hid (Below w.heap.size w wq ∧ l.take j = l'.take j))
  case atStart => exact ⟨0, rfl, rfl, Nat.zero_le _, H0⟩
  case round =>
    obtain ⟨j, rfl, hk, hj, HW⟩ := hrel
    clear H0
    by_cases hlt : j < l.length
    · obtain ⟨x, hx⟩ : ∃ x, l[j]? = some x := ⟨_, List.getElem?_eq_getElem hlt⟩
      obtain ⟨y, hy⟩ : ∃ y, l'[j]? = some y := ⟨_, List.getElem?_eq_getElem (by rw [← HN.out]; exact hlt)⟩
      have hbd : Below w.heap.size w wr.drew := HW.out.1.drew
      obtain ⟨g1, o1, rfl, hg1, a1⟩ := int_cell H1.out HW.out.1 hx
      obtain ⟨g2, o2, rfl, hg2, a2⟩ := int_cell H2.out HW.out.1 hy
      have b1 : wr.drew.cell? ⟨g1, o1 + j, none⟩ = some (iv x) := a1
      have b2 : wr.drew.cell? ⟨g2, o2 + j, none⟩ = some (iv y) := a2
      have HX := Hid.mkW hx
      have HY := Hid.mkW hy
      by_cases hxy : x = y
      · have n2 : (x != y) = false := by simpa using hxy
        have n1 : (x == y) = true := by simpa using hxy
        have HE : Hid (l.take (j + 1) = l'.take (j + 1)) := by
          show _ = _
          rw [List.take_add_one, List.take_add_one, hx, hy, HW.out.2, hxy]
        clear hx hy hbd hxy
        go_upto_region 6 with fail
        go_quiet (fail)
        go_wp2
        go_roundg (l.length - j)
        case measure => omega
        case rel => exact ⟨j + 1, by congr 1, by omega, by omega, HW.out.1.trans ((below_drewN (Below.refl _ _) _).mono HW.out.1.size), HE.out⟩
      · have n2 : (x != y) = true := by simpa using hxy
        have n1 : (x == y) = false := by simpa using hxy
        have HE : Hid (decide (l = l') = false) := by
          show _ = _
          simp
          intro e
          rw [e, hy] at hx
          exact hxy (Option.some.inj hx).symm
        clear hx hy hbd hxy
        go_upto_region 6 with fail
        go_quiet (fail)
        go_wp2
        go_ret
        rw [HE.out]
        exact ⟨rfl, HW.out.1.trans ((below_drewN (Below.refl _ _) _).mono HW.out.1.size)⟩
    · obtain rfl : j = l.length := by omega
      have HE : Hid (decide (l = l') = true) := by
        show _ = _
        have h := HW.out.2
        rw [List.take_length, HN.out, List.take_length] at h
        simpa using h
      go_wp2
      go_ret
      rw [HE.out]
      exact ⟨rfl, HW.out.1⟩

set_option maxRecDepth 100000 in
set_option maxHeartbeats 2000000 in
theorem equalInts_dec {Z1 Z2 : Nat → Prop} {w : World} {p q : Option Addr} {c e : Nat} {l l' : List Int} (h1 : Is Z1 w (.slice p l.length c) l) (h2 : Is Z2 w (.slice q l'.length e) l') (hl : l.length ≤ 1000000) :
    Calls Tryd.prog 78 #[.slice p l.length c, .slice q l'.length e] w fun e w' => e = .returned (.bool (decide (l = l'))) ∧ Below w.heap.size w w' := by
  by_cases hn : l.length = l'.length
  case neg =>
    have hd : decide (l = l') = false := by
      simp
      intro e
      exact hn (by rw [e])
    have n1 : (((l.length : Nat) : Int) == ((l'.length : Nat) : Int)) = false := by simpa using by omega
    have n2 : (((l.length : Nat) : Int) != ((l'.length : Nat) : Int)) = true := by simpa using by omega
    rw [hd]
    go_enter Tryd.func78, Tryd.ntmps78
    go_wp2
    go_ret
    exact ⟨rfl, Below.refl _ _⟩
  have H1 := Hid.mkW h1
  have H2 := Hid.mkW h2
  have HN := Hid.mkW hn
  rw [← hn]
  have H0 : Hid (Below w.heap.size w w ∧ l.take 0 = l'.take 0) := ⟨Below.refl _ _, by simp⟩
  clear h1 h2 hn
  go_enter Tryd.func78, Tryd.ntmps78
  go_wp2
  go_loopg [5, 13] (l.length + 1) (fun kx _s5 s13 wq => ∃ j : Nat, s13 = .int .i64 j ∧ kx + j = l.length + 1 ∧ j ≤ l.length ∧ Hid (Below w.heap.size w wq ∧ l.take j = l'.take j))
  case atStart => exact ⟨0, rfl, rfl, Nat.zero_le _, H0⟩
  case round =>
    obtain ⟨j, rfl, hk, hj, HW⟩ := hrel
    clear H0
    by_cases hlt : j < l.length
    · obtain ⟨x, hx⟩ : ∃ x, l[j]? = some x := ⟨_, List.getElem?_eq_getElem hlt⟩
      obtain ⟨y, hy⟩ : ∃ y, l'[j]? = some y := ⟨_, List.getElem?_eq_getElem (by rw [← HN.out]; exact hlt)⟩
      have hbd : Below w.heap.size w wr.drew := HW.out.1.drew
      obtain ⟨g1, o1, rfl, hg1, a1⟩ := int_cell H1.out HW.out.1 hx
      obtain ⟨g2, o2, rfl, hg2, a2⟩ := int_cell H2.out HW.out.1 hy
      have b1 : wr.drew.cell? ⟨g1, o1 + j, none⟩ = some (iv x) := a1
      have b2 : wr.drew.cell? ⟨g2, o2 + j, none⟩ = some (iv y) := a2
      have HX := Hid.mkW hx
      have HY := Hid.mkW hy
      by_cases hxy : x = y
      · have n2 : (x != y) = false := by simpa using hxy
        have n1 : (x == y) = true := by simpa using hxy
        have HE : Hid (l.take (j + 1) = l'.take (j + 1)) := by
          show _ = _
          rw [List.take_add_one, List.take_add_one, hx, hy, HW.out.2, hxy]
        clear hx hy hbd hxy
        go_upto_region 6 with fail
        go_quiet (fail)
        go_wp2
        go_roundg (l.length - j)
        case measure => omega
        case rel => exact ⟨j + 1, by congr 1, by omega, by omega, HW.out.1.trans ((below_drewN (Below.refl _ _) _).mono HW.out.1.size), HE.out⟩
      · have n2 : (x != y) = true := by simpa using hxy
        have n1 : (x == y) = false := by simpa using hxy
        have HE : Hid (decide (l = l') = false) := by
          show _ = _
          simp
          intro e
          rw [e, hy] at hx
          exact hxy (Option.some.inj hx).symm
        clear hx hy hbd hxy
        go_upto_region 6 with fail
        go_quiet (fail)
        go_wp2
        go_ret
        rw [HE.out]
        exact ⟨rfl, HW.out.1.trans ((below_drewN (Below.refl _ _) _).mono HW.out.1.size)⟩
    · obtain rfl : j = l.length := by omega
      have HE : Hid (decide (l = l') = true) := by
        show _ = _
        have h := HW.out.2
        rw [List.take_length, HN.out, List.take_length] at h
        simpa using h
      go_wp2
      go_ret
      rw [HE.out]
      exact ⟨rfl, HW.out.1⟩
end Go.Proofs.YtamgoknoapcnjaaDoor
