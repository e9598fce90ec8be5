/- Just those leases are over whose time has come, by ids. -/
import Derived.Test.YtiffigjfjdplhaaLW1
namespace Go.Proofs.Ytiffigjfjdplhaa
open Go Go.RowKit
theorem below_drewN {B : Nat} {a c : World} (h : Below B a c) (n : Nat) : Below B a (c.drewN n) := ⟨h.os, h.tape, h.output, h.size, h.block⟩
theorem ins_end (f : Ls) : ∀ L : List Ls, (∀ g ∈ L, g.id < f.id) → insL f L = L ++ [f]
  | [], _ => rfl
  | g :: r, h => by
    have hg := h g (by simp)
    unfold insL
    rw [if_neg (by omega), ins_end f r (fun x hx => h x (by simp [hx]))]
    rfl
def loL (zs : List Int) (j : Nat) : Ls := ⟨j + 1, 1 + withinF (zs.getD j 0) 100, 50 + (1 + withinF (zs.getD j 0) 100)⟩
def loS (zs : List Int) (n : Nat) : List Ls := (List.range n).map (loL zs)
theorem loS_succ (zs : List Int) (n : Nat) : loS zs (n + 1) = loS zs n ++ [loL zs n] := by simp [loS, List.range_succ]
theorem mem_loS {zs : List Int} {n : Nat} {l : Ls} (h : l ∈ loS zs n) : ∃ j, j < n ∧ l = loL zs j := by
  simp only [loS, List.mem_map, List.mem_range] at h
  obtain ⟨j, hj, rfl⟩ := h
  exact ⟨j, hj, rfl⟩
theorem len_loS (zs : List Int) (n : Nat) : (loS zs n).length = n := by simp [loS]
theorem lo_grant (zs : List Int) (n : Nat) (hn : n < 30) : grantE (loS zs n) (n + 1) (1 + withinF (zs.getD n 0) 100) 50 = 0 ∧ grantL (loS zs n) (n + 1) (1 + withinF (zs.getD n 0) 100) 50 = loS zs (n + 1) := by
  obtain ⟨b1, b2⟩ := withinF_bd (zs.getD n 0) 100 (by omega)
  have e : argB (n + 1) (1 + withinF (zs.getD n 0) 100) 50 = true := by
    simp only [argB, numB, nowB, Bool.and_eq_true, decide_eq_true_eq]
    omega
  have hl : lookL (n + 1) (loS zs n) = none := by
    unfold lookL
    rw [List.find?_eq_none]
    intro l hl
    obtain ⟨j, hj, rfl⟩ := mem_loS hl
    simp [loL]
    omega
  have e2 : grantE (loS zs n) (n + 1) (1 + withinF (zs.getD n 0) 100) 50 = 0 := by
    unfold grantE
    rw [e, hl, len_loS]
    simp
    omega
  refine ⟨e2, ?_⟩
  unfold grantL
  rw [if_pos e2, loS_succ, ins_end]
  · rfl
  · intro g hg
    obtain ⟨j, hj, rfl⟩ := mem_loS hg
    show (j : Int) + 1 < n + 1
    omega
theorem lo_over (zs : List Int) (n : Nat) (now : Int) : overL (loS zs (n + 1)) now = overL (loS zs n) now ++ (if 50 + (1 + withinF (zs.getD n 0) 100) ≤ now then [(n : Int) + 1] else []) := by
  rw [loS_succ]
  unfold overL
  rw [List.filter_append, List.map_append]
  congr 1
  unfold loL
  generalize zs.getD n 0 = z
  by_cases h : 50 + (1 + withinF z 100) ≤ now <;> simp [h]
theorem lo_at {zs : List Int} {n : Nat} {now x : Int} {i : Nat} (h : (overL (loS zs n) now)[i]? = some x) : ∃ j : Nat, j < n ∧ x = j + 1 ∧ 51 + withinF (zs.getD j 0) 100 ≤ now := by
  obtain ⟨l, hl, e, ht⟩ := mem_over.1 (List.mem_of_getElem? h)
  obtain ⟨j, hj, rfl⟩ := mem_loS hl
  refine ⟨j, hj, e.symm, ?_⟩
  have : 50 + (1 + withinF (zs.getD j 0) 100) ≤ now := ht
  omega
set_option maxRecDepth 20000 in
set_option maxHeartbeats 1000000 in
theorem leaseOver_walk (sv : Value) (y : Int) (zs : List Int) (w : World) (hS : SeesI w sv zs) (_hl : zs.length ≤ 140737488355328) (_hy : -9223372036854775808 ≤ y ∧ y ≤ 9223372036854775807) :
    Calls Try.prog 6 #[sv, .int .i64 y] w fun e w' => e = .returned (.bool true) ∧ Below w.heap.size w w' := by
  have hk := known_any w
  obtain ⟨ao, cap, rfl⟩ := hS.form
  obtain ⟨now, hnow⟩ : ∃ u, u = withinF y 200 := ⟨_, rfl⟩
  obtain ⟨t1, t2⟩ := withinF_bd y 200 (by omega)
  rw [← hnow] at t1 t2
  have HNOW := Hid.mk'' hnow
  have hblk : Hid (∀ j, j < zs.length → ∃ bb off, ao = some ⟨bb, off, none⟩ ∧ bb < w.heap.size ∧ w.cell? ⟨bb, off + j, none⟩ = some (.int .i64 (zs.getD j 0))) := fun j hj => hS.at hj
  clear hS hnow
  go_enter Try.func6, Try.ntmps6
  go_wp2_with (first
    | (go_at_call 7; refine hk.mono ?_; rintro e w1 ⟨rfl, bel1⟩; have hn := new_ll w w1 bel1; clear hk)
    | (go_at_call 8; refine hn.mono ?_; rintro e w2 ⟨d, b, rfl, h2⟩; have H2 := Hid.mk'' h2; clear hn bel1 h2)
    | (go_at_call 9; refine (within_any _ _ _ (by omega) (by omega)).mono ?_; rintro e w3 ⟨rfl, hw3⟩; obtain rfl := hw3.symm; rw [← HNOW.out]))
  go_loopg [6, 7, 8] 31 (fun kx s6 s7 _ wq => ∃ (i : Nat), s6 = .int .i64 (overL (loS zs i) now).length ∧ s7 = .int .i64 i ∧ kx + i = 31 ∧ i ≤ 30 ∧ i ≤ zs.length ∧ (overL (loS zs i) now).length ≤ i ∧ Hid (LL w wq d b (loS zs i)))
  case atStart => exact ⟨0, rfl, rfl, rfl, by omega, by omega, by simp [loS, overL], H2.out⟩
  case round =>
    obtain ⟨i, rfl, rfl, hkx, hi, hiz, hov, HM⟩ := hrel
    clear H2
    by_cases hlt : i < zs.length ∧ i < 30
    · obtain ⟨hlt, h30⟩ := hlt
      obtain ⟨bb, off, rfl, hbb, hcell⟩ := hblk.out i hlt
      have kcell := (HM.out.bel.cell (p := ⟨bb, off + i, none⟩) hbb).trans hcell
      obtain ⟨g1, g2⟩ := lo_grant zs i h30
      have hgr := grant_ll HM.out (i + 1) (1 + withinF (zs.getD i 0) 100) 50 (by unfold isI; omega)
      rw [g1, g2] at hgr
      have HLO := Hid.mk'' (lo_over zs i now)
      obtain ⟨s1, s2⟩ := withinF_bd (zs.getD i 0) 100 (by omega)
      obtain ⟨z, hz⟩ : ∃ z, z = zs.getD i 0 := ⟨_, rfl⟩
      rw [← hz] at kcell s1 s2 hgr HLO
      obtain ⟨st, hst⟩ : ∃ st, st = withinF z 100 := ⟨_, rfl⟩
      rw [← hst] at s1 s2 hgr HLO
      have HZ := Hid.mk'' hst
      clear g1 g2 hcell hz hst
      by_cases hc : 50 + (1 + st) ≤ now
      · have HLN : Hid ((overL (loS zs (i + 1)) now).length = (overL (loS zs i) now).length + 1) := Hid.mk'' (by rw [HLO.out, if_pos hc]; simp)
        go_wp2_with (first
          | (go_at_call 9; refine (within_any _ _ _ (by omega) (by omega)).mono ?_; rintro e w3 ⟨rfl, hw3⟩; obtain rfl := hw3.symm; rw [← HZ.out])
          | (go_at_call 10; refine hgr.mono ?_; rintro e w4 ⟨rfl, h4⟩; clear hgr))
        go_roundg (30 - i)
        case measure => omega
        case rel => exact ⟨i + 1, by rw [HLN.out]; congr 1, by congr 1, by omega, by omega, by omega, by rw [HLN.out]; omega, h4⟩
      · have HLN : Hid ((overL (loS zs (i + 1)) now).length = (overL (loS zs i) now).length) := Hid.mk'' (by rw [HLO.out, if_neg hc]; simp)
        go_wp2_with (first
          | (go_at_call 9; refine (within_any _ _ _ (by omega) (by omega)).mono ?_; rintro e w3 ⟨rfl, hw3⟩; obtain rfl := hw3.symm; rw [← HZ.out])
          | (go_at_call 10; refine hgr.mono ?_; rintro e w4 ⟨rfl, h4⟩; clear hgr))
        go_roundg (30 - i)
        case measure => omega
        case rel => exact ⟨i + 1, by rw [HLN.out], by congr 1, by omega, by omega, by omega, by rw [HLN.out]; omega, h4⟩
    · have hov := over_ll HM.out now
      have HUP := Hid.mk'' (up_over HM.out.bk.up now)
      obtain ⟨O, hO⟩ : ∃ O, O = overL (loS zs i) now := ⟨_, rfl⟩
      have HAT : Hid (∀ (j : Nat) (x : Int), O[j]? = some x → ∃ k : Nat, k < i ∧ x = k + 1 ∧ 51 + withinF (zs.getD k 0) 100 ≤ now) := fun j x h => lo_at (by rw [← hO]; exact h)
      rw [← hO] at hov HUP ⊢
      rename (overL (loS zs i) now).length ≤ i => hol
      rw [← hO] at hol
      clear hO
      have h1or : (i < zs.length ∧ ¬ (i : Int) < 30) ∨ ¬ i < zs.length := by
        by_cases h1 : i < zs.length
        · exact .inl ⟨h1, by omega⟩
        · exact .inr h1
      clear hlt
      rcases h1or with ⟨h1, h2⟩ | h1
      all_goals
        go_wp2_with (go_at_call 16; refine hov.mono ?_; rintro e w5 ⟨p5, c5, rfl, hrow, bel5⟩; have HROW := Hid.mk'' hrow; have HB5 : Hid (Below w.heap.size w w5) := HM.out.bel.trans (bel5.mono HM.out.bel.size); clear hov bel5 hrow)
        go_loopg [10] (O.length + 1) (fun kx s10 wq => ∃ (j : Nat), s10 = .int .i64 j ∧ kx + j = O.length + 1 ∧ j ≤ O.length ∧ Hid (Below w5.heap.size w5 wq))
        case atStart => exact ⟨0, rfl, rfl, Nat.zero_le _, Below.refl _ _⟩
        case round =>
          obtain ⟨j, rfl, hkj, hj, HBJ⟩ := hrel
          by_cases hjl : j < O.length
          · obtain ⟨x, hx⟩ : ∃ x, O[j]? = some x := ⟨_, List.getElem?_eq_getElem hjl⟩
            obtain ⟨k, hki, rfl, hkn⟩ := HAT.out j x hx
            obtain ⟨g, hg, hcell, hgl, _, hnc⟩ := row_int HROW.out hx
            subst hg
            have cj := (HBJ.out.cell (p := ⟨g, j, none⟩) hgl).trans hcell
            obtain ⟨bb, off, hao, hbb, hzc⟩ := hblk.out k (by omega)
            subst hao
            have ck := (HBJ.out.cell (p := ⟨bb, off + k, none⟩) (Nat.lt_of_lt_of_le hbb HB5.out.size)).trans ((HB5.out.cell (p := ⟨bb, off + k, none⟩) hbb).trans hzc)
            obtain ⟨s1, s2⟩ := withinF_bd (zs.getD k 0) 100 (by omega)
            obtain ⟨z, hz⟩ : ∃ z, z = zs.getD k 0 := ⟨_, rfl⟩
            rw [← hz] at ck s1 s2 hkn
            obtain ⟨st, hst⟩ : ∃ st, st = withinF z 100 := ⟨_, rfl⟩
            rw [← hst] at s1 s2 hkn
            have hwi : ∀ W, Calls Try.prog 9 #[.int .i64 z, .int .i64 100] W fun e w' => e = .returned (.int .i64 st) ∧ w' = W := fun W => by rw [hst]; exact within_any _ _ _ (by omega) (by omega)
            have hkz : k < zs.length := by omega
            have hgd : decide (now < 51 + st) = false := by simp; omega
            have hk1 : decide ((k : Int) + 1 < 1) = false := by simp; omega
            clear hz hst hzc hcell
            by_cases hj0 : j = 0
            · subst hj0
              go_wp2
              go_quiet ((go_at_call 9; exact Calls.quiet_of_same (hwi _)))
              go_wp2
              go_roundg O.length
              case measure => omega
              case rel => exact ⟨1, rfl, by omega, by omega, below_drewN HBJ.out _⟩
            · obtain ⟨j', rfl⟩ : ∃ j', j = j' + 1 := ⟨j - 1, by omega⟩
              obtain ⟨x', hx'⟩ : ∃ x', O[j']? = some x' := ⟨_, List.getElem?_eq_getElem (by omega)⟩
              obtain ⟨g', hg', hcell', hgl', _⟩ := row_int HROW.out hx'
              obtain rfl : g = g' := by cases hg'; rfl
              have cj' := (HBJ.out.cell (p := ⟨g, j', none⟩) hgl).trans hcell'
              have hxx : x' < k + 1 := by
                have := List.pairwise_iff_getElem.1 HUP.out j' (j' + 1) (by omega) (by omega) (by omega)
                rw [(List.getElem?_eq_some_iff.1 hx').2, (List.getElem?_eq_some_iff.1 hx).2] at this
                exact this
              have hle : decide ((k : Int) + 1 ≤ x') = false := by simp; omega
              clear hg' hcell' hx' hx hxx
              go_wp2
              go_quiet ((go_at_call 9; exact Calls.quiet_of_same (hwi _)))
              go_wp2
              go_roundg (O.length - (j' + 1))
              case measure => omega
              case rel => exact ⟨j' + 1 + 1, by congr 1, by omega, by omega, below_drewN HBJ.out _⟩
          · obtain rfl : j = O.length := by omega
            go_wp2
            go_ret
            exact ⟨rfl, HB5.out.trans (HBJ.out.mono HB5.out.size)⟩
end Go.Proofs.Ytiffigjfjdplhaa
