/- Leases are told by their ids, rising; as many as may be, one more is refused. -/
import Derived.Test.YtiffigjfjdplhaaLW2
namespace Go.Proofs.Ytiffigjfjdplhaa
open Go Go.RowKit
theorem lsC_at : ∀ (L : List Ls) (i : Nat) (l : Ls), L[i]? = some l → ∀ r, r < 3 → (lsC L)[i * 3 + r]? = (lsL l)[r]?
  | [], _, _, h, _, _ => by cases h
  | a :: L, 0, l, h, r, hr => by
    cases h
    show (lsL a ++ lsC L)[0 * 3 + r]? = _
    rw [Nat.zero_mul, Nat.zero_add, List.getElem?_append_left (by simpa [lsL] using hr)]
  | a :: L, i + 1, l, h, r, hr => by
    show (lsL a ++ lsC L)[(i + 1) * 3 + r]? = _
    rw [List.getElem?_append_right (by simp [lsL]; omega)]
    have := lsC_at L i l (by simpa using h) r hr
    rw [← this]
    congr 1
    simp [lsL]
    omega
theorem row_ls {w : World} {base : Nat} {p : Option Addr} {n c : Nat} {L : List Ls} (h : w.ownsRow base 45 3 (.slice p n c) n (lsC L)) {i : Nat} {l : Ls} (hi : L[i]? = some l) : ∃ g, p = some ⟨g, 0, none⟩ ∧ w.cell? ⟨g, i * 3, none⟩ = some (.int .i64 l.id) ∧ w.cell? ⟨g, i * 3 + 1, none⟩ = some (.int .i64 l.ttl) ∧ w.cell? ⟨g, i * 3 + 2, none⟩ = some (.int .i64 l.til) ∧ g < w.heap.size ∧ n ≤ c := by
  have hn : (lsC L).length = n * 3 := h.1
  rw [lsC_len] at hn
  have hil : i < L.length := (List.getElem?_eq_some_iff.1 hi).1
  rcases h.2 with ⟨_, h0⟩ | ⟨g, cap, cur, e, hbg, hh, h1, h2, h3, h4⟩
  · omega
  · cases e
    have hc : ∀ r u, r < 3 → (lsL l)[r]? = some u → w.cell? ⟨g, i * 3 + r, none⟩ = some u := fun r u hr hu => by
      have := h.cells (g := g) rfl (i * 3 + r) u (by rw [lsC_at L i l hi r hr]; exact hu)
      rwa [Addr.add_lit, Nat.zero_add] at this
    exact ⟨g, rfl, hc 0 _ (by omega) rfl, hc 1 _ (by omega) rfl, hc 2 _ (by omega) rfl, (Array.getElem?_eq_some_iff.1 hh).1, h1⟩
/-- The id of the i-th lease. -/
def idM (s i : Nat) : Int := 1 + ((i * s % 2048 : Nat) : Int)
theorem idM_bd (s i : Nat) : 1 ≤ idM s i ∧ idM s i ≤ 2048 := by
  have := Nat.mod_lt (i * s) (show 0 < 2048 by omega)
  unfold idM
  omega
theorem idM_lt {k i j : Nat} (hij : j < i) (hi : i < 2048) : idM (1 + 2 * k) i ≠ idM (1 + 2 * k) j := by
  intro e
  have e2 : i * (1 + 2 * k) % 2048 = j * (1 + 2 * k) % 2048 := by unfold idM at e; omega
  have hd : 2048 ∣ i * (1 + 2 * k) - j * (1 + 2 * k) := Nat.dvd_of_mod_eq_zero (Nat.sub_mod_eq_zero_of_mod_eq e2)
  rw [← Nat.sub_mul] at hd
  have hc : Nat.Coprime 2048 (1 + 2 * k) := by
    have h2 : Nat.Coprime 2 (1 + 2 * k) := by
      rw [Nat.Coprime, Nat.gcd_rec, show (1 + 2 * k) % 2 = 1 by omega]
      decide
    exact Nat.Coprime.pow_left 11 h2
  have := Nat.le_of_dvd (by omega) (hc.dvd_of_dvd_mul_right hd)
  omega
structure ML (s i : Nat) (L : List Ls) : Prop where
  len : L.length = min i 1024
  mem : ∀ l ∈ L, (∃ j, j < i ∧ l.id = idM s j) ∧ l.til ≤ 5000
theorem ML.none {k i : Nat} {L : List Ls} (h : ML (1 + 2 * k) i L) (hi : i < 2048) : lookL (idM (1 + 2 * k) i) L = Option.none := by
  unfold lookL
  rw [List.find?_eq_none]
  intro l hl
  obtain ⟨⟨j, hj, e⟩, _⟩ := h.mem l hl
  have := idM_lt (k := k) hj hi
  simp
  rw [e]
  exact fun e => this e.symm
theorem ML.grant {k i : Nat} {L : List Ls} (h : ML (1 + 2 * k) i L) (hi : i < 2000) : grantE L (idM (1 + 2 * k) i) 5 i = (if i < 1024 then 0 else 4) ∧ ML (1 + 2 * k) (i + 1) (grantL L (idM (1 + 2 * k) i) 5 i) := by
  obtain ⟨b1, b2⟩ := idM_bd (1 + 2 * k) i
  have e : argB (idM (1 + 2 * k) i) 5 i = true := by
    simp only [argB, numB, nowB, Bool.and_eq_true, decide_eq_true_eq]
    omega
  have e1 : grantE L (idM (1 + 2 * k) i) 5 i = (if i < 1024 then 0 else 4) := by
    unfold grantE
    rw [e, h.none (by omega), h.len]
    by_cases h4 : i < 1024
    · rw [if_pos h4]; simp; omega
    · rw [if_neg h4]; simp; omega
  refine ⟨e1, ?_⟩
  unfold grantL
  rw [e1]
  by_cases h4 : i < 1024
  · rw [if_pos h4, if_pos rfl]
    refine ⟨by rw [length_ins, h.len]; omega, fun l hl => ?_⟩
    rcases mem_ins.1 hl with rfl | hl
    · exact ⟨⟨i, by omega, rfl⟩, by show (i : Int) + 5 ≤ 5000; omega⟩
    · obtain ⟨⟨j, hj, e⟩, ht⟩ := h.mem l hl
      exact ⟨⟨j, by omega, e⟩, ht⟩
  · rw [if_neg h4, if_neg (by omega)]
    refine ⟨by rw [h.len]; omega, fun l hl => ?_⟩
    obtain ⟨⟨j, hj, e⟩, ht⟩ := h.mem l hl
    exact ⟨⟨j, by omega, e⟩, ht⟩
theorem ML.over {s i : Nat} {L : List Ls} (h : ML s i L) : (overL L 1099511627776).length = L.length := by
  unfold overL
  rw [List.length_map, List.filter_eq_self.2]
  intro l hl
  have := (h.mem l hl).2
  simp
  omega
set_option maxRecDepth 20000 in
set_option maxHeartbeats 1000000 in
theorem leaseMany_walk (x y : Int) (w : World) (_hx : -9223372036854775808 ≤ x ∧ x ≤ 9223372036854775807) (_hy : -9223372036854775808 ≤ y ∧ y ≤ 9223372036854775807) :
    Calls Try.prog 5 #[.int .i64 x, .int .i64 y] w fun e w' => e = .returned (.bool true) ∧ Below w.heap.size w w' := by
  have hk := known_any w
  obtain ⟨t1, t2⟩ := withinF_bd x 8 (by omega)
  obtain ⟨s1, s2⟩ := withinF_bd y 500 (by omega)
  obtain ⟨u, hu⟩ : ∃ u : Nat, withinF x 8 = u := ⟨(withinF x 8).toNat, by omega⟩
  obtain ⟨k, hkk⟩ : ∃ k : Nat, withinF y 500 = k := ⟨(withinF y 500).toNat, by omega⟩
  rw [hu] at t1 t2
  rw [hkk] at s1 s2
  have HU := Hid.mk'' hu
  have HKK := Hid.mk'' hkk
  clear hu hkk
  go_enter Try.func5, Try.ntmps5
  go_wp2_with (first
    | (go_at_call 7; refine hk.mono ?_; rintro e w1 ⟨rfl, bel1⟩; have hn := new_ll w w1 bel1; clear hk)
    | (go_at_call 8; refine hn.mono ?_; rintro e w2 ⟨d, b, rfl, h2⟩; have H2 := Hid.mk'' h2; clear hn bel1 h2)
    | (go_at_call 9; refine (within_any _ _ _ (by omega) (by omega)).mono ?_; rintro e w3 ⟨rfl, hw3⟩; obtain rfl := hw3.symm; first | rw [HU.out] | rw [HKK.out]))
  go_loopg [6, 7] (1021 + u) (fun kx s6 _ wq => ∃ (i : Nat) (L : List Ls), s6 = .int .i64 i ∧ kx + i = 1021 + u ∧ i ≤ 1020 + u ∧ Hid (LL w wq d b L) ∧ Hid (ML (1 + 2 * k) i L))
  case atStart => exact ⟨0, [], rfl, by omega, by omega, H2.out, ⟨rfl, by simp⟩⟩
  case round =>
    obtain ⟨i, L, rfl, hkx, hi, HM, HL⟩ := hrel
    clear H2
    by_cases hlt : i < 1020 + u
    · obtain ⟨g1, g2⟩ := HL.out.grant (by omega)
      have hgr := grant_ll HM.out (idM (1 + 2 * k) i) 5 i (by have := idM_bd (1 + 2 * k) i; unfold isI; omega)
      rw [g1] at hgr
      have HL2 := Hid.mk'' g2
      have hmb : 0 ≤ (i : Int) * (1 + 2 * (k : Int)) ∧ (i : Int) * (1 + 2 * (k : Int)) ≤ 2000000 := by
        have h1 : i * (1 + 2 * k) ≤ 2000 * 1000 := Nat.mul_le_mul (by omega) (by omega)
        have h2 : ((i * (1 + 2 * k) : Nat) : Int) = (i : Int) * (1 + 2 * (k : Int)) := by push_cast; rfl
        rw [← h2]
        omega
      obtain ⟨m1, m2⟩ := hmb
      have hid : idM (1 + 2 * k) i = 1 + (i : Int) * (1 + 2 * (k : Int)) % 2048 := by
        unfold idM
        push_cast
        rfl
      rw [hid] at hgr HL2
      clear g1 g2 hid
      by_cases h4 : i < 1024
      · rw [if_pos h4] at hgr
        have h4' : (i : Int) < 1024 := by omega
        go_wp2_with (go_at_call 10; refine hgr.mono ?_; rintro e w4 ⟨rfl, h5⟩; clear hgr)
        go_roundg (1020 + u - i)
        case measure => omega
        case rel => exact ⟨i + 1, _, by congr 1, by omega, by omega, h5, HL2.out⟩
      · rw [if_neg h4] at hgr
        have h4' : (1024 : Int) ≤ (i : Int) := by omega
        go_wp2_with (go_at_call 10; refine hgr.mono ?_; rintro e w4 ⟨rfl, h5⟩; clear hgr)
        go_roundg (1020 + u - i)
        case measure => omega
        case rel => exact ⟨i + 1, _, by congr 1, by omega, by omega, h5, HL2.out⟩
    · have hall := all_any _ d b L wr HM.out.bk
      have hlen : L.length = min (1020 + u) 1024 := by rw [HL.out.len]; congr 1; omega
      have hle2 : L.length ≤ 1024 := by omega
      have HLEN := Hid.mk'' hlen
      have HUP := Hid.mk'' HM.out.bk.up
      clear hlen
      go_wp2_with (go_at_call 18; refine hall.mono ?_; rintro e w5 ⟨p5, c5, rfl, hrow, bel5⟩; have HROW := Hid.mk'' hrow; have HB5 := Hid.mk'' (HM.out.below bel5); clear hall bel5 hrow)
      go_loopg [9] (L.length + 2) (fun kx s9 wq => ∃ (j : Nat), s9 = .int .i64 (j + 1) ∧ kx + j = L.length + 2 ∧ j ≤ L.length ∧ Hid (Below w5.heap.size w5 wq))
      case atStart => exact ⟨0, rfl, rfl, Nat.zero_le _, Below.refl _ _⟩
      case round =>
        obtain ⟨j, rfl, hkj, hj, HBJ⟩ := hrel
        by_cases hjl : j + 1 < L.length
        · obtain ⟨l, hl⟩ : ∃ l, L[j]? = some l := ⟨_, List.getElem?_eq_getElem (by omega)⟩
          obtain ⟨l', hl'⟩ : ∃ l', L[j + 1]? = some l' := ⟨_, List.getElem?_eq_getElem (by omega)⟩
          obtain ⟨g, hg, hcell, _, _, hgl, hnc⟩ := row_ls HROW.out hl
          obtain ⟨g', hg', hcell', _⟩ := row_ls HROW.out hl'
          obtain rfl : g = g' := by rw [hg] at hg'; cases hg'; rfl
          subst hg
          have cj := (HBJ.out.cell (p := ⟨g, j * 3, none⟩) hgl).trans hcell
          have cj' := (HBJ.out.cell (p := ⟨g, (j + 1) * 3, none⟩) hgl).trans hcell'
          have hxx : l.id < l'.id := by
            have := List.pairwise_iff_getElem.1 HUP.out j (j + 1) (by omega) (by omega) (by omega)
            rwa [(List.getElem?_eq_some_iff.1 hl).2, (List.getElem?_eq_some_iff.1 hl').2] at this
          have hle : decide (l'.id ≤ l.id) = false := by simp; omega
          clear hg' hcell hcell' hl hl' hxx
          have hjl' : (j : Int) + 1 < L.length := by omega
          go_wp2
          go_quiet (fail)
          go_wp2
          go_roundg (L.length + 1 - j)
          case measure => omega
          case rel => exact ⟨j + 1, by congr 1, by omega, by omega, below_drewN HBJ.out _⟩
        · have hov := over_ll (HB5.out.below HBJ.out) 1099511627776
          rw [HL.out.over] at hov
          have hjl' : ¬ (j : Int) + 1 < L.length := by omega
          have hmin : decide ((L.length : Int) = min (1020 + (u : Int)) 1024) = true := by simp only [decide_eq_true_eq]; rw [HLEN.out]; omega
          go_wp2_with (go_at_call 16; refine hov.mono ?_; rintro e w6 ⟨p6, c6, rfl, _, bel6⟩)
          · go_ret
            exact ⟨rfl, (HB5.out.below HBJ.out).bel.trans (bel6.mono (HB5.out.below HBJ.out).bel.size)⟩
          · exact absurd (of_decide_eq_true hmin) (by assumption)
end Go.Proofs.Ytiffigjfjdplhaa
