/- CronNext, walked. -/
import Derived.Test.YtdojpnhjnhecmaaDoorW1
namespace Go.Proofs.YtdojpnhjnhecmaaDoor
open Go Go.RowKit
theorem EW.start0 {w W : World} (hb : Below w.heap.size w W) : Below w.heap.size w (W.alloc (.cells #[.int .u64 0, .int .u64 0, .int .u64 0, .int .u64 0, .int .u64 0, .bool false, .bool false] 25)) := hb.alloc hb.size _
theorem next_prev {x : Exp} {a v : Int} (h : NextIs x a v 0) : PrevIs x v a v 0 := by
  rcases h with ⟨_, h1, _, h3, _⟩ | ⟨h, _⟩
  · exact .inl ⟨rfl, h1, Int.le_refl _, by omega, h3, fun k g1 g2 => by omega⟩
  · exact absurd h (by decide)
theorem next_prev1 {x : Exp} {a v : Int} (h : NextIs x a v 0) : PrevIs x (v - 1) a 0 28 := by
  rcases h with ⟨_, _, _, _, h4⟩ | ⟨h, _⟩
  · exact .inr ⟨rfl, rfl, fun k g1 g2 _ => h4 k g1 (by omega)⟩
  · exact absurd h (by decide)
set_option maxRecDepth 100000 in
set_option maxHeartbeats 2000000 in
theorem next_walk (s : ByteArray) (x1 x2 : Int) (w : World) (hT : HasT w) (hsz : s.size ≤ 9223372036854775807) (_b1 : -9223372036854775808 ≤ x1 ∧ x1 ≤ 9223372036854775807) (_b2 : -9223372036854775808 ≤ x2 ∧ x2 ≤ 9223372036854775807) :
    Calls Tryd.prog 5 #[.string s, .int .i64 x1, .int .i64 x2] w fun e w' => e = .returned (.bool true) ∧ Below w.heap.size w w' := by
  have hkn := known_any w hT
  have HT : Hid (∀ w3, Below w.heap.size w w3 → HasT w3) := fun w3 h => hT.below h
  clear hT
  by_cases hl : 100 < s.size
  · have hp : ∀ W, Calls Tryd.prog 10 #[.string s] W _ := fun W => parse_long s W hl hsz
    clear hl hsz
    go_enter Tryd.func5, Tryd.ntmps5
    go_wp2_with fail
    refine hkn.mono ?_
    rintro e w1 ⟨rfl, hb⟩
    have HB1 := Hid.mk'' hb
    clear hkn hb
    go_wp2_with fail
    refine (hp _).mono ?_
    rintro e w2 ⟨rfl, hb2⟩
    have HB2 : Hid (Below w.heap.size w w2) := HB1.out.trans (hb2.mono HB1.out.size)
    clear hp hb2
    go_wp2_with fail
    go_ret
    exact ⟨rfl, HB2.out.alloc HB2.out.size _⟩
  cases hx : parseL (numsOf s) with
  | none =>
    have HP : Hid (∀ W, HasT W → Calls Tryd.prog 10 #[.string s] W _) := fun W hW => parse_no s hx (by omega) W hW
    clear hl hsz hx
    go_enter Tryd.func5, Tryd.ntmps5
    go_wp2_with fail
    refine hkn.mono ?_
    rintro e w1 ⟨rfl, hb⟩
    have HB1 := Hid.mk'' hb
    have hp := HP.out w1 (HT.out _ hb)
    clear hkn hb HP
    go_wp2_with fail
    refine hp.mono ?_
    rintro e w2 ⟨rfl, hb2⟩
    have HB2 : Hid (Below w.heap.size w w2) := HB1.out.trans (hb2.mono HB1.out.size)
    clear hp hb2
    go_wp2_with fail
    go_ret
    exact ⟨rfl, HB2.out.alloc HB2.out.size _⟩
  | some x =>
  have HX := Hid.mk'' (parse_okE hx)
  have HP : Hid (∀ W, HasT W → Calls Tryd.prog 10 #[.string s] W _) := fun W hW => parse_yes s x hx (by omega) W hW
  have hm := fun W => minF_any x1 W
  have hmb := minF_bd x1
  generalize minF x1 = a at *
  clear hl hsz hx
  go_enter Tryd.func5, Tryd.ntmps5
  go_wp2_with fail
  refine hkn.mono ?_
  rintro e w1 ⟨rfl, hb⟩
  have HB1 := Hid.mk'' hb
  have hp := HP.out w1 (HT.out _ hb)
  clear hkn hb HP
  unfold expV at hp
  go_wp2_with fail
  refine hp.mono ?_
  rintro e w2 ⟨rfl, hb2⟩
  have hb2' : Below w.heap.size w w2 := HB1.out.trans (hb2.mono HB1.out.size)
  have HE := Hid.mk'' (EW.start (x := x) hb2' (HT.out _ hb2'))
  obtain ⟨V, hV⟩ : ∃ V, V = w2.alloc (.cells #[.int .u64 x.mi, .int .u64 x.ho, .int .u64 x.da, .int .u64 x.mo, .int .u64 x.wk, .bool x.ad, .bool x.aw] 25) := ⟨_, rfl⟩
  rw [← hV] at HE
  clear hp hb2 hb2' HB1
  go_upto_region 4 with (fail)
  rw [← hV]
  clear hV
  generalize w2.heap.size = E at *
  obtain ⟨k0, k1, k2, k3, k4, k5, k6⟩ := HE.out.cells
  have nx := next_yes x HX.out a V HE.out.tab (by omega) (by omega)
  unfold expV at nx
  go_wp2_with (go_at_call 21; refine (hm _).mono ?_; rintro e w3 ⟨rfl, rfl⟩)
  refine nx.mono ?_
  rintro e w4 ⟨⟨v, c, rfl, hv⟩, hb4⟩
  have HE4 := Hid.mk'' (HE.out.below hb4)
  clear nx hb4 HE k0 k1 k2 k3 k4 k5 k6 hm
  obtain ⟨k0, k1, k2, k3, k4, k5, k6⟩ := HE4.out.cells
  have hcc : c = 28 ∨ c = 0 := by rcases hv with h | h; exact .inr h.1; exact .inl h.1
  rcases hcc with rfl | rfl
  · have HN : Hid (∀ k, a < k → k ≤ a + 4216320 → ¬ Mt x k) := by
      rcases hv with h | h
      · exact absurd h.1 (by decide)
      · exact h.2.2
    have hw := fun W => within_any x2 4216320 W (by decide) (by decide)
    have hq := withinF_bd x2 4216320 (by decide)
    generalize withinF x2 4216320 = q at *
    have mt := matches_any x HX.out (a + 1 + q) w4 HE4.out.tab
    unfold expV at mt
    clear hv
    go_wp2_with (go_at_call 22; refine (hw _).mono ?_; rintro e w5 ⟨rfl, rfl⟩)
    refine mt.mono ?_
    rintro e w6 ⟨⟨b, rfl, hbm⟩, hb6⟩
    obtain rfl : b = false := by
      cases b with
      | false => rfl
      | true => exact absurd (hbm.1 rfl) (HN.out _ (by omega) (by omega))
    have HE6 := Hid.mk'' (HE4.out.below hb6)
    clear mt hb6 hbm HE4 k0 k1 k2 k3 k4 k5 k6
    go_wp2_with fail
    go_ret
    exact ⟨rfl, HE6.out.bel⟩
  · have HV := Hid.mk'' hv
    have hv1 : a < v ∧ v ≤ a + 4216320 ∧ Mt x v := by
      rcases hv with h | h
      · exact ⟨h.2.1, h.2.2.1, h.2.2.2.1⟩
      · exact absurd h.1 (by decide)
    obtain ⟨v1, v2, vM⟩ := hv1
    have HVM := Hid.mk'' vM
    have v3 := vM.1
    have v4 := vM.2.1
    clear hv vM
    have mt := matches_any x HX.out v w4 HE4.out.tab
    unfold expV at mt
    go_wp2_with fail
    refine mt.mono ?_
    rintro e w6 ⟨⟨b, rfl, hbm⟩, hb6⟩
    obtain rfl : b = true := hbm.2 HVM.out
    have HE6 := Hid.mk'' (HE4.out.below hb6)
    clear mt hb6 hbm HE4 k0 k1 k2 k3 k4 k5 k6
    go_wp2_with fail
    go_loopw [12] (fun i W => ∃ k : Nat, i = .int .i64 k ∧ k ≤ 50 ∧ Hid (EW x E w W)) (fun i _ => 50 - (intOf i).toNat)
    case atStart => exact ⟨0, rfl, by decide, HE6⟩
    case round =>
      obtain ⟨k, rfl, hk, HEW⟩ := hrel
      obtain ⟨k0, k1, k2, k3, k4, k5, k6⟩ := HEW.out.cells
      by_cases hk50 : k < 50
      · have hw : ∀ z W, Calls Tryd.prog 22 #[.int .i64 z, .int .i64 (v - a)] W _ := fun z W => within_any z (v - a) W (by omega) (by omega)
        have hwb : ∀ z, 0 ≤ withinF z (v - a) ∧ withinF z (v - a) < v - a := fun z => withinF_bd z (v - a) (by omega)
        have HWB := Hid.mk'' hwb
        clear hwb
        go_wp2_with fail
        refine (hw _ _).mono ?_
        rintro e w7 ⟨rfl, rfl⟩
        generalize hg : withinF _ (v - a) = q
        have hq : 0 ≤ q ∧ q < v - a := by rw [← hg]; exact HWB.out _
        clear hg hw
        by_cases hmv : a + 1 + q < v
        · have mt := matches_any x HX.out (a + 1 + q) w7 HEW.out.tab
          unfold expV at mt
          go_wp2_with fail
          refine mt.mono ?_
          rintro e w8 ⟨⟨b, rfl, hbm⟩, hb8⟩
          obtain rfl : b = false := by
            cases b with
            | false => rfl
            | true =>
              rcases HV.out with h | h
              · exact absurd (hbm.1 rfl) (h.2.2.2.2 _ (by omega) (by omega))
              · exact absurd h.1 (by decide)
          have HE8 := Hid.mk'' (HEW.out.below hb8)
          clear mt hb8 hbm k0 k1 k2 k3 k4 k5 k6
          go_wp2_with fail
          go_roundw
          case rel => exact ⟨k + 1, rfl, by omega, HE8⟩
          case measure => simp [intOf]; omega
        · go_wp2_with fail
          go_roundw
          case rel => exact ⟨k + 1, rfl, by omega, HEW⟩
          case measure => simp [intOf]; omega
      · have pv := prev_yes x HX.out v a wr HEW.out.tab v3 v4 v1 (by omega)
        unfold expV at pv
        go_wp2_with fail
        refine pv.mono ?_
        rintro e w9 ⟨⟨p, c, rfl, hpv⟩, hb9⟩
        obtain ⟨hp1, rfl⟩ := hpv.uniq (next_prev HV.out)
        subst hp1
        have HE9 := Hid.mk'' (HEW.out.below hb9)
        clear pv hb9 hpv HEW k0 k1 k2 k3 k4 k5 k6
        obtain ⟨k0, k1, k2, k3, k4, k5, k6⟩ := HE9.out.cells
        by_cases hd : 1 < p - a
        · have pv := prev_yes x HX.out (p - 1) a w9 HE9.out.tab (by omega) (by omega) (by omega) (by omega)
          unfold expV at pv
          go_wp2_with fail
          refine pv.mono ?_
          rintro e w10 ⟨⟨p', c, rfl, hpv⟩, hb10⟩
          obtain ⟨rfl, rfl⟩ := hpv.uniq (next_prev1 HV.out)
          have HE10 := Hid.mk'' (HE9.out.below hb10)
          clear pv hb10 hpv HE9 k0 k1 k2 k3 k4 k5 k6
          go_wp2_with fail
          go_ret
          exact ⟨rfl, HE10.out.bel⟩
        · go_wp2_with fail
          go_ret
          exact ⟨rfl, HE9.out.bel⟩
end Go.Proofs.YtdojpnhjnhecmaaDoor
