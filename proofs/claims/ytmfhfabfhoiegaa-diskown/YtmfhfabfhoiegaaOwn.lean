/- DiskOwn, walked: what was handed in, and what was told, is nobody else's. -/
import Derived.Test.YtmfhfabfhoiegaaPublish
namespace Go.Proofs.Ytmfhfabfhoiegaa
open Go Go.RowKit
theorem ow1 (a : List Int) (h : a.length ≤ 1000) : appP (q0 65536) [97] a = ⟨[⟨[97], a, 0⟩], 65536, 1, 0, false⟩ := by
  have hE : appE (q0 65536) [97] a.length = 0 := appE_ok rfl rfl (by simp [q0, total]; omega)
  exact (appP_yes hE).trans rfl
set_option maxRecDepth 100000 in
set_option maxHeartbeats 2000000 in
theorem own_short (va : Value) (t : Int) (zs : List Int) (w : World) (ha : Sees w va zs) (hab : isB zs) (hl : zs.length ≤ 1000) :
    Calls Try.prog 8 #[va, .int .u8 t] w fun e w' => e = .returned (.bool true) ∧ Below w.heap.size w w' := by
  obtain ⟨i0, hi, hz0, hz1, hz2⟩ := info_parts info5
  obtain ⟨ao, ac, hva⟩ := ha.form
  subst hva
  have HA := Hid.mk' ha
  clear ha
  go_enter Try.func8, Try.ntmps8
  go_wp2_with (go_at_call 9; refine (known_any _).mono ?_; rintro e w0 ⟨rfl, hb0⟩)
  have hs0 := hb0.size
  refine (new_dk w.heap.size 65536 w0 (by decide) hs0).mono ?_
  rintro e w1 ⟨d, hdd, rfl, hd1, hb1⟩
  replace hb1 := hb0.trans (hb1.mono hs0)
  have hs1 := hb1.size
  clear hdd hb0 hs0
  have hba := hb1.alloc hs1 (.cells #[] 5)
  have hsrc := Src_sees (HA.out.below hba)
  have hown0 : (w1.alloc (.cells #[] 5)).ownsRow w1.heap.size 5 1 (.slice (some ⟨w1.heap.size, 0, none⟩) 0 0) 0 [] := World.ownsRow_lit (size := 1) (e := 5) w1 #[] 0 (Nat.le_refl _) (by decide) rfl
  go_wp2_with (at_builtin; refine wpList_app _ rfl (.tmp 27) (.tmp 28) 31 31 rfl w1.heap.size 5 i0 Try.underlying31 hi hz0 hz1 hz2 (.slice (some ⟨w1.heap.size, 0, none⟩) 0 0) 0 [] rfl hown0 (.slice ao zs.length ac) rfl _ _ hsrc (by omega) (by simp) ?_; intro vm w2 h1 h2 h3 h4)
  simp only [Nat.zero_add, List.nil_append] at h1
  obtain ⟨mo, mc, hvm⟩ := owns_form h1
  subst hvm
  have hb2 : Below w.heap.size w w2 := hba.trans (h2.below (by simp; omega) (fun k hk e => by have : k = w1.heap.size := Option.some.inj e; omega))
  have hs2 := hb2.size
  have hd2 : Dk w.heap.size w2 d ⟨none, []⟩ (q0 65536) := (hd1.below ((Below.refl _ _).alloc (Nat.le_refl _) (.cells #[] 5))).upd h2 (fun k hk e => by
    have := hd1.lt hk
    have : k = w1.heap.size := Option.some.inj e
    omega)
  have hs12 : w1.heap.size < w2.heap.size := by have := h2.size; simp at this; omega
  have hmoff : ∀ k, (Value.slice mo zs.length mc).ownBlock = some k → ¬ Foot d ⟨none, []⟩ k := fun k hk hf => by
    have h5 := hd1.lt hf
    have h6 := (h1.lt k hk).1
    omega
  have HM := Hid.mk' h1
  have HMO := Hid.mk' hmoff
  clear h1 h2 h3 h4 hsrc hown0 hba hd1 hb1 hmoff
  refine (append_any w.heap.size d _ _ ⟨#[97]⟩ _ zs w2 hd2 (sane_q0 (by decide) (by decide)) hs2 (sees_own HM.out) hab (fun k hk _ => HMO.out k hk) (by omega)).mono ?_
  rintro e w3 ⟨rfl, hp3⟩
  obtain ⟨g3, hd3, hu3, hf3⟩ := hp3
  have hb3 := hb2.trans (hd2.toBelow hs2 hu3)
  have hs3 := hb3.size
  rw [show appP (q0 65536) _ _ = _ from ow1 zs hl] at hd3
  have HM3 := Hid.mk' (ownsRow_upd HM.out hu3 (fun k hk => HMO.out k hk))
  have HMO3 : Hid (∀ k, (Value.slice mo zs.length mc).ownBlock = some k → ¬ Foot d g3 k) := fun k hk hf => by
    rcases hf3 k hf with h | h
    · exact HMO.out k hk h
    · have := (HM.out.lt k hk).2; omega
  clear hu3 hf3 hd2 hb2 HM HMO
  go_wp2_with fail
  go_loopg [8] zs.length (fun g0 i wx => ∃ (k : Nat) (ys : List Int), k ≤ zs.length ∧ g0 = zs.length - k ∧ i = .int .i64 k ∧ ys.length = zs.length ∧ wx.ownsRow w1.heap.size 5 1 (.slice mo zs.length mc) zs.length (u8s ys) ∧ Upd w3 wx (fun j => (Value.slice mo zs.length mc).ownBlock = some j))
  case atStart => exact ⟨0, zs, by omega, rfl, rfl, rfl, HM3.out, Upd.refl _ _⟩
  case round =>
    obtain ⟨k, ys, hk, hg0, rfl, hyl, hoy, huy⟩ := hrel
    by_cases hlt : k < zs.length
    · obtain ⟨gb, mc', hmo, _, _⟩ := hoy.form (by omega)
      cases hmo
      have hc := hoy.cellAt k (by omega)
      have hfz := hoy.frozenAt k
      have hky : k < ys.length := by omega
      simp only [u8s, List.getElem?_map, List.getElem?_eq_getElem hky, Option.map_some] at hc
      have HOY := Hid.mk' hoy
      have HUY := Hid.mk' huy
      clear hoy huy
      go_wp2
      go_roundg (zs.length - (k + 1))
      case measure => omega
      case rel =>
        obtain ⟨q1, q2⟩ := HOY.out.stored k (.int .u8 (bits .xor .u8 ys[k] t))
        refine ⟨k + 1, ys.set k (bits .xor .u8 ys[k] t), by omega, rfl, by go_num, by simp [hyl], ?_, ?_⟩
        · rw [show u8s (ys.set k (bits .xor .u8 ys[k] t)) = (u8s ys).set k (.int .u8 (bits .xor .u8 ys[k] t)) from by simp [u8s, List.map_set]]
          exact q1
        · exact HUY.out.trans (Upd.ofGrown q2) (fun j _ e => e.symm)
    · have hb4 : Below w.heap.size w wr := hb3.trans (huy.below hs3 (fun j hj e => by have := (hoy.lt j e).1; omega))
      have hd4 := hd3.upd huy (fun j hj e => HMO3.out j e hj)
      have hs4 := hb4.size
      clear hoy huy hd3 hb3 hs3
      go_wp2_with fail
      refine (read_any w.heap.size d _ _ ⟨#[97]⟩ wr hd4 (by simp [total]; omega)).mono ?_
      rintro e w5 ⟨vr, rfl, ho5, hb5⟩
      rw [show readE _ _ = 0 from rfl]
      rw [show readB _ _ = zs from rfl] at ho5
      obtain ⟨ro, rc, hvr⟩ := owns_form ho5
      subst hvr
      have hd5 := hd4.below hb5
      have hrlt : ∀ k, Foot d g3 k → k < wr.heap.size := fun k hk => hd4.lt hk
      have hb5' := hb4.trans (hb5.mono hs4)
      have hs5 := hb5'.size
      have hs45 := hb5.size
      clear hd4 hb4 hb5
      generalize wr.heap.size = N4 at *
      go_wp2_with fail
      have HR5 := Hid.mk' ho5
      clear ho5
      go_loopg [11] zs.length (fun g0 i wx => ∃ (k : Nat) (ys : List Int), k ≤ zs.length ∧ g0 = zs.length - k ∧ i = .int .i64 k ∧ ys.length = zs.length ∧ wx.ownsRow N4 5 1 (.slice ro zs.length rc) zs.length (u8s ys) ∧ Upd w5 wx (fun j => (Value.slice ro zs.length rc).ownBlock = some j))
      case atStart => exact ⟨0, zs, by omega, rfl, rfl, rfl, HR5.out, Upd.refl _ _⟩
      case round =>
        obtain ⟨k2, ys2, hk2, hg2, rfl, hyl2, hoy, huy⟩ := hrel
        by_cases hlt2 : k2 < zs.length
        · obtain ⟨gb, mc', hmo, _, _⟩ := hoy.form (by omega)
          cases hmo
          have hc := hoy.cellAt k2 (by omega)
          have hfz := hoy.frozenAt k2
          have hky : k2 < ys2.length := by omega
          simp only [u8s, List.getElem?_map, List.getElem?_eq_getElem hky, Option.map_some] at hc
          have HOY := Hid.mk' hoy
          have HUY := Hid.mk' huy
          clear hoy huy
          go_wp2
          go_roundg (zs.length - (k2 + 1))
          case measure => omega
          case rel =>
            obtain ⟨q1, q2⟩ := HOY.out.stored k2 (.int .u8 (bits .xor .u8 ys2[k2] t))
            refine ⟨k2 + 1, ys2.set k2 (bits .xor .u8 ys2[k2] t), by omega, rfl, by go_num, by simp [hyl2], ?_, ?_⟩
            · rw [show u8s (ys2.set k2 (bits .xor .u8 ys2[k2] t)) = (u8s ys2).set k2 (.int .u8 (bits .xor .u8 ys2[k2] t)) from by simp [u8s, List.map_set]]
              exact q1
            · exact HUY.out.trans (Upd.ofGrown q2) (fun j _ e => e.symm)
        · have hroff : ∀ j, (Value.slice ro zs.length rc).ownBlock = some j → ¬ Foot d g3 j := fun j hj hf => by
            have := hrlt j hf
            have := (hoy.lt j hj).1
            omega
          have hd6 := hd5.upd huy (fun j hj e => hroff j e hj)
          have hb6 : Below w.heap.size w wr := hb5'.trans (huy.below hs5 (fun j hj e => by have := (hoy.lt j e).1; omega))
          have hs6 := hb6.size
          have hs56 := huy.size
          have hal : Upd wr (wr.alloc (.cells #[.int .u8 1, .int .u8 2] 5)) (fun _ => False) := Upd.alloc _ _ _
          have hro := ownsRow_upd hoy hal (fun _ _ h => h)
          have hd6a := hd6.upd hal (fun _ _ h => h)
          have hb6a := hb6.alloc hs6 (.cells #[.int .u8 1, .int .u8 2] 5)
          have hsrc := Src_sees (sees_new wr [1, 2] (0, 0) (by decide) (by decide))
          have HSZ : Hid ((wr.alloc (.cells #[.int .u8 1, .int .u8 2] 5)).heap.size = wr.heap.size + 1) := by show _ = _; simp
          clear hoy huy hd5 hb5' hal
          go_wp2_with (at_builtin; refine wpList_app _ rfl (.tmp 64) (.tmp 65) 31 31 rfl N4 5 i0 Try.underlying31 hi hz0 hz1 hz2 (.slice ro zs.length rc) zs.length (u8s ys2) rfl hro (.slice (some ⟨wr.heap.size, 0, none⟩) 2 2) rfl _ _ hsrc (by simp; omega) (by simp; omega) ?_; intro va w7 h1 h2 h3 h4)
          obtain ⟨no, nc, hva⟩ := owns_form h1
          subst hva
          have hd7 := hd6a.upd h2 (fun j hj e => hroff j e.symm hj)
          have hb7 : Below w.heap.size w w7 := hb6a.trans (h2.below (by rw [HSZ.out]; omega) (fun j hj e => by have := (hro.lt j e.symm).1; omega))
          have hs7 := hb7.size
          clear h1 h2 h3 h4 hsrc hro hd6 hd6a hb6 hb6a hs6 hs56 hs45
          refine (list_any w.heap.size d _ _ w7 hd7 (by simp)).mono ?_
          rintro e w8 ⟨vl, rfl, ho8, hb8⟩
          rw [show listE _ = 0 from rfl]
          rw [show listB _ = [[97]] from rfl] at ho8
          have hd8 := hd7.below hb8
          have hb8' := hb7.trans (hb8.mono hs7)
          have hs8 := hb8'.size
          obtain ⟨lg, lc, hvl, hlg, hlgl⟩ := ho8.form (by decide)
          subst hvl
          have hlc : 1 ≤ lc := by
            rcases ho8.2 with ⟨e, _⟩ | ⟨g', c', cur, e, _, _, hc, _⟩
            · cases e
            · cases e; exact hc
          have hc8 := ho8.cellAt 0 (by decide)
          simp only [strs, List.map_cons, List.map_nil, List.getElem?_cons_zero] at hc8
          have hf8 := ho8.frozenAt 0
          have hset := upd_cell w8 lg 0 (.string ⟨#[111, 116, 104, 101, 114]⟩)
          have hd9 := hd8.upd hset (fun j hj e => by have := hd7.lt hj; omega)
          have hb9 : Below w.heap.size w (w8.setCell ⟨lg, 0, none⟩ (.string ⟨#[111, 116, 104, 101, 114]⟩)) := hb8'.trans (hset.below hs8 (fun j hj e => by omega))
          have hs9 := hb9.size
          clear hd7 hb7 hs7 ho8 hb8 hd8 hb8' hset hrlt hroff
          go_wp2_with fail
          generalize w8.setCell ⟨lg, 0, none⟩ (.string ⟨#[111, 116, 104, 101, 114]⟩) = w9 at *
          refine (read_any w.heap.size d _ _ ⟨#[97]⟩ w9 hd9 (by simp [total]; omega)).mono ?_
          rintro e w10 ⟨vb, rfl, ho10, hb10⟩
          rw [show readE _ _ = 0 from rfl]
          rw [show readB _ _ = zs from rfl] at ho10
          have hd10 := hd9.below hb10
          have hb10' := hb9.trans (hb10.mono hs9)
          have hs10 := hb10'.size
          clear hd9 hb9 hs9 hb10
          go_wp2_with fail
          refine (list_any w.heap.size d _ _ w10 hd10 (by simp)).mono ?_
          rintro e w11 ⟨vm, rfl, ho11, hb11⟩
          rw [show listE _ = 0 from rfl]
          rw [show listB _ = [[97]] from rfl] at ho11
          have HB11 := Hid.mk' (hb10'.trans (hb11.mono hs10))
          have c1 := conv_sees ((sees_own ho10).below hb11)
          have c2 := conv_sees (HA.out.below HB11.out)
          have c3 := str_same zs
          obtain ⟨qg, qc, hvq, _, _⟩ := ho11.form (by decide)
          subst hvq
          have hc11 := ho11.cellAt 0 (by decide)
          simp only [strs, List.map_cons, List.map_nil, List.getElem?_cons_zero] at hc11
          rw [show encStr [97] = .string ⟨#[97]⟩ from rfl] at hc11
          clear ho10 ho11 hb11 hd10 hb10'
          go_wp2
          go_ret
          exact ⟨ret_bool (by simp; omega), HB11.out⟩
set_option maxHeartbeats 1000000 in
theorem own_walk (va : Value) (t : Int) (zs : List Int) (w : World) (ha : Sees w va zs) (hab : isB zs) (_hal : zs.length ≤ 140737488355328) (_ht : 0 ≤ t ∧ t ≤ 255) :
    Calls Try.prog 8 #[va, .int .u8 t] w fun e w' => e = .returned (.bool true) ∧ Below w.heap.size w w' := by
  by_cases hl : zs.length ≤ 1000
  · exact own_short va t zs w ha hab hl
  · obtain ⟨ao, ac, hva⟩ := ha.form
    subst hva
    clear ha hab
    go_enter Try.func8, Try.ntmps8
    go_wp2_with (go_at_call 9; refine (known_any _).mono ?_; rintro e w0 ⟨rfl, hb0⟩)
    go_ret
    exact ⟨rfl, hb0⟩
end Go.Proofs.Ytmfhfabfhoiegaa
