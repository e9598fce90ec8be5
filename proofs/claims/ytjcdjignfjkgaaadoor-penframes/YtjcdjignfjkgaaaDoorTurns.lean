/- The walk of PenTurns: whatever the bytes, the places and the turns, it returns true and turns nothing that was there. -/
import Derived.Test.YtjcdjignfjkgaaaDoorRefUnframe
import Derived.Deep.RegionHeld3
namespace Go.Proofs.YtjcdjignfjkgaaaDoor
open Go Go.RowKit
def withinF (a n : Int) : Int := if a.tmod n < 0 then a.tmod n + n else a.tmod n
theorem withinF_bd (a : Int) (n : Nat) (hn : 0 < n) : 0 ≤ withinF a n ∧ withinF a n < n := by
  have h1 := Int.lt_tmod_of_pos a (b := n) (by omega)
  have h2 := Int.tmod_lt_of_pos a (b := n) (by omega)
  unfold withinF
  split <;> omega
set_option maxHeartbeats 400000 in
theorem within_any (a : Int) (n : Nat) (w : World) (hn : 0 < n) (hm : n ≤ 1000000) :
    Calls Tryd.prog 36 #[.int .i64 a, .int .i64 n] w fun e w' => e = .returned (.int .i64 (withinF a n)) ∧ w' = w := by
  have h1 := Int.lt_tmod_of_pos a (b := n) (by omega)
  have h2 := Int.tmod_lt_of_pos a (b := n) (by omega)
  have hn0 : ((n : Int) == 0) = false := by simp; omega
  by_cases h : a.tmod n < 0
  · have HW : Hid (withinF a n = a.tmod n + n) := by show _ = _; rw [withinF, if_pos h]
    go_enter Tryd.func36, Tryd.ntmps36
    go_wp2
    go_ret
    exact ⟨ret_int HW.out.symm, rfl⟩
  · have HW : Hid (withinF a n = a.tmod n) := by show _ = _; rw [withinF, if_neg h]
    go_enter Tryd.func36, Tryd.ntmps36
    go_wp2
    go_ret
    exact ⟨ret_int HW.out.symm, rfl⟩
theorem frameB_len (zs : List Int) : (frameB zs).length = zs.length + 8 := by simp [frameB, be_len]; omega
theorem frameB_isB {zs : List Int} (hb : isB zs) (hl : zs.length ≤ 100000) : isB (frameB zs) := by
  have hc := crc_lt zs
  have h1 := be_isB zs.length (by omega) (by omega)
  have h2 := be_isB (crc zs : Nat) (by omega) (by omega)
  intro x hx
  simp only [frameB, List.mem_append] at hx
  rcases hx with hx | hx | hx
  · exact h1 x (List.mem_of_mem_drop hx)
  · exact h2 x (List.mem_of_mem_drop hx)
  · exact hb x hx
theorem seesI_at {w : World} {a : Option Addr} {cap : Nat} {ks : List Int} (h : SeesI w (.slice a ks.length cap) ks) {j : Nat} (hj : j < ks.length) :
    ∃ b off, a = some ⟨b, off, none⟩ ∧ b < w.heap.size ∧ w.cell? ⟨b, off + j, none⟩ = some (.int .i64 (ks.getD j 0)) := by
  rcases h with ⟨h, _⟩ | ⟨b, off, c, he, _, hb, hc⟩
  · subst h; simp at hj
  · cases he; exact ⟨b, off, rfl, hb, hc j hj⟩
theorem sees_at {w : World} {a : Option Addr} {cap : Nat} {ks : List Int} (h : Sees w (.slice a ks.length cap) ks) {j : Nat} (hj : j < ks.length) :
    ∃ b off, a = some ⟨b, off, none⟩ ∧ b < w.heap.size ∧ w.cell? ⟨b, off + j, none⟩ = some (.int .u8 (ks.getD j 0)) := by
  rcases h with ⟨h, _⟩ | ⟨b, off, c, he, _, _, _, hc⟩
  · subst h; simp at hj
  · cases he; exact ⟨b, off, rfl, World.block_lt_of_cell? _ _ (hc j hj), hc j hj⟩
theorem sees_in {B N : Nat} {w w' : World} {v : Value} {ys : List Int} (h1 : ys.length = N) (h : w.ownsRow B 5 1 v N (u8s ys)) (hb : Below w.heap.size w w') : Sees w' v ys := by
  subst h1; exact (sees_own h).below hb
set_option maxRecDepth 100000 in
set_option maxHeartbeats 2000000 in
theorem turns_walk (v0 v1 v2 : Value) (zs ks bs : List Int) (w : World) (hT : HasTab w) (h0 : Sees w v0 zs) (hb : isB zs) (hl : zs.length ≤ maxLen) (h1 : SeesI w v1 ks) (_hk : ks.length ≤ maxLen) (h2 : Sees w v2 bs) (hb2 : isB bs) (_hl2 : bs.length ≤ maxLen) :
    Calls Tryd.prog 6 #[v0, v1, v2] w fun e w' => e = .returned (.bool true) ∧ Below w.heap.size w w' := by
  obtain ⟨i0, hi, hz0, hz1, hz2⟩ := info_parts info5
  obtain ⟨a0, cap0, rfl, _, _⟩ := h0.form
  obtain ⟨a1, cap1, rfl⟩ := h1.form
  obtain ⟨a2, cap2, rfl, _, _⟩ := h2.form
  unfold maxLen at hl _hk _hl2
  by_cases hbig : 1000 < zs.length
  · go_enter Tryd.func6, Tryd.ntmps6
    go_wp2_with (go_at_call 9; refine (known_any _ hT).mono ?_; rintro e w1 ⟨rfl, hb1⟩)
    go_ret
    exact ⟨rfl, hb1⟩
  · go_enter Tryd.func6, Tryd.ntmps6
    go_wp2_with (first | (go_at_call 9; refine (known_any _ hT).mono ?_; rintro e w1 ⟨rfl, hb1⟩) | (go_at_call 35; refine (fFrame _ zs _ hb (by omega) (h0.below hb1)).mono ?_; rintro e w2 ⟨vb, rfl, ho, hbb⟩))
    have hfl := frameB_len zs
    obtain ⟨g, capb, rfl, hg1, hg2⟩ := ho.form (by omega)
    have HO : Hid (∃ ys : List Int, ys.length = zs.length + 8 ∧ isB ys ∧ w2.ownsRow w1.heap.size 5 1 (.slice (some ⟨g, 0, none⟩) (zs.length + 8) capb) (zs.length + 8) (u8s ys)) := ⟨frameB zs, hfl, frameB_isB hb (by omega), by rw [hfl] at ho; exact ho⟩
    have hcapb : zs.length + 8 ≤ capb := by
      rcases ho.2 with ⟨e, _⟩ | ⟨g', c', cur, e, _, _, hc, _⟩
      · cases e
      · cases e; omega
    have hbw : Below w.heap.size w w2 := hb1.trans (hbb.mono hb1.size)
    have hs1 := hb1.size
    rw [hfl]
    obtain ⟨N, hN⟩ : ∃ N, zs.length + 8 = N := ⟨_, rfl⟩
    rw [hN] at HO hcapb ⊢
    have hN8 : 8 ≤ N := by omega
    have hN2 : N ≤ 1008 := by omega
    have H1 := Hid.mk' h1
    have H2 := Hid.mk' h2
    have HBS := Hid.mk' hb2
    have HB := Hid.mk' hbw
    clear hfl hN ho hbb hbw h1 h2 hb2 h0 hb
    go_loopg [8] 4 (fun gk i wx => ∃ (j : Nat) (ys : List Int), j ≤ 4 ∧ gk = 4 - j ∧ i = .int .i64 j ∧ ys.length = N ∧ isB ys ∧ wx.ownsRow w1.heap.size 5 1 (.slice (some ⟨g, 0, none⟩) N capb) N (u8s ys) ∧ Below w.heap.size w wx)
    case atStart =>
      obtain ⟨ys, y1, y2, y3⟩ := HO.out
      exact ⟨0, ys, by omega, rfl, rfl, y1, y2, y3, HB.out⟩
    case round =>
      obtain ⟨j, ys, hj4, hgk, rfl, y1, y2, y3, hbx⟩ := hrel
      by_cases hjk : j < ks.length ∧ j < bs.length ∧ j < 4
      · obtain ⟨hj1, hj2, hj3⟩ := hjk
        obtain ⟨b1, off1, rfl, hbl1, hc1⟩ := seesI_at H1.out hj1
        obtain ⟨b2, off2, rfl, hbl2, hc2⟩ := sees_at H2.out hj2
        have ck := (hbx.cell (p := ⟨b1, off1 + j, none⟩) hbl1).trans hc1
        have cb := (hbx.cell (p := ⟨b2, off2 + j, none⟩) hbl2).trans hc2
        clear hc1 hc2
        generalize ks.getD j 0 = q at ck
        have HY := Hid.mk' (isB_getD HBS.out j)
        generalize bs.getD j 0 = y at cb HY
        have hwb := withinF_bd q N (by omega)
        obtain ⟨kk, hkk⟩ : ∃ kk : Nat, withinF q N = kk := ⟨(withinF q N).toNat, by omega⟩
        have hkN : kk < N := by omega
        have hwc := within_any q N
        rw [hkk] at hwc
        have HWC := Hid.mk' hwc
        clear hwb hwc
        have hcy := y3.cellAt kk (by omega)
        have hfy := y3.frozenAt kk
        have HX := Hid.mk' (isB_getD y2 kk)
        have cy : wr.cell? ⟨g, kk, none⟩ = some (.int .u8 (ys.getD kk 0)) := by
          rw [hcy]; simp [u8s, List.getD_eq_getElem?_getD, List.getElem?_eq_getElem (show kk < ys.length by omega)]
        have HO3 := Hid.mk' y3
        clear hcy hkk y3
        obtain ⟨x, hx⟩ : ∃ x, ys.getD kk 0 = x := ⟨_, rfl⟩
        rw [hx] at cy HX
        have hkI : (kk : Int) < N := by omega
        have hkI0 : (0 : Int) ≤ kk := by omega
        clear hx
        go_wp2_with fail
        go_region_with (go_at_call 36; refine (HWC.out _ (by omega) (by omega)).mono ?_; rintro e w' ⟨rfl, rfl⟩)
        all_goals
          go_wp2
          go_roundg (4 - (j + 1))
          case measure => omega
          case rel =>
            have hst := HO3.out.stored kk (.int .u8 (IntKind.u8.wrap (x + y)))
            refine ⟨j + 1, ys.set kk (IntKind.u8.wrap (x + y)), by omega, rfl, by go_num, by simpa using y1, ?_, ?_, ((hbx.setCell (p := ⟨g, kk, none⟩) (by show w.heap.size ≤ g; omega) _).drew)⟩
            · intro z hz
              rcases List.mem_or_eq_of_mem_set hz with h | h
              · exact y2 z h
              · rw [h, IntKind.wrap_u8]; omega
            · have e : u8s (ys.set kk (IntKind.u8.wrap (x + y))) = (u8s ys).set kk (.int .u8 (IntKind.u8.wrap (x + y))) := List.map_set
              rw [e]
              exact hst.1.drew
      · have HY3 := Hid.mk' y3
        have HYB := Hid.mk' y2
        have HBX := Hid.mk' hbx
        have hsA : Hid (Src Tryd.prog 1 27 (.slice (some ⟨g, 0, none⟩) N capb) ys.length (u8s ys) (wr.alloc (.cells #[] 5))) := by
          refine Src_sees (Sees.below (sees_own (B := w1.heap.size) ?_) ((Below.refl _ _).alloc (Nat.le_refl _) _))
          rw [y1]; exact y3
        have hown : (wr.alloc (.cells #[] 5)).ownsRow wr.heap.size 5 1 (.slice (some ⟨wr.heap.size, 0, none⟩) 0 0) 0 [] := World.ownsRow_lit (size := 1) (e := 5) wr #[] 0 (Nat.le_refl _) (by decide) rfl
        have hyl : ys.length ≤ 1008 := by omega
        have HY1 := Hid.mk' y1
        clear y1 y2 y3 hbx
        have hT3 := Hid.mk' hT
        have hex : ¬ j < ks.length ∨ (j < ks.length ∧ ¬ j < bs.length) ∨ (j < ks.length ∧ j < bs.length ∧ ¬ j < 4) := by omega
        clear hjk hT
        rcases hex with h | ⟨h, h'⟩ | ⟨h, h', h''⟩
        all_goals
          go_wp2_with (first | (at_builtin; refine wpList_app _ rfl (.tmp 55) (.tmp 56) 27 27 rfl wr.heap.size 5 i0 Tryd.underlying27 hi hz0 hz1 hz2 (.slice (some ⟨wr.heap.size, 0, none⟩) 0 0) 0 [] rfl hown (.slice (some ⟨g, 0, none⟩) N capb) rfl _ _ hsA.out (by omega) (by simp) ?_; intro va w3 ha1 ha2 ha3 ha4; simp only [Nat.zero_add, List.nil_append] at ha1; have hb3 : Below wr.heap.size wr w3 := ((Below.refl _ _).alloc (Nat.le_refl _) _).trans (ha2.below (by simp) (fun k hk e => by have := Option.some.inj (show some k = some wr.heap.size from e); omega))) | (go_at_call 37; refine (unframe_any _ ys _ ((hT3.out.below HBX.out).below hb3) HYB.out (by omega) (sees_own ha1)).mono ?_; rintro e w4 ⟨vy, rfl, hsy, hby⟩; have hb4 := hb3.trans (hby.mono hb3.size)) | (go_at_call 38; refine (fUnframe _ ys _ HYB.out (by omega) (sees_in HY1.out HY3.out hb4)).mono ?_; rintro e w5 ⟨vz, rfl, hsz, hbz⟩; have hb5 := hb4.trans (hbz.mono hb4.size); have hcy := conv_sees (hsy.below hbz); have hcz := conv_sees hsz))
          go_ret
          exact ⟨rfl, HBX.out.trans (hb5.mono HBX.out.size)⟩
end Go.Proofs.YtjcdjignfjkgaaaDoor
