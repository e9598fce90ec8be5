/- TxnSees' walk. -/
import Derived.Test.YtgbobegoknmiaaaGreatUB
import Derived.Deep.RegionHeldLaw
import Derived.Deep.RegionLaw
import Derived.Deep.RegionWith
namespace Go.Proofs.YtgbobegoknmiaaaGreat
open Go Go.RowKit

theorem kn_conv (i : Nat) (hi : i < 16) (W : World) (bb : Nat) (hb : W.heap[bb]? = some (.cells #[.int .u8 107, .int .u8 (97 + (i : Int))] 5 (0, 0))) : (convert 66 9 (.slice (some ⟨bb, 0, none⟩) 2 2)).run Tryz.prog W = .ok (.string (kn i)) W := by
  have := run_convert_bytes_back (P := Tryz.prog) W 66 9 5 ⟨bb, 0, none⟩ 2 [107, UInt8.ofNat (97 + i)] Tryz.underlying66 Tryz.underlying5 Tryz.underlying9 (fun j hj => by
    rw [Addr.add_lit, Nat.zero_add, cell_of_row _ _ _ _ _ _ hb]
    have : j = 0 ∨ j = 1 := by simp at hj; omega
    rcases this with rfl | rfl
    · rfl
    · show some (Value.int .u8 (97 + (i : Int))) = some (Value.int .u8 (((UInt8.ofNat (97 + i)).toNat : Nat) : Int))
      rw [UInt8.toNat_ofNat_of_lt' (by show 97 + i < 256; omega)]
      rfl)
  exact this
set_option maxRecDepth 100000 in
set_option maxHeartbeats 2000000 in
theorem sees_walk (v : Value) (zs : List ByteArray) (w : World) (hS : SeesS w v zs) (hzl : zs.length ≤ 140737488355328) : Calls Tryz.prog 6 #[v] w fun e w' => e = .returned (.bool true) ∧ Below w.heap.size w w' := by
  obtain ⟨ao, cap, rfl⟩ := hS.form
  have hkn := known_any w
  by_cases h2 : 10 < zs.length
  · have h2' : (10 : Int) < (zs.length : Int) := by omega
    go_enter Tryz.func6, Tryz.ntmps6
    go_wp2_with (go_at_call 9; refine hkn.mono ?_; rintro e w1 ⟨rfl, hb1⟩)
    go_ret
    exact ⟨rfl, hb1⟩
  have h2' : ¬ (10 : Int) < (zs.length : Int) := by omega
  obtain ⟨t9, hti, hz0, hz1, hz2⟩ := info_parts infoOp
  have HS := Hid.mk'' hS
  obtain ⟨m, hm⟩ : ∃ m, m = zs.length := ⟨_, rfl⟩
  rw [← hm] at h2 h2' hzl ⊢
  have HMM := Hid.mk'' hm
  obtain ⟨f, hf⟩ : ∃ f : Nat → ByteArray, f = fun j => zs.getD j ByteArray.empty := ⟨_, rfl⟩
  have HF := Hid.mk'' hf
  clear hS hm hf
  go_enter Tryz.func6, Tryz.ntmps6
  go_upto_region 5 with (go_at_call 9; refine hkn.mono ?_; rintro e w1 ⟨rfl, hb1⟩)
  have hnew := new_q9 w w1 hb1
  clear hb1 hkn h2'
  go_upto_region 6 with (go_at_call 10; refine hnew.mono ?_; rintro e w2 ⟨s, g, rfl, HQ⟩)
  have HV0 : Hid (VI w (w2.alloc (.cells #[.slice none 0 0, .slice none 0 0, .slice none 0 0] 36)) s g w2.heap.size (.slice none 0 0) f 0) := VI.new HQ.out.1 f
  go_wp2_with fail
  obtain ⟨tb, htb⟩ : ∃ tb, tb = w2.heap.size := ⟨_, rfl⟩
  rw [← htb] at HV0 ⊢
  clear hnew HQ htb
  go_loopg [5] (m + 1) (fun kx s5 wr => ∃ (i : Nat) (p : Option Addr) (c : Nat), s5 = .int .i64 i ∧ kx + i = m + 1 ∧ i ≤ m ∧ Hid (VI w wr s g tb (.slice p (2 * i) c) f i))
  case atStart => exact ⟨0, none, 0, rfl, rfl, Nat.zero_le _, HV0⟩
  case round =>
    obtain ⟨i, p, c, rfl, hkx, hi, HM⟩ := hrel
    by_cases hlt : i < m
    · obtain ⟨b, off, rfl, hbl, hcz⟩ := HS.out.at (j := i) (by rw [← HMM.out]; exact hlt)
      have hz : f i = zs.getD i ByteArray.empty := by rw [HF.out]
      rw [← hz] at hcz
      have kcell := (HM.out.q.bel.cell (p := ⟨b, off + i, none⟩) hbl).trans hcz.1
      have hzs := hcz.2
      clear hcz hz
      by_cases hbig : 500 < (f i).size
      · have hbig' : (500 : Int) < ((f i).size : Int) := by omega
        go_wp2_with fail
        go_ret
        exact ⟨rfl, HM.out.q.bel⟩
      · have hbig' : ¬ (500 : Int) < ((f i).size : Int) := by omega
        have hbr : b < wr.heap.size := Nat.lt_of_lt_of_le hbl HM.out.q.bel.size
        have c1 := kn_conv i (by omega) (wr.alloc (.cells #[.int .u8 107, .int .u8 (97 + (i : Int))] 5)) wr.heap.size (row_alloc wr _ _)
        have HVL := Hid.mk'' hbr
        go_upto_region 13 with fail
        obtain ⟨w3, hw3⟩ : ∃ w3, w3 = wr.alloc (.cells #[.int .u8 107, .int .u8 (97 + (i : Int))] 5) := ⟨_, rfl⟩
        rw [← hw3]
        have hb3 : Below wr.heap.size wr w3 := by rw [hw3]; exact (Below.refl _ wr).alloc (Nat.le_refl _) _
        have k3 := (hb3.cell (p := ⟨b, off + i, none⟩) hbr).trans kcell
        have t3 : w3.cell? ⟨tb, 1, none⟩ = some (.slice p (2 * i) c) := (hb3.cell (p := ⟨tb, 1, none⟩) HM.out.lt).trans (cell_of_row _ _ _ _ _ _ HM.out.tx)
        have HB3 := Hid.mk'' hb3
        have hne : ¬ tb = w3.heap.size := by have := HM.out.lt; have := hb3.size; omega
        have hne2 : ¬ b = w3.heap.size := by have := hb3.size; omega
        have hlb : b < w3.heap.size := by have := hb3.size; omega
        have hlt3 : tb < w3.heap.size := by have := HM.out.lt; have := hb3.size; omega
        have HAT : Hid (∀ W, Below w3.heap.size w3 W → W.ownsRow (tb + 1) 57 6 (.slice p (2 * i) c) (2 * i) (opsC (sOps f i)) ∧ tb + 1 ≤ W.heap.size) := fun W hb => HM.out.at (HB3.out.trans (hb.mono HB3.out.size))
        have HSR : Hid (∀ W, W.heap[w3.heap.size]? = some (.cells #[.int .i64 0, .string (kn i), .string ⟨#[]⟩, .string (f i), .int .i64 0, .int .i64 0, .int .i64 2, .string ⟨#[107]⟩, .string ⟨#[108]⟩, .string ⟨#[]⟩, .int .i64 0, .int .i64 0] 57 (0, 0)) → Src Tryz.prog 6 34 (.slice (some ⟨w3.heap.size, 0, none⟩) 2 2) 2 (opsC [sPut f i, rOp 0]) W) := fun W hr => Src.ofSlice _ Tryz.underlying34 ⟨w3.heap.size, 0, none⟩ 2 2 _ rfl (fun j u hj => by
          rw [Addr.add_lit, Nat.zero_add, cell_of_row _ _ _ _ _ _ hr]; simpa [opsC, opC, sPut, rOp] using hj) (fun u hu => by simp [opsC, opC, sPut, rOp] at hu; rcases hu with rfl | rfl | rfl | rfl | rfl | rfl | rfl | rfl | rfl | rfl | rfl | rfl <;> rfl)
        have HROW : Hid ((w3.alloc (.cells #[.int .i64 0, .string (kn i), .string ⟨#[]⟩, .string (f i), .int .i64 0, .int .i64 0, .int .i64 2, .string ⟨#[107]⟩, .string ⟨#[108]⟩, .string ⟨#[]⟩, .int .i64 0, .int .i64 0] 57)).heap[w3.heap.size]? = some (.cells #[.int .i64 0, .string (kn i), .string ⟨#[]⟩, .string (f i), .int .i64 0, .int .i64 0, .int .i64 2, .string ⟨#[107]⟩, .string ⟨#[108]⟩, .string ⟨#[]⟩, .int .i64 0, .int .i64 0] 57 (0, 0))) := row_alloc w3 _ _
        have HAP : Hid (∀ (V w6 : World) (v' : Value), Below w3.heap.size w3 V → w6.ownsRow (tb + 1) 57 6 v' (2 * i + 2) (opsC (sOps f i) ++ opsC [sPut f i, rOp 0]) → Upd V w6 (fun k => some k = (Value.slice p (2 * i) c).ownBlock) → w6.cell? ⟨tb, 1, none⟩ = some (.slice p (2 * i) c) ∧ w6.frozen? ⟨tb, 1, none⟩ = false ∧ ∃ np nc, v' = .slice np (2 * i + 2) nc ∧ Hid (VI w (w6.setCell ⟨tb, 1, none⟩ (.slice np (2 * i + 2) nc)) s g tb (.slice np (2 * i + 2) nc) f (i + 1))) := fun V w6 v' hb q1 q2 => by
          obtain ⟨d0, d1, d2⟩ := HM.out.step (HB3.out.trans (hb.mono HB3.out.size)) (by omega) q1 q2
          obtain ⟨np, nc, rfl⟩ := owns_formB0 q1
          exact ⟨d0, d1, np, nc, rfl, d2⟩
        clear hw3 hb3 kcell c1 hbr HVL
        go_region_law (refine step_appS _ rfl _ _ 34 34 rfl (tb + 1) 57 t9 _ 6 Tryz.underlying34 hti hz0 hz1 rfl (by rw [hz2]; decide) (.slice p (2 * i) c) (2 * i) (opsC (sOps f i)) (by simp [Act.eval]) (HAT.out _ (by first | exact ((Below.refl _ _).drew.alloc (Nat.le_refl _) _) | exact ((Below.refl _ _).alloc (Nat.le_refl _) _).drew | exact (Below.refl _ _).alloc (Nat.le_refl _) _)).1 (.slice (some ⟨w3.heap.size, 0, none⟩) 2 2) (by simp [Act.eval]) 2 (opsC [sPut f i, rOp 0]) (HSR.out _ HROW.out) (by omega) (HAT.out _ (by first | exact ((Below.refl _ _).drew.alloc (Nat.le_refl _) _) | exact ((Below.refl _ _).alloc (Nat.le_refl _) _).drew | exact (Below.refl _ _).alloc (Nat.le_refl _) _)).2 ?_; intro v' w6 q1 q2 q3 q4; obtain ⟨d0, d1, np, nc, rfl, hX⟩ := HAP.out _ _ _ (by first | exact ((Below.refl _ _).drew.alloc (Nat.le_refl _) _) | exact ((Below.refl _ _).alloc (Nat.le_refl _) _).drew | exact (Below.refl _ _).alloc (Nat.le_refl _) _) q1 q2; clear q1 q2 q3 q4)
        all_goals
          go_wp2_with fail
          go_roundg (m - i)
          case measure => omega
          case rel => exact ⟨i + 1, np, nc, by congr 1, by omega, by omega, hX⟩
    · obtain rfl : i = m := by omega
      obtain ⟨hL, hLq, hb7⟩ := ls_new HM.out.q
      have hdo := sees_do (HM.out.q.below hb7) hL hLq f i (by omega) HM.out.fz (HM.out.tbx.below hb7)
      obtain ⟨x0, x1, x2⟩ := (HM.out.tbx.below hb7).cells
      clear hL hLq hb7
      go_upto_region 15 with (go_at_call 16; with_reducible refine hdo.mono ?_; rintro e w8 ⟨p8, c8, rfl, S', g', HG⟩)
      clear hdo x0 x1 x2
      have hrev := HG.out.1.rev
      rw [HG.out.2.1] at hrev
      have hrev' : Calls Tryz.prog 20 #[ptr s] w8 fun e w' => e = .returned (.int .i64 ((min i 1 : Nat) : Int)) ∧ w' = w8 := hrev
      have hmn : ((min i 1 : Nat) : Int) = min (i : Int) 1 := by omega
      go_wp2_with (go_at_call 20; refine hrev'.mono ?_; rintro e w9 ⟨rfl, hw9⟩; obtain rfl := hw9.symm)
      have HW0 : Hid (SeesR w8 p8 f i ∧ Below w.heap.size w w8) := ⟨HG.out.2.2, HG.out.1.bel⟩
      clear hrev hrev' hmn HG HM HV0
      go_loopg [10] (i + 1) (fun kx s10 wq => ∃ (j : Nat), s10 = .int .i64 j ∧ kx + j = i + 1 ∧ j ≤ i ∧ Hid (SeesR wq p8 f i ∧ Below w.heap.size w wq))
      case atStart => exact ⟨0, rfl, rfl, Nat.zero_le _, HW0⟩
      case round =>
        obtain ⟨j, rfl, hkx2, hj, HW⟩ := hrel
        by_cases hlt2 : j < i
        · obtain ⟨gb, oo, c2, g2, o2, rfl, e0, e1, e2, e3, e4⟩ := HW.out.1 j hlt2
          obtain ⟨b, off, rfl, hbl, hcz⟩ := HS.out.at (j := j) (by rw [← HMM.out]; exact hlt2)
          have hz : f j = zs.getD j ByteArray.empty := by rw [HF.out]
          rw [← hz] at hcz
          have kz := (HW.out.2.cell (p := ⟨b, off + j, none⟩) hbl).trans hcz.1
          have hzz := (same1 (f j)).2
          clear hcz hz
          have hj9 : ((2 * j : Nat) : Int) = 2 * (j : Int) := by omega
          go_upto_region 20 with fail
          go_quiet (fail)
          go_wp2_with fail
          go_roundg (i - j)
          case measure => omega
          case rel => exact ⟨j + 1, by congr 1, by omega, by omega, ⟨HW.out.1, below_drewN HW.out.2 _⟩⟩
        · obtain rfl : j = i := by omega
          go_wp2_with fail
          go_ret
          exact ⟨rfl, HW.out.2⟩
end Go.Proofs.YtgbobegoknmiaaaGreat
