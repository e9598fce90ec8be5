/- Compact: the walk. -/
import Derived.Test.YteeflkkoifgcbabGreatCW
namespace Go.Proofs.YteeflkkoifgcbabGreat
open Go Go.RowKit

set_option maxRecDepth 100000 in
theorem compact_arg (w : World) (s : Nat) (rev : Int) (hr : rev < 1) : Calls Tryz.prog 10 #[ptr s, .int .i64 rev] w fun e w' => e = .returned (.int .i64 1) ∧ w' = w := by
  go_enter Tryz.func10, Tryz.ntmps10
  go_wp2
  go_ret
  exact ⟨rfl, rfl⟩
section
variable {n : Nat} {w : World} {s : Nat} {S : Sto} {g : Sg} {o : Value} (h : St n w s S g o)
include h
set_option maxRecDepth 100000 in
theorem compact_future (rev : Int) (hr : ¬ rev < 1) (hf : (S.rev : Int) < rev) : Calls Tryz.prog 10 #[ptr s, .int .i64 rev] w fun e w' => e = .returned (.int .i64 17) ∧ w' = w := by
  obtain ⟨c0, -⟩ := h.cells
  clear h
  go_enter Tryz.func10, Tryz.ntmps10
  go_wp2
  go_ret
  exact ⟨rfl, rfl⟩
set_option maxRecDepth 100000 in
theorem compact_past (rev : Int) (hr : ¬ rev < 1) (hf : ¬ (S.rev : Int) < rev) (hp : rev ≤ S.past) : Calls Tryz.prog 10 #[ptr s, .int .i64 rev] w fun e w' => e = .returned (.int .i64 16) ∧ w' = w := by
  obtain ⟨c0, c1, -⟩ := h.cells
  clear h
  go_enter Tryz.func10, Tryz.ntmps10
  go_wp2
  go_ret
  exact ⟨rfl, rfl⟩
set_option maxRecDepth 100000 in
set_option maxHeartbeats 4000000 in
theorem compact_any (L : LgAll S g) (hn : n ≤ 1000000) (rev m : Nat) (hm : (rev : Int) = S.past + m) (hm0 : 0 < m) (hrs : rev ≤ S.rev) (hS : S.rev ≤ 1000000000) (hlen : (chg S m).length ≤ 1000000) :
    Calls Tryz.prog 10 #[ptr s, .int .i64 rev] w fun e w' => e = .returned (.int .i64 0) ∧ ∃ g', St n w' s (compS S rev) g' o ∧ KpM w w' s g g' ∧ LgAll (compS S rev) g' := by
  obtain ⟨c0, c1, -⟩ := h.cells
  have H := Hid.mk'' h
  have HL := Hid.mk'' L
  have hr : ¬ (rev : Int) < 1 := by omega
  have hf : ¬ (S.rev : Int) < rev := by omega
  have hp : ¬ (rev : Int) ≤ S.past := by omega
  have hpm : (S.past : Int) ≤ 1000000000 := by omega
  have HM := Hid.mk'' hm
  have HBL : Hid (g.bl < w.heap.size ∧ ∀ k, ftS s g k → k < w.heap.size) := ⟨h.lg.lt, fun k hk => h.lt hk⟩
  have hrm : (rev : Int) ≤ 1000000000 := by omega
  clear h L hm
  obtain ⟨t9, hti, hz0, hz1, hz2⟩ := info_parts info9
  go_enter Tryz.func10, Tryz.ntmps10
  go_wp2
  go_loopg [5, 6] (m + 1) (fun kx s5 s6 wr => ∃ (j : Nat) (p : Option Addr) (c : Nat), s5 = .slice p (chg S j).length c ∧ s6 = .int .i64 ((S.past : Int) + 1 + j) ∧ kx + j = m + 1 ∧ j ≤ m ∧ Hid (∃ nl', Cm n wr s S g o (chF S) g.nc (flJ S g j) nl' ∧ wr.ownsRow w.heap.size 9 1 (.slice p (chg S j).length c) (chg S j).length (strs (chg S j)) ∧ Upd w wr (fun k => k = g.bl)))
  case atStart => exact ⟨0, none, 0, rfl, by simp, rfl, Nat.zero_le _, g.nl, by rw [flJ_zero]; exact H.out.cm, World.ownsRow_nil _ _ _ _, Upd.refl _ _⟩
  case round =>
    obtain ⟨j, p, c, rfl, rfl, hkx, hj, HI⟩ := hrel
    by_cases hlt : j < m
    · have hle : (S.past : Int) + 1 + j ≤ rev := by have := HM.out; omega
      obtain ⟨⟨v, hv⟩, -⟩ := HL.out.ok ((S.past : Int) + 1 + j) (by omega) (by omega)
      obtain ⟨nl', hcm, hown, hu⟩ := HI.out
      have hfl : flJ S g j ((S.past : Int) + 1 + j) = some v := (flJ_at S g j).trans hv
      obtain ⟨-, hrow⟩ := hcm.rows _ v hfl
      obtain ⟨vp, vc, rfl⟩ := owns_formB0 hrow
      have hsrc := src_row hrow
      have hlk : (Instr.lookup 46 (.map (some g.bl)) (.int .i64 ((S.past : Int) + 1 + j)) false).run Tryz.prog wr = .ok (.slice vp (S.lg ((S.past : Int) + 1 + j)).length vc) wr := by
        have := hcm.lg.look law61 Tryz.underlying46 (zero66 _) ((S.past : Int) + 1 + j) false
        rw [hfl] at this
        exact this
      have c4 := hcm.cells.2.2.2.2.1
      have hsu := chg_succ S j
      have hle2 := chg_le S (show j + 1 ≤ m by omega)
      rw [hsu, List.length_append] at hle2
      have hgr : w.heap.size ≤ wr.heap.size := hu.size
      have HFIN : Hid (∀ v' w2, w2.ownsRow w.heap.size 9 1 v' ((chg S j).length + (S.lg ((S.past : Int) + 1 + j)).length) (strs (chg S j) ++ strs (S.lg ((S.past : Int) + 1 + j))) → Upd wr w2 (fun k => some k = (Value.slice p (chg S j).length c).ownBlock) →
          w2.cell? ⟨s, 4, none⟩ = some (.map (some g.bl)) ∧ ∃ w3, (Builtin.delete_ #[46, 3] 0 #[.map (some g.bl), .int .i64 ((S.past : Int) + 1 + j)]).run Tryz.prog w2 = .ok (.tuple #[]) w3 ∧ Hid (∃ nl', Cm n w3 s S g o (chF S) g.nc (flJ S g (j + 1)) nl' ∧ w3.ownsRow w.heap.size 9 1 v' (chg S (j + 1)).length (strs (chg S (j + 1))) ∧ Upd w w3 (fun k => k = g.bl))) := fun v' w2 q1 q2 => by
        have hc2 := hcm.upd q2 (fun k hk e => by
          have h1 := HBL.out.2 k hk
          have h2 := (hown.lt k e.symm).1
          omega)
        obtain ⟨w3, hup, hm3, hu3⟩ := hc2.lg.del law61 Tryz.underlying46 ((S.past : Int) + 1 + j) 0
        refine ⟨hc2.cells.2.2.2.2.1, w3, hup, _, hc2.setl (hm3.congr (flJ_succ S g j)) (fun r v hv => ?_) hu3, ?_, ?_⟩
        · rw [flJ_succ] at hv
          unfold delF at hv
          split at hv
          · cases hv
          · exact hv
        · have := ownsRow_upd q1 hu3 (fun k hk e => by
            have h1 := HBL.out.1
            have h2 := (q1.lt k hk).1
            omega)
          rw [hsu, List.length_append]
          show World.ownsRow _ _ _ _ _ _ (List.map _ _)
          rw [List.map_append]
          exact this
        · have u2 : Upd w w2 (fun k => k = g.bl) := hu.trans (q2.mono (T := fun k => k = g.bl ∨ w.heap.size ≤ k) (fun k _ e => .inr (hown.lt k e.symm).1)) (fun j hj hg => hg.elim id (fun h => absurd hj (by omega)))
          exact u2.trans hu3 (fun _ _ e => e)
      have HSU := Hid.mk'' hsu
      obtain ⟨r, hrr⟩ : ∃ r, r = (S.past : Int) + 1 + j := ⟨_, rfl⟩
      rw [← hrr] at hlk hsrc hle HFIN hle2 ⊢
      have hrb : 1 ≤ r ∧ r ≤ 1000000000 := by omega
      have HRR := Hid.mk'' hrr
      have HSU' : Hid ((chg S (j + 1)).length = (chg S j).length + (S.lg r).length) := by show _ = _; rw [hsu, List.length_append, hrr]
      clear hrow hcm hu hv hfl hsu hrr HI
      obtain ⟨A, hA⟩ : ∃ A, A = chg S j := ⟨_, rfl⟩
      obtain ⟨B, hB⟩ : ∃ B, B = S.lg r := ⟨_, rfl⟩
      rw [← hA] at hown HFIN hle2 HSU' ⊢
      rw [← hB] at hsrc hlk HFIN hle2 HSU'
      clear hA hB
      go_upto_region 12 with (at_builtin; refine wpList_appS _ rfl (.tmp 36) (.tmp 42) 51 51 rfl w.heap.size 9 t9 _ 1 Tryz.underlying51 hti hz0 hz1 rfl (by rw [hz2]; decide) _ A.length (strs A) rfl hown _ rfl B.length (strs B) hsrc (by omega) hgr ?_; intro v' w2 q1 q2 q3 q4; clear q3 q4)
      obtain ⟨k4, w3, hdel, HF3⟩ := HFIN.out v' w2 q1 q2
      obtain ⟨np, nc, hnv⟩ := owns_formB0 q1
      subst hnv
      clear q1 q2 HFIN hsrc hlk hown c4
      have hrw : IntKind.i64.wrap (r + 1) = r + 1 := by rw [IntKind.wrap_i64]; omega
      go_wp2
      go_roundg (m - j)
      case measure => omega
      case rel => exact ⟨j + 1, np, nc, by rw [HSU'.out], by have := HRR.out; congr 1; omega, by omega, by omega, by have := HF3; rw [← HSU'.out] at this; exact this⟩
    · obtain rfl : j = m := by omega
      have hle : ¬ (S.past : Int) + 1 + j ≤ rev := by have := HM.out; omega
      obtain ⟨nl', hcm, hown, hu⟩ := HI.out
      have hsort := sort_row wr w.heap.size p c (chg S j) hown hlen
      have HCM := Hid.mk'' hcm
      have HU := Hid.mk'' hu
      have hOL : Hid (∀ k, some k = (Value.slice p (chg S j).length c).ownBlock → w.heap.size ≤ k) := fun k e => (hown.lt k e.symm).1
      clear hcm hu HI hown
      obtain ⟨A, hA⟩ : ∃ A, A = chg S j := ⟨_, rfl⟩
      rw [← hA] at hsort hlen hOL ⊢
      have HA := Hid.mk'' hA
      clear hA
      go_upto_region 14 with (go_at_call 23; refine hsort.mono ?_; rintro e w2 ⟨rfl, A', hAl, hAm, hown2, hu2⟩)
      have hcomp := comp_row w2 w.heap.size p c A' (by rw [hAl]; exact hown2) (by omega)
      rw [hAl] at hcomp
      have HAM := Hid.mk'' hAm
      have HU2 := Hid.mk'' hu2
      clear hown2 hAm hu2 hsort
      go_upto_region 15 with (go_at_call 24; refine hcomp.mono ?_; rintro e w3 ⟨K, hKl, hKm, rfl, hKc, hu3⟩)
      have hbig : ∀ k, ftS s g k → ¬ some k = (Value.slice p A.length c).ownBlock := fun k hk e => by
        have h1 := HBL.out.2 k hk
        have h2 := hOL.out k e
        omega
      have H3 : Hid (Cm n w3 s S g o (chF S) g.nc (flJ S g j) nl') := (HCM.out.upd HU2.out hbig).upd hu3 hbig
      have U3 : Hid (Upd w w3 (fun k => k = g.bc ∨ k = g.bl)) := by
        have e1 : Upd w wr (fun k => k = g.bc ∨ k = g.bl) := HU.out.mono (fun k _ e => .inr e)
        have e2 : Upd w w2 (fun k => k = g.bc ∨ k = g.bl) := e1.trans (HU2.out.mono (T := fun k => (k = g.bc ∨ k = g.bl) ∨ w.heap.size ≤ k) (fun k _ e => .inr (hOL.out k e))) (fun j hj hg => hg.elim id (fun h => absurd hj (by omega)))
        exact e2.trans (hu3.mono (T := fun k => (k = g.bc ∨ k = g.bl) ∨ w.heap.size ≤ k) (fun k _ e => .inr (hOL.out k e))) (fun j hj hg => hg.elim id (fun h => absurd hj (by omega)))
      have HK : Hid (∀ k, k ∈ K ↔ k ∈ chg S j) := fun k => by rw [hKm k, HAM.out k, HA.out]
      have HKC : Hid (∀ W, Upd w3 W (fun k => k = g.bc) → ∀ i k, K[i]? = some k → ∃ gg, p = some ⟨gg, 0, none⟩ ∧ W.cell? ⟨gg, i, none⟩ = some (.string k)) := fun W hu i k hi => by
        obtain ⟨gg, e1, e2, e3⟩ := hKc i k hi
        have hgl := World.block_lt_of_cell? _ _ e3
        have hb := HBL.out.2 g.bc (.inr (.inl rfl))
        exact ⟨gg, e1, (hu.cell (p := ⟨gg, i, none⟩) hgl (fun e : gg = g.bc => by omega)).trans e3⟩
      have hKn : K.length ≤ 1000000 := by omega
      clear hKc hKm hu3 HU2 HAM HCM HU hcomp hbig hOL hKl hAl
      go_loopg [54] (K.length + 1) (fun kx s54 wq => ∃ i : Nat, s54 = .int .i64 i ∧ kx + i = K.length + 1 ∧ i ≤ K.length ∧ Hid (∃ nc', Cm n wq s S g o (cF S rev (K.take i)) nc' (flJ S g j) nl' ∧ Upd w3 wq (fun k => k = g.bc)))
      case atStart => exact ⟨0, rfl, rfl, Nat.zero_le _, g.nc, by rw [List.take_zero, cF_nil]; exact H3.out, Upd.refl _ _⟩
      case round =>
        obtain ⟨i, rfl, hkx2, hi, HJ⟩ := hrel
        obtain ⟨nc', hcq, huq⟩ := HJ.out
        by_cases hlt2 : i < K.length
        · obtain ⟨k, hk⟩ : ∃ k, K[i]? = some k := ⟨_, List.getElem?_eq_getElem hlt2⟩
          obtain ⟨gg, rfl, hcell⟩ := HKC.out _ huq i k hk
          have hfg := forget_any hcq hn k rev
          have htk : K.take (i + 1) = K.take i ++ [k] := by rw [List.take_add_one, hk]; rfl
          rw [cF_snoc, ← htk] at hfg
          have HUQ := Hid.mk'' huq
          clear hcq huq HJ hk htk HKC
          go_wp2_with (go_at_call 25; refine hfg.mono ?_; rintro e w5 ⟨rfl, nc5, hc5, hu5⟩)
          go_roundg (K.length - i)
          case measure => omega
          case rel => exact ⟨i + 1, rfl, by omega, by omega, nc5, hc5, HUQ.out.trans hu5 (fun _ _ e => e)⟩
        · obtain rfl : i = K.length := by omega
          rw [List.take_length] at hcq
          have htrim := trim_xd hcq.ix hcq.bd hn rev
          have c2 := hcq.cells.2.2.1
          have U5 : Hid (Upd w wr (fun k => k = g.bc ∨ k = g.bl)) := U3.out.trans (huq.mono (T := fun k => k = g.bc ∨ k = g.bl) (fun k _ e => .inl e)) (fun _ _ e => e)
          have HFIN : Hid (∀ w6 F', Xd w6 g.x (trimD rev (datS S)) F' → Step wr w6 g.Fi F' → w6.heap[s]? = some (.cells #[.int .i64 S.rev, .int .i64 S.past, ptr g.x, .map (some g.bc), .map (some g.bl), .map (some g.bt), o] 49 (0, 0)) ∧ ∃ g', St n (w6.setCell ⟨s, 1, none⟩ (.int .i64 rev)) s (compS S rev) g' o ∧ KpM w (w6.setCell ⟨s, 1, none⟩ (.int .i64 rev)) s g g' ∧ LgAll (compS S rev) g') := fun w6 F' hx hs =>
            ⟨(hs.upd.block s (Array.getElem?_eq_some_iff.1 hcq.blk).1 (fun hm => (hcq.ix.kind _ hm).ne hcq.blk (by simp) rfl)).trans hcq.blk, Cm.done H.out HL.out HM.out hrs HK.out hcq U5.out hx hs⟩
          clear hcq huq HJ HKC
          go_upto_region 20 with (go_at_call 26; refine htrim.mono ?_; rintro e w6 ⟨rfl, F', hx6, hs6⟩)
          obtain ⟨hblk, HF⟩ := HFIN.out w6 F' hx6 hs6
          have HF' := Hid.mk'' HF
          clear HF hx6 hs6 HFIN htrim
          have k1 : w6.cell? ⟨s, 1, none⟩ = some (.int .i64 S.past) := cell_of_row _ _ _ _ _ _ hblk
          have f1 := frozen_of_row w6 s 1 _ _ hblk
          clear hblk
          go_wp2
          go_ret
          exact ⟨rfl, HF'.out⟩
end
end Go.Proofs.YteeflkkoifgcbabGreat
