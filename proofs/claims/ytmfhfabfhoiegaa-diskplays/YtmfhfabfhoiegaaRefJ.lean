/- The document's disk: Crash. -/
import Derived.Test.YtmfhfabfhoiegaaRefG
import Derived.Deep.RegionWith
import Derived.Deep.RegionHeldLaw
import Derived.Deep.CutRange
namespace Go.Proofs.Ytmfhfabfhoiegaa
open Go Go.RowKit
def RCrashAt (B : Nat) (w wx : World) (x : Nat) (h : Ru) (p : PS) (left : Int) (picks : List Int) (k : Nat) : Prop :=
  ∃ l', Rk B wx x ⟨h.v, l'⟩ (partP p picks k) left ∧ Upd w wx (FootX x h) ∧ ∀ j, FootX x ⟨h.v, l'⟩ j → FootX x h j
theorem rcrash_parts {B : Nat} {wx : World} {x : Nat} {v : Value} {l' : List Rl} {p : PS} {left : Int} {picks : List Int} {k : Nat} (r : Rk B wx x ⟨v, l'⟩ (partP p picks k) left) (hk : k < p.fs.length) :
    ∃ pre f post, l' = pre ++ f :: post ∧ pre.length = k ∧ pre.map Rl.pf = crashL picks 0 (p.fs.take k) ∧ f.pf = p.fs[k] ∧ post.map Rl.pf = p.fs.drop (k + 1) := by
  have hv : crashL picks 0 (p.fs.take k) ++ p.fs.drop k = l'.map Rl.pf := r.view
  rw [List.drop_eq_getElem_cons hk] at hv
  obtain ⟨pre, rest, h1, h2, h3⟩ := List.map_eq_append_iff.1 hv.symm
  obtain ⟨f, post, h4, h5, h6⟩ := List.map_eq_cons_iff.1 h3
  refine ⟨pre, f, post, by rw [h1, h4], ?_, h2, h5, h6⟩
  have := congrArg List.length h2
  rw [List.length_map, crashL_len, List.length_take] at this
  omega
theorem stay_zero (n : Nat) : stay 0 n = 0 := by unfold stay; simp
theorem stay_emod (z : Int) (n : Nat) : (stay z n : Int) = z % ((n : Int) + 1) := by
  unfold stay
  have := Int.emod_nonneg z (b := (n : Int) + 1) (by omega)
  omega
theorem stay_neg {z : Int} {n : Nat} (h : z.tmod ((n : Int) + 1) < 0) : (stay z n : Int) = z.tmod ((n : Int) + 1) + n + 1 := by
  rw [stay_emod]
  have h1 := Int.tmod_eq_emod (a := z) (b := (n : Int) + 1)
  have h2 := Int.emod_nonneg z (b := (n : Int) + 1) (by omega)
  have h3 := Int.lt_tmod_of_pos z (b := (n : Int) + 1) (by omega)
  rw [h1] at h ⊢
  split at h
  · omega
  · rename_i hc
    rw [if_neg hc]
    omega
theorem stay_pos {z : Int} {n : Nat} (h : ¬ z.tmod ((n : Int) + 1) < 0) : (stay z n : Int) = z.tmod ((n : Int) + 1) := by
  rw [stay_emod]
  have h1 := Int.tmod_eq_emod (a := z) (b := (n : Int) + 1)
  have h2 := Int.emod_lt_of_pos z (b := (n : Int) + 1) (by omega)
  rw [h1] at h ⊢
  split at h
  · rename_i hc
    rw [if_pos hc]
    omega
  · rename_i hc
    rw [if_neg hc]
    omega
theorem OkR.lost {w : World} {f : Rl} (hf : OkR w f) (pick : Int) {b off c : Nat} (hv : f.v = .slice (some ⟨b, off, none⟩) f.pf.xs.length c) (hc : c ≤ maxLen) (hn : f.pf.xs.length ≤ c) : OkR w ⟨f.pf.lost pick, f.s, .slice (some ⟨b, off, none⟩) (f.pf.sy + stay pick (f.pf.xs.length - f.pf.sy)) c⟩ := by
  have hle := stay_le pick (f.pf.xs.length - f.pf.sy)
  have hle2 := hf.le
  have hlen : (f.pf.lost pick).xs.length = f.pf.sy + stay pick (f.pf.xs.length - f.pf.sy) := by simp [PF.lost]; omega
  refine ⟨hf.name, ?_, fun y hy => hf.bytes y (List.mem_of_mem_take hy), by show f.pf.sy + _ ≤ (f.pf.lost pick).xs.length; rw [hlen]; exact Nat.le_refl _⟩
  show Sees w (.slice (some ⟨b, off, none⟩) (f.pf.sy + stay pick (f.pf.xs.length - f.pf.sy)) c) (f.pf.lost pick).xs
  rw [← hlen]
  by_cases h0 : (f.pf.lost pick).xs.length = 0
  · exact .inl ⟨List.eq_nil_of_length_eq_zero h0, some ⟨b, off, none⟩, c, by rw [h0], (fun e => by cases e), hc⟩
  · have hs := hf.sees
    rw [hv] at hs
    rcases hs with ⟨e, _⟩ | ⟨b', off', c', e, h1, h2, h3, h4⟩
    · rw [e] at hle hle2 hlen; simp at hle hle2 hlen; omega
    · cases e
      refine .inr ⟨b, off, c, rfl, by omega, by omega, hc, fun i hi => ?_⟩
      rw [h4 i (by omega)]
      have : (f.pf.lost pick).xs.getD i 0 = f.pf.xs.getD i 0 := by
        show (f.pf.xs.take _).getD i 0 = _
        rw [List.getD_eq_getElem?_getD, List.getD_eq_getElem?_getD, List.getElem?_take, if_pos (by omega)]
      rw [this]
theorem RCrashAt.drew {B : Nat} {w wx : World} {x : Nat} {h : Ru} {p : PS} {left : Int} {picks : List Int} {k : Nat} (q : RCrashAt B w wx x h p left picks k) : RCrashAt B w wx.drew x h p left picks k := by
  obtain ⟨l', q1, q2, q3⟩ := q
  exact ⟨l', q1.upd ((Upd.refl _ (fun _ => False)).drew) (fun _ _ h => h), q2.drew, q3⟩
/-- One file has lost what was picked. -/
theorem rcrash_next {B x k : Nat} {w wx : World} {h : Ru} {l' : List Rl} {p : PS} {left : Int} {picks : List Int} {pre post : List Rl} {f : Rl} {pick : Int} {g c b off bc : Nat} (r : Rk B wx x ⟨h.v, l'⟩ (partP p picks k) left) (hu : Upd w wx (FootX x h)) (hft : ∀ j, FootX x ⟨h.v, l'⟩ j → FootX x h j)
    (hk : k < p.fs.length) (hl : l' = pre ++ f :: post) (hpk : pre.length = k) (h1 : pre.map Rl.pf = crashL picks 0 (p.fs.take k)) (h2 : f.pf = p.fs[k]) (h3 : post.map Rl.pf = p.fs.drop (k + 1)) (hne : p.fs[k].xs.length ≠ p.fs[k].sy) (hpick : pick = picks.getD (crashN 0 (p.fs.take k)) 0)
    (hv : h.v = .slice (some ⟨g, 0, none⟩) l'.length c) (hfv : f.v = .slice (some ⟨b, off, none⟩) f.pf.xs.length bc) (hbc : bc ≤ maxLen) (hbn : f.pf.xs.length ≤ bc) :
    RCrashAt B w ((wx.setCell ⟨g, k * 3 + 1, none⟩ (.slice (some ⟨b, off, none⟩) (f.pf.sy + stay pick (f.pf.xs.length - f.pf.sy)) bc)).setCell ⟨g, k * 3 + 2, none⟩ (.int .i64 ((f.pf.sy + stay pick (f.pf.xs.length - f.pf.sy) : Nat) : Int))) x h p left picks (k + 1) := by
  obtain ⟨e1, _⟩ := crash_step (picks := picks) hk hne
  rw [← hpick, ← h2] at e1
  subst hl
  have hrow := r.rest.row
  have hrow : wx.ownsRow B 74 3 h.v (pre ++ f :: post).length (rrow (pre ++ f :: post)) := hrow
  rw [hv] at hrow
  have s1 := hrow.stored (k * 3 + 1) (.slice (some ⟨b, off, none⟩) (f.pf.sy + stay pick (f.pf.xs.length - f.pf.sy)) bc)
  have s1r := s1.1
  rw [← hpk, rrow_set1] at s1r
  have s2 := s1r.stored (pre.length * 3 + 2) (.int .i64 ((f.pf.sy + stay pick (f.pf.xs.length - f.pf.sy) : Nat) : Int))
  have s2r := s2.1
  rw [rrow_set2] at s2r
  rw [hpk] at s2r
  have hu2 : Upd wx ((wx.setCell ⟨g, k * 3 + 1, none⟩ (.slice (some ⟨b, off, none⟩) (f.pf.sy + stay pick (f.pf.xs.length - f.pf.sy)) bc)).setCell ⟨g, k * 3 + 2, none⟩ (.int .i64 ((f.pf.sy + stay pick (f.pf.xs.length - f.pf.sy) : Nat) : Int))) (fun k => h.v.ownBlock = some k) :=
    ((upd_cell wx g (k * 3 + 1) _).trans (upd_cell _ g (k * 3 + 2) _) (fun _ _ e => e)).mono (fun j _ e => by rw [hv, e]; rfl)
  have hfm : f ∈ pre ++ f :: post := by simp
  have hok := (r.rest.ok f hfm).lost pick hfv hbc hbn
  have hok2 := hok.upd hu2 (fun j hj e => (r.rest.off f hfm j (by rw [hfv]; exact hj)).2.2.2 e)
  have hrow2 : ((wx.setCell ⟨g, k * 3 + 1, none⟩ (.slice (some ⟨b, off, none⟩) (f.pf.sy + stay pick (f.pf.xs.length - f.pf.sy)) bc)).setCell ⟨g, k * 3 + 2, none⟩ (.int .i64 ((f.pf.sy + stay pick (f.pf.xs.length - f.pf.sy) : Nat) : Int))).ownsRow B 74 3 h.v (pre ++ (⟨f.pf.lost pick, f.s, .slice (some ⟨b, off, none⟩) (f.pf.sy + stay pick (f.pf.xs.length - f.pf.sy)) bc⟩ : Rl) :: post).length (rrow (pre ++ (⟨f.pf.lost pick, f.s, .slice (some ⟨b, off, none⟩) (f.pf.sy + stay pick (f.pf.xs.length - f.pf.sy)) bc⟩ : Rl) :: post)) := by
    rw [hv]
    simp only [List.length_append, List.length_cons] at s2r ⊢
    have e : ∀ a b : Rl, a.s = b.s → a.v = b.v → a.pf.sy = b.pf.sy → rrow (pre ++ a :: post) = rrow (pre ++ b :: post) := fun a b h1 h2 h3 => by rw [rrow_append, rrow_append]; simp only [rrow, h1, h2, h3]
    rw [← e ⟨⟨f.pf.name, f.pf.xs, f.pf.sy + stay pick (f.pf.xs.length - f.pf.sy)⟩, f.s, .slice (some ⟨b, off, none⟩) (f.pf.sy + stay pick (f.pf.xs.length - f.pf.sy)) bc⟩ ⟨f.pf.lost pick, f.s, .slice (some ⟨b, off, none⟩) (f.pf.sy + stay pick (f.pf.xs.length - f.pf.sy)) bc⟩ rfl rfl rfl]
    exact s2r
  refine ⟨_, r.file (p' := partP p picks (k + 1)) (f' := ⟨f.pf.lost pick, f.s, .slice (some ⟨b, off, none⟩) (f.pf.sy + stay pick (f.pf.xs.length - f.pf.sy)) bc⟩) rfl hrow2 hu2 rfl (by rw [hfv]; rfl) hok2 (by rw [e1]; simp [h1, h3]) rfl rfl rfl rfl, ?_, fun j hj => hft j ?_⟩
  · exact hu.trans hu2 (fun j _ e => .inr (.inl e))
  · exact foot_mid (h := ⟨h.v, pre ++ f :: post⟩) (f' := ⟨f.pf.lost pick, f.s, .slice (some ⟨b, off, none⟩) (f.pf.sy + stay pick (f.pf.xs.length - f.pf.sy)) bc⟩) rfl (by rw [hfv]; rfl) hj
set_option maxRecDepth 100000 in
set_option maxHeartbeats 2000000 in
theorem rcrash_any (B x : Nat) (h : Ru) (p : PS) (left : Int) (vp : Value) (picks : List Int) (w : World) (hd : Rk B w x h p left) (hs : p.sane) (hv : SeesI w vp picks) (hoff : ∀ k, vp.ownBlock = some k → 0 < picks.length → ¬ FootX x h k) (_hpl : picks.length ≤ 140737488355328) :
    Calls Try.prog 27 #[ptr x, vp] w fun e w' => e = .returned (.int .i64 (crashN 0 p.fs)) ∧ RkPost B w w' x h (crashP p picks) := by
  have hlen := hs.len
  have htot := hs.tot
  obtain ⟨pa, pc, hvp⟩ := hv.form
  subst hvp
  obtain ⟨ao, c, hfv⟩ := hd.form
  rw [hd.len] at hfv
  have HFV := Hid.mk' hfv
  have HD := Hid.mk' hd
  have HV := Hid.mk' hv
  have HOFF := Hid.mk' hoff
  have HCN := Hid.mk' (fun k => crashN_le 0 (p.fs.take k))
  clear hd hs hv hoff hfv
  go_enter Try.func27, Try.ntmps27
  go_wp2_with fail
  go_loopg [5, 6] p.fs.length (fun g0 n i wx => ∃ k : Nat, k ≤ p.fs.length ∧ g0 = p.fs.length - k ∧ i = .int .i64 k ∧ n = .int .i64 (crashN 0 (p.fs.take k)) ∧ RCrashAt B w wx x h p left picks k)
  case atStart => exact ⟨0, by omega, rfl, rfl, rfl, h.l, by rw [partP_zero]; exact HD.out, Upd.refl _ _, fun _ h => h⟩
  case round =>
    obtain ⟨k, hk, hg0, rfl, rfl, l', hr, hu, hft⟩ := hrel
    have hcn := HCN.out k
    rw [List.length_take, Nat.zero_add] at hcn
    have c0 := hr.cells.c0
    have hll : l'.length = p.fs.length := by
      have := hr.len
      have e : (partP p picks k).fs.length = p.fs.length := by show (crashL picks 0 (p.fs.take k) ++ p.fs.drop k).length = _; rw [List.length_append, crashL_len, ← List.length_append, List.take_append_drop]
      rw [e] at this
      exact this
    replace c0 : wr.cell? ⟨x, 0, none⟩ = some (.slice ao p.fs.length c) := by rw [← HFV.out]; exact c0
    by_cases hlt : k < p.fs.length
    · obtain ⟨pre, f, post, hlp, hpk, hp1, hp2, hp3⟩ := rcrash_parts hr hlt
      obtain ⟨g, c', hve, e0, e1, e2, hfz⟩ := hr.mid hlp
      replace hve : h.v = .slice (some ⟨g, 0, none⟩) l'.length c' := hve
      rw [hpk] at e0 e1 e2
      obtain ⟨rfl, rfl⟩ : ao = some ⟨g, 0, none⟩ ∧ c = c' := by
        have hve2 := hve
        rw [HFV.out] at hve2
        have hve2 := Value.slice.inj hve2
        exact ⟨hve2.1, hve2.2.2⟩
      replace hve : Hid (h.v = .slice (some ⟨g, 0, none⟩) l'.length c) := hve
      have hfm : f ∈ l' := by rw [hlp]; simp
      have hfok := hr.rest.ok f hfm
      have hle := hfok.le
      have hxl : f.pf.xs.length ≤ 1000000 := by
        have := mem_total (List.getElem_mem hlt)
        rw [← hp2] at this; omega
      have z1 := hfz (k * 3 + 1)
      have z2 := hfz (k * 3 + 2)
      have hki : (k : Int) < (p.fs.length : Int) := by omega
      have hgx : x ≠ g := fun e => hr.rest.vx (by show h.v.ownBlock = _; rw [hve.out, e]; rfl)
      clear hll
      by_cases hsy : f.pf.xs.length = f.pf.sy
      · obtain ⟨q1, q2⟩ := crash_step_same (picks := picks) hlt (by rw [← hp2]; exact hsy)
        have HC : Hid (RCrashAt B w wr x h p left picks (k + 1)) := ⟨l', by rw [q1]; exact hr, hu, hft⟩
        obtain ⟨bo, bc, hbv⟩ := sees_form hfok.sees
        rw [hbv, hsy] at e1
        rw [← q2]
        generalize f.pf.sy = S at *
        clear hr hu hft hlp hp1 hp2 hp3 hfok q1 q2 hcn hbv hsy e0 hfz hve hle
        go_wp2_with fail
        go_quiet (fail)
        go_wp2_with fail
        go_roundg (p.fs.length - (k + 1))
        case measure => omega
        case rel =>
          obtain ⟨l2, q1, q2, q3⟩ := HC.out
          exact ⟨k + 1, by omega, rfl, by go_num, rfl, l2, q1.upd (Upd.drewN _ _ (fun _ => False)) (fun _ _ h => h), q2.trans (Upd.drewN _ _ _) (fun _ _ h => h), q3⟩
      · obtain ⟨b, off, bc, hbv, hbn, hbc⟩ : ∃ b off bc, f.v = .slice (some ⟨b, off, none⟩) f.pf.xs.length bc ∧ f.pf.xs.length ≤ bc ∧ bc ≤ maxLen := by
          rcases hfok.sees with ⟨e, _⟩ | ⟨b, off, bc, e, _, h2, h3, _⟩
          · rw [e] at hsy hle; simp at hsy hle; omega
          · exact ⟨b, off, bc, e, h2, h3⟩
        obtain ⟨_, q2⟩ := crash_step (picks := picks) hlt (by rw [← hp2]; exact hsy)
        have HNX := Hid.mk' (fun nq => rcrash_next (wx := wr.drewN nq) (hr.upd (Upd.drewN _ _ (fun _ => False)) (fun _ _ h => h)) (hu.trans (Upd.drewN _ _ _) (fun _ _ h => h)) hft hlt hlp hpk hp1 hp2 hp3 (by rw [← hp2]; exact hsy) rfl hve.out hbv hbc hbn)
        have hpc : ∀ j, crashN 0 (p.fs.take k) = j → j < picks.length → ∃ pb po pcap, Value.slice pa picks.length pc = .slice (some ⟨pb, po, none⟩) picks.length pcap ∧ wr.cell? ⟨pb, po + j, none⟩ = some (.int .i64 (picks.getD j 0)) := fun j _ hj => HV.out.at hu (fun q hq h0 => HOFF.out q hq h0) j hj
        obtain ⟨N, hN⟩ : ∃ N : Nat, crashN 0 (p.fs.take k) = N := ⟨_, rfl⟩
        rw [hN] at HNX hcn q2 ⊢
        have hpc := hpc N hN
        rw [hbv] at e1
        have hsl := stay_le (picks.getD N 0) (f.pf.xs.length - f.pf.sy)
        obtain ⟨M, hM⟩ : ∃ M : Nat, f.pf.xs.length - f.pf.sy = M := ⟨_, rfl⟩
        have hMx : (f.pf.xs.length : Int) - f.pf.sy = M := by omega
        have hM0 : 0 < M := by omega
        rw [hM] at HNX hsl
        obtain ⟨pk, hpk'⟩ : ∃ pk : Int, picks.getD N 0 = pk := ⟨_, rfl⟩
        rw [hpk'] at HNX hpc hsl
        obtain ⟨K, hK⟩ : ∃ K : Nat, stay pk M = K := ⟨_, rfl⟩
        rw [hK] at HNX hsl
        have hMb : (M : Int) ≤ 1000000 := by omega
        have hMz : ((M : Int) == 0) = false := by rw [beq_eq_false_iff_ne]; omega
        clear hr hu hft hlp hp1 hp2 hp3 hfok hbv hve hN
        go_wp2_with fail
        go_quiet (fail)
        have HN2 := Hid.mk' (HNX.out nq)
        have hud := Upd.drewN wr nq (fun _ => False)
        have hxl' := World.block_lt_of_cell? _ _ c0
        have hgl' := World.block_lt_of_cell? _ _ e2
        have d0 := (hud.cell (p := ⟨x, 0, none⟩) hxl' (fun h => h)).trans c0
        have d1 := (hud.cell (p := ⟨g, k * 3 + 1, none⟩) hgl' (fun h => h)).trans e1
        have d2 := (hud.cell (p := ⟨g, k * 3 + 2, none⟩) hgl' (fun h => h)).trans e2
        have y1 := (hud.frozen (p := ⟨g, k * 3 + 1, none⟩) hgl' (fun h => h)).trans z1
        have y2 := (hud.frozen (p := ⟨g, k * 3 + 2, none⟩) hgl' (fun h => h)).trans z2
        have hpcW : N < picks.length → ∃ pb po pcap, Value.slice pa picks.length pc = .slice (some ⟨pb, po, none⟩) picks.length pcap ∧ (wr.drewN nq).cell? ⟨pb, po + N, none⟩ = some (.int .i64 pk) := fun hj => by
          obtain ⟨pb, po, pcap, q1, q2⟩ := hpc hj
          exact ⟨pb, po, pcap, q1, (hud.cell (p := ⟨pb, po + N, none⟩) (World.block_lt_of_cell? _ _ q2) (fun h => h)).trans q2⟩
        have HPC := Hid.mk' hpcW
        generalize wr.drewN nq = W at *
        clear hud hxl' hgl' c0 e0 e1 e2 z1 z2 hfz hpc hpcW HNX
        go_upto_if 41 with fail
        go_cut [8] from 38 to 54 (fun s8 wx => s8 = .int .i64 (K : Int) ∧ wx = W)
        case first =>
          have hM1 : ((M : Int) + 1 == 0) = false := by rw [beq_eq_false_iff_ne]; omega
          have hb1 := Int.lt_tmod_of_pos pk (b := (M : Int) + 1) (by omega)
          have hb2 := Int.tmod_lt_of_pos pk (b := (M : Int) + 1) (by omega)
          by_cases hcl : N < picks.length
          · obtain ⟨pb, po, pcap, hpe, hpcell⟩ := HPC.out hcl
            have hpe := Value.slice.inj hpe
            obtain ⟨rfl, _, rfl⟩ := hpe
            have hcli : (N : Int) < (picks.length : Int) := by omega
            by_cases hneg : pk.tmod ((M : Int) + 1) < 0
            · have HKE := Hid.mk' (stay_neg hneg)
              clear hpk' HN2 HPC
              go_wp2_with fail
              go_meet
              refine ⟨?_, rfl⟩
              rw [hK] at HKE
              rw [HKE.out]
            · have HKE := Hid.mk' (stay_pos hneg)
              clear hpk' HN2 HPC
              go_wp2_with fail
              go_meet
              refine ⟨?_, rfl⟩
              rw [hK] at HKE
              rw [HKE.out]
          · have hp0 : pk = 0 := by rw [← hpk', List.getD_eq_getElem?_getD, List.getElem?_eq_none (by omega)]; rfl
            have HK0 : Hid (K = 0) := by show _ = _; rw [← hK, hp0, stay_zero]
            have hcli : ¬ ((N : Int) < (picks.length : Int)) := by omega
            clear hpk' HN2 HPC hp0 hb1 hb2
            go_wp2_with fail
            go_meet
            exact ⟨by rw [HK0.out]; rfl, rfl⟩
        case rest =>
        obtain ⟨rfl, rfl⟩ := hcut
        have hSK : (f.pf.sy : Int) + K ≤ bc := by omega
        have hSK0 : (0 : Int) ≤ (f.pf.sy : Int) + K := by omega
        clear HPC hpk' hK hM
        have q0 : (wc.setCell ⟨g, k * 3 + 1, none⟩ (.slice (some ⟨b, off, none⟩) (f.pf.sy + K) bc)).cell? ⟨x, 0, none⟩ = some (.slice (some ⟨g, 0, none⟩) p.fs.length c) := (World.cell?_setCell_other _ _ _ _ (by simp only [ne_eq, Addr.mk.injEq]; exact fun e => hgx e.1.symm)).trans d0
        have q1 : (wc.setCell ⟨g, k * 3 + 1, none⟩ (.slice (some ⟨b, off, none⟩) (f.pf.sy + K) bc)).cell? ⟨g, k * 3 + 1, none⟩ = some (.slice (some ⟨b, off, none⟩) (f.pf.sy + K) bc) := World.cell?_setCell_same _ _ _ d1
        have q2' : (wc.setCell ⟨g, k * 3 + 1, none⟩ (.slice (some ⟨b, off, none⟩) (f.pf.sy + K) bc)).cell? ⟨g, k * 3 + 2, none⟩ = some (.int .i64 f.pf.sy) := (World.cell?_setCell_other _ _ _ _ (by simp only [ne_eq, Addr.mk.injEq]; omega)).trans d2
        have q3 : (wc.setCell ⟨g, k * 3 + 1, none⟩ (.slice (some ⟨b, off, none⟩) (f.pf.sy + K) bc)).frozen? ⟨g, k * 3 + 2, none⟩ = false := by rw [World.frozen?_setCell]; exact y2
        have hcst : ((f.pf.sy : Int) + K).toNat = f.pf.sy + K := by omega
        have hgx2 : ¬ x = g := hgx
        go_wp2_with fail
        go_region
        all_goals
          go_wp2_with fail
          go_region
          all_goals
            go_wp2_with fail
            go_roundg (p.fs.length - (k + 1))
            case measure => omega
            case rel =>
              have hfin := HN2.out.drew.drew
              rw [Int.natCast_add] at hfin
              exact ⟨k + 1, by omega, rfl, by go_num, by rw [q2]; go_num, hfin⟩
    · have HK : Hid (k = p.fs.length) := by show _ = _; omega
      have c3 := hr.cells.c3
      have c4 := hr.cells.c4
      have f3 := hr.cells.f3
      have f4 := hr.cells.f4
      have HC : Hid (Rk B wr x ⟨h.v, l'⟩ ⟨crashL picks 0 p.fs, p.room, p.ops, p.stops, p.dead⟩ left) := by
        have := hr
        rw [HK.out, partP_end] at this
        exact this
      have HUX := Hid.mk' hu
      have HFT := Hid.mk' hft
      have HN : Hid (crashN 0 (p.fs.take k) = crashN 0 p.fs) := by show _ = _; rw [HK.out, List.take_length]
      have hlt2 : ¬ ((k : Int) < (p.fs.length : Int)) := by omega
      clear hr hu hft hcn hll
      go_wp2_with fail
      go_ret
      have hs4 := upd_cell wr x 4 (.bool false)
      have hs3 := upd_cell (wr.setCell ⟨x, 4, none⟩ (.bool false)) x 3 (.int .i64 0)
      refine ⟨ret_int (by rw [HN.out]), ⟨h.v, l'⟩, 0, ⟨HC.out.view, (HC.out.cells.set4 false).set3 0, (HC.out.rest.set hs4).set hs3, ⟨fun _ => rfl, by decide, by decide⟩, HC.out.up⟩, ?_, fun j hj => .inl (HFT.out j hj)⟩
      exact (HUX.out.trans hs4 (fun _ _ e => .inl e)).trans hs3 (fun _ _ e => .inl e)
end Go.Proofs.Ytmfhfabfhoiegaa
