/- What the calls on one file do, and how a file comes into the map and leaves it. -/
import Derived.Test.YtdcpfjlnagigaaaGreatDoorOps
namespace Go.Proofs.YtdcpfjlnagigaaaGreatDoor
open Go Go.RowKit
theorem Upd.drewN (w : World) (n : Nat) (S : Nat → Prop) : Upd w (w.drewN n) S := Upd.ofBelow (below_drewN (Below.refl _ _) n)
set_option maxHeartbeats 400000 in
theorem loose_any (B : Nat) (f : Fl) (w : World) (hf : HasF B w f) (hl : f.pf.xs.length ≤ 1000000) :
    Calls Tryz.prog 49 #[ptr f.blk] w fun e w' => e = .returned (.int .i64 ((f.pf.xs.length : Int) - f.pf.sy)) ∧ ∃ n, w' = w.drewN n := by
  obtain ⟨ao, cp, hv⟩ := owns_form hf.own
  have h0 := hf.c0
  have h1 := hf.c1
  have hle := hf.le
  rw [hv] at h0
  clear hf hv
  go_enter Tryz.func49, Tryz.ntmps49
  go_wp2
  go_quiet (fail)
  go_wp2
  go_ret
  exact ⟨rfl, _, rfl⟩
theorem own_cut {B : Nat} {w : World} {v : Value} {xs : List Int} {g cap : Nat} (h : w.ownsRow B 5 1 v xs.length (u8s xs)) (hv : v = .slice (some ⟨g, 0, none⟩) xs.length cap) (m : Nat) (hm : m ≤ xs.length) :
    w.ownsRow B 5 1 (.slice (some ⟨g, 0, none⟩) m cap) (xs.take m).length (u8s (xs.take m)) := by
  have hl : (xs.take m).length = m := by simp; omega
  rcases h.2 with ⟨e, _⟩ | ⟨g', c', cur, e, hb, hg, hnc, hcm, hcs, ht⟩
  · rw [hv] at e; cases e
  · rw [hv] at e
    cases e
    refine ⟨by simp [u8s], .inr ⟨g, cap, cur, by rw [hl], hb, hg, by omega, hcm, hcs, ?_⟩⟩
    rw [hl, Nat.mul_one]
    rw [Nat.mul_one] at ht
    rw [show u8s (xs.take m) = (u8s xs).take m from by simp [u8s, List.map_take], ← ht, List.take_take]
    congr 1; omega
theorem rem_pos (pick ways : Int) (h : 0 < ways) : (pick.tmod ways + ways).tmod ways = pick % ways := by
  have h1 := Int.lt_tmod_of_pos pick h
  have h2 := Int.tmod_lt_of_pos pick h
  rw [Int.tmod_eq_emod_of_nonneg (by omega)]
  rw [Int.add_emod_right]
  have := Int.mul_tdiv_add_tmod pick ways
  calc pick.tmod ways % ways = (ways * pick.tdiv ways + pick.tmod ways) % ways := by rw [Int.add_comm, Int.add_mul_emod_self_left]
    _ = pick % ways := by rw [this]
set_option maxHeartbeats 1000000 in
theorem lose_any (B : Nat) (f : Fl) (pick : Int) (w : World) (hf : HasF B w f) (hl : f.pf.xs.length ≤ 1000000) (hlt : f.pf.sy < f.pf.xs.length) :
    Calls Tryz.prog 50 #[ptr f.blk, .int .i64 pick] w fun e w' => e = .returned (.int .i64 ((f.pf.xs.length : Int) - (f.pf.lost pick).xs.length)) ∧
      ∃ v', v'.ownBlock = f.v.ownBlock ∧ HasF B w' ⟨f.pf.lost pick, f.blk, v'⟩ ∧ Upd w w' (fun k => k = f.blk) := by
  have hle := hf.le
  have hsl := stay_le pick (f.pf.xs.length - f.pf.sy)
  obtain ⟨m, hm⟩ : ∃ m : Nat, stay pick (f.pf.xs.length - f.pf.sy) = m := ⟨_, rfl⟩
  obtain ⟨L, hL⟩ : ∃ L : Nat, f.pf.xs.length - f.pf.sy = L := ⟨_, rfl⟩
  rw [hm, hL] at hsl
  rw [hL] at hm
  have hpm : pick % ((L : Int) + 1) = m := by
    have := Int.emod_nonneg pick (b := (L : Int) + 1) (by omega)
    unfold stay at hm; omega
  have hrem := rem_pos pick ((L : Int) + 1) (by omega)
  rw [hpm] at hrem
  have hb1 := Int.lt_tmod_of_pos pick (b := (L : Int) + 1) (by omega)
  have hb2 := Int.tmod_lt_of_pos pick (b := (L : Int) + 1) (by omega)
  have hne : ((L : Int) + 1 == 0) = false := by simp; omega
  have hlost : f.pf.lost pick = ⟨f.pf.name, f.pf.xs.take (f.pf.sy + m), f.pf.sy + m⟩ := by unfold PF.lost; rw [hL, hm]
  have hll : (f.pf.lost pick).xs.length = f.pf.sy + m := by rw [hlost]; simp; omega
  obtain ⟨gb, cap, hv, _, _⟩ := hf.own.form (by omega)
  have hcap : f.pf.xs.length ≤ cap := by
    rcases hf.own.2 with ⟨e, _⟩ | ⟨g', c', cur, e, _, _, hc, _⟩
    · rw [hv] at e; cases e
    · rw [hv] at e; cases e; exact hc
  have HO := Hid.mk' (own_cut hf.own hv (f.pf.sy + m) (by omega))
  have HF := Hid.mk' hf
  have c0 := hf.c0; have c1 := hf.c1; have f0 := hf.f0; have f1 := hf.f1
  rw [hv] at c0
  have hloose := fun w' (h : HasF B w' f) => loose_any B f w' h hl
  rw [show (f.pf.xs.length : Int) - f.pf.sy = L from by omega] at hloose
  have HHL := Hid.mk' hll
  have HHT := Hid.mk' hlost
  have hLe : f.pf.sy + L = f.pf.xs.length := by omega
  rw [hll]
  clear hf hll hlost hm hpm hL hle hlt
  go_enter Tryz.func50, Tryz.ntmps50
  go_wp2_with fail
  refine (hloose _ HF.out).mono ?_
  rintro e w1 ⟨rfl, n1, rfl⟩
  go_wp2_with fail
  refine (hloose _ (HF.out.upd (Upd.drewN w n1 (fun _ => False)) (fun _ _ h => h))).mono ?_
  rintro e w2 ⟨rfl, n2, rfl⟩
  have HU : Hid (Upd w ((w.drewN n1).drewN n2) (fun _ => False)) := (Upd.drewN w n1 _).trans (Upd.drewN _ n2 (fun _ => False)) (fun _ _ h => h)
  generalize (w.drewN n1).drewN n2 = w2 at *
  have HF2 := Hid.mk' (HF.out.upd HU.out (fun _ _ h => h))
  have HO2 := Hid.mk' (ownsRow_upd HO.out HU.out (fun _ _ h => h))
  replace c0 := HF2.out.c0; replace c1 := HF2.out.c1; replace f0 := HF2.out.f0; replace f1 := HF2.out.f1
  rw [hv] at c0
  clear hloose hrem hne hb1 hb2
  go_wp2_with fail
  obtain ⟨t, ht⟩ : ∃ t : Nat, f.pf.sy + m = t := ⟨_, rfl⟩
  rw [show ((f.pf.sy : Int) + m) = (t : Int) from by omega]
  have d1 : (w2.setCell ⟨f.blk, 1, none⟩ (.int .i64 t)).cell? ⟨f.blk, 1, none⟩ = some (.int .i64 t) := World.cell?_setCell_same _ _ _ c1
  have d0 : (w2.setCell ⟨f.blk, 1, none⟩ (.int .i64 t)).cell? ⟨f.blk, 0, none⟩ = _ := (World.cell?_setCell_other _ _ _ _ (by simp)).trans c0
  have g0 : (w2.setCell ⟨f.blk, 1, none⟩ (.int .i64 t)).frozen? ⟨f.blk, 0, none⟩ = false := by rw [World.frozen?_setCell]; exact f0
  have g1 : (w2.setCell ⟨f.blk, 1, none⟩ (.int .i64 t)).frozen? ⟨f.blk, 1, none⟩ = false := by rw [World.frozen?_setCell]; exact f1
  have HU3 := Hid.mk' (upd_cell w2 f.blk 1 (.int .i64 t))
  generalize w2.setCell ⟨f.blk, 1, none⟩ (.int .i64 t) = w3 at *
  have htc : t ≤ cap := by omega
  have HT := Hid.mk' ht
  clear ht
  go_region
  go_wp2
  go_ret
  have ht := HT.out
  have hne : gb ≠ f.blk := fun e => HF.out.ne (by rw [hv, e]; rfl)
  have HS := upd_cell w3 f.blk 0 (.slice (some ⟨gb, 0, none⟩) t cap)
  have h3 := ownsRow_upd HO2.out HU3.out (fun k hk e => hne ((Option.some.inj hk).trans e))
  rw [ht] at h3
  have h4 := ownsRow_upd h3 HS (fun k hk e => hne ((Option.some.inj hk).trans e))
  refine ⟨ret_int (by omega), .slice (some ⟨gb, 0, none⟩) t cap, by rw [hv]; rfl, ?_, ((HU.out.mono (fun _ _ h => h.elim)).trans (HU3.out.trans HS (fun _ _ h => h)) (fun _ _ h => h)).drew⟩
  rw [HHT.out, ht]
  refine ⟨World.cell?_setCell_same _ _ _ d0, (World.cell?_setCell_other _ _ _ _ (by simp)).trans d1, by show World.frozen? _ _ = _; rw [show (w3.setCell ⟨f.blk, 0, none⟩ (.slice (some ⟨gb, 0, none⟩) t cap)).drew.frozen? ⟨f.blk, 0, none⟩ = (w3.setCell ⟨f.blk, 0, none⟩ (.slice (some ⟨gb, 0, none⟩) t cap)).frozen? ⟨f.blk, 0, none⟩ from rfl, World.frozen?_setCell]; exact g0,
    by rw [show (w3.setCell ⟨f.blk, 0, none⟩ (.slice (some ⟨gb, 0, none⟩) t cap)).drew.frozen? ⟨f.blk, 1, none⟩ = (w3.setCell ⟨f.blk, 0, none⟩ (.slice (some ⟨gb, 0, none⟩) t cap)).frozen? ⟨f.blk, 1, none⟩ from rfl, World.frozen?_setCell]; exact g1,
    h4.drew, fun e => hne (Option.some.inj e), HF.out.base, fun x hx => HF.out.bytes x (List.mem_of_mem_take hx), by simp; omega, HF.out.okn⟩
theorem eqlSome (bm : Nat) (w : World) : (binOp .eql 63 (.map (some bm)) (.map none)).run Tryz.prog w = .ok (.bool false) w := by kernel_rfl
theorem eqlNil (w : World) : (binOp .eql 63 (.map none) (.map none)).run Tryz.prog w = .ok (.bool true) w := by kernel_rfl
set_option maxHeartbeats 1000000 in
/-- lay, where there is a map already. -/
theorem lay_some (B d b : Nat) (g : Gu) (f : Fl) (s : ByteArray) (w : World) (room used ops stops : Int) (dead : Bool) (hc : DCells w d (some b) room used ops stops dead) (hr : DRest B w d g) (hm : g.m = some b) (hf : HasF B w f) (hs : s.data.toList = f.nm)
    (ho : ∀ k, footF f k → k ≠ d ∧ k ≠ b ∧ ∀ f2 ∈ g.fs, f2.nm ≠ f.nm → ¬ footF f2 k) (hn : g.fs.length < 1000000) :
    Calls Tryz.prog 53 #[ptr d, .string s, ptr f.blk] w fun e w' => e = .returned (.tuple #[]) ∧ DCells w' d (some b) room used ops stops dead ∧ DRest B w' d ⟨some b, insK Fl.nm f (delK Fl.nm f.nm g.fs)⟩ ∧ Upd w w' (fun k => k = b) := by
  have hok := okName_len hf.okn
  rw [← hs, Array.length_toList] at hok
  have hsz : 1 ≤ s.size ∧ s.size ≤ 40 := hok
  have c0 := hc.c0
  have hbd : b ≠ d := hr.ne (.inl hm)
  have hdl : d < w.heap.size := hc.lt
  have HST : Hid (∀ w1, Below w.heap.size w w1 → ∃ w3, (Instr.mapUpdate 63 (.map (some b)) (.string s) (ptr f.blk)).run Tryz.prog w1 = .ok () w3 ∧ (DCells w3 d (some b) room used ops stops dead ∧ DRest B w3 d ⟨some b, insK Fl.nm f (delK Fl.nm f.nm g.fs)⟩ ∧ Upd w w3 (fun k => k = b))) := by
    intro w1 hb1
    have hu1 : Upd w w1 (fun _ => False) := Upd.ofBelow hb1
    have hr1 := hr.upd hu1 (fun _ _ h => h)
    have hm1 : w1.ownsMap Tryz.prog 9 Rf b g.fs.length (.map (g.fs.map ent)) := by
      rcases hr1.map with ⟨e, _⟩ | ⟨b', e, _, _, h⟩
      · rw [e] at hm; cases hm
      · rw [e] at hm; cases hm; exact h
    obtain ⟨w3, h1, h2, h3⟩ := DRest.store hm1 f s hs (by unfold maxLen; omega) hn
    exact ⟨w3, h1, ((hc.upd hu1 (fun h => h)).upd h3 (fun e => hbd e.symm)), hr1.ins hm f h3 h2 (hf.upd hu1 (fun _ _ h => h)) ho, (hu1.mono (fun _ _ h => h.elim)).trans h3 (fun _ _ h => h)⟩
  clear hc hr hf ho hok hs
  go_enter Tryz.func53, Tryz.ntmps53
  have hq := eqlSome b
  go_wp2_with fail
  go_region_with (go_at_call 87; refine (sclone _ _ hsz.1 (by omega)).mono ?_; rintro e w1 ⟨rfl, hb1⟩; obtain ⟨w3, hrun, H3⟩ := HST.out w1 ((Below.refl _ w).drew.trans hb1); replace c0 := (hb1.cell (p := ⟨d, 0, none⟩) hdl).trans c0)
  all_goals
    go_end0
    exact ⟨rfl, H3⟩
theorem DRest.made {B d : Nat} {w : World} (hB : B ≤ w.heap.size) (hBd : B ≤ d) (hd : d < w.heap.size) : DRest B ((w.alloc (.map #[] 0)).setCell ⟨d, 0, none⟩ (.map (some w.heap.size))) d ⟨some w.heap.size, []⟩ := by
  refine ⟨.inr ⟨w.heap.size, rfl, hB, by omega, ?_⟩, List.Pairwise.nil, fun _ h => (by cases h), List.Pairwise.nil, fun _ h => (by cases h), hBd⟩
  exact ownsMap_upd (World.ownsMap_made w Tryz.prog 9 Rf) (upd_cell _ _ _ _) (by omega)
set_option maxHeartbeats 1000000 in
/-- lay, where there is no map yet. -/
theorem lay_none (B d : Nat) (f : Fl) (s : ByteArray) (w : World) (room used ops stops : Int) (dead : Bool) (hc : DCells w d none room used ops stops dead) (hf : HasF B w f) (hs : s.data.toList = f.nm)
    (ho : ∀ k, footF f k → k ≠ d) (hB : B ≤ w.heap.size) (hBd : B ≤ d) :
    Calls Tryz.prog 53 #[ptr d, .string s, ptr f.blk] w fun e w' => e = .returned (.tuple #[]) ∧ DCells w' d (some w.heap.size) room used ops stops dead ∧ DRest B w' d ⟨some w.heap.size, [f]⟩ ∧ Upd w w' (fun k => k = d) := by
  have hok := okName_len hf.okn
  rw [← hs, Array.length_toList] at hok
  have hsz : 1 ≤ s.size ∧ s.size ≤ 40 := hok
  have c0 := hc.c0
  have f0 := hc.f0
  have hdl : d < w.heap.size := hc.lt
  have HW : Hid (Upd w ((w.alloc (.map #[] 0)).setCell ⟨d, 0, none⟩ (.map (some w.heap.size))) (fun k => k = d)) := (Upd.alloc w _ (fun k => k = d)).trans (upd_cell _ _ _ _) (fun _ _ h => h)
  have hszw : ((w.alloc (.map #[] 0)).setCell ⟨d, 0, none⟩ (.map (some w.heap.size))).heap.size = w.heap.size + 1 := by simp [World.setCell]
  have HST : Hid (∀ w1, Below (w.heap.size + 1) ((w.alloc (.map #[] 0)).setCell ⟨d, 0, none⟩ (.map (some w.heap.size))) w1 → ∃ w3, (Instr.mapUpdate 63 (.map (some w.heap.size)) (.string s) (ptr f.blk)).run Tryz.prog w1 = .ok () w3 ∧ (DCells w3 d (some w.heap.size) room used ops stops dead ∧ DRest B w3 d ⟨some w.heap.size, [f]⟩ ∧ Upd w w3 (fun k => k = d))) := by
    intro w1 hb1
    rw [← hszw] at hb1
    have hu1 : Upd _ w1 (fun _ => False) := Upd.ofBelow hb1
    have hr0 : DRest B _ d ⟨some w.heap.size, []⟩ := DRest.made hB hBd hdl
    have hr1 := hr0.upd hu1 (fun _ _ h => h)
    have hm1 : w1.ownsMap Tryz.prog 9 Rf w.heap.size 0 (.map (([] : List Fl).map ent)) := by
      rcases hr1.map with ⟨e, _⟩ | ⟨b', e, _, _, h⟩
      · cases e
      · cases e; exact h
    obtain ⟨w3, h1, h2, h3⟩ := DRest.store hm1 f s hs (by unfold maxLen; omega) (by simp)
    have hfl : ∀ k, footF f k → k < w.heap.size := fun k hk => hf.lt hk
    refine ⟨w3, h1, ?_, ?_, ?_⟩
    · exact ((((hc.upd (Upd.alloc w _ (fun _ => False)) (fun h => h)).set0 _).upd hu1 (fun h => h)).upd h3 (fun e => by omega))
    · exact hr1.ins rfl f h3 h2 ((hf.upd HW.out (fun k hk => ho k hk)).upd hu1 (fun _ _ h => h)) (fun k hk => ⟨ho k hk, by have := hfl k hk; omega, fun _ h => by cases h⟩)
    · refine (HW.out.trans (hu1.mono (fun _ _ h => h.elim)) (fun _ _ h => h)).trans h3 (fun j hj h => ?_)
      omega
  have hcell : ((w.alloc (.map #[] 0)).setCell ⟨d, 0, none⟩ (.map (some w.heap.size))).cell? ⟨d, 0, none⟩ = some (.map (some w.heap.size)) := (((hc.upd (Upd.alloc w _ (fun _ => False)) (fun h => h)).set0 _)).c0
  have hmk := run_makeMap (P := Tryz.prog) 63 w
  clear hc hf ho hok hs
  have hq := eqlNil
  go_enter Tryz.func53, Tryz.ntmps53
  go_wp2_with fail
  have hcomm : (w.setCell ⟨d, 0, none⟩ (.map (some w.heap.size))).alloc (.map #[] 0) = (w.alloc (.map #[] 0)).setCell ⟨d, 0, none⟩ (.map (some w.heap.size)) :=
    (World.setCell_alloc_past _ _ _ _ hdl).symm
  rw [hcomm]
  generalize (w.alloc (.map #[] 0)).setCell ⟨d, 0, none⟩ (.map (some w.heap.size)) = W1 at *
  clear hcomm hmk hq c0
  go_region_with (go_at_call 87; refine (sclone _ _ hsz.1 (by omega)).mono ?_; rintro e w1 ⟨rfl, hb1⟩; rw [show W1.drew.heap.size = w.heap.size + 1 from hszw] at hb1; obtain ⟨w3, hrun, H3⟩ := HST.out w1 ((Below.refl _ W1).drew.trans hb1); replace hcell := (hb1.cell (p := ⟨d, 0, none⟩) (show d < w.heap.size + 1 by omega)).trans hcell)
  all_goals
    go_end0
    exact ⟨rfl, H3⟩
end Go.Proofs.YtdcpfjlnagigaaaGreatDoor
