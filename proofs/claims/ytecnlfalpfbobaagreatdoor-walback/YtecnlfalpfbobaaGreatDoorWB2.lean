/- What was saved is there when the log is opened again, in as few files as it must. -/
import Derived.Test.YtecnlfalpfbobaaGreatDoorWB1
import Derived.Deep.RegionHeldLaw
namespace Go.Proofs.YtecnlfalpfbobaaGreatDoor
open Go Go.RowKit
/-- The entry of a round. -/
def yE (k q b : Nat) : Ev := ⟨⟨k + 1, k / 3, 0, zeros q⟩, .slice (some ⟨b, 0, none⟩) q q⟩
/-- What a round hands to Save. -/
theorem back_args (w : World) (k q : Nat) (Zs : Array Value) (hz : (u8s (zeros q)).toArray = Zs) (hq : q < 3000) (hk : k < 30) :
    Below w.heap.size w ((((w.alloc (.cells Zs 5)).alloc (.cells #[.int .i64 (k + 1), .int .i64 (k / 3), .int .i64 0, .slice (some ⟨w.heap.size, 0, none⟩) q q] 60)).alloc (.cells #[.int .i64 (k / 3), .int .i64 0, .int .i64 k] 34)).alloc (.cells #[.int .i64 (k + 1), .int .i64 (k / 3), .int .i64 0, .slice (some ⟨w.heap.size, 0, none⟩) q q] 60)) ∧
    HardAt ((((w.alloc (.cells Zs 5)).alloc (.cells #[.int .i64 (k + 1), .int .i64 (k / 3), .int .i64 0, .slice (some ⟨w.heap.size, 0, none⟩) q q] 60)).alloc (.cells #[.int .i64 (k / 3), .int .i64 0, .int .i64 k] 34)).alloc (.cells #[.int .i64 (k + 1), .int .i64 (k / 3), .int .i64 0, .slice (some ⟨w.heap.size, 0, none⟩) q q] 60)) (.pointer (some ⟨w.heap.size + 1 + 1, 0, none⟩)) (some ((k / 3 : Nat), 0, (k : Nat))) ∧
    SeesE ((((w.alloc (.cells Zs 5)).alloc (.cells #[.int .i64 (k + 1), .int .i64 (k / 3), .int .i64 0, .slice (some ⟨w.heap.size, 0, none⟩) q q] 60)).alloc (.cells #[.int .i64 (k / 3), .int .i64 0, .int .i64 k] 34)).alloc (.cells #[.int .i64 (k + 1), .int .i64 (k / 3), .int .i64 0, .slice (some ⟨w.heap.size, 0, none⟩) q q] 60)) (.slice (some ⟨w.heap.size + 1 + 1 + 1, 0, none⟩) 1 1) [yE k q w.heap.size] := by
  subst hz
  have hs : Sees (w.alloc (.cells (u8s (zeros q)).toArray 5)) (.slice (some ⟨w.heap.size, 0, none⟩) q q) (zeros q) := by
    have := sees_new0 w (zeros q) (by simp [maxLen]; omega)
    simpa using this
  have h1 : (w.alloc (.cells (u8s (zeros q)).toArray 5)).heap.size = w.heap.size + 1 := by simp
  have hb1 : Below w.heap.size w (w.alloc (.cells (u8s (zeros q)).toArray 5)) := (Below.refl _ _).alloc (Nat.le_refl _) _
  generalize w.alloc (.cells (u8s (zeros q)).toArray 5) = w1 at *
  have h2 : (w1.alloc (.cells #[.int .i64 (k + 1), .int .i64 (k / 3), .int .i64 0, .slice (some ⟨w.heap.size, 0, none⟩) q q] 60)).heap.size = w.heap.size + 1 + 1 := by simp [h1]
  have hb2 : Below w1.heap.size w1 (w1.alloc (.cells #[.int .i64 (k + 1), .int .i64 (k / 3), .int .i64 0, .slice (some ⟨w.heap.size, 0, none⟩) q q] 60)) := (Below.refl _ _).alloc (Nat.le_refl _) _
  generalize w1.alloc (.cells #[.int .i64 (k + 1), .int .i64 (k / 3), .int .i64 0, .slice (some ⟨w.heap.size, 0, none⟩) q q] 60) = w2 at *
  have hr : (w2.alloc (.cells #[.int .i64 (k / 3), .int .i64 0, .int .i64 k] 34)).heap[w.heap.size + 1 + 1]? = some (.cells #[.int .i64 (k / 3), .int .i64 0, .int .i64 k] 34 (0, 0)) := by rw [← h2]; exact heap_alloc_new w2 _
  have h3 : (w2.alloc (.cells #[.int .i64 (k / 3), .int .i64 0, .int .i64 k] 34)).heap.size = w.heap.size + 1 + 1 + 1 := by simp [h2]
  have hb3 : Below w2.heap.size w2 (w2.alloc (.cells #[.int .i64 (k / 3), .int .i64 0, .int .i64 k] 34)) := (Below.refl _ _).alloc (Nat.le_refl _) _
  generalize w2.alloc (.cells #[.int .i64 (k / 3), .int .i64 0, .int .i64 k] 34) = w3 at *
  have hb4 : Below w3.heap.size w3 (w3.alloc (.cells #[.int .i64 (k + 1), .int .i64 (k / 3), .int .i64 0, .slice (some ⟨w.heap.size, 0, none⟩) q q] 60)) := (Below.refl _ _).alloc (Nat.le_refl _) _
  have hk3 : ((k / 3 : Nat) : Int) = (k : Int) / 3 := by omega
  refine ⟨((hb1.trans (hb2.mono hb1.size)).trans (hb3.mono (by omega))).trans (hb4.mono (by omega)), ⟨w.heap.size + 1 + 1, rfl, by have := hb4.size; omega, ?_, ?_, ?_⟩, ?_⟩
  · rw [hk3]; exact (hb4.cell (p := ⟨w.heap.size + 1 + 1, 0, none⟩) (by show w.heap.size + 1 + 1 < _; omega)).trans (row_cells hr 0)
  · exact (hb4.cell (p := ⟨w.heap.size + 1 + 1, 1, none⟩) (by show w.heap.size + 1 + 1 < _; omega)).trans (row_cells hr 1)
  · exact (hb4.cell (p := ⟨w.heap.size + 1 + 1, 2, none⟩) (by show w.heap.size + 1 + 1 < _; omega)).trans (row_cells hr 2)
  · have := seesE_new w3 [yE k q w.heap.size] (by simp) (fun x hx => by
      rw [List.mem_singleton.1 hx]
      exact ⟨⟨(hs.below hb2).below hb3, isB_zeros q, by show (zeros q).length ≤ 70000; simp; omega⟩, by show i64 ((k : Int) + 1); exact ⟨by omega, by omega⟩⟩) rfl
    rw [h3] at this
    exact this
theorem run_state2 (W : World) (c0 c1 c2 c3 c4 c5 c6 : Value) : (Instr.field 40 (.agg #[c0, c1, c2, c3, c4, c5, c6]) 2).run Tryz.prog W = .ok c6 W := by
  simp [Instr.field, asAgg, part]
theorem run_state0 (W : World) (c0 c1 c2 c3 c4 c5 c6 : Value) : (Instr.field 40 (.agg #[c0, c1, c2, c3, c4, c5, c6]) 0).run Tryz.prog W = .ok (.agg #[c0, c1, c2]) W := by
  simp [Instr.field, asAgg, part]
/-- How many of a disk's files are smaller than Segment. -/
def smallF (l : List PF) : Nat := l.countP (fun f => decide (f.xs.length < 4096))
theorem smallF_lfs : ∀ (a : List (List Rec)) (i : Nat), smallF (lfs i a) = smalls a
  | [], _ => rfl
  | rs :: a, i => by
    have := smallF_lfs a (i + 1)
    simp only [smallF, smalls, lfs, lf, List.countP_cons] at *
    omega
theorem smallF_snoc (l : List PF) (f : PF) : smallF (l ++ [f]) = smallF l + (if f.xs.length < 4096 then 1 else 0) := by
  simp [smallF, List.countP_append, List.countP_cons]
/-- What State tells of a log. -/
theorem back_state (B l d : Nat) (g : Gu) (p : PS) (s : Sm) (ev : Value) (newest left : Int) (w : World) (k : Nat) (h : Lg B w l d g p s ev newest left) (hk : s.es.length = k) :
    Calls Tryz.prog 27 #[ptr l] w fun e w' => ∃ vo vl vc ao ac xs, e = .returned (.agg #[.int .i64 s.ht, .int .i64 s.hv, .int .i64 s.hc, .int .i64 s.mi, .int .i64 s.mt, .slice vo vl vc, .slice ao k ac]) ∧ SeesE w' (.slice ao k ac) xs ∧ xs.map Ev.e = s.es.map Ev.e ∧ Below w.heap.size w w' := by
  refine (state_any B l s ev w h.sm h.c10).mono ?_
  rintro e w' ⟨vv, ev', xs, rfl, hto, hb⟩
  have hse := hto.seesE (fun x hx => by
    obtain ⟨j, hj, rfl⟩ := List.mem_iff_getElem.1 hx
    have h1 : s.es[j].e.i = s.mi + 1 + j := h.sm.rest.ok.at_ j hj
    have h2 := h.sm.rest.ok.top
    have h3 := h.sm.rest.ok.bot
    exact ⟨by omega, by omega⟩)
  obtain ⟨vo, vc, rfl⟩ := hto.vot.form
  obtain ⟨ao, ac, rfl, _, _⟩ := hto.row.form
  have hn : xs.length = k := by have := congrArg List.length hto.same; simp only [List.length_map] at this; omega
  rw [hn] at hse ⊢
  exact ⟨vo, _, vc, ao, ac, xs, rfl, hse, hto.same, hb⟩
/-- What Open tells of it. -/
theorem back_told (B l d : Nat) (g : Gu) (p : PS) (s : Sm) (ev : Value) (newest left : Int) (w : World) (a : List (List Rec)) (k o : Nat) (hT : HasTab w) (h : Lg B w l d g p s ev newest left) (hk : Bk p (pureS s) a newest left k o) (hk30 : k ≤ 30) :
    Calls Tryz.prog 13 #[ptr d] w fun e w' => ∃ l' vo vl vc ao ac xs, e = .returned (.tuple #[ptr l', .agg #[.int .i64 s.ht, .int .i64 s.hv, .int .i64 s.hc, .int .i64 s.mi, .int .i64 s.mt, .slice vo vl vc, .slice ao k ac], .int .i64 0]) ∧ SeesE w' (.slice ao k ac) xs ∧ xs.map Ev.e = s.es.map Ev.e ∧ Below w.heap.size w w' := by
  obtain ⟨k1, k2, k3⟩ := hk.again hk30
  refine (open_any _ d g p w h.dk k3 hT).mono ?_
  rintro e w' ⟨l', s', ev', vv, ev2, xs, rfl, hL, hto, hb⟩
  have hs : pureS s' = pureS s := hL.says.trans k1
  have hse := hto.seesE (fun x hx => by
    obtain ⟨j, hj, rfl⟩ := List.mem_iff_getElem.1 hx
    have h1 : s'.es[j].e.i = s'.mi + 1 + j := hL.sm.rest.ok.at_ j hj
    have h2 := hL.sm.rest.ok.top
    have h3 := hL.sm.rest.ok.bot
    exact ⟨by omega, by omega⟩)
  obtain ⟨vo, vc, rfl⟩ := hto.vot.form
  obtain ⟨ao, ac, rfl, _, _⟩ := hto.row.form
  have he : xs.map Ev.e = s.es.map Ev.e := hto.same.trans (congrArg St.es hs)
  have hn : xs.length = k := by have h1 := congrArg List.length he; have h2 := hk.len; simp only [pureS, St.map, List.length_map] at h1 h2; omega
  rw [hn] at hse
  have e0 : s'.ht = s.ht := congrArg (fun z : St En (List Int) => z.ht) hs
  have e1 : s'.hv = s.hv := congrArg (fun z : St En (List Int) => z.hv) hs
  have e2 : s'.hc = s.hc := congrArg (fun z : St En (List Int) => z.hc) hs
  have e3 : s'.mi = s.mi := congrArg (fun z : St En (List Int) => z.mi) hs
  have e4 : s'.mt = s.mt := congrArg (fun z : St En (List Int) => z.mt) hs
  refine ⟨l', vo, s'.vs.vs.length, vc, ao, ac, xs, ?_, hse, he, hb⟩
  unfold stVal
  rw [e0, e1, e2, e3, e4, hn]
set_option maxRecDepth 100000 in
set_option maxHeartbeats 8000000 in
theorem back_walk (v u : Value) (rows : List Int) (reopen : List Bool) (w : World) (hT : HasTab w) (hv : SeesI w v rows) (hu : SeesT w u reopen) :
    Calls Tryz.prog 6 #[v, u] w fun e w' => e = .returned (.bool true) ∧ Below w.heap.size w w' := by
  obtain ⟨ro, rc, rfl⟩ := hv.form
  obtain ⟨uo, uc, rfl⟩ := hu.form
  have HT := Hid.mk' hT
  have HV := Hid.mk' hv
  have HU := Hid.mk' hu
  obtain ⟨m, hm⟩ : ∃ m, m = rows.length := ⟨_, rfl⟩
  obtain ⟨mu, hmu⟩ : ∃ m, m = reopen.length := ⟨_, rfl⟩
  rw [← hm, ← hmu]
  have HM := Hid.mk' hm
  have HMU := Hid.mk' hmu
  have hkn := known_any w hT
  clear hT hv hu hm hmu
  go_enter Tryz.func6, Tryz.ntmps6
  go_wp2_with (go_at_call 9; refine hkn.mono ?_; rintro e w1 ⟨rfl, hb1⟩)
  refine (new_dk w.heap.size 16777216 _ (by decide) hb1.size).mono ?_
  rintro e w2 ⟨d, hd, rfl, hdk, hb2⟩
  have HB2 : Hid (Below w.heap.size w w2) := hb1.trans (hb2.mono hb1.size)
  have hop := open_any _ d _ _ w2 hdk (readable_q0 _ (by decide) (by decide)) (HT.out.below HB2.out)
  have HDK := Hid.mk' hdk
  clear hdk hb1 hb2 hd hkn
  go_wp2_with fail
  refine hop.mono ?_
  rintro e w3 ⟨l, s, ev, vv, ev2, xs, rfl, hL, hto, hb3⟩
  have HB3 : Hid (Below w.heap.size w w3) := HB2.out.trans (hb3.mono HB2.out.size)
  have HI : ∀ c0 c1 c2 c3 c4 c5 c6, Hid (BackI w (w3.alloc (.cells #[c0, c1, c2, c3, c4, c5, c6] 40)) w3.heap.size d l 0 1) := fun c0 c1 c2 c3 c4 c5 c6 => by
    have hs0 : pureS s = blankOf [] := hL.says.trans (openS_q0 _)
    have hlg := hL.lg HDK.out hb3 HB2.out.size
    have hba : Below w3.heap.size w3 (w3.alloc (.cells #[c0, c1, c2, c3, c4, c5, c6] 40)) := (Below.refl _ _).alloc (Nat.le_refl _) _
    exact ⟨⟨_, _, s, ev, [], 0, 0, hlg.below hba, by rw [hs0]; exact bk_new, hlg.behind (Nat.le_refl _) (by simp), fun h => absurd h (by decide)⟩, ⟨c0, c1, c2, c3, c4, c5, c6, heap_alloc_new w3 _⟩, Nat.le_trans HB2.out.size hL.lnew, HB3.out.size, HB3.out.trans (hba.mono HB3.out.size)⟩
  obtain ⟨vo, vc, rfl⟩ := hto.vot.form
  obtain ⟨ao, ac, rfl, _, _⟩ := hto.row.form
  unfold stVal
  generalize s.vs.vs.length = vl at *
  generalize xs.length = al at *
  have HJ := HI (.int .i64 s.ht) (.int .i64 s.hv) (.int .i64 s.hc) (.int .i64 s.mi) (.int .i64 s.mt) (.slice vo vl vc) (.slice ao al ac)
  clear HI hL hto hb3 hop HDK
  generalize s.ht = z0 at *
  generalize s.hv = z1 at *
  generalize s.hc = z2 at *
  generalize s.mi = z3 at *
  generalize s.mt = z4 at *
  go_wp2_with fail
  have HX : Hid (w3.heap.size = w3.heap.size) := Hid.mk' rfl
  generalize w3.heap.size = x at *
  go_loopg [7, 10, 11, 12] 30 (fun kx s7 s10 s11 s12 wr => ∃ (l k o : Nat), s7 = ptr l ∧ s10 = .int .i64 k ∧ s11 = .int .i64 o ∧ s12 = .int .i64 k ∧ k ≤ 30 ∧ o ≤ k + 1 ∧ 30 - k ≤ kx ∧ Hid (BackI w wr x d l k o))
  case atStart => exact ⟨l, 0, 1, rfl, rfl, rfl, rfl, by decide, by decide, by decide, HJ⟩
  case round =>
    obtain ⟨l, k, o, rfl, rfl, rfl, rfl, hk, ho, hkx, HI⟩ := hrel
    by_cases hlt : k < m ∧ k < 30
    · obtain ⟨hkm, hk30⟩ := hlt
      have hg1 : decide ((k : Int) < m) = true := by rw [decide_eq_true_eq]; omega
      have hg2 : decide ((k : Int) < 30) = true := by rw [decide_eq_true_eq]; omega
      have hk3 : (k : Int).tdiv 3 = ((k / 3 : Nat) : Int) := by rfl
      obtain ⟨rb, rof, rcc, hre, hrc⟩ := HV.out.at (Upd.ofBelow HI.out.bel : Upd w wr (fun _ => False)) (fun _ _ _ => id) k (by rw [← HM.out]; exact hkm)
      simp only [Value.slice.injEq] at hre
      obtain ⟨rfl, _, rfl⟩ := hre
      have hwi := within_any (rows.getD k 0) 3000 wr (by decide) (by decide)
      have hwb := withinF_bd (rows.getD k 0) 3000 (by decide)
      obtain ⟨q, hq⟩ : ∃ q : Nat, withinF (rows.getD k 0) (3000 : Nat) = (q : Int) := ⟨(withinF (rows.getD k 0) (3000 : Nat)).toNat, by omega⟩
      have hq3 : q < 3000 := by omega
      rw [hq] at hwi
      have hmk := make_zeros wr q (by omega)
      clear hwb hq
      generalize rows.getD k 0 = rk at *
      generalize hzz : (u8s (zeros q)).toArray = Zs at hmk
      have HZZ := Hid.mk' hzz
      clear hzz
      go_wp2_with (first | (go_at_call 10; refine hwi.mono ?_; rintro e w' ⟨rfl, rfl⟩))
      obtain ⟨hbW, hhA, hsE⟩ := back_args w' k q Zs HZZ.out hq3 hk30
      have hsv := back_save w w' _ x d l k o _ _ _ HT.out HI.out hk30 hbW hhA hsE rfl (by show (k : Int) / 3 = _; omega) rfl (by show (zeros q).length < 3000; simpa using hq3)
      clear hbW hhA hsE HI hwi hmk hrc
      refine hsv.mono ?_
      rintro e w4 ⟨rfl, hi4⟩
      have HI4 := Hid.mk' hi4
      clear hsv hi4
      by_cases hkb : k < mu
      · have hg3 : decide ((k : Int) < mu) = true := by rw [decide_eq_true_eq]; omega
        obtain ⟨ub, uof, ucc, hue, huc⟩ := HU.out.at HI4.out.bel k (by rw [← HMU.out]; exact hkb)
        simp only [Value.slice.injEq] at hue
        obtain ⟨rfl, _, rfl⟩ := hue
        generalize reopen.getD k false = ob at *
        cases ob with
        | false =>
          go_wp2_with fail
          go_roundg (30 - (k + 1))
          case measure => omega
          case rel => exact ⟨l, k + 1, o, rfl, rfl, rfl, rfl, by omega, by omega, by omega, HI4⟩
        | true =>
          have hop := back_open w w4 x d l (k + 1) o HT.out HI4.out (by omega)
          go_wp2_with fail
          refine hop.mono ?_
          rintro e w5 ⟨l', y0, y1, y2, y3, y4, vo5, vl5, vc5, ao5, ac5, rfl, hy2, hi5⟩
          obtain rfl : y2 = k := by have := hy2 (by omega); omega
          obtain ⟨a0, a1, a2, a3, a4, a5, a6, hR5⟩ := hi5.box
          obtain ⟨n0, n1, n2, n3, n4, n5, n6⟩ := row7 hR5
          have p0 := frozen_of_row w5 x 0 _ 40 hR5; have p1 := frozen_of_row w5 x 1 _ 40 hR5; have p2 := frozen_of_row w5 x 2 _ 40 hR5; have p3 := frozen_of_row w5 x 3 _ 40 hR5; have p4 := frozen_of_row w5 x 4 _ 40 hR5; have p5 := frozen_of_row w5 x 5 _ 40 hR5; have p6 := frozen_of_row w5 x 6 _ 40 hR5
          have HI5 := Hid.mk' (hi5.put (.int .i64 y0) (.int .i64 y1) (.int .i64 k) (.int .i64 y3) (.int .i64 y4) (.slice vo5 vl5 vc5) (.slice ao5 (k + 1) ac5))
          clear hop hi5 hy2 HI4 hR5
          go_wp2_with fail
          go_roundg (30 - (k + 1))
          case measure => omega
          case rel => exact ⟨l', k + 1, o + 1, rfl, rfl, rfl, rfl, by omega, by omega, by omega, HI5⟩
      · have hg3 : decide ((k : Int) < mu) = false := by rw [decide_eq_false_iff_not]; omega
        go_wp2_with fail
        go_roundg (30 - (k + 1))
        case measure => omega
        case rel => exact ⟨l, k + 1, o, rfl, rfl, rfl, rfl, by omega, by omega, by omega, HI4⟩
    · clear HJ
      obtain ⟨W0, hW0⟩ : ∃ W0, W0 = wr := ⟨_, rfl⟩
      subst hW0
      have hcase : (decide ((k : Int) < m) = true ∧ decide ((k : Int) < 30) = false) ∨ decide ((k : Int) < m) = false := by
        rcases Nat.lt_or_ge k m with h | h
        · exact .inl ⟨by rw [decide_eq_true_eq]; omega, by rw [decide_eq_false_iff_not]; omega⟩
        · exact .inr (by rw [decide_eq_false_iff_not]; omega)
      obtain ⟨⟨g, p, s9, ev9, a, newest, left, hlg, hbk, hap, hhc⟩, _, hln, hxn, hbel⟩ := HI.out
      have hsane := hbk.sane hk
      have hli := list_any _ d g p W0 hlg.dk hsane.len
      have hE : listE p = 0 := by unfold listE; rw [hbk.up.live]; rfl
      have hBn : listB p = p.fs.map PF.name := by unfold listB; rw [hbk.up.live]; rfl
      rw [hE, hBn] at hli
      have hnn : (p.fs.map PF.name).length = a.length := by rw [List.length_map, hbk.fs, lfs_len]
      rw [hnn] at hli
      have HLG := Hid.mk' hlg
      have HBK := Hid.mk' hbk
      have HBL := Hid.mk' hbel
      have HNN := Hid.mk' hnn
      obtain ⟨n, hn⟩ : ∃ n, n = a.length := ⟨_, rfl⟩
      have hn30 : n ≤ 30 := by have := hbk.few; omega
      rw [← hn] at hli
      have HN := Hid.mk' hn
      have HO : Hid (smallF p.fs ≤ o) := by show _ ≤ _; rw [hbk.fs, smallF_lfs]; exact hbk.few_small
      clear hlg hbk hap hhc hln hxn hbel hsane hE hBn hnn hn HI
      rcases hcase with ⟨hg1, hg2⟩ | hg1 <;> go_wp2_with fail
      all_goals
        refine hli.mono ?_
        rintro e w5 ⟨v5, rfl, hr5, hb5⟩
        obtain ⟨ao5, c5, rfl⟩ := owns_form hr5
        have HR5 := Hid.mk' (RowO.of_owns hr5)
        have HB5 := Hid.mk' hb5
        clear hr5 hb5 hli
        go_wp2_with fail
        go_loopg [16, 17] n (fun kx s16 s17 wx => ∃ (j c : Nat), s17 = .int .i64 j ∧ s16 = .int .i64 c ∧ j ≤ n ∧ n - j ≤ kx ∧ Hid (c = smallF (p.fs.take j)) ∧ c ≤ j ∧ Hid (Below w5.heap.size w5 wx))
        case atStart => exact ⟨0, 0, rfl, rfl, Nat.zero_le _, by omega, Hid.mk' rfl, Nat.le_refl _, Hid.mk' (Below.refl _ _)⟩
        case round =>
          obtain ⟨j, c, rfl, rfl, hj, hjx, HC, hcj, HB⟩ := hrel
          have HBX : Hid (Below W0.heap.size W0 wr) := HB5.out.trans (HB.out.mono HB5.out.size)
          by_cases hjn : j < n
          · have hg3 : decide ((j : Int) < n) = true := by rw [decide_eq_true_eq]; omega
            have hjp : j < p.fs.length := by rw [HBK.out.fs, lfs_len, ← HN.out]; exact hjn
            have hr6 := HR5.out.upd (Upd.ofBelow HB.out : Upd w5 wr (fun _ => False)) (fun _ _ => id)
            obtain ⟨g6, off6, hgo⟩ : ∃ g off, ao5 = some ⟨g, off, none⟩ := by
              rcases hr6.2 with ⟨h', h0⟩ | ⟨g, off, cap, cur, h', _⟩
              · omega
              · simp only [Value.slice.injEq, true_and] at h'
                exact ⟨g, off, h'.1⟩
            subst hgo
            have hcell : wr.cell? ⟨g6, off6 + j, none⟩ = some (.string ⟨p.fs[j].name.toArray⟩) := hr6.cell j _ (by simp [strs, hjp])
            have hfp := List.getElem_mem hjp
            have HSN : Hid (smallF (p.fs.take (j + 1)) = smallF (p.fs.take j) + (if p.fs[j].xs.length < 4096 then 1 else 0)) := by show _ = _; rw [List.take_succ_eq_append_getElem hjp, smallF_snoc]
            generalize p.fs[j] = f at *
            have hfile := HLG.out.dk.file hfp
            have hrd := read_yes HLG.out.dk.upP HBK.out.up.live hfp hfile.1
            have hre := read_any _ d g p ⟨f.name.toArray⟩ wr (HLG.out.dk.below HBX.out) (HBK.out.sane hk).tot
            have hnm : (⟨f.name.toArray⟩ : ByteArray).data.toList = f.name := by simp
            rw [hnm, hrd.1, hrd.2] at hre
            have hfx : f.xs.length ≤ 1000000 := by
              rw [HBK.out.fs] at hfp
              obtain ⟨jj, rs, _, _, h3, rfl⟩ := lfs_mem hfp
              have := (HBK.out.plain rs h3).2
              show (encs rs).length ≤ 1000000
              omega
            clear hr6 hfp hfile hrd hnm hjp
            obtain ⟨fl, hfl⟩ : ∃ n, n = f.xs.length := ⟨_, rfl⟩
            have HFL := Hid.mk' hfl
            rw [← hfl] at hfx HSN
            clear hfl
            by_cases hs : fl < 4096
            · have hg4 : decide ((fl : Int) < 4096) = true := by rw [decide_eq_true_eq]; omega
              go_wp2_with (go_at_call 36; refine hre.mono ?_; rintro e w6 ⟨v6, rfl, ho6, hb6⟩; obtain ⟨a6, c6, rfl⟩ := owns_form ho6; rw [← HFL.out])
              go_roundg (n - (j + 1))
              case measure => omega
              case rel => exact ⟨j + 1, c + 1, rfl, rfl, by omega, by omega, Hid.mk' (by rw [HSN.out, if_pos hs, HC.out]), by omega, Hid.mk' (HB.out.trans (hb6.mono HB.out.size))⟩
            · have hg4 : decide ((fl : Int) < 4096) = false := by rw [decide_eq_false_iff_not]; omega
              go_wp2_with (go_at_call 36; refine hre.mono ?_; rintro e w6 ⟨v6, rfl, ho6, hb6⟩; obtain ⟨a6, c6, rfl⟩ := owns_form ho6; rw [← HFL.out])
              go_roundg (n - (j + 1))
              case measure => omega
              case rel => exact ⟨j + 1, c, rfl, rfl, by omega, by omega, Hid.mk' (by rw [HSN.out, if_neg hs, HC.out]; rfl), by omega, Hid.mk' (HB.out.trans (hb6.mono HB.out.size))⟩
          · obtain rfl : j = n := by omega
            have hg3 : decide ((j : Int) < j) = false := by rw [decide_eq_false_iff_not]; omega
            have HCO : Hid (c ≤ o) := by
              show c ≤ o
              rw [HC.out, List.take_of_length_le (by rw [HBK.out.fs, lfs_len, ← HN.out]; exact Nat.le_refl _)]
              exact HO.out
            have hlgX := HLG.out.below HBX.out
            have hot := back_told _ l d g p s9 ev9 newest left wr a k o (HT.out.below (HBL.out.trans (HBX.out.mono HBL.out.size))) hlgX HBK.out hk
            clear hlgX
            go_wp2_with fail
            refine hot.mono ?_
            rintro e w7 ⟨l7, vo7, vl7, vc7, ao7, ac7, xs7, rfl, hse7, hxe7, hb7⟩
            have HSE7 := Hid.mk' hse7
            have HXE7 := Hid.mk' hxe7
            have HB7 := Hid.mk' hb7
            clear hse7 hxe7 hb7 hot
            go_wp2_with fail
            obtain ⟨wz, hwz⟩ : ∃ wz, wz = w7.alloc (.cells #[.int .i64 s9.ht, .int .i64 s9.hv, .int .i64 s9.hc, .int .i64 s9.mi, .int .i64 s9.mt, .slice vo7 vl7 vc7, .slice ao7 k ac7] 40) := ⟨_, rfl⟩
            rw [← hwz]
            have hrz : wz.heap[w7.heap.size]? = some (.cells #[.int .i64 s9.ht, .int .i64 s9.hv, .int .i64 s9.hc, .int .i64 s9.mi, .int .i64 s9.mt, .slice vo7 vl7 vc7, .slice ao7 k ac7] 40 (0, 0)) := by rw [hwz]; exact heap_alloc_new w7 _
            have hb7z : Below w7.heap.size w7 wz := by rw [hwz]; exact (Below.refl _ _).alloc (Nat.le_refl _) _
            have hzlt : w7.heap.size < wz.heap.size := by rw [hwz]; simp
            have HBZ : Hid (Below W0.heap.size W0 wz) := (HBX.out.trans (HB7.out.mono HBX.out.size)).trans (hb7z.mono (by have := HBX.out.size; have := HB7.out.size; omega))
            have HSEZ : Hid (SeesE wz (.slice ao7 k ac7) xs7) := HSE7.out.below hb7z
            have HSM : Hid (∀ W : World, Below wz.heap.size wz W → (W.cell? ⟨w7.heap.size, 0, none⟩ = some (.int .i64 s9.ht) ∧ W.cell? ⟨w7.heap.size, 1, none⟩ = some (.int .i64 s9.hv) ∧ W.cell? ⟨w7.heap.size, 2, none⟩ = some (.int .i64 s9.hc) ∧ W.cell? ⟨w7.heap.size, 6, none⟩ = some (.slice ao7 k ac7) ∧ Hid (Below wz.heap.size wz W))) := by
              intro W hW
              obtain ⟨n0, n1, n2, n3, n4, n5, n6⟩ := row7 ((hW.block w7.heap.size hzlt).trans hrz)
              exact ⟨n0, n1, n2, n6, hW⟩
            have h27 : ∀ W : World, (W.cell? ⟨w7.heap.size, 0, none⟩ = some (.int .i64 s9.ht) ∧ W.cell? ⟨w7.heap.size, 1, none⟩ = some (.int .i64 s9.hv) ∧ W.cell? ⟨w7.heap.size, 2, none⟩ = some (.int .i64 s9.hc) ∧ W.cell? ⟨w7.heap.size, 6, none⟩ = some (.slice ao7 k ac7) ∧ Hid (Below wz.heap.size wz W)) → Calls Tryz.prog 27 #[ptr l] W fun e w' => ∃ vo vl vc ao ac xs, e = .returned (.agg #[.int .i64 s9.ht, .int .i64 s9.hv, .int .i64 s9.hc, .int .i64 s9.mi, .int .i64 s9.mt, .slice vo vl vc, .slice ao k ac]) ∧ Hid (SeesE w' (.slice ao k ac) xs ∧ xs.map Ev.e = s9.es.map Ev.e) ∧ (w'.cell? ⟨w7.heap.size, 0, none⟩ = some (.int .i64 s9.ht) ∧ w'.cell? ⟨w7.heap.size, 1, none⟩ = some (.int .i64 s9.hv) ∧ w'.cell? ⟨w7.heap.size, 2, none⟩ = some (.int .i64 s9.hc) ∧ w'.cell? ⟨w7.heap.size, 6, none⟩ = some (.slice ao7 k ac7) ∧ Hid (Below wz.heap.size wz w')) := by
              intro W hW
              have hB := hW.2.2.2.2.out
              refine (back_state _ l d g p s9 ev9 newest left W k ((HLG.out.below HBZ.out).below hB) (by have := HBK.out.len; simpa [pureS, St.map] using this)).mono ?_
              rintro e w' ⟨vo, vl, vc, ao, ac, xs, rfl, h1, h2, h3⟩
              exact ⟨vo, vl, vc, ao, ac, xs, rfl, ⟨h1, h2⟩, HSM.out w' (hB.trans (h3.mono hB.size))⟩
            have h37 : ∀ (W : World) (ao : Option Addr) (ac : Nat) (xs : List Ev), (W.cell? ⟨w7.heap.size, 0, none⟩ = some (.int .i64 s9.ht) ∧ W.cell? ⟨w7.heap.size, 1, none⟩ = some (.int .i64 s9.hv) ∧ W.cell? ⟨w7.heap.size, 2, none⟩ = some (.int .i64 s9.hc) ∧ W.cell? ⟨w7.heap.size, 6, none⟩ = some (.slice ao7 k ac7) ∧ Hid (Below wz.heap.size wz W)) → Hid (SeesE W (.slice ao k ac) xs ∧ xs.map Ev.e = s9.es.map Ev.e) → Calls Tryz.prog 37 #[.slice ao7 k ac7, .slice ao k ac] W fun e w' => e = .returned (.bool true) ∧ (w'.cell? ⟨w7.heap.size, 0, none⟩ = some (.int .i64 s9.ht) ∧ w'.cell? ⟨w7.heap.size, 1, none⟩ = some (.int .i64 s9.hv) ∧ w'.cell? ⟨w7.heap.size, 2, none⟩ = some (.int .i64 s9.hc) ∧ w'.cell? ⟨w7.heap.size, 6, none⟩ = some (.slice ao7 k ac7) ∧ Hid (Below wz.heap.size wz w')) := by
              intro W ao ac xs hW hx
              have hB := hW.2.2.2.2.out
              refine (same_any _ _ xs7 xs W (HSEZ.out.below hB) hx.out.1 (HXE7.out.trans hx.out.2.symm) ?_).mono ?_
              · have h1 := congrArg List.length HXE7.out
                have h2 := HBK.out.len
                simp only [pureS, St.map, List.length_map] at h1 h2
                omega
              · rintro e w' ⟨rfl, h3⟩
                exact ⟨rfl, HSM.out w' (hB.trans (h3.mono hB.size))⟩
            have h28 : ∀ W : World, (W.cell? ⟨w7.heap.size, 0, none⟩ = some (.int .i64 s9.ht) ∧ W.cell? ⟨w7.heap.size, 1, none⟩ = some (.int .i64 s9.hv) ∧ W.cell? ⟨w7.heap.size, 2, none⟩ = some (.int .i64 s9.hc) ∧ W.cell? ⟨w7.heap.size, 6, none⟩ = some (.slice ao7 k ac7) ∧ Hid (Below wz.heap.size wz W)) → Calls Tryz.prog 28 #[ptr l] W fun e w' => e = .returned (.int .i64 j) ∧ (w'.cell? ⟨w7.heap.size, 0, none⟩ = some (.int .i64 s9.ht) ∧ w'.cell? ⟨w7.heap.size, 1, none⟩ = some (.int .i64 s9.hv) ∧ w'.cell? ⟨w7.heap.size, 2, none⟩ = some (.int .i64 s9.hc) ∧ w'.cell? ⟨w7.heap.size, 6, none⟩ = some (.slice ao7 k ac7) ∧ Hid (Below wz.heap.size wz w')) := by
              intro W hW
              have hB := hW.2.2.2.2.out
              have hlgW := (HLG.out.below HBZ.out).below hB
              have hf := HBK.out.few
              have := files_any _ l d g p W hlgW.c0 hlgW.dk HBK.out.up.live (HBK.out.sane hk) (fun f hf' => by rw [HBK.out.fs] at hf'; exact (lfs_num (by omega) hf').2)
              rw [count_lfs HBK.out.fs (by omega), ← HN.out] at this
              refine this.mono ?_
              rintro e w' ⟨rfl, h3⟩
              exact ⟨rfl, HSM.out w' (hB.trans (h3.mono hB.size))⟩
            have hS0 : (wz.drew.cell? ⟨w7.heap.size, 0, none⟩ = some (.int .i64 s9.ht) ∧ wz.drew.cell? ⟨w7.heap.size, 1, none⟩ = some (.int .i64 s9.hv) ∧ wz.drew.cell? ⟨w7.heap.size, 2, none⟩ = some (.int .i64 s9.hc) ∧ wz.drew.cell? ⟨w7.heap.size, 6, none⟩ = some (.slice ao7 k ac7) ∧ Hid (Below wz.heap.size wz wz.drew)) := HSM.out _ ((Below.refl _ _).drew)
            have hg5 : decide (c ≤ o) = true := by rw [decide_eq_true_eq]; exact HCO.out
            have HFIN : Hid (∀ W : World, Below wz.heap.size wz W → Below w.heap.size w W) := fun W hW => by
              have h1 := HBL.out.trans (HBZ.out.mono HBL.out.size)
              exact h1.trans (hW.mono h1.size)
            have hf2 := run_state2
            have hf0 := run_state0
            clear hrz hb7z hzlt HSM hwz HSE7 HB7 HB HB5 HR5 HC HV HU HM HMU HT HLG HBK HNN HO HN
            go_region_held_law (fun w' => w'.cell? ⟨w7.heap.size, 0, none⟩ = some (.int .i64 s9.ht) ∧ w'.cell? ⟨w7.heap.size, 1, none⟩ = some (.int .i64 s9.hv) ∧ w'.cell? ⟨w7.heap.size, 2, none⟩ = some (.int .i64 s9.hc) ∧ w'.cell? ⟨w7.heap.size, 6, none⟩ = some (.slice ao7 k ac7) ∧ Hid (Below wz.heap.size wz w')) (first | assumption | (show _ ∧ _ ∧ _ ∧ _ ∧ _; assumption)) (first
              | (go_at_call 27; with_reducible refine (h27 _ (by assumption)).mono ?_; rintro e w8 ⟨vo8, vl8, vc8, ao8, ac8, xs8, rfl, hx8, hS8⟩)
              | (go_at_call 37; with_reducible refine (h37 _ _ _ _ (by assumption) (by assumption)).mono ?_; rintro e w9 ⟨rfl, hS9⟩)
              | (go_at_call 28; with_reducible refine (h28 _ (by assumption)).mono ?_; rintro e w10 ⟨rfl, hS10⟩))
            all_goals
              go_wp2_with fail
              go_ret
              exact ⟨rfl, HFIN.out _ hS10.2.2.2.2.out⟩
end Go.Proofs.YtecnlfalpfbobaaGreatDoor
