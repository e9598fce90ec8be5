/- What Save does with a snapshot that may be saved, whatever the disk answers. -/
import Derived.Test.YtdcpfjlnagigaaaGreatDoorSV1
namespace Go.Proofs.YtdcpfjlnagigaaaGreatDoor
open Go Go.RowKit
set_option maxRecDepth 100000 in
set_option maxHeartbeats 1000000 in
theorem fits_yes (n : Int) (w : World) (h0 : 1 ≤ n) (h1 : n ≤ 999999999999) : Calls Tryz.prog 28 #[.int .i64 n] w fun e w' => e = .returned (.bool true) ∧ w' = w := by
  have hg1 : decide (1 ≤ n) = true := decide_eq_true h0
  have hg2 : decide (n ≤ 999999999999) = true := decide_eq_true h1
  go_enter Tryz.func28, Tryz.ntmps28
  go_wp2
  go_ret
  exact ⟨rfl, rfl⟩
theorem SeesI.upd {w w' : World} {S : Nat → Prop} {v : Value} {zs : List Int} (h : SeesI w v zs) (hu : Upd w w' S) (hS : ∀ k, v.ownBlock = some k → 0 < zs.length → ¬ S k) : SeesI w' v zs := by
  rcases h with h | ⟨b, off, cap, rfl, h0, h1, hc⟩
  · exact .inl h
  · refine .inr ⟨b, off, cap, rfl, h0, Nat.lt_of_lt_of_le h1 hu.size, fun i hi => ?_⟩
    rw [← hc i hi]
    exact hu.cell (p := ⟨b, off + i, none⟩) h1 (hS b rfl h0)
/-- A snapshot that may be saved, and is small. -/
structure Sh.ok (s : Sh) (n : Nat) : Prop where
  ix : s.i = n
  n0 : 0 < n
  n1 : n < 100
  tm : 0 ≤ s.t
  few : s.vs.length ≤ 7
  db : isB s.d
  small : s.d.length ≤ 2500
theorem Sh.frame_len {s : Sh} {n : Nat} (h : s.ok n) : (frameB s.body).length ≤ 3000 := by
  rw [frameB_len, s.body_len]; have := h.few; have := h.small; omega
theorem frameB_isB {z : List Int} (h : isB z) (hl : z.length ≤ 100000) : isB (frameB z) := by
  unfold frameB
  refine isB_app ?_ (isB_app ?_ h)
  · exact fun x hx => be_isB _ (by omega) (by omega) x (List.mem_of_mem_drop hx)
  · exact fun x hx => be_isB _ (by omega) (by have := crc_lt z; omega) x (List.mem_of_mem_drop hx)
set_option maxRecDepth 100000 in
set_option maxHeartbeats 1000000 in
theorem save_any (B d : Nat) (g : Gu) (p : PS) (rm : Int) (k n : Nat) (s : Sh) (vv dv : Value) (w : World) (hd : Dk B w d g p) (hB : B ≤ w.heap.size) (hT : HasTab w) (hp : PlayAt p rm k) (hk : k ≤ 280) (hs : s.ok n) (hv : SeesI w vv s.vs) (hdv : Sees w dv s.d) :
    Calls Tryz.prog 10 #[ptr d, .agg #[.int .i64 s.i, .int .i64 s.t, vv], dv] w fun e w' => e = .returned (.int .i64 (saveE p n (frameB s.body))) ∧ DkPost B w w' d g (saveP p n (frameB s.body)) ∧ PlayAt (saveP p n (frameB s.body)) rm (k + 4) := by
  obtain ⟨vo, vc, rfl⟩ := hv.form
  obtain ⟨dvo, dvc, rfl⟩ := hdv.form
  obtain ⟨wa, hwa⟩ : ∃ wa, wa = w.alloc (.cells #[.int .i64 s.i, .int .i64 s.t, .slice vo s.vs.length vc] 34) := ⟨_, rfl⟩
  have hba : Below w.heap.size w wa := by rw [hwa]; exact (Below.refl _ _).alloc (Nat.le_refl _) _
  have hra : wa.heap[w.heap.size]? = some (.cells #[.int .i64 s.i, .int .i64 s.t, .slice vo s.vs.length vc] 34 (0, 0)) := by rw [hwa]; exact heap_alloc_new w _
  have hsa : w.heap.size < wa.heap.size := by rw [hwa]; simp
  have hfit := fits_yes s.i wa (by have := hs.ix; have := hs.n0; omega) (by have := hs.ix; have := hs.n1; omega)
  have hli := list_any B d g p wa (hd.below hba) (hp.sane (by omega)).len
  have HSM : Hid (∀ wx : World, Below wa.heap.size wa wx → wx.cell? ⟨w.heap.size, 0, none⟩ = some (.int .i64 s.i) ∧ wx.cell? ⟨w.heap.size, 1, none⟩ = some (.int .i64 s.t) ∧ wx.cell? ⟨w.heap.size, 2, none⟩ = some (.slice vo s.vs.length vc)) := by
    intro wx hx
    have hr := (hx.block w.heap.size hsa).trans hra
    exact ⟨(cell_of_row _ _ _ _ _ _ hr).trans rfl, (cell_of_row _ _ _ _ _ _ hr).trans rfl, (cell_of_row _ _ _ _ _ _ hr).trans rfl⟩
  have HFR : Hid (∀ wx : World, Below wa.heap.size wa wx → Calls Tryz.prog 30 #[.agg #[.int .i64 s.i, .int .i64 s.t, .slice vo s.vs.length vc], .slice dvo s.d.length dvc] wx fun e w' => ∃ v', e = .returned v' ∧ w'.ownsRow wx.heap.size 5 1 v' (frameB s.body).length (u8s (frameB s.body)) ∧ Below wx.heap.size wx w') := by
    intro wx hx
    have hbx := hba.trans (hx.mono hba.size)
    exact framed_any s _ _ wx (hT.below hbx) (hv.upd (Upd.ofBelow hbx : Upd w wx (fun _ => False)) (fun _ _ _ => id)) (by have := hs.few; omega) (hdv.below hbx) hs.db (by have := hs.small; omega)
  have HLY : Hid (∀ (wx : World) (v : Value) (lf : Bool), Below wa.heap.size wa wx → wx.ownsRow wa.heap.size 5 1 v (frameB s.body).length (u8s (frameB s.body)) → Calls Tryz.prog 29 #[ptr d, v, .bool lf] wx fun e w' => e = .returned (.int .i64 (layE p (frameB s.body) lf)) ∧ DkPost B wx w' d g (layP p (frameB s.body) lf) ∧ PlayAt (layP p (frameB s.body) lf) rm (k + 3)) := by
    intro wx v lf hx ho
    have hbx := hba.trans (hx.mono hba.size)
    exact beside_any B d g p rm k v (frameB s.body) lf wx (hd.below hbx) (Nat.le_trans hB hbx.size) hp (by omega) (sees_own ho) (frameB_isB (s.body_isB hs.db) (by rw [s.body_len]; have := hs.few; have := hs.small; omega)) (s.frame_len hs) (fun j hj _ e => by
      have h1 := hd.lt e
      rcases ho.2 with ⟨h2, _⟩ | ⟨g', cap, cur, h2, hb', _⟩
      · rw [h2] at hj; cases hj
      · rw [h2] at hj; simp only [Value.ownBlock, Option.some.injEq] at hj; omega)
  have HBA := Hid.mk' hba
  have hgt : decide (s.t < 0) = false := decide_eq_false (by have := hs.tm; omega)
  have hgv : decide ((7 : Int) < s.vs.length) = false := decide_eq_false (by have := hs.few; omega)
  have hgd : decide ((8388608 : Int) < s.d.length) = false := decide_eq_false (by have := hs.small; omega)
  have hgv2 : decide (7 < s.vs.length) = false := decide_eq_false (by have := hs.few; omega)
  have hgd2 : decide (8388608 < s.d.length) = false := decide_eq_false (by have := hs.small; omega)
  obtain ⟨k0, k1, k2⟩ := HSM.out wa (Below.refl _ _)
  have HSA := Hid.mk' hsa
  have HD := Hid.mk' hd
  have HP := Hid.mk' hp
  have hix := hs.ix
  have hn1 := hs.n1
  have HUB : Hid (∀ (wx w' : World) (p' : PS), Below w.heap.size w wx → DkPost B wx w' d g p' → DkPost B w w' d g p') := fun wx w' p' hx h => DkPost.next (Upd.ofBelow hx : Upd w wx (Foot d g)) (fun _ h => .inl h) h
  rw [hix] at hfit hwa HSM HFR k0 ⊢
  clear hix
  generalize hbs : frameB s.body = bs at *
  generalize hvn : s.vs.length = vn at *
  generalize hdn : s.d.length = dn at *
  clear hd hp hs hv hdv hT hra hsa hba hbs
  cases hdead : p.dead with
  | true =>
    have hE : listE p = 13 := by unfold listE; rw [hdead]; rfl
    have hs1 : saveE p n bs = 13 := by unfold saveE; rw [hdead]; rfl
    have hs2 : saveP p n bs = p := by unfold saveP; rw [hdead]; rfl
    rw [hE] at hli
    rw [hs1, hs2]
    go_enter Tryz.func10, Tryz.ntmps10
    go_wp2_with fail
    rw [← hwa]
    clear hwa
    go_wp2_with (first | (go_at_call 28; refine hfit.mono ?_; rintro e w1 ⟨rfl, hq⟩; have hq := hq.symm; subst hq) | (go_at_call 27; refine hli.mono ?_; rintro e w2 ⟨v2, rfl, hr2, hb2⟩; obtain ⟨a2, c2, rfl⟩ := owns_form hr2))
    go_ret
    exact ⟨rfl, HUB.out _ _ _ (HBA.out.trans (hb2.mono HBA.out.size)) ⟨g, (HD.out.below HBA.out).below hb2, Upd.refl _ _, fun _ h => .inl h⟩, HP.out.more.more.more.more⟩
  | false =>
    have hE : listE p = 0 := by unfold listE; rw [hdead]; rfl
    have hBn : listB p = p.fs.map PF.name := by unfold listB; rw [hdead]; rfl
    rw [hE, hBn] at hli
    have hs1 : saveE p n bs = if layE p bs (leftN p) ≠ 0 then layE p bs (leftN p) else renE (layP p bs (leftN p)) newName (sname n) := by unfold saveE; rw [hdead]; rfl
    have hs2 : saveP p n bs = if layE p bs (leftN p) ≠ 0 then layP p bs (leftN p) else renP (layP p bs (leftN p)) newName (sname n) := by unfold saveP; rw [hdead]; rfl
    rw [hs1, hs2]
    have hpl : (p.fs.map PF.name).length ≤ 1000000 := by have := (HP.out.sane (by omega)).len; rw [List.length_map]; omega
    have HCO : Hid (∀ (wx : World) (v : Value), (∃ B, RowO wx B 9 1 v (p.fs.map PF.name).length (strs (p.fs.map PF.name))) → Calls Tryz.prog 31 #[v, .string ⟨newName.toArray⟩] wx fun e w' => e = .returned (.bool (leftN p)) ∧ w' = wx) := fun wx v hr => contains_any v _ ⟨newName.toArray⟩ wx hr hpl
    generalize (p.fs.map PF.name).length = nl at *
    generalize leftN p = lf at *
    by_cases h1 : layE p bs lf = 0
    · rw [if_neg (by simp [h1]), if_neg (by simp [h1])]
      go_enter Tryz.func10, Tryz.ntmps10
      go_wp2_with fail
      rw [← hwa]
      clear hwa
      go_wp2_with (first | (go_at_call 28; refine hfit.mono ?_; rintro e w1 ⟨rfl, hq⟩; have hq := hq.symm; subst hq) | (go_at_call 27; refine hli.mono ?_; rintro e w2 ⟨v2, rfl, hr2, hb2⟩; obtain ⟨a2, c2, rfl⟩ := owns_form hr2; obtain ⟨k0, k1, k2⟩ := HSM.out w2 hb2; have hfr := HFR.out w2 hb2))
      refine hfr.mono ?_
      rintro e w3 ⟨v3, rfl, ho3, hb3⟩
      have HB3 : Hid (Below wa.heap.size wa w3) := hb2.trans (hb3.mono hb2.size)
      have hco := HCO.out w3 _ ⟨_, (RowO.of_owns hr2).upd (Upd.ofBelow hb3 : Upd w2 w3 (fun _ => False)) (fun _ _ => id)⟩
      have hly := HLY.out w3 v3 lf HB3.out ⟨ho3.1, ho3.2.imp id (fun ⟨g, cap, cur, e1, e2, e3⟩ => ⟨g, cap, cur, e1, Nat.le_trans hb2.size e2, e3⟩)⟩
      rw [h1] at hly
      obtain ⟨a3, c3, rfl⟩ := owns_form ho3
      clear hfr hr2 ho3 hb2 hb3 hli k0 k1 k2
      go_wp2_with (first | (go_at_call 31; refine hco.mono ?_; rintro e w4 ⟨rfl, hq⟩; have hq := hq.symm; subst hq))
      refine hly.mono ?_
      rintro e w5 ⟨rfl, hp5, hpl5⟩
      obtain ⟨g5, hd5, hu5, hf5⟩ := hp5
      have hk5 := (hu5.cell (p := ⟨w.heap.size, 0, none⟩) (Nat.lt_of_lt_of_le HSA.out HB3.out.size) (fun e => Nat.lt_irrefl _ (HD.out.lt e))).trans (HSM.out w3 HB3.out).1
      have hfn := fileName_any n w5 hn1
      have hrn : Calls Tryz.prog 32 #[ptr d, .string ⟨newName.toArray⟩, .string ⟨(sname n).toArray⟩] w5 fun e w' => e = .returned (.int .i64 (renE (layP p bs lf) newName (sname n))) ∧ DkPost B w5 w' d g5 (renP (layP p bs lf) newName (sname n)) := rename_any B d g5 _ ⟨newName.toArray⟩ ⟨(sname n).toArray⟩ w5 hd5 (hpl5.sane (by omega))
      have HPL : Hid (PlayAt (renP (layP p bs lf) newName (sname n)) rm (k + 4)) := hpl5.ren hd5.upP newName (sname n)
      have HU5 : Hid (∀ (w' : World) (p' : PS), DkPost B w5 w' d g5 p' → DkPost B w w' d g p') := fun w' p' h => HUB.out w3 w' p' (HBA.out.trans (HB3.out.mono HBA.out.size)) (DkPost.next hu5 hf5 h)
      clear hly hco hd5 hu5 hf5 hpl5
      go_wp2_with (first | (go_at_call 33; refine hfn.mono ?_; rintro e w6 ⟨rfl, hq⟩; have hq := hq.symm; subst hq) | (go_at_call 32; refine hrn.mono ?_; rintro e w7 ⟨rfl, hp7⟩))
      go_ret
      exact ⟨rfl, HU5.out _ _ hp7, HPL.out⟩
    · rw [if_pos h1, if_pos h1]
      have hne : (layE p bs lf != 0) = true := by simp [h1]
      go_enter Tryz.func10, Tryz.ntmps10
      go_wp2_with fail
      rw [← hwa]
      clear hwa
      go_wp2_with (first | (go_at_call 28; refine hfit.mono ?_; rintro e w1 ⟨rfl, hq⟩; have hq := hq.symm; subst hq) | (go_at_call 27; refine hli.mono ?_; rintro e w2 ⟨v2, rfl, hr2, hb2⟩; obtain ⟨a2, c2, rfl⟩ := owns_form hr2; obtain ⟨k0, k1, k2⟩ := HSM.out w2 hb2; have hfr := HFR.out w2 hb2))
      refine hfr.mono ?_
      rintro e w3 ⟨v3, rfl, ho3, hb3⟩
      have HB3 : Hid (Below wa.heap.size wa w3) := hb2.trans (hb3.mono hb2.size)
      have hco := HCO.out w3 _ ⟨_, (RowO.of_owns hr2).upd (Upd.ofBelow hb3 : Upd w2 w3 (fun _ => False)) (fun _ _ => id)⟩
      have hly := HLY.out w3 v3 lf HB3.out ⟨ho3.1, ho3.2.imp id (fun ⟨g, cap, cur, e1, e2, e3⟩ => ⟨g, cap, cur, e1, Nat.le_trans hb2.size e2, e3⟩)⟩
      obtain ⟨a3, c3, rfl⟩ := owns_form ho3
      clear hfr hr2 ho3 hb2 hb3 hli k0 k1 k2
      go_wp2_with (first | (go_at_call 31; refine hco.mono ?_; rintro e w4 ⟨rfl, hq⟩; have hq := hq.symm; subst hq))
      refine hly.mono ?_
      rintro e w5 ⟨rfl, hp5, hpl5⟩
      clear hly hco
      go_wp2_with fail
      go_ret
      exact ⟨rfl, HUB.out w3 _ _ (HBA.out.trans (HB3.out.mono HBA.out.size)) hp5, hpl5.more⟩
end Go.Proofs.YtdcpfjlnagigaaaGreatDoor
