/- DiskPublish, walked: a file that is written beside, synced and renamed onto an elder one is the elder or the newer one, whole. -/
import Derived.Test.YtmfhfabfhoiegaaKnown
namespace Go.Proofs.Ytmfhfabfhoiegaa
open Go Go.RowKit
theorem Sees.off {B : Nat} {w wx : World} {d : Nat} {g : Gu} {p : PS} {v : Value} {zs : List Int} (h : Sees w v zs) (hd : Dk B wx d g p) (hB : w.heap.size ≤ B) : ∀ k, v.ownBlock = some k → 0 < zs.length → ¬ Foot d g k := by
  intro k hk h0 hf
  rcases h with ⟨rfl, _⟩ | ⟨b, off, cap, rfl, _, _, _, hc⟩
  · simp at h0
  · have h1 := World.block_lt_of_cell? _ _ (hc 0 h0)
    have h1 : b < w.heap.size := h1
    have hk : b = k := Option.some.inj hk
    have := hd.ge hf
    omega
theorem SeesI.off {B : Nat} {w wx : World} {d : Nat} {g : Gu} {p : PS} {v : Value} {zs : List Int} (h : SeesI w v zs) (hd : Dk B wx d g p) (hB : w.heap.size ≤ B) : ∀ k, v.ownBlock = some k → 0 < zs.length → ¬ Foot d g k := by
  intro k hk h0 hf
  rcases h with ⟨rfl, _⟩ | ⟨b, off, cap, rfl, _, hb, hc⟩
  · simp at h0
  · have hk : b = k := Option.some.inj hk
    have := hd.ge hf
    omega
theorem SeesI.below {w w' : World} {v : Value} {zs : List Int} (h : SeesI w v zs) (hb : Below w.heap.size w w') : SeesI w' v zs := by
  rcases h with h | ⟨b, off, cap, rfl, h0, h1, hc⟩
  · exact .inl h
  · exact .inr ⟨b, off, cap, rfl, h0, by have := hb.size; omega, fun i hi => (hb.cell (p := ⟨b, off + i, none⟩) h1).trans (hc i hi)⟩
/-- Sane numbers, as one finds them in the statements. -/
theorem sane_mk {fs : List PF} {room ops stops : Int} {dead : Bool} (h1 : 0 ≤ room) (h2 : room ≤ 1000000000) (h3 : 0 ≤ stops) (h4 : stops ≤ 1000000000) (h5 : 0 ≤ ops) (h6 : ops ≤ 1000000) (h7 : total fs ≤ 1000000) (h8 : fs.length < 1000000) : (⟨fs, room, ops, stops, dead⟩ : PS).sane :=
  ⟨h1, by show room ≤ _; omega, by show _ ≤ stops; omega, by show stops ≤ _; omega, h5, h6, h7, h8⟩
theorem pb1 (a : List Int) (h : a.length ≤ 1000) : appE (q0 1048576) [102] a.length = 0 ∧ appP (q0 1048576) [102] a = ⟨[⟨[102], a, 0⟩], 1048576, 1, 0, false⟩ := by
  have hE : appE (q0 1048576) [102] a.length = 0 := appE_ok rfl rfl (by simp [q0, total]; omega)
  exact ⟨hE, (appP_yes hE).trans rfl⟩
theorem pb2 (a : List Int) : syncP ⟨[⟨[102], a, 0⟩], 1048576, 1, 0, false⟩ [102] = ⟨[⟨[102], a, a.length⟩], 1048576, 2, 0, false⟩ := rfl
theorem pb3 (a b : List Int) (n : Nat) (st : Int) (h : a.length + b.length ≤ 1000) (hs : st ≠ 1) (_h0 : 0 ≤ st) : appE ⟨[⟨[102], a, n⟩], 1048576, 2, st, false⟩ [103] b.length = 0 ∧ appP ⟨[⟨[102], a, n⟩], 1048576, 2, st, false⟩ [103] b = ⟨[⟨[102], a, n⟩, ⟨[103], b, 0⟩], 1048576, 3, if 0 < st then st - 1 else st, false⟩ := by
  have hst : (⟨[⟨[102], a, n⟩], 1048576, 2, st, false⟩ : PS).stopped = false := by simp [PS.stopped, hs]
  have hE : appE ⟨[⟨[102], a, n⟩], 1048576, 2, st, false⟩ [103] b.length = 0 := appE_ok hst rfl (by simp [total]; omega)
  refine ⟨hE, (appP_yes hE).trans ?_⟩
  unfold PS.begun
  rw [hst]
  rfl
/-- What is left to be walked, once the elder file lies there, and the disk is to stop at the k-th operation. -/
theorem pb_dead (fs : List PF) (R o st : Int) (dd : Bool) (nm : List UInt8) (h : st = 1 ∨ dd = true) : opE ⟨fs, R, o, st, dd⟩ nm = 13 ∧ (∀ n, appE ⟨fs, R, o, st, dd⟩ nm n = 13) ∧ (∀ a, renE ⟨fs, R, o, st, dd⟩ nm a = 13) := by
  have hst : (⟨fs, R, o, st, dd⟩ : PS).stopped = true := by rcases h with h | h <;> simp [PS.stopped, h]
  exact ⟨opE_stop hst, fun n => appE_stop hst, fun a => renE_stop hst⟩
theorem withinF_nat (a : Int) (n : Nat) (hn : 0 < n) : ∃ k : Nat, k < n ∧ withinF a n = k := by
  have := withinF_bd a n hn
  exact ⟨(withinF a n).toNat, by omega, by omega⟩
theorem str_same (zs : List Int) : ((strOfNums zs).toList == (strOfNums zs).toList) = true := by simp
set_option maxRecDepth 100000 in
set_option maxHeartbeats 2000000 in
theorem publish_0 (va vb vp : Value) (a b picks : List Int) (x : Int) (w : World) (ha : Sees w va a) (hab : isB a) (hb : Sees w vb b) (hbb : isB b) (hp : SeesI w vp picks) (hl : a.length + b.length ≤ 1000) (hpl : picks.length ≤ 50) (hx : withinF x 5 = 0) :
    Calls Try.prog 5 #[va, vb, .int .i64 x, vp] w fun e w' => e = .returned (.bool true) ∧ Below w.heap.size w w' := by
  obtain ⟨ao, ac, hva⟩ := ha.form
  obtain ⟨bo, bc, hvb⟩ := hb.form
  obtain ⟨po, pc, hvp⟩ := hp.form
  subst hva hvb hvp
  have hwi := within_any x 5
  rw [show withinF x ((5 : Nat) : Int) = 0 from hx] at hwi
  have HA := Hid.mk' ha; have HB := Hid.mk' hb; have HP := Hid.mk' hp
  clear ha hb hp hx
  go_enter Try.func5, Try.ntmps5
  go_wp2_with (go_at_call 9; refine (known_any _).mono ?_; rintro e w0 ⟨rfl, hb0⟩)
  have hs0 := hb0.size
  refine (new_dk w.heap.size 1048576 w0 (by decide) hs0).mono ?_
  rintro e w1 ⟨d, hdd, rfl, hd1, hb1⟩
  replace hb1 := hb0.trans (hb1.mono hs0)
  have hs1 := hb1.size
  clear hdd hb0 hs0
  obtain ⟨hE1, hP1⟩ := pb1 a (by omega)
  go_wp2_with fail
  refine (append_any w.heap.size d _ _ ⟨#[102]⟩ _ a w1 hd1 (sane_q0 (by decide) (by decide)) hs1 (HA.out.below hb1) hab (HA.out.off hd1 (Nat.le_refl _)) (by omega)).mono ?_
  rintro e w2 ⟨rfl, hp2⟩
  obtain ⟨g2, hd2, hb2⟩ := hp2.go hd1 hs1
  rw [show appP (q0 1048576) _ _ = _ from hP1] at hd2
  replace hb2 := hb1.trans hb2
  have hs2 := hb2.size
  clear hp2 hd1 hb1 hs1
  go_wp2_with fail
  refine (sync_any w.heap.size d _ _ ⟨#[102]⟩ w2 hd2 (sane_mk (by decide) (by decide) (by decide) (by decide) (by decide) (by decide) (by simp [total]; omega) (by simp))).mono ?_
  rintro e w3 ⟨rfl, hp3⟩
  obtain ⟨g3, hd3, hb3⟩ := hp3.go hd2 hs2
  rw [show syncP _ _ = _ from pb2 a] at hd3
  replace hb3 := hb2.trans hb3
  have hs3 := hb3.size
  clear hp3 hd2 hb2 hs2
  go_wp2_with (first | (go_at_call 33; refine (hwi _ (by decide) (by decide)).mono ?_; rintro e w' ⟨rfl, rfl⟩) | (go_at_call 24; refine (stop_any w.heap.size d _ _ 0 _ hd3).mono ?_; rintro e w4 ⟨rfl, hd4, hu4⟩))
  have hb4 : Below w.heap.size w w4 := hb3.trans (hu4.below hs3 (fun j hj e => by have := hd3.rest.base; omega))
  have hs4 := hb4.size
  clear hd3 hb3 hs3 hu4
  obtain ⟨hE5, hP5⟩ := pb3 a b a.length 0 hl (by decide) (by decide)
  simp only [Int.reduceLT, Int.reduceSub, if_false] at hP5
  have hA5 := append_any w.heap.size d _ _ ⟨#[103]⟩ (.slice bo b.length bc) b w4 hd4 (sane_mk (by decide) (by decide) (by decide) (by decide) (by decide) (by decide) (by simp [total]; omega) (by simp)) hs4 (HB.out.below hb4) hbb (HB.out.off hd4 (Nat.le_refl _)) (by omega)
  rw [show (⟨#[103]⟩ : ByteArray).data.toList = [103] from rfl, hE5, hP5] at hA5
  go_wp2_with (go_at_call 12; refine hA5.mono ?_; rintro e w5 ⟨rfl, hp5⟩; obtain ⟨g5, hd5, hb5'⟩ := hp5.go hd4 hs4; have hb5 := hb4.trans hb5'; have hs5 := hb5.size; clear hp5 hb5')
  clear hd4 hb4 hs4 hA5
  have hA6 := sync_any w.heap.size d _ _ ⟨#[103]⟩ w5 hd5 (sane_mk (by decide) (by decide) (by decide) (by decide) (by decide) (by decide) (by simp [total]; omega) (by simp))
  rw [show (⟨#[103]⟩ : ByteArray).data.toList = [103] from rfl, show opE ⟨[⟨[102], a, a.length⟩, ⟨[103], b, 0⟩], 1048576, 3, 0, false⟩ [103] = 0 from rfl, show syncP ⟨[⟨[102], a, a.length⟩, ⟨[103], b, 0⟩], 1048576, 3, 0, false⟩ [103] = ⟨[⟨[102], a, a.length⟩, ⟨[103], b, b.length⟩], 1048576, 4, 0, false⟩ from rfl] at hA6
  go_wp2_with (go_at_call 14; refine hA6.mono ?_; rintro e w6 ⟨rfl, hp6⟩; obtain ⟨g6, hd6, hb6'⟩ := hp6.go hd5 hs5; have hb6 := hb5.trans hb6'; have hs6 := hb6.size; clear hp6 hb6')
  clear hd5 hb5 hs5 hA6
  have hA7 := rename_any w.heap.size d _ _ ⟨#[103]⟩ ⟨#[102]⟩ w6 hd6 (sane_mk (by decide) (by decide) (by decide) (by decide) (by decide) (by decide) (by simp [total]; omega) (by simp))
  rw [show (⟨#[103]⟩ : ByteArray).data.toList = [103] from rfl, show (⟨#[102]⟩ : ByteArray).data.toList = [102] from rfl, show renE ⟨[⟨[102], a, a.length⟩, ⟨[103], b, b.length⟩], 1048576, 4, 0, false⟩ [103] [102] = 0 from rfl, show renP ⟨[⟨[102], a, a.length⟩, ⟨[103], b, b.length⟩], 1048576, 4, 0, false⟩ [103] [102] = ⟨[⟨[102], b, b.length⟩], 1048576, 5, 0, false⟩ from rfl] at hA7
  go_wp2_with (go_at_call 16; refine hA7.mono ?_; rintro e w7 ⟨rfl, hp7⟩; obtain ⟨g7, hd7, hb7'⟩ := hp7.go hd6 hs6; have hb7 := hb6.trans hb7'; have hs7 := hb7.size; clear hp7 hb7')
  clear hd6 hb6 hs6 hA7
  refine (crash_any w.heap.size d _ _ _ picks w7 hd7 (sane_mk (by decide) (by decide) (by decide) (by decide) (by decide) (by decide) (by simp [total]; omega) (by simp)) (HP.out.below hb7) (HP.out.off hd7 (Nat.le_refl _))).mono ?_
  rintro e w8 ⟨rfl, hp8⟩
  obtain ⟨g8, hd8, hb8⟩ := hp8.go hd7 hs7
  replace hb8 := hb7.trans hb8
  have hs8 := hb8.size
  clear hp8 hd7 hb7 hs7
  go_wp2_with fail
  have ht8 : total (crashP ⟨[⟨[102], b, b.length⟩], 1048576, 5, 0, false⟩ picks).fs ≤ 1000000 := by
    have := crashL_total picks 0 [⟨[102], b, b.length⟩]
    have h2 : total [⟨[102], b, b.length⟩] ≤ 1000000 := by simp [total]; omega
    exact Nat.le_trans this h2
  have hrE : readE (crashP ⟨[⟨[102], b, b.length⟩], 1048576, 5, 0, false⟩ picks) [102] = 0 := by
    simp only [crashP, crashL, if_true]; rfl
  have hrB : readB (crashP ⟨[⟨[102], b, b.length⟩], 1048576, 5, 0, false⟩ picks) [102] = b := by
    simp only [crashP, crashL, if_true]; rfl
  refine (read_any w.heap.size d _ _ ⟨#[102]⟩ w8 hd8 ht8).mono ?_
  rintro e w9 ⟨v9, rfl, ho9, hb9⟩
  rw [show readE _ _ = _ from hrE]
  rw [show readB _ _ = _ from hrB] at ho9
  have HB9 := Hid.mk' (hb8.trans (hb9.mono hs8))
  have c1 := conv_sees (sees_own ho9)
  have c2 := conv_sees (HB.out.below HB9.out)
  have c3 := str_same b
  clear ho9 hb9 hd8 hb8
  go_wp2
  go_ret
  exact ⟨rfl, HB9.out⟩
set_option maxRecDepth 100000 in
set_option maxHeartbeats 2000000 in
theorem publish_1 (va vb vp : Value) (a b picks : List Int) (x : Int) (w : World) (ha : Sees w va a) (hab : isB a) (hb : Sees w vb b) (hbb : isB b) (hp : SeesI w vp picks) (hl : a.length + b.length ≤ 1000) (hpl : picks.length ≤ 50) (hx : withinF x 5 = 1) :
    Calls Try.prog 5 #[va, vb, .int .i64 x, vp] w fun e w' => e = .returned (.bool true) ∧ Below w.heap.size w w' := by
  obtain ⟨ao, ac, hva⟩ := ha.form
  obtain ⟨bo, bc, hvb⟩ := hb.form
  obtain ⟨po, pc, hvp⟩ := hp.form
  subst hva hvb hvp
  have hwi := within_any x 5
  rw [show withinF x ((5 : Nat) : Int) = 1 from hx] at hwi
  have HA := Hid.mk' ha; have HB := Hid.mk' hb; have HP := Hid.mk' hp
  clear ha hb hp hx
  go_enter Try.func5, Try.ntmps5
  go_wp2_with (go_at_call 9; refine (known_any _).mono ?_; rintro e w0 ⟨rfl, hb0⟩)
  have hs0 := hb0.size
  refine (new_dk w.heap.size 1048576 w0 (by decide) hs0).mono ?_
  rintro e w1 ⟨d, hdd, rfl, hd1, hb1⟩
  replace hb1 := hb0.trans (hb1.mono hs0)
  have hs1 := hb1.size
  clear hdd hb0 hs0
  obtain ⟨hE1, hP1⟩ := pb1 a (by omega)
  go_wp2_with fail
  refine (append_any w.heap.size d _ _ ⟨#[102]⟩ _ a w1 hd1 (sane_q0 (by decide) (by decide)) hs1 (HA.out.below hb1) hab (HA.out.off hd1 (Nat.le_refl _)) (by omega)).mono ?_
  rintro e w2 ⟨rfl, hp2⟩
  obtain ⟨g2, hd2, hb2⟩ := hp2.go hd1 hs1
  rw [show appP (q0 1048576) _ _ = _ from hP1] at hd2
  replace hb2 := hb1.trans hb2
  have hs2 := hb2.size
  clear hp2 hd1 hb1 hs1
  go_wp2_with fail
  refine (sync_any w.heap.size d _ _ ⟨#[102]⟩ w2 hd2 (sane_mk (by decide) (by decide) (by decide) (by decide) (by decide) (by decide) (by simp [total]; omega) (by simp))).mono ?_
  rintro e w3 ⟨rfl, hp3⟩
  obtain ⟨g3, hd3, hb3⟩ := hp3.go hd2 hs2
  rw [show syncP _ _ = _ from pb2 a] at hd3
  replace hb3 := hb2.trans hb3
  have hs3 := hb3.size
  clear hp3 hd2 hb2 hs2
  go_wp2_with (first | (go_at_call 33; refine (hwi _ (by decide) (by decide)).mono ?_; rintro e w' ⟨rfl, rfl⟩) | (go_at_call 24; refine (stop_any w.heap.size d _ _ 1 _ hd3).mono ?_; rintro e w4 ⟨rfl, hd4, hu4⟩))
  have hb4 : Below w.heap.size w w4 := hb3.trans (hu4.below hs3 (fun j hj e => by have := hd3.rest.base; omega))
  have hs4 := hb4.size
  clear hd3 hb3 hs3 hu4
  have hE5 := (pb_dead [⟨[102], a, a.length⟩] 1048576 2 1 false [103] (.inl rfl)).2.1 b.length
  have hP5 := appP_no (ys := b) (p := ⟨[⟨[102], a, a.length⟩], 1048576, 2, 1, false⟩) (nm := [103]) (by rw [hE5]; decide)
  rw [begun_stopped rfl] at hP5
  have hA5 := append_any w.heap.size d _ _ ⟨#[103]⟩ (.slice bo b.length bc) b w4 hd4 (sane_mk (by decide) (by decide) (by decide) (by decide) (by decide) (by decide) (by simp [total]; omega) (by simp)) hs4 (HB.out.below hb4) hbb (HB.out.off hd4 (Nat.le_refl _)) (by omega)
  rw [show (⟨#[103]⟩ : ByteArray).data.toList = [103] from rfl, hE5, hP5] at hA5
  go_wp2_with (go_at_call 12; refine hA5.mono ?_; rintro e w5 ⟨rfl, hp5⟩; obtain ⟨g5, hd5, hb5'⟩ := hp5.go hd4 hs4; have hb5 := hb4.trans hb5'; have hs5 := hb5.size; clear hp5 hb5')
  clear hd4 hb4 hs4 hA5
  refine (crash_any w.heap.size d _ _ _ picks w5 hd5 (sane_mk (by decide) (by decide) (by decide) (by decide) (by decide) (by decide) (by simp [total]; omega) (by simp)) (HP.out.below hb5) (HP.out.off hd5 (Nat.le_refl _))).mono ?_
  rintro e w8 ⟨rfl, hp8⟩
  obtain ⟨g8, hd8, hb8⟩ := hp8.go hd5 hs5
  replace hb8 := hb5.trans hb8
  have hs8 := hb8.size
  clear hp8 hd5 hb5 hs5
  go_wp2_with fail
  have ht8 : total (crashP ⟨[⟨[102], a, a.length⟩], 1048576, 2, 1, true⟩ picks).fs ≤ 1000000 := by
    have := crashL_total picks 0 [⟨[102], a, a.length⟩]
    have h2 : total [⟨[102], a, a.length⟩] ≤ 1000000 := by simp [total]; omega
    exact Nat.le_trans this h2
  have hrE : readE (crashP ⟨[⟨[102], a, a.length⟩], 1048576, 2, 1, true⟩ picks) [102] = 0 := by
    simp only [crashP, crashL, if_true]; rfl
  have hrB : readB (crashP ⟨[⟨[102], a, a.length⟩], 1048576, 2, 1, true⟩ picks) [102] = a := by
    simp only [crashP, crashL, if_true]; rfl
  refine (read_any w.heap.size d _ _ ⟨#[102]⟩ w8 hd8 ht8).mono ?_
  rintro e w9 ⟨v9, rfl, ho9, hb9⟩
  rw [show readE _ _ = _ from hrE]
  rw [show readB _ _ = _ from hrB] at ho9
  have HB9 := Hid.mk' (hb8.trans (hb9.mono hs8))
  have c1 := conv_sees (sees_own ho9)
  have c2 := conv_sees (HA.out.below HB9.out)
  have c3 := str_same a
  clear ho9 hb9 hd8 hb8
  go_wp2
  go_ret
  exact ⟨rfl, HB9.out⟩
set_option maxRecDepth 100000 in
set_option maxHeartbeats 2000000 in
theorem publish_2 (va vb vp : Value) (a b picks : List Int) (x : Int) (w : World) (ha : Sees w va a) (hab : isB a) (hb : Sees w vb b) (hbb : isB b) (hp : SeesI w vp picks) (hl : a.length + b.length ≤ 1000) (hpl : picks.length ≤ 50) (hx : withinF x 5 = 2) :
    Calls Try.prog 5 #[va, vb, .int .i64 x, vp] w fun e w' => e = .returned (.bool true) ∧ Below w.heap.size w w' := by
  obtain ⟨ao, ac, hva⟩ := ha.form
  obtain ⟨bo, bc, hvb⟩ := hb.form
  obtain ⟨po, pc, hvp⟩ := hp.form
  subst hva hvb hvp
  have hwi := within_any x 5
  rw [show withinF x ((5 : Nat) : Int) = 2 from hx] at hwi
  have HA := Hid.mk' ha; have HB := Hid.mk' hb; have HP := Hid.mk' hp
  clear ha hb hp hx
  go_enter Try.func5, Try.ntmps5
  go_wp2_with (go_at_call 9; refine (known_any _).mono ?_; rintro e w0 ⟨rfl, hb0⟩)
  have hs0 := hb0.size
  refine (new_dk w.heap.size 1048576 w0 (by decide) hs0).mono ?_
  rintro e w1 ⟨d, hdd, rfl, hd1, hb1⟩
  replace hb1 := hb0.trans (hb1.mono hs0)
  have hs1 := hb1.size
  clear hdd hb0 hs0
  obtain ⟨hE1, hP1⟩ := pb1 a (by omega)
  go_wp2_with fail
  refine (append_any w.heap.size d _ _ ⟨#[102]⟩ _ a w1 hd1 (sane_q0 (by decide) (by decide)) hs1 (HA.out.below hb1) hab (HA.out.off hd1 (Nat.le_refl _)) (by omega)).mono ?_
  rintro e w2 ⟨rfl, hp2⟩
  obtain ⟨g2, hd2, hb2⟩ := hp2.go hd1 hs1
  rw [show appP (q0 1048576) _ _ = _ from hP1] at hd2
  replace hb2 := hb1.trans hb2
  have hs2 := hb2.size
  clear hp2 hd1 hb1 hs1
  go_wp2_with fail
  refine (sync_any w.heap.size d _ _ ⟨#[102]⟩ w2 hd2 (sane_mk (by decide) (by decide) (by decide) (by decide) (by decide) (by decide) (by simp [total]; omega) (by simp))).mono ?_
  rintro e w3 ⟨rfl, hp3⟩
  obtain ⟨g3, hd3, hb3⟩ := hp3.go hd2 hs2
  rw [show syncP _ _ = _ from pb2 a] at hd3
  replace hb3 := hb2.trans hb3
  have hs3 := hb3.size
  clear hp3 hd2 hb2 hs2
  go_wp2_with (first | (go_at_call 33; refine (hwi _ (by decide) (by decide)).mono ?_; rintro e w' ⟨rfl, rfl⟩) | (go_at_call 24; refine (stop_any w.heap.size d _ _ 2 _ hd3).mono ?_; rintro e w4 ⟨rfl, hd4, hu4⟩))
  have hb4 : Below w.heap.size w w4 := hb3.trans (hu4.below hs3 (fun j hj e => by have := hd3.rest.base; omega))
  have hs4 := hb4.size
  clear hd3 hb3 hs3 hu4
  obtain ⟨hE5, hP5⟩ := pb3 a b a.length 2 hl (by decide) (by decide)
  simp only [Int.reduceLT, Int.reduceSub, if_true] at hP5
  have hA5 := append_any w.heap.size d _ _ ⟨#[103]⟩ (.slice bo b.length bc) b w4 hd4 (sane_mk (by decide) (by decide) (by decide) (by decide) (by decide) (by decide) (by simp [total]; omega) (by simp)) hs4 (HB.out.below hb4) hbb (HB.out.off hd4 (Nat.le_refl _)) (by omega)
  rw [show (⟨#[103]⟩ : ByteArray).data.toList = [103] from rfl, hE5, hP5] at hA5
  go_wp2_with (go_at_call 12; refine hA5.mono ?_; rintro e w5 ⟨rfl, hp5⟩; obtain ⟨g5, hd5, hb5'⟩ := hp5.go hd4 hs4; have hb5 := hb4.trans hb5'; have hs5 := hb5.size; clear hp5 hb5')
  clear hd4 hb4 hs4 hA5
  have hA6 := sync_any w.heap.size d _ _ ⟨#[103]⟩ w5 hd5 (sane_mk (by decide) (by decide) (by decide) (by decide) (by decide) (by decide) (by simp [total]; omega) (by simp))
  rw [show (⟨#[103]⟩ : ByteArray).data.toList = [103] from rfl, show opE ⟨[⟨[102], a, a.length⟩, ⟨[103], b, 0⟩], 1048576, 3, 1, false⟩ [103] = 13 from rfl, show syncP ⟨[⟨[102], a, a.length⟩, ⟨[103], b, 0⟩], 1048576, 3, 1, false⟩ [103] = ⟨[⟨[102], a, a.length⟩, ⟨[103], b, 0⟩], 1048576, 3, 1, true⟩ from rfl] at hA6
  go_wp2_with (go_at_call 14; refine hA6.mono ?_; rintro e w6 ⟨rfl, hp6⟩; obtain ⟨g6, hd6, hb6'⟩ := hp6.go hd5 hs5; have hb6 := hb5.trans hb6'; have hs6 := hb6.size; clear hp6 hb6')
  clear hd5 hb5 hs5 hA6
  refine (crash_any w.heap.size d _ _ _ picks w6 hd6 (sane_mk (by decide) (by decide) (by decide) (by decide) (by decide) (by decide) (by simp [total]; omega) (by simp)) (HP.out.below hb6) (HP.out.off hd6 (Nat.le_refl _))).mono ?_
  rintro e w8 ⟨rfl, hp8⟩
  obtain ⟨g8, hd8, hb8⟩ := hp8.go hd6 hs6
  replace hb8 := hb6.trans hb8
  have hs8 := hb8.size
  clear hp8 hd6 hb6 hs6
  go_wp2_with fail
  have ht8 : total (crashP ⟨[⟨[102], a, a.length⟩, ⟨[103], b, 0⟩], 1048576, 3, 1, true⟩ picks).fs ≤ 1000000 := by
    have := crashL_total picks 0 [⟨[102], a, a.length⟩, ⟨[103], b, 0⟩]
    have h2 : total [⟨[102], a, a.length⟩, ⟨[103], b, 0⟩] ≤ 1000000 := by simp [total]; omega
    exact Nat.le_trans this h2
  have hrE : readE (crashP ⟨[⟨[102], a, a.length⟩, ⟨[103], b, 0⟩], 1048576, 3, 1, true⟩ picks) [102] = 0 := by
    simp only [crashP, crashL, if_true]; rfl
  have hrB : readB (crashP ⟨[⟨[102], a, a.length⟩, ⟨[103], b, 0⟩], 1048576, 3, 1, true⟩ picks) [102] = a := by
    simp only [crashP, crashL, if_true]; rfl
  refine (read_any w.heap.size d _ _ ⟨#[102]⟩ w8 hd8 ht8).mono ?_
  rintro e w9 ⟨v9, rfl, ho9, hb9⟩
  rw [show readE _ _ = _ from hrE]
  rw [show readB _ _ = _ from hrB] at ho9
  have HB9 := Hid.mk' (hb8.trans (hb9.mono hs8))
  have c1 := conv_sees (sees_own ho9)
  have c2 := conv_sees (HA.out.below HB9.out)
  have c3 := str_same a
  clear ho9 hb9 hd8 hb8
  go_wp2
  go_ret
  exact ⟨rfl, HB9.out⟩
set_option maxRecDepth 100000 in
set_option maxHeartbeats 2000000 in
theorem publish_3 (va vb vp : Value) (a b picks : List Int) (x : Int) (w : World) (ha : Sees w va a) (hab : isB a) (hb : Sees w vb b) (hbb : isB b) (hp : SeesI w vp picks) (hl : a.length + b.length ≤ 1000) (hpl : picks.length ≤ 50) (hx : withinF x 5 = 3) :
    Calls Try.prog 5 #[va, vb, .int .i64 x, vp] w fun e w' => e = .returned (.bool true) ∧ Below w.heap.size w w' := by
  obtain ⟨ao, ac, hva⟩ := ha.form
  obtain ⟨bo, bc, hvb⟩ := hb.form
  obtain ⟨po, pc, hvp⟩ := hp.form
  subst hva hvb hvp
  have hwi := within_any x 5
  rw [show withinF x ((5 : Nat) : Int) = 3 from hx] at hwi
  have HA := Hid.mk' ha; have HB := Hid.mk' hb; have HP := Hid.mk' hp
  clear ha hb hp hx
  go_enter Try.func5, Try.ntmps5
  go_wp2_with (go_at_call 9; refine (known_any _).mono ?_; rintro e w0 ⟨rfl, hb0⟩)
  have hs0 := hb0.size
  refine (new_dk w.heap.size 1048576 w0 (by decide) hs0).mono ?_
  rintro e w1 ⟨d, hdd, rfl, hd1, hb1⟩
  replace hb1 := hb0.trans (hb1.mono hs0)
  have hs1 := hb1.size
  clear hdd hb0 hs0
  obtain ⟨hE1, hP1⟩ := pb1 a (by omega)
  go_wp2_with fail
  refine (append_any w.heap.size d _ _ ⟨#[102]⟩ _ a w1 hd1 (sane_q0 (by decide) (by decide)) hs1 (HA.out.below hb1) hab (HA.out.off hd1 (Nat.le_refl _)) (by omega)).mono ?_
  rintro e w2 ⟨rfl, hp2⟩
  obtain ⟨g2, hd2, hb2⟩ := hp2.go hd1 hs1
  rw [show appP (q0 1048576) _ _ = _ from hP1] at hd2
  replace hb2 := hb1.trans hb2
  have hs2 := hb2.size
  clear hp2 hd1 hb1 hs1
  go_wp2_with fail
  refine (sync_any w.heap.size d _ _ ⟨#[102]⟩ w2 hd2 (sane_mk (by decide) (by decide) (by decide) (by decide) (by decide) (by decide) (by simp [total]; omega) (by simp))).mono ?_
  rintro e w3 ⟨rfl, hp3⟩
  obtain ⟨g3, hd3, hb3⟩ := hp3.go hd2 hs2
  rw [show syncP _ _ = _ from pb2 a] at hd3
  replace hb3 := hb2.trans hb3
  have hs3 := hb3.size
  clear hp3 hd2 hb2 hs2
  go_wp2_with (first | (go_at_call 33; refine (hwi _ (by decide) (by decide)).mono ?_; rintro e w' ⟨rfl, rfl⟩) | (go_at_call 24; refine (stop_any w.heap.size d _ _ 3 _ hd3).mono ?_; rintro e w4 ⟨rfl, hd4, hu4⟩))
  have hb4 : Below w.heap.size w w4 := hb3.trans (hu4.below hs3 (fun j hj e => by have := hd3.rest.base; omega))
  have hs4 := hb4.size
  clear hd3 hb3 hs3 hu4
  obtain ⟨hE5, hP5⟩ := pb3 a b a.length 3 hl (by decide) (by decide)
  simp only [Int.reduceLT, Int.reduceSub, if_true] at hP5
  have hA5 := append_any w.heap.size d _ _ ⟨#[103]⟩ (.slice bo b.length bc) b w4 hd4 (sane_mk (by decide) (by decide) (by decide) (by decide) (by decide) (by decide) (by simp [total]; omega) (by simp)) hs4 (HB.out.below hb4) hbb (HB.out.off hd4 (Nat.le_refl _)) (by omega)
  rw [show (⟨#[103]⟩ : ByteArray).data.toList = [103] from rfl, hE5, hP5] at hA5
  go_wp2_with (go_at_call 12; refine hA5.mono ?_; rintro e w5 ⟨rfl, hp5⟩; obtain ⟨g5, hd5, hb5'⟩ := hp5.go hd4 hs4; have hb5 := hb4.trans hb5'; have hs5 := hb5.size; clear hp5 hb5')
  clear hd4 hb4 hs4 hA5
  have hA6 := sync_any w.heap.size d _ _ ⟨#[103]⟩ w5 hd5 (sane_mk (by decide) (by decide) (by decide) (by decide) (by decide) (by decide) (by simp [total]; omega) (by simp))
  rw [show (⟨#[103]⟩ : ByteArray).data.toList = [103] from rfl, show opE ⟨[⟨[102], a, a.length⟩, ⟨[103], b, 0⟩], 1048576, 3, 2, false⟩ [103] = 0 from rfl, show syncP ⟨[⟨[102], a, a.length⟩, ⟨[103], b, 0⟩], 1048576, 3, 2, false⟩ [103] = ⟨[⟨[102], a, a.length⟩, ⟨[103], b, b.length⟩], 1048576, 4, 1, false⟩ from rfl] at hA6
  go_wp2_with (go_at_call 14; refine hA6.mono ?_; rintro e w6 ⟨rfl, hp6⟩; obtain ⟨g6, hd6, hb6'⟩ := hp6.go hd5 hs5; have hb6 := hb5.trans hb6'; have hs6 := hb6.size; clear hp6 hb6')
  clear hd5 hb5 hs5 hA6
  have hA7 := rename_any w.heap.size d _ _ ⟨#[103]⟩ ⟨#[102]⟩ w6 hd6 (sane_mk (by decide) (by decide) (by decide) (by decide) (by decide) (by decide) (by simp [total]; omega) (by simp))
  rw [show (⟨#[103]⟩ : ByteArray).data.toList = [103] from rfl, show (⟨#[102]⟩ : ByteArray).data.toList = [102] from rfl, show renE ⟨[⟨[102], a, a.length⟩, ⟨[103], b, b.length⟩], 1048576, 4, 1, false⟩ [103] [102] = 13 from rfl, show renP ⟨[⟨[102], a, a.length⟩, ⟨[103], b, b.length⟩], 1048576, 4, 1, false⟩ [103] [102] = ⟨[⟨[102], a, a.length⟩, ⟨[103], b, b.length⟩], 1048576, 4, 1, true⟩ from rfl] at hA7
  go_wp2_with (go_at_call 16; refine hA7.mono ?_; rintro e w7 ⟨rfl, hp7⟩; obtain ⟨g7, hd7, hb7'⟩ := hp7.go hd6 hs6; have hb7 := hb6.trans hb7'; have hs7 := hb7.size; clear hp7 hb7')
  clear hd6 hb6 hs6 hA7
  refine (crash_any w.heap.size d _ _ _ picks w7 hd7 (sane_mk (by decide) (by decide) (by decide) (by decide) (by decide) (by decide) (by simp [total]; omega) (by simp)) (HP.out.below hb7) (HP.out.off hd7 (Nat.le_refl _))).mono ?_
  rintro e w8 ⟨rfl, hp8⟩
  obtain ⟨g8, hd8, hb8⟩ := hp8.go hd7 hs7
  replace hb8 := hb7.trans hb8
  have hs8 := hb8.size
  clear hp8 hd7 hb7 hs7
  go_wp2_with fail
  have ht8 : total (crashP ⟨[⟨[102], a, a.length⟩, ⟨[103], b, b.length⟩], 1048576, 4, 1, true⟩ picks).fs ≤ 1000000 := by
    have := crashL_total picks 0 [⟨[102], a, a.length⟩, ⟨[103], b, b.length⟩]
    have h2 : total [⟨[102], a, a.length⟩, ⟨[103], b, b.length⟩] ≤ 1000000 := by simp [total]; omega
    exact Nat.le_trans this h2
  have hrE : readE (crashP ⟨[⟨[102], a, a.length⟩, ⟨[103], b, b.length⟩], 1048576, 4, 1, true⟩ picks) [102] = 0 := by
    simp only [crashP, crashL, if_true]; rfl
  have hrB : readB (crashP ⟨[⟨[102], a, a.length⟩, ⟨[103], b, b.length⟩], 1048576, 4, 1, true⟩ picks) [102] = a := by
    simp only [crashP, crashL, if_true]; rfl
  refine (read_any w.heap.size d _ _ ⟨#[102]⟩ w8 hd8 ht8).mono ?_
  rintro e w9 ⟨v9, rfl, ho9, hb9⟩
  rw [show readE _ _ = _ from hrE]
  rw [show readB _ _ = _ from hrB] at ho9
  have HB9 := Hid.mk' (hb8.trans (hb9.mono hs8))
  have c1 := conv_sees (sees_own ho9)
  have c2 := conv_sees (HA.out.below HB9.out)
  have c3 := str_same a
  clear ho9 hb9 hd8 hb8
  go_wp2
  go_ret
  exact ⟨rfl, HB9.out⟩
set_option maxRecDepth 100000 in
set_option maxHeartbeats 2000000 in
theorem publish_4 (va vb vp : Value) (a b picks : List Int) (x : Int) (w : World) (ha : Sees w va a) (hab : isB a) (hb : Sees w vb b) (hbb : isB b) (hp : SeesI w vp picks) (hl : a.length + b.length ≤ 1000) (hpl : picks.length ≤ 50) (hx : withinF x 5 = 4) :
    Calls Try.prog 5 #[va, vb, .int .i64 x, vp] w fun e w' => e = .returned (.bool true) ∧ Below w.heap.size w w' := by
  obtain ⟨ao, ac, hva⟩ := ha.form
  obtain ⟨bo, bc, hvb⟩ := hb.form
  obtain ⟨po, pc, hvp⟩ := hp.form
  subst hva hvb hvp
  have hwi := within_any x 5
  rw [show withinF x ((5 : Nat) : Int) = 4 from hx] at hwi
  have HA := Hid.mk' ha; have HB := Hid.mk' hb; have HP := Hid.mk' hp
  clear ha hb hp hx
  go_enter Try.func5, Try.ntmps5
  go_wp2_with (go_at_call 9; refine (known_any _).mono ?_; rintro e w0 ⟨rfl, hb0⟩)
  have hs0 := hb0.size
  refine (new_dk w.heap.size 1048576 w0 (by decide) hs0).mono ?_
  rintro e w1 ⟨d, hdd, rfl, hd1, hb1⟩
  replace hb1 := hb0.trans (hb1.mono hs0)
  have hs1 := hb1.size
  clear hdd hb0 hs0
  obtain ⟨hE1, hP1⟩ := pb1 a (by omega)
  go_wp2_with fail
  refine (append_any w.heap.size d _ _ ⟨#[102]⟩ _ a w1 hd1 (sane_q0 (by decide) (by decide)) hs1 (HA.out.below hb1) hab (HA.out.off hd1 (Nat.le_refl _)) (by omega)).mono ?_
  rintro e w2 ⟨rfl, hp2⟩
  obtain ⟨g2, hd2, hb2⟩ := hp2.go hd1 hs1
  rw [show appP (q0 1048576) _ _ = _ from hP1] at hd2
  replace hb2 := hb1.trans hb2
  have hs2 := hb2.size
  clear hp2 hd1 hb1 hs1
  go_wp2_with fail
  refine (sync_any w.heap.size d _ _ ⟨#[102]⟩ w2 hd2 (sane_mk (by decide) (by decide) (by decide) (by decide) (by decide) (by decide) (by simp [total]; omega) (by simp))).mono ?_
  rintro e w3 ⟨rfl, hp3⟩
  obtain ⟨g3, hd3, hb3⟩ := hp3.go hd2 hs2
  rw [show syncP _ _ = _ from pb2 a] at hd3
  replace hb3 := hb2.trans hb3
  have hs3 := hb3.size
  clear hp3 hd2 hb2 hs2
  go_wp2_with (first | (go_at_call 33; refine (hwi _ (by decide) (by decide)).mono ?_; rintro e w' ⟨rfl, rfl⟩) | (go_at_call 24; refine (stop_any w.heap.size d _ _ 4 _ hd3).mono ?_; rintro e w4 ⟨rfl, hd4, hu4⟩))
  have hb4 : Below w.heap.size w w4 := hb3.trans (hu4.below hs3 (fun j hj e => by have := hd3.rest.base; omega))
  have hs4 := hb4.size
  clear hd3 hb3 hs3 hu4
  obtain ⟨hE5, hP5⟩ := pb3 a b a.length 4 hl (by decide) (by decide)
  simp only [Int.reduceLT, Int.reduceSub, if_true] at hP5
  have hA5 := append_any w.heap.size d _ _ ⟨#[103]⟩ (.slice bo b.length bc) b w4 hd4 (sane_mk (by decide) (by decide) (by decide) (by decide) (by decide) (by decide) (by simp [total]; omega) (by simp)) hs4 (HB.out.below hb4) hbb (HB.out.off hd4 (Nat.le_refl _)) (by omega)
  rw [show (⟨#[103]⟩ : ByteArray).data.toList = [103] from rfl, hE5, hP5] at hA5
  go_wp2_with (go_at_call 12; refine hA5.mono ?_; rintro e w5 ⟨rfl, hp5⟩; obtain ⟨g5, hd5, hb5'⟩ := hp5.go hd4 hs4; have hb5 := hb4.trans hb5'; have hs5 := hb5.size; clear hp5 hb5')
  clear hd4 hb4 hs4 hA5
  have hA6 := sync_any w.heap.size d _ _ ⟨#[103]⟩ w5 hd5 (sane_mk (by decide) (by decide) (by decide) (by decide) (by decide) (by decide) (by simp [total]; omega) (by simp))
  rw [show (⟨#[103]⟩ : ByteArray).data.toList = [103] from rfl, show opE ⟨[⟨[102], a, a.length⟩, ⟨[103], b, 0⟩], 1048576, 3, 3, false⟩ [103] = 0 from rfl, show syncP ⟨[⟨[102], a, a.length⟩, ⟨[103], b, 0⟩], 1048576, 3, 3, false⟩ [103] = ⟨[⟨[102], a, a.length⟩, ⟨[103], b, b.length⟩], 1048576, 4, 2, false⟩ from rfl] at hA6
  go_wp2_with (go_at_call 14; refine hA6.mono ?_; rintro e w6 ⟨rfl, hp6⟩; obtain ⟨g6, hd6, hb6'⟩ := hp6.go hd5 hs5; have hb6 := hb5.trans hb6'; have hs6 := hb6.size; clear hp6 hb6')
  clear hd5 hb5 hs5 hA6
  have hA7 := rename_any w.heap.size d _ _ ⟨#[103]⟩ ⟨#[102]⟩ w6 hd6 (sane_mk (by decide) (by decide) (by decide) (by decide) (by decide) (by decide) (by simp [total]; omega) (by simp))
  rw [show (⟨#[103]⟩ : ByteArray).data.toList = [103] from rfl, show (⟨#[102]⟩ : ByteArray).data.toList = [102] from rfl, show renE ⟨[⟨[102], a, a.length⟩, ⟨[103], b, b.length⟩], 1048576, 4, 2, false⟩ [103] [102] = 0 from rfl, show renP ⟨[⟨[102], a, a.length⟩, ⟨[103], b, b.length⟩], 1048576, 4, 2, false⟩ [103] [102] = ⟨[⟨[102], b, b.length⟩], 1048576, 5, 1, false⟩ from rfl] at hA7
  go_wp2_with (go_at_call 16; refine hA7.mono ?_; rintro e w7 ⟨rfl, hp7⟩; obtain ⟨g7, hd7, hb7'⟩ := hp7.go hd6 hs6; have hb7 := hb6.trans hb7'; have hs7 := hb7.size; clear hp7 hb7')
  clear hd6 hb6 hs6 hA7
  refine (crash_any w.heap.size d _ _ _ picks w7 hd7 (sane_mk (by decide) (by decide) (by decide) (by decide) (by decide) (by decide) (by simp [total]; omega) (by simp)) (HP.out.below hb7) (HP.out.off hd7 (Nat.le_refl _))).mono ?_
  rintro e w8 ⟨rfl, hp8⟩
  obtain ⟨g8, hd8, hb8⟩ := hp8.go hd7 hs7
  replace hb8 := hb7.trans hb8
  have hs8 := hb8.size
  clear hp8 hd7 hb7 hs7
  go_wp2_with fail
  have ht8 : total (crashP ⟨[⟨[102], b, b.length⟩], 1048576, 5, 1, false⟩ picks).fs ≤ 1000000 := by
    have := crashL_total picks 0 [⟨[102], b, b.length⟩]
    have h2 : total [⟨[102], b, b.length⟩] ≤ 1000000 := by simp [total]; omega
    exact Nat.le_trans this h2
  have hrE : readE (crashP ⟨[⟨[102], b, b.length⟩], 1048576, 5, 1, false⟩ picks) [102] = 0 := by
    simp only [crashP, crashL, if_true]; rfl
  have hrB : readB (crashP ⟨[⟨[102], b, b.length⟩], 1048576, 5, 1, false⟩ picks) [102] = b := by
    simp only [crashP, crashL, if_true]; rfl
  refine (read_any w.heap.size d _ _ ⟨#[102]⟩ w8 hd8 ht8).mono ?_
  rintro e w9 ⟨v9, rfl, ho9, hb9⟩
  rw [show readE _ _ = _ from hrE]
  rw [show readB _ _ = _ from hrB] at ho9
  have HB9 := Hid.mk' (hb8.trans (hb9.mono hs8))
  have c1 := conv_sees (sees_own ho9)
  have c2 := conv_sees (HB.out.below HB9.out)
  have c3 := str_same b
  clear ho9 hb9 hd8 hb8
  go_wp2
  go_ret
  exact ⟨rfl, HB9.out⟩
set_option maxHeartbeats 1000000 in
theorem publish_long (va vb vp : Value) (a b picks : List Int) (x : Int) (w : World) (ha : Sees w va a) (hb : Sees w vb b) (hp : SeesI w vp picks) (hal : a.length ≤ 140737488355328) (hbl : b.length ≤ 140737488355328) (hl : 1000 < a.length + b.length ∨ 50 < picks.length) :
    Calls Try.prog 5 #[va, vb, .int .i64 x, vp] w fun e w' => e = .returned (.bool true) ∧ Below w.heap.size w w' := by
  obtain ⟨ao, ac, hva⟩ := ha.form
  obtain ⟨bo, bc, hvb⟩ := hb.form
  obtain ⟨po, pc, hvp⟩ := hp.form
  subst hva hvb hvp
  clear ha hb hp
  by_cases h1 : 1000 < a.length + b.length
  · have h1' : (1000 : Int) < (a.length : Int) + b.length := by omega
    clear hl h1
    go_enter Try.func5, Try.ntmps5
    go_wp2_with (go_at_call 9; refine (known_any _).mono ?_; rintro e w0 ⟨rfl, hb0⟩)
    go_ret
    exact ⟨rfl, hb0⟩
  · have h1' : ¬ ((1000 : Int) < (a.length : Int) + b.length) := by omega
    have h2 : 50 < picks.length := by omega
    clear hl h1
    go_enter Try.func5, Try.ntmps5
    go_wp2_with (go_at_call 9; refine (known_any _).mono ?_; rintro e w0 ⟨rfl, hb0⟩)
    go_ret
    exact ⟨rfl, hb0⟩
theorem publish_walk (va vb : Value) (x : Int) (vp : Value) (a b picks : List Int) (w : World) (ha : Sees w va a) (hab : isB a) (hal : a.length ≤ 140737488355328) (hb : Sees w vb b) (hbb : isB b) (hbl : b.length ≤ 140737488355328) (_hx : -9223372036854775808 ≤ x ∧ x ≤ 9223372036854775807) (hp : SeesI w vp picks) (_hpl : picks.length ≤ 140737488355328) :
    Calls Try.prog 5 #[va, vb, .int .i64 x, vp] w fun e w' => e = .returned (.bool true) ∧ Below w.heap.size w w' := by
  by_cases hl : a.length + b.length ≤ 1000 ∧ picks.length ≤ 50
  · obtain ⟨hl, hpl⟩ := hl
    obtain ⟨k, hk, hx⟩ := withinF_nat x 5 (by decide)
    have hx : withinF x 5 = k := hx
    rcases (by omega : k = 0 ∨ k = 1 ∨ k = 2 ∨ k = 3 ∨ k = 4) with rfl | rfl | rfl | rfl | rfl
    · exact publish_0 va vb vp a b picks x w ha hab hb hbb hp hl hpl hx
    · exact publish_1 va vb vp a b picks x w ha hab hb hbb hp hl hpl hx
    · exact publish_2 va vb vp a b picks x w ha hab hb hbb hp hl hpl hx
    · exact publish_3 va vb vp a b picks x w ha hab hb hbb hp hl hpl hx
    · exact publish_4 va vb vp a b picks x w ha hab hb hbb hp hl hpl hx
  · exact publish_long va vb vp a b picks x w ha hb hp hal hbl (by omega)
end Go.Proofs.Ytmfhfabfhoiegaa
