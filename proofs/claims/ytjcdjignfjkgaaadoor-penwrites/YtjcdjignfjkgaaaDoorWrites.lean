/- The walk of PenWrites: whatever the pieces, it returns true and turns nothing that was there. -/
import Derived.Test.YtjcdjignfjkgaaaDoorWriteLaws
import Derived.Deep.RegionWith
import Derived.Deep.CutRange
namespace Go.Proofs.YtjcdjignfjkgaaaDoor
open Go Go.RowKit
theorem wr_new (w : World) (B : Nat) (hB : B ≤ w.heap.size) : Wr B (w.alloc (.cells #[.slice none 0 0] 58)) w.heap.size (.slice none 0 0) [] :=
  ⟨by simp, by simp, World.ownsRow_nil _ _ _ _, (fun e => by cases e), hB⟩

theorem enc_next {ps : List Pc} {k : Nat} (hk : k < ps.length) : (encB (ps.take (k + 1))).length = (encB (ps.take k)).length + (pcB ps[k]).length := by
  rw [List.take_succ_eq_append_getElem hk, encB_snoc, List.length_append]
theorem rU8_at {B : Nat} {w : World} {b : Nat} {v : Value} {ps : List Pc} {k : Nat} (hr : Re B w b v (encB ps) (encB (ps.take k)).length 0) (hk : k < ps.length) (h : (ps[k].1.tmod 4 == 0) = true) :
    Calls Tryd.prog 22 #[.pointer (some ⟨b, 0, none⟩)] w fun e w' => e = .returned (.int .i64 (ps[k].2.1 % 256)) ∧ RePost B w w' b v (encB ps) (encB (ps.take (k + 1))).length 0 := by
  refine (rU8 B b v _ _ 0 w hr).mono ?_
  have hx : pcB ps[k] = (be (IntKind.u64.wrap ps[k].2.1)).drop 7 := pcB_0 (k := ps[k].1) (n := ps[k].2.1) (t := ps[k].2.2) h
  have e := enc_at hk
  have hl : (pcB ps[k]).length = 1 := by rw [hx]; rfl
  have hB := takeB_at (encB (ps.take k)) (pcB ps[k]) (encB (ps.drop (k + 1)))
  have hA := takeA_at (encB (ps.take k)) (pcB ps[k]) (encB (ps.drop (k + 1)))
  have hE := takeE_at (encB (ps.take k)) (pcB ps[k]) (encB (ps.drop (k + 1)))
  rw [hl, ← e] at hB hA hE
  rintro en w' ⟨rfl, hp⟩
  rw [hA, hE] at hp
  refine ⟨ret_int (by rw [hB, hx, rd_be7]), ?_⟩
  rw [enc_next hk, hl]; exact hp
theorem rU32_at {B : Nat} {w : World} {b : Nat} {v : Value} {ps : List Pc} {k : Nat} (hr : Re B w b v (encB ps) (encB (ps.take k)).length 0) (hk : k < ps.length) (h0 : (ps[k].1.tmod 4 == 0) = false) (h : (ps[k].1.tmod 4 == 1) = true) :
    Calls Tryd.prog 23 #[.pointer (some ⟨b, 0, none⟩)] w fun e w' => e = .returned (.int .i64 (ps[k].2.1 % 4294967296)) ∧ RePost B w w' b v (encB ps) (encB (ps.take (k + 1))).length 0 := by
  refine (rU32 B b v _ _ 0 w hr).mono ?_
  have hx : pcB ps[k] = (be (IntKind.u64.wrap ps[k].2.1)).drop 4 := pcB_1 (k := ps[k].1) (n := ps[k].2.1) (t := ps[k].2.2) h0 h
  have e := enc_at hk
  have hl : (pcB ps[k]).length = 4 := by rw [hx]; rfl
  have hB := takeB_at (encB (ps.take k)) (pcB ps[k]) (encB (ps.drop (k + 1)))
  have hA := takeA_at (encB (ps.take k)) (pcB ps[k]) (encB (ps.drop (k + 1)))
  have hE := takeE_at (encB (ps.take k)) (pcB ps[k]) (encB (ps.drop (k + 1)))
  rw [hl, ← e] at hB hA hE
  rintro en w' ⟨rfl, hp⟩
  rw [hA, hE] at hp
  refine ⟨ret_int (by rw [hB, hx, rd_be4]), ?_⟩
  rw [enc_next hk, hl]; exact hp
theorem rInt_at {B : Nat} {w : World} {b : Nat} {v : Value} {ps : List Pc} {k : Nat} (hr : Re B w b v (encB ps) (encB (ps.take k)).length 0) (hk : k < ps.length) (h0 : (ps[k].1.tmod 4 == 0) = false) (h1 : (ps[k].1.tmod 4 == 1) = false) (h : (ps[k].1.tmod 4 == 2) = true)
    (hn : -9223372036854775808 ≤ ps[k].2.1 ∧ ps[k].2.1 ≤ 9223372036854775807) :
    Calls Tryd.prog 24 #[.pointer (some ⟨b, 0, none⟩)] w fun e w' => e = .returned (.int .i64 ps[k].2.1) ∧ RePost B w w' b v (encB ps) (encB (ps.take (k + 1))).length 0 := by
  refine (rInt B b v _ _ 0 w hr).mono ?_
  have hx : pcB ps[k] = (be (IntKind.u64.wrap ps[k].2.1)).drop 0 := pcB_2 (k := ps[k].1) (n := ps[k].2.1) (t := ps[k].2.2) h0 h1 h
  have e := enc_at hk
  have hl : (pcB ps[k]).length = 8 := by rw [hx]; rfl
  have hB := takeB_at (encB (ps.take k)) (pcB ps[k]) (encB (ps.drop (k + 1)))
  have hA := takeA_at (encB (ps.take k)) (pcB ps[k]) (encB (ps.drop (k + 1)))
  have hE := takeE_at (encB (ps.take k)) (pcB ps[k]) (encB (ps.drop (k + 1)))
  rw [hl, ← e] at hB hA hE
  rintro en w' ⟨rfl, hp⟩
  rw [hA, hE] at hp
  refine ⟨ret_int (by rw [hB, hx, rd_be0 _ hn.1 hn.2]), ?_⟩
  rw [enc_next hk, hl]; exact hp
theorem rText_at {B : Nat} {w : World} {b : Nat} {v : Value} {ps : List Pc} {k : Nat} (hr : Re B w b v (encB ps) (encB (ps.take k)).length 0) (hk : k < ps.length) (h0 : (ps[k].1.tmod 4 == 0) = false) (h1 : (ps[k].1.tmod 4 == 1) = false) (h : (ps[k].1.tmod 4 == 2) = false)
    (hs : ps[k].2.2.size ≤ 500) :
    Calls Tryd.prog 25 #[.pointer (some ⟨b, 0, none⟩)] w fun e w' => e = .returned (.string ps[k].2.2) ∧ RePost B w w' b v (encB ps) (encB (ps.take (k + 1))).length 0 := by
  refine (rText B b v _ _ 0 w hr).mono ?_
  have hx : pcB ps[k] = (be (IntKind.u64.wrap ps[k].2.2.size)).drop 4 ++ strB ps[k].2.2 := pcB_3 (k := ps[k].1) (n := ps[k].2.1) (t := ps[k].2.2) h0 h1 h
  have e := enc_at hk
  obtain ⟨hB, hE, hA⟩ := text_at (encB (ps.take k)) (encB (ps.drop (k + 1))) ps[k].2.2 hs
  rw [← hx, ← e] at hB hE hA
  rintro en w' ⟨rfl, hp⟩
  rw [hA, hE] at hp
  refine ⟨ret_str (by rw [hB, str_back]), ?_⟩
  rw [enc_next hk]; exact hp

set_option maxRecDepth 100000 in
set_option maxHeartbeats 4000000 in
theorem writes_walk (v0 : Value) (ps : List Pc) (w : World) (hT : HasTab w) (h0 : SeesP w v0 ps) (hl0 : ps.length ≤ maxLen) :
    Calls Tryd.prog 3 #[v0] w fun e w' => e = .returned (.bool true) ∧ Below w.heap.size w w' := by
  obtain ⟨a0, cap0, rfl⟩ := h0.form
  cases hf0 : fewB ps with
  | false =>
    go_enter Tryd.func3, Tryd.ntmps3
    go_wp2_with (first | (go_at_call 9; refine (known_any _ hT).mono ?_; rintro e w1 ⟨rfl, hb1⟩) | (go_at_call 10; refine (few_any _ ps _ (h0.below hb1) hl0).mono ?_; rw [hf0]; rintro e w2 ⟨rfl, rfl⟩))
    go_ret
    exact ⟨rfl, hb1⟩
  | true =>
    obtain ⟨hsz, hlen⟩ := fewB_sizes hf0
    have HS := Hid.mk' hsz
    have HV := Hid.mk' h0
    clear hsz
    go_enter Tryd.func3, Tryd.ntmps3
    go_wp2_with (first | (go_at_call 9; refine (known_any _ hT).mono ?_; rintro e w1 ⟨rfl, hb1⟩) | (go_at_call 10; refine (few_any _ ps _ (h0.below hb1) hl0).mono ?_; rw [hf0]; rintro e w2 ⟨rfl, rfl⟩) | (go_at_call 11; refine (wNew _).mono ?_; rintro e w2 ⟨rfl, rfl⟩))
    have hs1 := hb1.size
    have H0 : Hid (Pair w1.heap.size w (w1.alloc (.cells #[.slice none 0 0] 58)) w1.heap.size (.slice none 0 0) (.slice none 0 0) (encB (ps.take 0))) :=
      ⟨wr_new w1 _ (Nat.le_refl _), World.ownsRow_nil _ _ _ _, (fun e => by cases e), (fun k hk => by cases hk), hb1.alloc hb1.size _, hs1, by simp⟩
    have HT := Hid.mk' hT
    clear h0 hT hf0
    go_loopg [4, 5] ps.length (fun g vb i wx => ∃ (k : Nat) (vx : Value), k ≤ ps.length ∧ g = ps.length - k ∧ i = .int .i64 k ∧ Pair w1.heap.size w wx w1.heap.size vx vb (encB (ps.take k)))
    case atStart => exact ⟨0, _, Nat.zero_le _, rfl, rfl, H0.out⟩
    case round =>
      obtain ⟨k, vx, hk, hg, rfl, hpr⟩ := hrel
      have HPR := Hid.mk' hpr
      have hB1 := hpr.lo.2
      by_cases hlt : k < ps.length
      · obtain ⟨b1, off, rfl, hbl, c1, c2, c3, _, _⟩ := HV.out.at hlt
        have d1 := (hpr.up.cell (p := ⟨b1, off + k * 3, none⟩) hbl).trans c1
        have d2 := (hpr.up.cell (p := ⟨b1, off + k * 3 + 1, none⟩) hbl).trans c2
        have d3 := (hpr.up.cell (p := ⟨b1, off + k * 3 + 2, none⟩) hbl).trans c3
        have hyl : (encB (ps.take k)).length ≤ 504 * 40 := Nat.le_trans (encB_len _ (fun p hp => HS.out p (List.mem_of_mem_take hp))) (by simp; omega)
        have hpk : ps.getD k noPc = ps[k] := by simp [List.getD_eq_getElem?_getD, List.getElem?_eq_getElem hlt]
        have hpm : ps[k].2.2.size ≤ 500 := HS.out _ (List.getElem_mem hlt)
        have HE : Hid (encB (ps.take (k + 1)) = encB (ps.take k) ++ pcB ps[k]) := by
          show _ = _
          rw [List.take_succ_eq_append_getElem hlt, encB_snoc]
        rw [hpk] at c1 c2 c3 d1 d2 d3
        have HC2 := Hid.mk' c2
        have HC3 := Hid.mk' c3
        clear c1 c2 c3 hpr hpk
        generalize ps[k] = p at d1 d2 d3 HE hpm HC2 HC3
        obtain ⟨kd, n, t⟩ := p
        have hpt : t.size ≤ 500 := hpm
        clear hpm
        generalize encB (ps.take k) = es at HPR HE hyl
        go_wp2_with (first | (go_at_call 12; refine (wU8 _ _ _ _ _ _ HPR.out.wr (by omega) hB1).mono ?_; rintro e w3 ⟨rfl, hp⟩; obtain ⟨vx', k1, k2, k3, k4, k5⟩ := HPR.out.half hp; have d2' := (k4.cell (p := ⟨b1, off + k * 3 + 1, none⟩) hbl).trans HC2.out) | (go_at_call 14; refine (wU32 _ _ _ _ _ _ HPR.out.wr (by omega) hB1).mono ?_; rintro e w3 ⟨rfl, hp⟩; obtain ⟨vx', k1, k2, k3, k4, k5⟩ := HPR.out.half hp; have d2' := (k4.cell (p := ⟨b1, off + k * 3 + 1, none⟩) hbl).trans HC2.out) | (go_at_call 16; refine (wInt _ _ _ _ _ _ HPR.out.wr (by omega) hB1).mono ?_; rintro e w3 ⟨rfl, hp⟩; obtain ⟨vx', k1, k2, k3, k4, k5⟩ := HPR.out.half hp; have d2' := (k4.cell (p := ⟨b1, off + k * 3 + 1, none⟩) hbl).trans HC2.out) | (go_at_call 18; refine (wText _ _ _ _ _ _ HPR.out.wr (by omega) (by omega) hB1).mono ?_; rintro e w3 ⟨rfl, hp⟩; obtain ⟨vx', k1, k2, k3, k4, k5⟩ := HPR.out.half hp; have d3' := (k4.cell (p := ⟨b1, off + k * 3 + 2, none⟩) hbl).trans HC3.out) | (go_at_call 13; refine (fU8w _ _ _ _ _ k2 (by omega) k5).mono ?_; rintro e w4 ⟨vb', rfl, hq⟩; have hpr' := Pair.step k1 k2 k3 HPR.out.n1 k4 ⟨hs1, k5⟩ hq) | (go_at_call 15; refine (fU32w _ _ _ _ _ k2 (by omega) k5).mono ?_; rintro e w4 ⟨vb', rfl, hq⟩; have hpr' := Pair.step k1 k2 k3 HPR.out.n1 k4 ⟨hs1, k5⟩ hq) | (go_at_call 17; refine (fIntw _ _ _ _ _ k2 (by omega) k5).mono ?_; rintro e w4 ⟨vb', rfl, hq⟩; have hpr' := Pair.step k1 k2 k3 HPR.out.n1 k4 ⟨hs1, k5⟩ hq) | (go_at_call 19; refine (fTextw _ _ _ _ _ k2 (by omega) k5 (by omega)).mono ?_; rintro e w4 ⟨vb', rfl, hq⟩; have hpr' := Pair.step k1 k2 k3 HPR.out.n1 k4 ⟨hs1, k5⟩ hq))
        all_goals
          go_roundg (ps.length - (k + 1))
          case measure => omega
          case rel =>
            refine ⟨k + 1, vx', by omega, rfl, by go_num, ?_⟩
            rw [HE.out]
            first
              | (rw [pcB_0 ‹_›]; exact hpr')
              | (rw [pcB_1 ‹_› ‹_›]; exact hpr')
              | (rw [pcB_2 ‹_› ‹_› ‹_›]; exact hpr')
              | (rw [pcB_3 ‹_› ‹_› ‹_›]; exact hpr')
      · obtain rfl : k = ps.length := by omega
        rw [List.take_length] at HPR
        have hel : (encB ps).length ≤ 504 * 40 := Nat.le_trans (encB_len _ HS.out) (by omega)
        obtain ⟨ab, cb, hvb⟩ := owns_form HPR.out.ow
        clear hpr
        subst hvb
        go_wp2_with fail
        have HR : Hid (Wr w1.heap.size wr.drew w1.heap.size vx (encB ps) ∧ Sees wr.drew (.slice ab (encB ps).length cb) (encB ps)) := ⟨HPR.out.wr.below ((Below.refl _ _).drew), (sees_own HPR.out.ow).below ((Below.refl _ _).drew)⟩
        have q0 := conv_sees HR.out.2
        go_cut [101] from 88 to 100 (fun s101 wx => s101 = .bool false ∧ Below wr.heap.size wr wx)
        case first =>
          go_region_with (first | (go_at_call 20; with_reducible refine (wDone w1.heap.size w1.heap.size vx (encB ps) wr.drew HR.out.1 (by omega)).mono ?_; rintro e w8 ⟨ux, rfl, o1, b1⟩; have s1 := sees_own o1; have q1 := conv_sees s1; have q2 := conv_sees (HR.out.2.below b1)) | (go_at_call 20; with_reducible refine (wDone w1.heap.size w1.heap.size vx (encB ps) w8 (HR.out.1.below b1) (by omega)).mono ?_; rintro e w9 ⟨uy, rfl, o2, b2⟩; have q3 := conv_sees (sees_own o2); have q4 := conv_sees ((HR.out.2.below b1).below b2); have q5 := conv_sees (s1.below b2)))
          all_goals
            go_wp2_with fail
            go_meet
            have z1 : wr.heap.size ≤ w8.heap.size := b1.size
            exact ⟨rfl, ((Below.refl _ _).drew.trans b1).trans (b2.mono z1)⟩
        case rest =>
        obtain ⟨rfl, hbc⟩ := hcut
        have HBC := Hid.mk' hbc
        have HRN : Hid (∀ w2, Below wr.heap.size wr w2 → Calls Tryd.prog 21 #[.slice ab (encB ps).length cb] w2 fun e w' => ∃ b v', e = .returned (.pointer (some ⟨b, 0, none⟩)) ∧ Re w2.heap.size w' b v' (encB ps) 0 0 ∧ Below w2.heap.size w2 w') := fun w2 h2 => rNew _ (encB ps) w2 ((sees_own HPR.out.ow).below h2) (encB_isB ps) (by omega)
        clear q0 hbc
        go_wp2_with (go_at_call 21; refine (HRN.out _ HBC.out).mono ?_; rintro e w5 ⟨rb, vr, rfl, hr, hb5⟩)
        have hws := HPR.out.up.size
        have hwc := HBC.out.size
        have HRe := Hid.mk' hr
        have HB5 : Hid (Below w.heap.size w w5) := (HPR.out.up.trans (HBC.out.mono hws)).trans (hb5.mono (by omega))
        clear hr hb5
        go_loopg [7] ps.length (fun g i wx => ∃ k : Nat, k ≤ ps.length ∧ g = ps.length - k ∧ i = .int .i64 k ∧ Re wc.heap.size wx rb vr (encB ps) (encB (ps.take k)).length 0 ∧ Below w.heap.size w wx)
        case atStart => exact ⟨0, Nat.zero_le _, rfl, rfl, HRe.out, HB5.out⟩
        case round =>
          obtain ⟨k, hk, hg, rfl, hr2, hbx⟩ := hrel
          by_cases hlt : k < ps.length
          · obtain ⟨b1, off, rfl, hbl, c1, c2, c3, hnb, _⟩ := HV.out.at hlt
            have hpk : ps.getD k noPc = ps[k] := by simp [List.getD_eq_getElem?_getD, List.getElem?_eq_getElem hlt]
            rw [hpk] at c1 c2 c3 hnb
            have d1 := (hbx.cell (p := ⟨b1, off + k * 3, none⟩) hbl).trans c1
            have d2 := (hbx.cell (p := ⟨b1, off + k * 3 + 1, none⟩) hbl).trans c2
            have d3 := (hbx.cell (p := ⟨b1, off + k * 3 + 2, none⟩) hbl).trans c3
            have hbxd : Below w.heap.size w wr.drew := hbx.drew
            have HRd : Hid (Re wc.heap.size wr.drew rb vr (encB ps) (encB (ps.take k)).length 0) := hr2.upd (Upd.refl wr (fun _ => False)).drew (fun h => h) (fun _ _ h => h)
            have hpm : ps[k].2.2.size ≤ 500 := HS.out _ (List.getElem_mem hlt)
            have hwl : w.heap.size ≤ rb := by have := hr2.base; omega
            have HC2 := Hid.mk' c2
            have HC3 := Hid.mk' c3
            have HBX := Hid.mk' hbxd
            have HNB := Hid.mk' hnb
            have ea := i64_and255 ps[k].2.1
            have eb := i64_and32 ps[k].2.1
            clear c1 c2 c3 hr2 hbx hbxd hpk hnb
            have R0 : Hid ((ps[k].1.tmod 4 == 0) = true → _) := rU8_at HRd.out hlt
            have R1 : Hid ((ps[k].1.tmod 4 == 0) = false → (ps[k].1.tmod 4 == 1) = true → _) := rU32_at HRd.out hlt
            have R2 : Hid ((ps[k].1.tmod 4 == 0) = false → (ps[k].1.tmod 4 == 1) = false → (ps[k].1.tmod 4 == 2) = true → _) := fun a b c => rInt_at HRd.out hlt a b c HNB.out
            have R3 : Hid ((ps[k].1.tmod 4 == 0) = false → (ps[k].1.tmod 4 == 1) = false → (ps[k].1.tmod 4 == 2) = false → _) := fun a b c => rText_at HRd.out hlt a b c hpm
            have HX : Hid (∀ w6, RePost wc.heap.size wr.drew w6 rb vr (encB ps) (encB (ps.take (k + 1))).length 0 → Below w.heap.size w w6) := fun w6 hp => HBX.out.trans (hp.2.below HBX.out.size (fun m hm h => by omega))
            generalize ps[k] = p at d1 d2 d3 HC2 HC3 ea eb hpm R0 R1 R2 R3
            clear HRd HNB
            obtain ⟨kd, n, t⟩ := p
            go_wp2_with fail
            all_goals
              go_region_with (first | (go_at_call 22; refine (R0.out ‹_›).mono ?_; rintro e w6 ⟨rfl, hp⟩; have hb6 := HX.out _ hp; have d2' := (hb6.cell (p := ⟨b1, off + k * 3 + 1, none⟩) hbl).trans HC2.out) | (go_at_call 23; refine (R1.out ‹_› ‹_›).mono ?_; rintro e w6 ⟨rfl, hp⟩; have hb6 := HX.out _ hp; have d2' := (hb6.cell (p := ⟨b1, off + k * 3 + 1, none⟩) hbl).trans HC2.out) | (go_at_call 24; refine (R2.out ‹_› ‹_› ‹_›).mono ?_; rintro e w6 ⟨rfl, hp⟩; have hb6 := HX.out _ hp; have d2' := (hb6.cell (p := ⟨b1, off + k * 3 + 1, none⟩) hbl).trans HC2.out) | (go_at_call 25; refine (R3.out ‹_› ‹_› ‹_›).mono ?_; rintro e w6 ⟨rfl, hp⟩; have hb6 := HX.out _ hp; have d3' := (hb6.cell (p := ⟨b1, off + k * 3 + 2, none⟩) hbl).trans HC3.out))
              all_goals
                go_wp2
                go_roundg (ps.length - (k + 1))
                case measure => omega
                case rel => exact ⟨k + 1, by omega, rfl, by go_num, hp.1, hb6⟩
          · obtain rfl : k = ps.length := by omega
            rw [List.take_length] at hr2
            have hbase := hr2.base
            go_wp2_with (first | (go_at_call 26; refine (rErr _ _ _ _ _ _ _ hr2).mono ?_; rintro e w6 ⟨rfl, rfl⟩) | (go_at_call 27; refine (left_any _ _ _ _ _ _ _ hr2).mono ?_; rintro e w6 ⟨rfl, nd, rfl⟩; have hr3 := hr2.upd (Upd.drewN _ nd (fun _ => False)) (fun h => h) (fun _ _ h => h)) | (go_at_call 28; refine (rAt _ _ _ _ _ _ _ hr3).mono ?_; rintro e w6 ⟨rfl, rfl⟩))
            go_ret
            exact ⟨rfl, below_drewN hbx _⟩
end Go.Proofs.YtjcdjignfjkgaaaDoor
