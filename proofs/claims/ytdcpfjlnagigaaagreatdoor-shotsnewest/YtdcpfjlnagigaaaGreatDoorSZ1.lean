/- ShotsNewest, walked. -/
import Derived.Test.YtdcpfjlnagigaaaGreatDoorSKN
namespace Go.Proofs.YtdcpfjlnagigaaaGreatDoor
open Go Go.RowKit
theorem name_of (r : Nat) (h : r < 10) : ((⟨#[115, 104, 111, 116, 45, 48, 48, 48, 48, 48, 48, 48, 48, 48, 48]⟩ : ByteArray) ++ strOfNums [54, 48 + (r : Int)]).data.toList = sname (60 + r) := by
  have : ∀ r : Fin 10, ((⟨#[115, 104, 111, 116, 45, 48, 48, 48, 48, 48, 48, 48, 48, 48, 48]⟩ : ByteArray) ++ strOfNums [54, 48 + ((r.1 : Nat) : Int)]).data.toList = sname (60 + r.1) := by decide +kernel
  exact this ⟨r, h⟩
theorem ns0 : Ns (q0 65536) 0 0 := ⟨calm0, rfl, by show (0 : Nat) ≤ 0; decide, (fun f hf => by cases hf), .inl ⟨rfl, rfl⟩⟩
set_option maxRecDepth 100000 in
set_option maxHeartbeats 4000000 in
theorem newest_walk (hPY : ParseYes) (v : Value) (x1 : Int) (zs : List Int) (w : World) (hT : HasTab w) (hv : SeesI w v zs) (_b1 : -9223372036854775808 ≤ x1 ∧ x1 ≤ 9223372036854775807) :
    Calls Tryz.prog 5 #[v, .int .i64 x1] w fun e w' => e = .returned (.bool true) ∧ Below w.heap.size w w' := by
  have hkn := known_any hPY w hT
  obtain ⟨ao, cap, rfl⟩ := hv.form
  have HT := Hid.mk' hT
  have HV := Hid.mk' hv
  clear hT hv
  obtain ⟨n, hn⟩ : ∃ n, n = zs.length := ⟨_, rfl⟩
  rw [← hn]
  have HN := Hid.mk' hn
  clear hn
  by_cases h0 : n = 0
  · subst h0
    go_enter Tryz.func5, Tryz.ntmps5
    go_wp2_with (go_at_call 6; refine hkn.mono ?_; rintro e w1 ⟨rfl, hb1⟩)
    go_ret
    exact ⟨rfl, hb1⟩
  · by_cases h20 : 20 < n
    · have hg1 : ((n : Int) == 0) = false := by simp; omega
      have hg2 : decide ((20 : Int) < n) = true := by simp; omega
      go_enter Tryz.func5, Tryz.ntmps5
      go_wp2_with (go_at_call 6; refine hkn.mono ?_; rintro e w1 ⟨rfl, hb1⟩)
      go_ret
      exact ⟨rfl, hb1⟩
    · have hg1 : ((n : Int) == 0) = false := by simp; omega
      have hg2 : decide ((20 : Int) < n) = false := by simp; omega
      have hn1 : 1 ≤ n := by omega
      have hn2 : n ≤ 20 := by omega
      clear h0 h20
      go_enter Tryz.func5, Tryz.ntmps5
      go_wp2_with (go_at_call 6; refine hkn.mono ?_; rintro e w1 ⟨rfl, hb1⟩)
      have hnew := new_dk w.heap.size 65536 w1 (by decide) hb1.size
      refine hnew.mono ?_
      rintro e w2 ⟨d, hde, rfl, hd2, hb2⟩
      have HD2 := Hid.mk' hd2
      have HB2 : Hid (Below w.heap.size w w2) := hb1.trans (hb2.mono hb1.size)
      clear hde hd2 hb1 hb2 hkn hnew
      go_wp2_with fail
      go_loopg [7, 8] n (fun kx s7 s8 wr => ∃ (i best : Nat) (g : Gu) (p : PS), s8 = .int .i64 i ∧ s7 = .int .i64 best ∧ i ≤ n ∧ n - i ≤ kx ∧ best ≤ 50 ∧ Hid (Ns p best i) ∧ Hid (PlayAt p 65536 (4 * i)) ∧ Hid (Dk w.heap.size wr d g p) ∧ Hid (Below w.heap.size w wr))
      case atStart => exact ⟨0, 0, _, _, rfl, rfl, Nat.zero_le _, by omega, by decide, Hid.mk' ns0, Hid.mk' play0, HD2, HB2⟩
      case round =>
        obtain ⟨i, best, g, p, rfl, rfl, hi, hix, hbs, HNS, HPL, HD, HB⟩ := hrel
        by_cases hlt : i < n
        · have hvr : SeesI wr (.slice ao n cap) zs := by rw [HN.out]; exact HV.out.upd (Upd.ofBelow HB.out : Upd w wr (fun _ => False)) (fun _ _ _ => id)
          obtain ⟨gg, off, hgo, hcell⟩ : ∃ gg off, ao = some ⟨gg, off, none⟩ ∧ wr.cell? ⟨gg, off + i, none⟩ = some (.int .i64 (zs.getD i 0)) := by
            rcases hvr with ⟨h, _⟩ | ⟨b, off, cap', h, h1, h2, hc⟩
            · have := HN.out; rw [h] at this; simp at this; omega
            · simp only [Value.slice.injEq] at h
              exact ⟨b, off, h.1, hc i (by rw [← HN.out]; exact hlt)⟩
          subst hgo
          generalize zs.getD i 0 = x at hcell
          clear hvr
          have hwi := fun W => within_any x 50 W (by decide) (by decide)
          have hwb := withinF_bd x 50 (by decide)
          obtain ⟨m, hm⟩ : ∃ m : Nat, (m : Int) = 1 + withinF x ((50 : Nat) : Int) := ⟨(1 + withinF x ((50 : Nat) : Int)).toNat, by omega⟩
          have hm0 : 0 < m := by omega
          have hm1 : m ≤ 50 := by omega
          have hma : 1 + withinF x ((50 : Nat) : Int) = (m : Int) := hm.symm
          generalize withinF x ((50 : Nat) : Int) = q at *
          clear hm hwb
          have hw8 : IntKind.u8.wrap (m : Int) = m := by rw [IntKind.wrap_u8]; omega
          obtain ⟨wX, hwX⟩ : ∃ wX, wX = wr.alloc (.cells #[.int .u8 m] 5) := ⟨_, rfl⟩
          have hbX : Below wr.heap.size wr wX := by rw [hwX]; exact (Below.refl _ _).alloc (Nat.le_refl _) _
          have hsd : Sees wX (.slice (some ⟨wr.heap.size, 0, none⟩) 1 1) [(m : Int)] := by rw [hwX]; exact sees_new wr [(m : Int)] (0, 0) (by show 0 < 1; decide) (by show 1 ≤ maxLen; decide)
          have hsz : w.heap.size ≤ wr.heap.size := HB.out.size
          have hsave := save_any w.heap.size d g p 65536 (4 * i) m (shN m i) (.slice none 0 0) _ wX (HD.out.below hbX) (Nat.le_trans hsz hbX.size) (HT.out.below (HB.out.trans (hbX.mono hsz))) HPL.out (by omega) (shN_ok m i hm0 hm1) (.inl ⟨rfl, _, _, rfl⟩) hsd
          obtain ⟨hE, hNs⟩ := HNS.out.save (by omega) hm0 hm1
          rw [hE] at hsave
          have HNX := Hid.mk' hNs
          have HFX : Hid (∀ w', DkPost w.heap.size wX w' d g (saveP p m (frameB (shN m i).body)) → ∃ g', Dk w.heap.size w' d g' (saveP p m (frameB (shN m i).body)) ∧ Below w.heap.size w w') := by
            intro w' h
            obtain ⟨g', h1, h2⟩ := h.go (HD.out.below hbX) (Nat.le_trans hsz hbX.size)
            exact ⟨g', h1, (HB.out.trans (hbX.mono hsz)).trans h2⟩
          clear hsd hbX hNs hE HD HPL HNS
          go_wp2_with (first | (go_at_call 7; refine (hwi _).mono ?_; rintro e w' ⟨rfl, rfl⟩))
          rw [← hwX]
          refine hsave.mono ?_
          rintro e w4 ⟨rfl, hpo, hpl⟩
          obtain ⟨g4, hd4, hb4⟩ := HFX.out _ hpo
          have HD4 := Hid.mk' hd4
          have HB4 := Hid.mk' hb4
          have HP4 := Hid.mk' hpl
          have hmax : max (best : Int) (m : Int) = ((max best m : Nat) : Int) := by omega
          have hmx2 : max best m ≤ 50 := by omega
          clear hsave hpo hpl hd4 hb4 HFX hwX
          by_cases hbm : best ≤ m
          · have he : max best m = m := by omega
            rw [he] at HNX hmx2
            clear hmax he
            go_wp2_with fail
            go_roundg (n - (i + 1))
            case measure => omega
            case rel => exact ⟨i + 1, m, g4, _, by simp, congrArg (Value.int .i64) (by omega), by omega, by omega, hmx2, HNX, Hid.mk' HP4.out, HD4, HB4⟩
          · have he : max best m = best := by omega
            rw [he] at HNX hmx2
            clear hmax he
            go_wp2_with fail
            go_roundg (n - (i + 1))
            case measure => omega
            case rel => exact ⟨i + 1, best, g4, _, by simp, congrArg (Value.int .i64) (by omega), by omega, by omega, hmx2, HNX, Hid.mk' HP4.out, HD4, HB4⟩
        · obtain rfl : i = n := by omega
          have hwi := fun W => within_any x1 9 W (by decide) (by decide)
          have hwb := withinF_bd x1 9 (by decide)
          obtain ⟨K, hK⟩ : ∃ K : Nat, (K : Int) = 60 + withinF x1 ((9 : Nat) : Int) := ⟨(60 + withinF x1 ((9 : Nat) : Int)).toNat, by omega⟩
          have hK0 : 60 ≤ K := by omega
          have hK1 : K < 70 := by omega
          have hKa : 60 + withinF x1 ((9 : Nat) : Int) = (K : Int) := hK.symm
          generalize withinF x1 ((9 : Nat) : Int) = q at *
          clear hK hwb
          have hkd : (K : Int).tdiv 10 = 6 := by rw [Int.tdiv_eq_ediv_of_nonneg (by omega)]; omega
          obtain ⟨r, hr⟩ : ∃ r : Nat, K = 60 + r := ⟨K - 60, by omega⟩
          have hr9 : r < 10 := by omega
          have hkm : (K : Int).tmod 10 = r := by rw [Int.tmod_eq_emod_of_nonneg (by omega)]; omega
          have hw8 : IntKind.u8.wrap (48 + (r : Int)) = 48 + r := by rw [IntKind.wrap_u8]; omega
          have hs2 : (strOfNums [54, 48 + (r : Int)]).size = 2 := strOfNums_size _
          have HKR : Hid (60 + r = K) := hr.symm
          clear hr
          have hcv2 : (convert 35 9 (.slice (some ⟨wr.heap.size, 0, none⟩) 2 2)).run Tryz.prog (wr.alloc (.cells #[.int .u8 54, .int .u8 (48 + (r : Int))] 5)) = .ok (.string (strOfNums [54, 48 + (r : Int)])) (wr.alloc (.cells #[.int .u8 54, .int .u8 (48 + (r : Int))] 5)) := conv_sees (sees_new wr [54, 48 + (r : Int)] (0, 0) (by show 0 < 2; decide) (by show 2 ≤ maxLen; decide))
          have hcv3 := Lib.run_convert_bytes_const (P := Tryz.prog) (wr.alloc (.cells #[.int .u8 54, .int .u8 (48 + (r : Int))] 5)) 35 5 #[.int .u8 110, .int .u8 111, .int .u8 32, .int .u8 115, .int .u8 110, .int .u8 97, .int .u8 112, .int .u8 115, .int .u8 104, .int .u8 111, .int .u8 116] 11 11 Tryz.underlying35 Tryz.underlying5
          rw [World.size_alloc] at hcv3
          go_wp2_with (first | (go_at_call 7; refine (hwi _).mono ?_; rintro e w' ⟨rfl, rfl⟩))
          obtain ⟨wY, hwY⟩ : ∃ wY, wY = ((w'.alloc (.cells #[.int .u8 54, .int .u8 (48 + (r : Int))] 5)).alloc (.cells #[.int .u8 110, .int .u8 111, .int .u8 32, .int .u8 115, .int .u8 110, .int .u8 97, .int .u8 112, .int .u8 115, .int .u8 104, .int .u8 111, .int .u8 116] 5 (11, 12))) := ⟨_, rfl⟩
          rw [← hwY]
          have hbY : Below w'.heap.size w' wY := by rw [hwY]; exact ((Below.refl _ _).alloc (Nat.le_refl _) _).alloc (by simp) _
          have hsY : Sees wY (.slice (some ⟨w'.heap.size + 1, 0, none⟩) 11 11) junk := by
            rw [hwY]
            have h := sees_new (w'.alloc (.cells #[.int .u8 54, .int .u8 (48 + (r : Int))] 5)) junk (11, 12) (by decide) (by decide)
            rw [World.size_alloc] at h
            exact h
          have hszw : w.heap.size ≤ w'.heap.size := HB.out.size
          have hft : ∀ k, Foot d g k → k < w'.heap.size := fun k hk => HD.out.lt hk
          obtain ⟨hE, hNk⟩ := HNS.out.spoil (by omega) hn2 hK0 hK1
          have happ := append_any w.heap.size d g p ((⟨#[115, 104, 111, 116, 45, 48, 48, 48, 48, 48, 48, 48, 48, 48, 48]⟩ : ByteArray) ++ strOfNums [54, 48 + (r : Int)]) _ junk wY (HD.out.below hbY) (HPL.out.sane (by omega)) (Nat.le_trans hszw hbY.size) hsY junk_isB (fun k hk _ h => by
            have h1 : w'.heap.size + 1 = k := Option.some.inj hk
            have := hft k h
            omega) (by decide)
          rw [name_of r hr9, HKR.out, hE] at happ
          have HNK := Hid.mk' hNk
          have HPY := Hid.mk' (HPL.out.app HD.out.upP (sname K) junk (by decide))
          have HFX : Hid (∀ w9, DkPost w.heap.size wY w9 d g (appP p (sname K) junk) → ∃ g', Dk w.heap.size w9 d g' (appP p (sname K) junk) ∧ Below w.heap.size w w9) := by
            intro w9 h
            obtain ⟨g', h1, h2⟩ := h.go (HD.out.below hbY) (Nat.le_trans hszw hbY.size)
            exact ⟨g', h1, (HB.out.trans (hbY.mono hszw)).trans h2⟩
          refine happ.mono ?_
          rintro e w5 ⟨rfl, hpo⟩
          obtain ⟨g5, hd5, hb5⟩ := HFX.out _ hpo
          generalize appP p (sname K) junk = p5 at *
          have hl5 := load_any hPY w.heap.size d g5 p5 w5 hd5 (by have := HPY.out.tot; omega) (by have := HPY.out.len; omega) HNK.out.calm.dead HNK.out.names (HT.out.below hb5) (gotP p5) HNK.out.file
          have HD5 := Hid.mk' hd5
          have HB5 := Hid.mk' hb5
          clear happ hpo hd5 hb5 HFX hE hNk hwY hbY hsY hft hcv2 hcv3 HD HPL HNS HB hwi hs2
          go_wp2_with fail
          refine hl5.mono ?_
          rintro e w6 ⟨hres, hb6⟩
          rcases hres with ⟨rfl, hno⟩ | ⟨k, s, vv, dv, hk, hgk, hj, rfl, hvv, hdv, _⟩
          · exact absurd (hno best HNK.out.best_mem) HNK.out.best_got
          · obtain ⟨t, ht, rfl⟩ := HNK.out.found k s hk hgk hj
            obtain ⟨vo, vc, rfl⟩ := hvv.form
            obtain ⟨do_, dc, rfl⟩ := hdv.form
            rw [show (shN best t).i = (best : Int) from rfl, show (shN best t).t = (t : Int) from rfl, show (shN best t).vs.length = 0 from rfl, show (shN best t).d.length = 1 from rfl]
            have hdv1 : Sees w6 (.slice do_ 1 dc) [(best : Int)] := hdv
            have hw8b : IntKind.u8.wrap (best : Int) = best := by rw [IntKind.wrap_u8]; omega
            obtain ⟨gd, od, hgd, hcd⟩ : ∃ gd od, do_ = some ⟨gd, od, none⟩ ∧ ∀ o, (w6.alloc o).cell? ⟨gd, od, none⟩ = some (.int .u8 best) := by
              rcases hdv1 with ⟨h, _⟩ | ⟨b, off, cap', h, h1, _, _, hc⟩
              · cases h
              · simp only [Value.slice.injEq] at h
                refine ⟨b, off, h.1, fun o => ?_⟩
                have h2 := hc 0 h1
                rw [Nat.add_zero] at h2
                have h3 : b < w6.heap.size := World.block_lt_of_cell? _ _ h2
                exact (((Below.refl _ w6).alloc (Nat.le_refl _) o).cell (p := ⟨b, off, none⟩) h3).trans h2
            subst hgd
            have HB6 : Hid (Below w.heap.size w w6) := HB5.out.trans (hb6.mono HB5.out.size)
            have HD6 := Hid.mk' (HD5.out.below hb6)
            clear hl5 hb6 hvv hdv hdv1 hgk hj hk HD5 HB5
            go_wp2_with fail
            obtain ⟨w7, hw7⟩ : ∃ w7, w7 = w6.alloc (.cells #[.int .i64 best, .int .i64 t, .slice vo 0 vc] 34) := ⟨_, rfl⟩
            rw [← hw7]
            have hb7 : Below w6.heap.size w6 w7 := by rw [hw7]; exact (Below.refl _ _).alloc (Nat.le_refl _) _
            have hx7 : w7.heap[w6.heap.size]? = some (.cells #[.int .i64 best, .int .i64 t, .slice vo 0 vc] 34 (0, 0)) := by rw [hw7]; exact heap_alloc_new w6 _
            have HB7 : Hid (Below w.heap.size w w7) := HB6.out.trans (hb7.mono HB6.out.size)
            have hd7 := HD6.out.below hb7
            have hft : ∀ k, Foot d g5 k → k < w6.heap.size := fun k hk => HD6.out.lt hk
            have hixl : (ixs p5).length ≤ p5.fs.length := by
              show (nums numS (p5.fs.map PF.name)).length ≤ _
              unfold nums
              rw [List.length_map]
              exact Nat.le_trans (List.length_filter_le _ _) (by simp)
            have htr := trim_yes hPY w.heap.size d g5 p5 65536 (4 * i + 1) w7 hd7 HPY.out (by have := HPY.out.len; omega) HNK.out.calm.dead HNK.out.names (HT.out.below HB7.out) (gotP p5) HNK.out.file best ⟨best, HNK.out.best_mem, HNK.out.best_got⟩
              (fun k s h1 h2 h3 => by obtain ⟨t', _, e⟩ := HNK.out.found k s h1 h2 h3; rw [e]; rfl) (fun j h hne => trim_ok HNK.out.calm HNK.out.mss (ixs_up HNK.out.calm.up HNK.out.names) j h hne)
            obtain ⟨hNk8, hlen8⟩ := HNK.out.trimmed
            have HP8 := Hid.mk' (HPY.out.trim (best : Int) (ixs p5))
            have HL5 : Hid ((ixs p5).length ≤ 81) := by show _ ≤ _; have := HPY.out.len; omega
            refine htr.mono ?_
            rintro e w8 ⟨rfl, hpo⟩
            obtain ⟨g8, hd8, hu8, hf8⟩ := hpo.dk
            have hb8 : Below w.heap.size w w8 := HB7.out.trans (hd7.toBelow HB7.out.size hu8)
            have hlt67 : w6.heap.size < w7.heap.size := lt_of_row hx7
            have hx8 := (hu8.block w6.heap.size hlt67 (fun h => by have := hft _ h; omega)).trans hx7
            generalize trimP (best : Int) p5 (ixs p5) = p8 at *
            have hli := list_any w.heap.size d g8 p8 w8 hd8 (by rw [hlen8]; decide)
            have hlE : listE p8 = 0 := by unfold listE; rw [hNk8.calm.dead]; rfl
            have hlB : (listB p8).length = 1 := by unfold listB; rw [hNk8.calm.dead]; show (p8.fs.map PF.name).length = 1; rw [List.length_map, hlen8]
            rw [hlE, hlB] at hli
            have HD8 := Hid.mk' hd8
            have HB8 := Hid.mk' hb8
            have HX8 := Hid.mk' hx8
            have HNK8 := Hid.mk' hNk8
            have HS8 : Hid (w.heap.size ≤ w6.heap.size) := HB6.out.size
            clear htr hpo hd8 hu8 hf8 hb8 hx8 hx7 hd7 hft hw7 hb7 hcd hNk8 hlE hixl hlt67 HB7 HB6 HD6 HNK HPY
            go_wp2_with fail
            refine hli.mono ?_
            rintro e w9 ⟨v9, rfl, ho9, hb9⟩
            obtain ⟨a9, c9, rfl⟩ := owns_form ho9
            have HD9 := Hid.mk' (HD8.out.below hb9)
            have HB9 : Hid (Below w.heap.size w w9) := HB8.out.trans (hb9.mono HB8.out.size)
            have HX9 := Hid.mk' ((hb9.block w6.heap.size (lt_of_row HX8.out)).trans HX8.out)
            have hl9 := load_any hPY w.heap.size d g8 p8 w9 HD9.out (by have := HP8.out.tot; have := HL5.out; omega) (by rw [hlen8]; decide) HNK8.out.calm.dead HNK8.out.names (HT.out.below HB9.out) (gotP p8) HNK8.out.file
            clear hli ho9 hb9 HD8 HB8 HX8
            go_wp2_with fail
            refine hl9.mono ?_
            rintro e w10 ⟨hres, hb10⟩
            rcases hres with ⟨rfl, hno⟩ | ⟨k, s, vv, dv, hk, hgk, hj, rfl, hvv, hdv, _⟩
            · exact absurd (hno best HNK8.out.best_mem) HNK8.out.best_got
            · obtain ⟨t', ht', rfl⟩ := HNK8.out.found k s hk hgk hj
              obtain ⟨vo', vc', rfl⟩ := hvv.form
              obtain ⟨do', dc', rfl⟩ := hdv.form
              rw [show (shN best t').i = (best : Int) from rfl, show (shN best t').t = (t' : Int) from rfl, show (shN best t').vs.length = 0 from rfl, show (shN best t').d.length = 1 from rfl]
              have hx10 := (hb10.block w6.heap.size (lt_of_row HX9.out)).trans HX9.out
              have y0 : w10.cell? ⟨w6.heap.size, 0, none⟩ = some (.int .i64 best) := (cell_of_row _ _ _ _ _ _ hx10).trans rfl
              have y1 : w10.cell? ⟨w6.heap.size, 1, none⟩ = some (.int .i64 t) := (cell_of_row _ _ _ _ _ _ hx10).trans rfl
              have y2 : w10.cell? ⟨w6.heap.size, 2, none⟩ = some (.slice vo 0 vc) := (cell_of_row _ _ _ _ _ _ hx10).trans rfl
              have f0 := frozen_of_row w10 _ 0 _ 34 hx10
              have f1 := frozen_of_row w10 _ 1 _ 34 hx10
              have f2 := frozen_of_row w10 _ 2 _ 34 hx10
              have HB10 : Hid (Below w.heap.size w w10) := HB9.out.trans (hb10.mono HB9.out.size)
              clear hl9 hb10 hvv hdv hgk hj hk hx10 HD9 HB9 HX9
              go_wp2
              go_ret
              exact ⟨rfl, ((HB10.out.setCell (p := ⟨w6.heap.size, 0, none⟩) HS8.out _).setCell (p := ⟨w6.heap.size, 1, none⟩) HS8.out _).setCell (p := ⟨w6.heap.size, 2, none⟩) HS8.out _⟩
end Go.Proofs.YtdcpfjlnagigaaaGreatDoor
