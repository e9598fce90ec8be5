/- WatchApart's walk. -/
import Derived.Test.YtjdmgmnndfhmgaaL2
import Derived.Test.YtjdmgmnndfhmgaaFR
namespace Go.Proofs.Ytjdmgmnndfhmgaa
open Go Go.RowKit
/-- Two watchers of two hubs are alike. -/
def Ap (A : List Int) (X : Int → Wd) (B : List Int) (Y : Int → Wd) : Prop := X 2 = Y 1 ∧ (2 ∈ A ↔ 1 ∈ B)
section
variable {A : List Int} {X : Int → Wd} {B : List Int} {Y : Int → Wd} {E : List Evd}
theorem Ap.feed (h : Ap A X B Y) : Ap A (fun i => feedE E (X i)) B (fun i => feedE E (Y i)) := ⟨by dsimp only; rw [h.1], h.2⟩
theorem Ap.other (h : Ap A X B Y) (mo : Int) : Ap (pA A X 1) (pX E A X 1 mo) B Y := by
  unfold pA pX
  by_cases h1 : (1 : Int) ∈ A
  · rw [if_pos h1, if_pos h1]
    refine ⟨by rw [setX_other _ _ (by decide)]; exact h.1, ?_⟩
    split
    · exact h.2
    · rw [mem_delN, ← h.2]; simp
  · rw [if_neg h1, if_neg h1]; exact h
theorem Ap.err (h : Ap A X B Y) : pE B Y 1 = pE A X 2 := by
  unfold pE
  rw [h.1]
  by_cases h1 : (2 : Int) ∈ A
  · rw [if_pos h1, if_pos (h.2.1 h1)]
  · rw [if_neg h1, if_neg (fun e => h1 (h.2.2 e))]
theorem Ap.list (h : Ap A X B Y) (mo : Int) : pL E B Y 1 mo = pL E A X 2 mo := by
  unfold pL
  rw [h.1]
  by_cases h1 : (2 : Int) ∈ A
  · rw [if_pos h1, if_pos (h.2.1 h1)]
  · rw [if_neg h1, if_neg (fun e => h1 (h.2.2 e))]
theorem Ap.both (h : Ap A X B Y) (mo : Int) : Ap (pA A X 2) (pX E A X 2 mo) (pA B Y 1) (pX E B Y 1 mo) := by
  unfold pA pX
  by_cases h1 : (2 : Int) ∈ A
  · have h2 := h.2.1 h1
    simp only [if_pos h1, if_pos h2]
    refine ⟨by rw [setX_same, setX_same, h.1], ?_⟩
    rw [h.1]
    split
    · exact h.2
    · rw [mem_delN, mem_delN]; simp
  · have h2 : (1 : Int) ∉ B := fun e => h1 (h.2.2 e)
    simp only [if_neg h1, if_neg h2]
    exact h
end
theorem L2.later {w0 w w' : World} {s h g : Nat} {E : List Evd} {la : Nat} {A : List Int} {X : Int → Wd} {lb : Nat} {B : List Int} {Y : Int → Wd} (H : L2 w0 w s h g E la A X lb B Y) (hb : Below w.heap.size w w') : L2 w0 w' s h g E la A X lb B Y := by
  obtain ⟨n, S, sg, o, ma, Ga, mb, Gb, T⟩ := H
  exact ⟨n, S, sg, o, ma, Ga, mb, Gb, T.ss.upd (T := fun _ => False) (Upd.ofBelow hb) (fun _ _ e => e), T.ha.below hb, T.hb.below hb, T.sa, T.sb, T.ab, T.bel.trans (hb.mono T.bel.size), T.fs, T.fa, T.fb⟩
theorem L2.watchK {w0 w : World} {s h g : Nat} {E : List Evd} {la : Nat} {A : List Int} {X : Int → Wd} {lb : Nat} {B : List Int} {Y : Int → Wd} (H : L2 w0 w s h g E la A X lb B Y) (hl : la < 900) (lo hi : ByteArray) (from_ : Int) (hls : lo.size ≤ 1000000) (hhs : hi.size ≤ 1000000) (hf : from_ ≤ 1000000000) (k : Int) (hk : (la : Int) + 1 = k) (la' : Nat) (hl' : la + 1 = la') :
    Calls Try.prog 8 #[ptr h, .string lo, .string hi, .int .i64 from_] w fun e w' => e = .returned (.int .i64 k) ∧ Hid (L2 w0 w' s h g E la' (A ++ [k]) (setX X k ⟨lo, hi, max from_ 1, false, [], 0⟩) lb B Y) := by
  subst hk
  subst hl'
  exact H.watch hl lo hi from_ hls hhs hf
theorem pL_len {w0 w : World} {s h g : Nat} {E : List Evd} {la : Nat} {A : List Int} {X : Int → Wd} {lb : Nat} {B : List Int} {Y : Int → Wd} (H : L2 w0 w s h g E la A X lb B Y) (hE : E.length ≤ 1000) (id mo : Int) : (pL E A X id mo).length ≤ 1000000 := by
  obtain ⟨n, S, sg, o, ma, Ga, mb, Gb, T⟩ := H
  unfold pL
  split
  · rename_i hid
    have hok := T.ha.ok id hid
    unfold tellE
    split
    · rw [List.length_take]
      have h1 : (newsE E (X id)).length ≤ E.length := by
        unfold newsE
        refine Nat.le_trans (List.length_filter_le _ _) ?_
        rw [List.length_drop]; omega
      omega
    · rw [List.length_take]
      have := hok.c
      omega
  · simp
def kT (t : Nat) : ByteArray := strOfNums [(97 + t : Int)]
theorem kT_size (t : Nat) : (kT t).size = 1 := by simp [kT, strOfNums, ByteArray.size]
theorem kt_conv (t : Nat) (w : World) : (convert 41 9 (.slice (some ⟨w.heap.size, 0, none⟩) 1 1)).run Try.prog (w.alloc (.cells #[.int .u8 (97 + t : Int)] 5)) = .ok (.string (kT t)) (w.alloc (.cells #[.int .u8 (97 + t : Int)] 5)) := by
  refine run_convert_bytes_arg _ 41 5 Try.underlying41 Try.underlying5 w.heap.size 0 1 1 _ rfl (fun i hi => ?_) 9 Try.underlying9
  rw [Nat.zero_add, cell_of_row _ _ _ _ _ _ (row_alloc w _ _)]
  match i, hi with
  | 0, _ => rfl
set_option maxRecDepth 100000 in
set_option maxHeartbeats 8000000 in
theorem watchApart_walk (v0 v1 : Value) (zs ps : List Int) (w : World) (hS0 : SeesI w v0 zs) (_hl0 : zs.length ≤ 140737488355328) (hS1 : SeesI w v1 ps) (_hl1 : ps.length ≤ 140737488355328) : Calls Try.prog 4 #[v0, v1] w fun e w' => e = .returned (.bool true) ∧ Below w.heap.size w w' := by
  obtain ⟨a0, c0, rfl⟩ := hS0.form
  obtain ⟨a1, c1, rfl⟩ := hS1.form
  have HS0 := Hid.mkW hS0
  have HS1 := Hid.mkW hS1
  clear hS0 hS1
  have hkn := known_any w
  have HNEW : Hid (∀ w1, Below w.heap.size w w1 → Calls Try.prog 6 #[] w1 fun e w' => ∃ s, e = .returned (ptr s) ∧ Hid (LS w w' s [])) := fun w1 hb => ls_new w w1 hb
  go_enter Try.func4, Try.ntmps4
  go_wp2_with (first
    | (go_at_call 5; refine hkn.mono ?_; rintro e w1 ⟨rfl, hb1⟩; have hnew := HNEW.out w1 hb1)
    | (go_at_call 6; refine hnew.mono ?_; rintro e w2 ⟨s, rfl, HS⟩; have hhub := HS.out.hub X0)
    | (go_at_call 7; with_reducible refine hhub.mono ?_; rintro e w3 ⟨h, rfl, HW⟩; have hhub2 := HW.out.two X0)
    | (go_at_call 7; with_reducible refine hhub2.mono ?_; rintro e w4 ⟨g, rfl, HT⟩; have hwa := HT.out.watchK (by omega) ⟨#[97]⟩ ⟨#[]⟩ 1 (by decide) (by decide) (by decide) 1 rfl 1 rfl)
    | (go_at_call 8; with_reducible refine hwa.mono ?_; rintro e w5 ⟨rfl, HT5⟩; have hwb := HT5.out.watchK (by omega) ⟨#[98]⟩ ⟨#[100]⟩ 1 (by decide) (by decide) (by decide) 2 rfl 2 rfl)
    | (go_at_call 8; with_reducible refine hwb.mono ?_; rintro e w6 ⟨rfl, HT6⟩; have hwc := HT6.out.swap.watchK (by omega) ⟨#[98]⟩ ⟨#[100]⟩ 1 (by decide) (by decide) (by decide) 1 rfl 1 rfl)
    | (go_at_call 8; with_reducible refine hwc.mono ?_; rintro e w7 ⟨rfl, HT7⟩))
  have HAP : Hid (Ap ([] ++ [1] ++ [2]) (setX (setX X0 1 ⟨⟨#[97]⟩, ⟨#[]⟩, max 1 1, false, [], 0⟩) 2 ⟨⟨#[98]⟩, ⟨#[100]⟩, max 1 1, false, [], 0⟩) ([] ++ [1]) (setX X0 1 ⟨⟨#[98]⟩, ⟨#[100]⟩, max 1 1, false, [], 0⟩)) := ⟨by rw [setX_same, setX_same], by simp⟩
  have HT8 : Hid (L2 w w7 s h g [] 2 ([] ++ [1] ++ [2]) (setX (setX X0 1 ⟨⟨#[97]⟩, ⟨#[]⟩, max 1 1, false, [], 0⟩) 2 ⟨⟨#[98]⟩, ⟨#[100]⟩, max 1 1, false, [], 0⟩) 1 ([] ++ [1]) (setX X0 1 ⟨⟨#[98]⟩, ⟨#[100]⟩, max 1 1, false, [], 0⟩)) := HT7.out.swap
  clear hkn HNEW hnew HS hhub HW hhub2 HT hwa HT5 hwb HT6 hwc HT7
  go_loopg [11, 12, 13, 14, 15] 41 (fun kx s11 s12 s13 s14 s15 wr => ∃ (i : Nat) (E : List Evd) (A B : List Int) (X Y : Int → Wd), s11 = .int .i64 i ∧ kx + i = 41 ∧ i ≤ 40 ∧ E.length ≤ i ∧ Hid (L2 w wr s h g E 2 A X 1 B Y) ∧ Hid (Ap A X B Y))
  case atStart => exact ⟨0, [], _, _, _, _, rfl, rfl, by omega, Nat.le_refl _, HT8, HAP⟩
  case round =>
    obtain ⟨i, E, A, B, X, Y, rfl, hkx, hi, hEi, HM, HA⟩ := hrel
    clear HT8 HAP
    by_cases hgo : i < zs.length ∧ i < 40
    · obtain ⟨hz, h40⟩ := hgo
      have hz' : (i : Int) < (zs.length : Int) := by omega
      have h40' : (i : Int) < 40 := by omega
      obtain ⟨b0, o0, rfl, hb0, hc0⟩ := HS0.out.at hz
      have x0 := (HM.out.below.cell (p := ⟨b0, o0 + i, none⟩) hb0).trans hc0
      obtain ⟨z, hzd⟩ : ∃ z, z = zs.getD i 0 := ⟨_, rfl⟩
      rw [← hzd] at x0
      obtain ⟨t, ht⟩ : ∃ t : Nat, (t : Int) = withinF z 4 := ⟨(withinF z 4).toNat, by have := within_bd z 4 (by decide); omega⟩
      have htb : t < 4 := by have := within_bd z 4 (by decide); omega
      have hwi := within_any z 4 wr (by decide) (by decide)
      rw [← ht] at hwi
      have hwr1 : IntKind.i64.wrap (97 + (t : Int)) = 97 + (t : Int) := by rw [IntKind.wrap_i64]; omega
      have hwr2 : IntKind.u8.wrap (97 + (t : Int)) = 97 + (t : Int) := by rw [IntKind.wrap_u8]; omega
      have hcv := kt_conv t wr
      have hput := (HM.out.later ((Below.refl _ wr).alloc (Nat.le_refl _) (.cells #[.int .u8 (97 + t : Int)] 5))).put (by omega) (kT t) (by rw [kT_size]; omega)
      clear hzd ht hc0
      go_upto_region 13 with (first
        | (go_at_call 10; refine hwi.mono ?_; rintro e w' ⟨rfl, hw'⟩; obtain rfl := hw'.symm)
        | (go_at_call 11; refine hput.mono ?_; rintro e w2 ⟨rfl, HP⟩; obtain ⟨ev, hT2⟩ := HP.out; have hf1 := hT2.feed)
        | (go_at_call 12; with_reducible refine hf1.mono ?_; rintro e w3 ⟨rfl, HF1⟩; have hf2 := HF1.out.swap.feed)
        | (go_at_call 12; with_reducible refine hf2.mono ?_; rintro e w4 ⟨rfl, HF2⟩))
      have HF : Hid (L2 w w4 s h g (E ++ [ev]) 2 A (fun i => feedE (E ++ [ev]) (X i)) 1 B (fun i => feedE (E ++ [ev]) (Y i))) := HF2.out.swap
      have HA2 : Hid (Ap A (fun i => feedE (E ++ [ev]) (X i)) B (fun i => feedE (E ++ [ev]) (Y i))) := HA.out.feed
      have hE2 : (E ++ [ev]).length ≤ i + 1 := by rw [List.length_append]; simp; omega
      clear hwi hcv hput HP hT2 hf1 HF1 hf2 HF2 x0 HM HA hwr1 hwr2
      generalize (fun i => feedE (E ++ [ev]) (X i)) = X2 at *
      generalize (fun i => feedE (E ++ [ev]) (Y i)) = Y2 at *
      generalize E ++ [ev] = E2 at *
      by_cases hp : i < ps.length
      · have hp' : (i : Int) < (ps.length : Int) := by omega
        obtain ⟨b1, o1, rfl, hb1', hc1⟩ := HS1.out.at hp
        obtain ⟨u, hu⟩ : ∃ u, u = ps.getD i 0 := ⟨_, rfl⟩
        rw [← hu] at hc1
        have HC1 : Hid (∀ W, Below w.heap.size w W → W.cell? ⟨b1, o1 + i, none⟩ = some (.int .i64 u)) := fun W hW => (hW.cell (p := ⟨b1, o1 + i, none⟩) hb1').trans hc1
        have y4 := HC1.out w4 HF.out.below
        obtain ⟨m3, hm3⟩ : ∃ m3, m3 = withinF u 3 := ⟨_, rfl⟩
        obtain ⟨m5, hm5⟩ : ∃ m5, m5 = withinF u 5 := ⟨_, rfl⟩
        have hm3b : 0 ≤ m3 ∧ m3 < 3 := by have := within_bd u 3 (by decide); omega
        have hm5b : 0 ≤ m5 ∧ m5 < 5 := by have := within_bd u 5 (by decide); omega
        have hw3 := fun W => within_any u 3 W (by decide) (by decide)
        have hw5 := fun W => within_any u 5 W (by decide) (by decide)
        rw [← hm3] at hw3
        rw [← hm5] at hw5
        have hq3 : IntKind.i64.wrap (1 + m3) = 1 + m3 := by rw [IntKind.wrap_i64]; omega
        have hq5 : IntKind.i64.wrap (1 + m5) = 1 + m5 := by rw [IntKind.wrap_i64]; omega
        have hpl := HF.out.poll 1 (by decide) (1 + m3) (1 + m3) (by omega)
        obtain ⟨A3, hA3⟩ : ∃ A3, A3 = pA A X2 1 := ⟨_, rfl⟩
        obtain ⟨X3, hX3⟩ : ∃ X3, X3 = pX E2 A X2 1 (1 + m3) := ⟨_, rfl⟩
        have HA3 : Hid (Ap A3 X3 B Y2) := by rw [hA3, hX3]; exact HA2.out.other (1 + m3)
        have e1 := HA3.out.err
        have e2 := HA3.out.list (E := E2) (1 + m5)
        have HA4 := Hid.mkW (HA3.out.both (E := E2) (1 + m5))
        rw [← hA3, ← hX3] at hpl
        obtain ⟨er, her⟩ : ∃ er, er = pE A3 X3 2 := ⟨_, rfl⟩
        obtain ⟨L, hL⟩ : ∃ L, L = pL E2 A3 X3 2 (1 + m5) := ⟨_, rfl⟩
        rw [← her] at e1
        rw [← hL] at e2
        have HP2 : Hid (∀ w5 v l, L3 w w5 s h g E2 2 A3 X3 1 B Y2 v l → L.length ≤ 1000000 ∧ Calls Try.prog 9 #[ptr h, .int .i64 2, .int .i64 (1 + m5)] w5 fun e w' => ∃ p c, e = .returned (.tuple #[.slice p L.length c, .int .i64 er]) ∧ Hid (L3 w w' s h g E2 2 (pA A3 X3 2) (pX E2 A3 X3 2 (1 + m5)) 1 B Y2 (.slice p L.length c) L)) := fun w5 v l h5 => by
          have := h5.two.poll 2 (by decide) (1 + m5) (1 + m5) (by omega)
          have h6 := pL_len h5.two (by omega) 2 (1 + m5)
          rw [← her, ← hL] at this
          rw [← hL] at h6
          exact ⟨h6, this⟩
        have HP3 : Hid (∀ w6 v l, L3 w w6 s h g E2 2 (pA A3 X3 2) (pX E2 A3 X3 2 (1 + m5)) 1 B Y2 v l → Calls Try.prog 9 #[ptr g, .int .i64 1, .int .i64 (1 + m5)] w6 fun e w' => ∃ p c, e = .returned (.tuple #[.slice p L.length c, .int .i64 er]) ∧ Hid (L2 w w' s h g E2 2 (pA A3 X3 2) (pX E2 A3 X3 2 (1 + m5)) 1 (pA B Y2 1) (pX E2 B Y2 1 (1 + m5)) ∧ EVs w' v l ∧ EVs w' (.slice p L.length c) L)) := fun w6 v l h6 => by
          have := h6.poll 1 (by decide) (1 + m5) (1 + m5) (by omega)
          rw [e1, e2] at this
          exact this
        have hqe : (er != er) = false := by simp
        clear hc1 hu hm3 hm5 hA3 hX3 her hL e1 e2 HA2
        go_upto_region 17 with (first
          | (go_at_call 10; with_reducible refine (hw3 _).mono ?_; rintro e w' ⟨rfl, hw'⟩; obtain rfl := hw'.symm)
          | (go_at_call 10; with_reducible refine (hw5 _).mono ?_; rintro e w' ⟨rfl, hw'⟩; obtain rfl := hw'.symm)
          | (go_at_call 9; with_reducible refine hpl.mono ?_; rintro e w5 ⟨p5, c5, rfl, HQ5⟩; obtain ⟨hLl, hpl2⟩ := HP2.out w5 _ _ HQ5.out; have y5 := HC1.out w5 HQ5.out.two.below)
          | (go_at_call 9; with_reducible refine hpl2.mono ?_; rintro e w6 ⟨p6, c6, rfl, HQ6⟩; have hpl3 := HP3.out w6 _ _ HQ6.out; have y6 := HC1.out w6 HQ6.out.two.below)
          | (go_at_call 9; with_reducible refine hpl3.mono ?_; rintro e w7 ⟨p7, c7, rfl, HQ7⟩))
        have hsame := same_evs HQ7.out.2.1 HQ7.out.2.2 hLl
        have HQ8 := HQ7
        clear HP2 HP3 hpl hpl2 hpl3 HQ5 HQ6 hw3 hw5 HF
        go_wp2_with (first | (go_at_call 14; refine hsame.mono ?_; rintro e w8 ⟨rfl, hb8⟩))
        go_roundg (40 - i)
        case measure => omega
        case rel => exact ⟨i + 1, E2, _, _, _, _, by congr 1, by omega, by omega, hE2, HQ8.out.1.later hb8, HA4⟩
      · have hp' : ¬ (i : Int) < (ps.length : Int) := by omega
        go_wp2
        go_roundg (40 - i)
        case measure => omega
        case rel => exact ⟨i + 1, E2, A, B, X2, Y2, by congr 1, by omega, by omega, hE2, HF, HA2⟩
    · have hend : ¬ (i : Int) < (zs.length : Int) ∨ ((i : Int) < (zs.length : Int) ∧ ¬ (i : Int) < 40) := by omega
      rcases hend with h1 | ⟨h1, h2⟩
      · go_wp2
        go_ret
        exact ⟨rfl, HM.out.below⟩
      · go_wp2
        go_ret
        exact ⟨rfl, HM.out.below⟩
end Go.Proofs.Ytjdmgmnndfhmgaa
