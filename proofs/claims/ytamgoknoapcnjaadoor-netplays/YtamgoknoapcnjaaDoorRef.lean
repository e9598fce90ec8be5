/- What the document's own reader does: the same as the program's. -/
import Derived.Test.YtamgoknoapcnjaaDoorKept
namespace Go.Proofs.YtamgoknoapcnjaaDoor
open Go Go.RowKit
/-- The document's own reader at block b. -/
structure Rf (w : World) (b : Nat) (v : Value) (xs : List Int) (a : Nat) (e : Int) : Prop where
  c0 : w.cell? ⟨b, 0, none⟩ = some v
  c1 : w.cell? ⟨b, 1, none⟩ = some (.int .i64 a)
  c2 : w.cell? ⟨b, 2, none⟩ = some (.bool (!(e == 0)))
  f1 : w.frozen? ⟨b, 1, none⟩ = false
  f2 : w.frozen? ⟨b, 2, none⟩ = false
  sees : Sees w v xs
  ne : ∀ k, v.ownBlock = some k → 0 < xs.length → k ≠ b
  er : e = 0 ∨ e = 8
  le : a ≤ xs.length
  small : xs.length ≤ 1000000
  bytes : isB xs
theorem Rf.lt {w : World} {b : Nat} {v : Value} {xs : List Int} {a : Nat} {e : Int} (h : Rf w b v xs a e) : b < w.heap.size := World.block_lt_of_cell? _ _ h.c0
theorem Rf.upd {w w' : World} {S : Nat → Prop} {b : Nat} {v : Value} {xs : List Int} {a : Nat} {e : Int} (h : Rf w b v xs a e) (hu : Upd w w' S) (h1 : ¬ S b) (h2 : ∀ k, v.ownBlock = some k → 0 < xs.length → ¬ S k) : Rf w' b v xs a e :=
  have hl := h.lt
  ⟨(hu.cell (p := ⟨b, 0, none⟩) hl h1).trans h.c0, (hu.cell (p := ⟨b, 1, none⟩) hl h1).trans h.c1, (hu.cell (p := ⟨b, 2, none⟩) hl h1).trans h.c2,
   (hu.frozen (p := ⟨b, 1, none⟩) hl h1).trans h.f1, (hu.frozen (p := ⟨b, 2, none⟩) hl h1).trans h.f2, h.sees.upd hu h2, h.ne, h.er, h.le, h.small, h.bytes⟩
theorem Rf.drewN {w : World} {b : Nat} {v : Value} {xs : List Int} {a : Nat} {e : Int} (h : Rf w b v xs a e) (n : Nat) : Rf (w.drewN n) b v xs a e := h.upd (Upd.drewN w n (fun _ => False)) (fun h => h) (fun _ _ _ h => h)
theorem Rf.cut {w : World} {b : Nat} {v : Value} {xs : List Int} {a : Nat} {e : Int} (h : Rf w b v xs a e) : Rf (w.setCell ⟨b, 2, none⟩ (.bool true)) b v xs a 8 := by
  have hset : Upd w (w.setCell ⟨b, 2, none⟩ (.bool true)) (fun k => k = b) := (Upd.refl w (fun k => k = b)).setCell (p := ⟨b, 2, none⟩) (.inr rfl) _
  refine ⟨?_, ?_, World.cell?_setCell_same _ _ _ h.c2, by rw [World.frozen?_setCell]; exact h.f1, by rw [World.frozen?_setCell]; exact h.f2, h.sees.upd hset (fun k hk h0 e => h.ne k hk h0 e), h.ne, .inr rfl, h.le, h.small, h.bytes⟩
  · rw [World.cell?_setCell_other _ _ _ _ (by simp)]; exact h.c0
  · rw [World.cell?_setCell_other _ _ _ _ (by simp)]; exact h.c1
theorem Rf.go {w : World} {b : Nat} {v : Value} {xs : List Int} {a : Nat} {e : Int} (h : Rf w b v xs a e) (a' : Nat) (hle : a' ≤ xs.length) : Rf (w.setCell ⟨b, 1, none⟩ (.int .i64 a')) b v xs a' e := by
  have hset : Upd w (w.setCell ⟨b, 1, none⟩ (.int .i64 a')) (fun k => k = b) := (Upd.refl w (fun k => k = b)).setCell (p := ⟨b, 1, none⟩) (.inr rfl) _
  refine ⟨?_, World.cell?_setCell_same _ _ _ h.c1, ?_, by rw [World.frozen?_setCell]; exact h.f1, by rw [World.frozen?_setCell]; exact h.f2, h.sees.upd hset (fun k hk h0 e => h.ne k hk h0 e), h.ne, h.er, hle, h.small, h.bytes⟩
  · rw [World.cell?_setCell_other _ _ _ _ (by simp)]; exact h.c0
  · rw [World.cell?_setCell_other _ _ _ _ (by simp)]; exact h.c2
def RfPost (w w' : World) (b : Nat) (v : Value) (xs : List Int) (a : Nat) (e : Int) : Prop := Rf w' b v xs a e ∧ Upd w w' (fun k => k = b)

set_option maxRecDepth 100000 in
set_option maxHeartbeats 400000 in
theorem fnum_err (b : Nat) (v : Value) (xs : List Int) (a : Nat) (n : Nat) (w : World) (hr : Rf w b v xs a 8) :
    Calls Tryd.prog 76 #[.pointer (some ⟨b, 0, none⟩), .int .i64 n] w fun e w' => e = .returned (.int .u64 0) ∧ RfPost w w' b v xs a 8 := by
  have h2 : w.cell? ⟨b, 2, none⟩ = some (.bool true) := hr.c2
  have hf2 := hr.f2
  have HR : Hid (Rf w b v xs a 8) := hr
  clear hr
  go_enter Tryd.func76, Tryd.ntmps76
  go_wp2
  go_quiet (fail)
  go_wp2
  go_ret
  exact ⟨rfl, (HR.out.drewN _).cut, (Upd.drewN w _ (fun k => k = b)).setCell (p := ⟨b, 2, none⟩) (.inr rfl) _⟩
set_option maxRecDepth 100000 in
set_option maxHeartbeats 400000 in
theorem fnum_cut (b : Nat) (v : Value) (xs : List Int) (a : Nat) (n : Nat) (w : World) (hr : Rf w b v xs a 0) (hn : (xs.length : Int) - a < n) :
    Calls Tryd.prog 76 #[.pointer (some ⟨b, 0, none⟩), .int .i64 n] w fun e w' => e = .returned (.int .u64 0) ∧ RfPost w w' b v xs a 8 := by
  obtain ⟨ao, cap, rfl, _, _⟩ := hr.sees.form
  have h0 := hr.c0
  have h1 := hr.c1
  have h2 : w.cell? ⟨b, 2, none⟩ = some (.bool false) := hr.c2
  have hf2 := hr.f2
  have hle := hr.le
  have hsm := hr.small
  have HR : Hid (Rf w b _ xs a 0) := hr
  clear hr
  go_enter Tryd.func76, Tryd.ntmps76
  go_wp2
  go_quiet (fail)
  go_wp2
  go_ret
  exact ⟨rfl, (HR.out.drewN _).cut, (Upd.drewN w _ (fun k => k = b)).setCell (p := ⟨b, 2, none⟩) (.inr rfl) _⟩
theorem ret_str {a b : ByteArray} (h : a = b) : Ending.returned (.string a) = .returned (.string b) := by rw [h]
theorem ret_u64 {a b : Int} (h : a = b) : Ending.returned (.int .u64 a) = .returned (.int .u64 b) := by rw [h]
theorem rd_drop_step {xs : List Int} {a k : Nat} (h : a + k < xs.length) : rd ((xs.drop a).take (k + 1)) = rd ((xs.drop a).take k) * 256 + xs[a + k]?.getD 0 := by
  rw [rd_step (by simp; omega)]
  simp [List.getElem?_eq_getElem h]
theorem rd_drop_bd {xs : List Int} (hb : isB xs) {a k : Nat} (h8 : k < 8) (h : a + k < xs.length) : 0 ≤ rd ((xs.drop a).take k) ∧ rd ((xs.drop a).take k) * 256 + 255 < 18446744073709551616 ∧ 0 ≤ xs[a + k]?.getD 0 ∧ xs[a + k]?.getD 0 ≤ 255 := by
  have h1 := rd_take_bd (zs := ((xs.drop a).take 8)) (fun x hx => hb x (List.mem_of_mem_drop (List.mem_of_mem_take hx))) (by simp; omega) (k := k) (by simp; omega)
  rw [List.take_take, Nat.min_eq_left (by omega)] at h1
  have h2 := isB_getD hb (a + k)
  rw [List.getD_eq_getElem?_getD] at h2
  exact ⟨h1.1, h1.2, h2.1, h2.2⟩

set_option maxRecDepth 100000 in
set_option maxHeartbeats 400000 in
theorem fnum_ok (b : Nat) (v : Value) (xs : List Int) (a : Nat) (n : Nat) (w : World) (hr : Rf w b v xs a 0) (hn : a + n ≤ xs.length) (h8 : n ≤ 8) (hpos : 0 < n) :
    Calls Tryd.prog 76 #[.pointer (some ⟨b, 0, none⟩), .int .i64 n] w fun e w' => e = .returned (.int .u64 (rd ((xs.drop a).take n))) ∧ RfPost w w' b v xs (a + n) 0 := by
  obtain ⟨b0, off, cap, rfl, hx0, hcap, _, hc⟩ : ∃ b0 off cap, v = .slice (some ⟨b0, off, none⟩) xs.length cap ∧ 0 < xs.length ∧ xs.length ≤ cap ∧ cap ≤ maxLen ∧ ∀ i, i < xs.length → w.cell? ⟨b0, off + i, none⟩ = some (.int .u8 (xs.getD i 0)) := by
    rcases hr.sees with ⟨h, _⟩ | h
    · subst h; simp at hn; omega
    · exact h
  have h0 := hr.c0
  have h1 := hr.c1
  have h2 : w.cell? ⟨b, 2, none⟩ = some (.bool false) := hr.c2
  have hf1 := hr.f1
  have hle := hr.le
  have hsm := hr.small
  have HB : Hid (isB xs) := hr.bytes
  have HR : Hid (Rf w b _ xs a 0) := hr
  have hd : decide ((xs.length : Int) - a < (n : Int)) = false := by simp; omega
  clear hr
  go_enter Tryd.func76, Tryd.ntmps76
  go_wp2
  go_quiet (fail)
  go_wp2
  go_loopw [5, 6] (fun s i wr => ∃ k m : Nat, k ≤ n ∧ i = .int .i64 k ∧ s = .int .u64 (rd ((xs.drop a).take k)) ∧ wr = w.drewN m) (fun _ i _ => n - (intOf i).toNat)
  case atStart => exact ⟨0, _, Nat.zero_le _, rfl, rfl, rfl⟩
  case round =>
    obtain ⟨k, m, hk, rfl, rfl, rfl⟩ := hrel
    by_cases hlt : k < n
    · have hck := hc (a + k) (by omega)
      have hak : (a : Int) + k < xs.length := by omega
      have hak0 : (0 : Int) ≤ (a : Int) + k := by omega
      clear hc
      go_wp2
      go_quiet (fail)
      go_wp2
      have hbd := rd_drop_bd HB.out (a := a) (k := k) (by omega) (by omega)
      go_roundw
      case rel => exact ⟨k + 1, _, by omega, by go_num, by rw [or_u64 _ _ hbd.1 hbd.2.1 hbd.2.2.1 hbd.2.2.2, rd_drop_step (by omega)], rfl⟩
      case measure => simp [intOf]; omega
    · clear hc
      have hkn : Hid (k = n) := (by omega : k = n)
      go_wp2
      go_ret
      have e1 : (a : Int) + n = ((a + n : Nat) : Int) := by omega
      rw [e1]
      exact ⟨ret_u64 (by rw [hkn.out]), (HR.out.drewN m).go _ hn, (Upd.drewN w m (fun k => k = b)).setCell (p := ⟨b, 1, none⟩) (.inr rfl) _⟩
theorem fnum (b : Nat) (v : Value) (xs : List Int) (a : Nat) (e : Int) (n : Nat) (w : World) (hr : Rf w b v xs a e) (h8 : n ≤ 8) (hpos : 0 < n) :
    Calls Tryd.prog 76 #[.pointer (some ⟨b, 0, none⟩), .int .i64 n] w fun en w' => en = .returned (.int .u64 (rd (takeB xs a e n))) ∧ RfPost w w' b v xs (takeA xs a e n) (takeE xs a e n) := by
  by_cases h : okT xs a e n = true
  · obtain ⟨rfl, hn⟩ := of_decide_eq_true h
    refine (fnum_ok b v xs a n w hr hn h8 hpos).mono ?_
    rintro en w' ⟨rfl, h1⟩
    exact ⟨by rw [takeB, if_pos h], by rw [takeA, takeE, if_pos h, if_pos h]; exact h1⟩
  · have hz : ¬ (e = 0 ∧ a + n ≤ xs.length) := fun hh => h (decide_eq_true hh)
    have fin : ∀ (en : Ending) (w' : World), (en = .returned (.int .u64 0) ∧ RfPost w w' b v xs a 8) → en = .returned (.int .u64 (rd (takeB xs a e n))) ∧ RfPost w w' b v xs (takeA xs a e n) (takeE xs a e n) := by
      rintro en w' ⟨rfl, h1⟩
      exact ⟨by rw [takeB, if_neg h]; rfl, by rw [takeA, takeE, if_neg h, if_neg h]; exact h1⟩
    rcases hr.er with rfl | rfl
    · exact (fnum_cut b v xs a n w hr (by omega)).mono fin
    · exact (fnum_err b v xs a n w hr).mono fin
set_option maxRecDepth 100000 in
set_option maxHeartbeats 400000 in
theorem fU8 (b : Nat) (v : Value) (xs : List Int) (a : Nat) (e : Int) (w : World) (hr : Rf w b v xs a e) :
    Calls Tryd.prog 38 #[.pointer (some ⟨b, 0, none⟩)] w fun en w' => en = .returned (.int .i64 (wrap64 (rd (takeB xs a e 1)))) ∧ RfPost w w' b v xs (takeA xs a e 1) (takeE xs a e 1) := by
  have hnum := fnum b v xs a e 1 w hr (by omega) (by omega)
  go_enter Tryd.func38, Tryd.ntmps38
  go_wp2_with (go_at_call 76; refine hnum.mono ?_; rintro e w1 ⟨rfl, hp⟩)
  go_ret
  exact ⟨rfl, hp⟩
set_option maxRecDepth 100000 in
set_option maxHeartbeats 400000 in
theorem fU32 (b : Nat) (v : Value) (xs : List Int) (a : Nat) (e : Int) (w : World) (hr : Rf w b v xs a e) :
    Calls Tryd.prog 75 #[.pointer (some ⟨b, 0, none⟩)] w fun en w' => en = .returned (.int .i64 (wrap64 (rd (takeB xs a e 4)))) ∧ RfPost w w' b v xs (takeA xs a e 4) (takeE xs a e 4) := by
  have hnum := fnum b v xs a e 4 w hr (by omega) (by omega)
  go_enter Tryd.func75, Tryd.ntmps75
  go_wp2_with (go_at_call 76; refine hnum.mono ?_; rintro e w1 ⟨rfl, hp⟩)
  go_ret
  exact ⟨rfl, hp⟩
set_option maxRecDepth 100000 in
set_option maxHeartbeats 400000 in
theorem fInt (b : Nat) (v : Value) (xs : List Int) (a : Nat) (e : Int) (w : World) (hr : Rf w b v xs a e) :
    Calls Tryd.prog 39 #[.pointer (some ⟨b, 0, none⟩)] w fun en w' => en = .returned (.int .i64 (wrap64 (rd (takeB xs a e 8)))) ∧ RfPost w w' b v xs (takeA xs a e 8) (takeE xs a e 8) := by
  have hnum := fnum b v xs a e 8 w hr (by omega) (by omega)
  go_enter Tryd.func39, Tryd.ntmps39
  go_wp2_with (go_at_call 76; refine hnum.mono ?_; rintro e w1 ⟨rfl, hp⟩)
  go_ret
  exact ⟨rfl, hp⟩
set_option maxRecDepth 100000 in
set_option maxHeartbeats 400000 in
theorem fText (b : Nat) (v : Value) (xs : List Int) (a : Nat) (e : Int) (w : World) (hr : Rf w b v xs a e) :
    Calls Tryd.prog 40 #[.pointer (some ⟨b, 0, none⟩)] w fun en w' => en = .returned (.string (strOfNums (textB xs a e))) ∧ RfPost w w' b v xs (textA xs a e) (textE xs a e) := by
  have h1 := hr.c1
  go_enter Tryd.func40, Tryd.ntmps40
  go_wp2_with (first | (go_at_call 75; refine (fU32 _ _ _ _ _ _ hr).mono ?_; rintro e w1 ⟨rfl, hp⟩))
  rw [textN_eq hr.bytes]
  have HN : Hid (∀ x y, x = takeA xs a e 4 → y = takeE xs a e 4 → textE xs a e = takeE xs x y (textN xs a e) ∧ textB xs a e = takeB xs x y (textN xs a e) ∧ textA xs a e = if textE xs a e = 0 then takeA xs x y (textN xs a e) else a) := by
    rintro x y rfl rfl; exact ⟨rfl, rfl, rfl⟩
  have hA4 : takeE xs a e 4 = 0 → 4 ≤ takeA xs a e 4 := by
    unfold takeE takeA; split
    · intro _; omega
    · intro h; cases h
  have hle := hr.le
  have HX : Hid (takeA xs a e 4 = takeA xs a e 4) := rfl
  have HUP := hp.2
  have hr1 := hp.1
  clear hp HX hr
  generalize hN : textN xs a e = N at HN ⊢
  obtain ⟨a1, ha1⟩ : ∃ a1, a1 = takeA xs a e 4 := ⟨_, rfl⟩
  obtain ⟨e1, he1⟩ : ∃ e1, e1 = takeE xs a e 4 := ⟨_, rfl⟩
  obtain ⟨hE, hBB, hAA⟩ := HN.out a1 e1 ha1 he1
  rw [← ha1, ← he1] at hr1 hA4
  clear HN hN ha1 he1
  have g1 := hr1.c1
  have g2 := hr1.c2
  have gf1 := hr1.f1
  have gf2 := hr1.f2
  have hle1 := hr1.le
  have hsm := hr1.small
  have g0 := hr1.c0
  have HR : Hid (Rf w1 b v xs a1 e1) := hr1
  have HU : Hid (Upd w w1 (fun k => k = b)) := HUP
  clear HUP
  have fin : ∀ m, RfPost w ((w1.drewN m |>.setCell ⟨b, 2, none⟩ (.bool true)) |>.setCell ⟨b, 1, none⟩ (.int .i64 a)) b v xs a 8 := fun m =>
    ⟨((HR.out.drewN m).cut).go a hle, ((HU.out.trans (Upd.drewN w1 m (fun k => k = b)) (fun _ _ h => h)).setCell (p := ⟨b, 2, none⟩) (.inr rfl) _).setCell (p := ⟨b, 1, none⟩) (.inr rfl) _⟩
  rcases hr1.er with rfl | rfl
  · by_cases hn : a1 + N ≤ xs.length
    · have hok : okT xs a1 0 N = true := by simp [okT, hn]
      rw [takeE, if_pos hok] at hE
      rw [takeB, if_pos hok] at hBB
      rw [hE, if_pos rfl, takeA, if_pos hok] at hAA
      have HT : Hid (textE xs a e = 0 ∧ textB xs a e = (xs.drop a1).take N ∧ textA xs a e = a1 + N) := ⟨hE, hBB, hAA⟩
      clear hE hBB hAA
      have h4 := hA4 rfl
      obtain ⟨b0, off, cap, rfl, hx0, hcap, hcm, hc⟩ : ∃ b0 off cap, v = .slice (some ⟨b0, off, none⟩) xs.length cap ∧ 0 < xs.length ∧ xs.length ≤ cap ∧ cap ≤ maxLen ∧ ∀ i, i < xs.length → w1.cell? ⟨b0, off + i, none⟩ = some (.int .u8 (xs.getD i 0)) := by
        rcases hr1.sees with ⟨h, _⟩ | h
        · subst h; simp at hle1; omega
        · exact h
      have fok : ∀ m, RfPost w ((w1.drewN m).setCell ⟨b, 1, none⟩ (.int .i64 ((a1 + N : Nat) : Int))) b (.slice (some ⟨b0, off, none⟩) xs.length cap) xs (a1 + N) 0 := fun m =>
        ⟨(HR.out.drewN m).go (a1 + N) hn, (HU.out.trans (Upd.drewN w1 m (fun k => k = b)) (fun _ _ h => h)).setCell (p := ⟨b, 1, none⟩) (.inr rfl) _⟩
      have g3 : w1.cell? ⟨b, 2, none⟩ = some (.bool false) := g2
      have hd : decide ((xs.length : Int) - a1 < (N : Int)) = false := by simp; omega
      have hcv : ∀ m c, (convert 26 9 (.slice (some ⟨b0, off + a1, none⟩) N c)).run Tryd.prog (w1.drewN m) = .ok (.string (strOfNums ((xs.drop a1).take N))) (w1.drewN m) := fun m c =>
        run_convert_bytes_arg _ 26 5 Tryd.underlying26 Tryd.underlying5 b0 (off + a1) N c ((xs.drop a1).take N) (by simp; omega) (fun i hi => by
          have := hc (a1 + i) (by omega)
          rw [show off + a1 + i = off + (a1 + i) by omega]
          refine Eq.trans this ?_
          simp [List.getD_eq_getElem?_getD, hi]) 9 Tryd.underlying9
      have hc0 : ∀ m, (convert 26 9 (.slice (some ⟨b0, off, none⟩) 0 0)).run Tryd.prog (w1.drewN m) = .ok (.string (strOfNums [])) (w1.drewN m) := fun m => conv_sees (.inl ⟨rfl, _, _, rfl, (fun e => by cases e), by decide⟩)
      have hi1 : (a1 : Int) ≤ (a1 : Int) + N := by omega
      have hi2 : (a1 : Int) + N ≤ cap := by omega
      clear hc hr1 g2
      by_cases hca : cap = a1
      · obtain rfl : N = 0 := by omega
        go_quiet (fail)
        go_wp2
        go_quiet (fail)
        go_wp2
        go_ret
        exact ⟨ret_str (by rw [HT.out.2.1]; rfl), by rw [HT.out.1, HT.out.2.2]; exact fok _⟩
      · go_quiet (fail)
        go_wp2
        go_quiet (fail)
        go_wp2
        go_ret
        have e1 : (a1 : Int) + N = ((a1 + N : Nat) : Int) := by omega
        rw [e1]
        exact ⟨ret_str (by rw [HT.out.2.1]), by rw [HT.out.1, HT.out.2.2]; exact fok _⟩
    · have hok : ¬ okT xs a1 0 N = true := by simp [okT]; omega
      rw [takeE, if_neg hok] at hE
      rw [takeB, if_neg hok] at hBB
      rw [hE, if_neg (by decide)] at hAA
      have HT : Hid (textE xs a e = 8 ∧ textB xs a e = [] ∧ textA xs a e = a) := ⟨hE, hBB, hAA⟩
      clear hE hBB hAA
      obtain ⟨ao, cap, rfl, _, _⟩ := hr1.sees.form
      have g3 : w1.cell? ⟨b, 2, none⟩ = some (.bool false) := g2
      have hd : (xs.length : Int) - a1 < (N : Int) := by omega
      clear hr1 g2
      go_quiet (fail)
      go_wp2
      go_ret
      exact ⟨ret_str (by rw [HT.out.2.1]; rfl), by rw [HT.out.1, HT.out.2.2]; exact fin _⟩
  · have hok : ¬ okT xs a1 8 N = true := by simp [okT]
    rw [takeE, if_neg hok] at hE
    rw [takeB, if_neg hok] at hBB
    rw [hE, if_neg (by decide)] at hAA
    have HT : Hid (textE xs a e = 8 ∧ textB xs a e = [] ∧ textA xs a e = a) := ⟨hE, hBB, hAA⟩
    clear hE hBB hAA
    have g3 : w1.cell? ⟨b, 2, none⟩ = some (.bool true) := g2
    clear hr1 g2
    go_quiet (fail)
    go_wp2
    go_ret
    exact ⟨ret_str (by rw [HT.out.2.1]; rfl), by rw [HT.out.1, HT.out.2.2]; exact fin _⟩
end Go.Proofs.YtamgoknoapcnjaaDoor
