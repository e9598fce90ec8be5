/- What Unframe of package pen does; what becomes of a frame, a number, a text that are read again. -/
import Derived.Test.YtdcpfjlnagigaaaGreatDoorPRead
import Derived.Deep.RegionWith
namespace Go.Proofs.YtdcpfjlnagigaaaGreatDoor
open Go Go.RowKit
def unfL (xs : List Int) : Nat := (rd (xs.take 4)).toNat
def unfS (xs : List Int) : Int := rd ((xs.drop 4).take 4)
def unfB (xs : List Int) : List Int := (xs.drop 8).take (unfL xs)
def unfE (xs : List Int) : Int := if xs.length < 8 then 8 else if 16777216 < unfL xs then 5 else if xs.length < 8 + unfL xs then 8 else if (crc (unfB xs) : Int) = unfS xs then 0 else 12
def unfR (xs : List Int) : List Int := if unfE xs = 0 then unfB xs else []
def unfN (xs : List Int) : Nat := if unfE xs = 0 then 8 + unfL xs else 0

theorem sees_cut {w : World} {b0 off : Nat} {xs : List Int} (hc : ∀ i, i < xs.length → w.cell? ⟨b0, off + i, none⟩ = some (.int .u8 (xs.getD i 0))) (a n c : Nat) (hn : a + n ≤ xs.length) (hcc : n ≤ c) (hcm : c ≤ maxLen) :
    Sees w (.slice (some ⟨b0, off + a, none⟩) n c) ((xs.drop a).take n) := by
  by_cases h0 : n = 0
  · subst h0
    exact .inl ⟨by simp, _, c, rfl, (fun e => by cases e), hcm⟩
  · have hl : ((xs.drop a).take n).length = n := by simp; omega
    refine .inr ⟨b0, off + a, c, by rw [hl], by omega, by omega, hcm, fun i hi => ?_⟩
    have := hc (a + i) (by omega)
    rw [show off + a + i = off + (a + i) by omega, this]
    have hin : i < n := by omega
    simp [List.getD_eq_getElem?_getD, hin]
theorem isB_part {xs : List Int} (h : isB xs) (a n : Nat) : isB ((xs.drop a).take n) := fun x hx => h x (List.mem_of_mem_drop (List.mem_of_mem_take hx))

set_option maxHeartbeats 1000000 in
theorem unframe_any (v : Value) (xs : List Int) (w : World) (hT : HasTab w) (hb : isB xs) (hl : xs.length ≤ 100000) (hv : Sees w v xs) :
    Calls Tryz.prog 101 #[v] w fun e w' => ∃ v', e = .returned (.tuple #[v', .int .i64 (unfN xs), .int .i64 (unfE xs)]) ∧ Sees w' v' (unfR xs) ∧ Below w.heap.size w w' := by
  by_cases h8 : xs.length < 8
  · obtain ⟨ao, cap, rfl, _, _⟩ := hv.formP
    have hE : unfE xs = 8 := by rw [unfE, if_pos h8]
    have hR : unfR xs = [] := by rw [unfR, hE]; rfl
    have hN : unfN xs = 0 := by rw [unfN, hE]; rfl
    rw [hE, hR, hN]
    go_enter Tryz.func101, Tryz.ntmps101
    go_wp2
    go_ret3
    exact ⟨_, rfl, .inl ⟨rfl, _, _, rfl, (fun _ => rfl), by decide⟩, Below.refl _ _⟩
  · obtain ⟨b0, off, cap, rfl, hx0, hcap, hcm, hc⟩ : ∃ b0 off cap, v = .slice (some ⟨b0, off, none⟩) xs.length cap ∧ 0 < xs.length ∧ xs.length ≤ cap ∧ cap ≤ maxLen ∧ ∀ i, i < xs.length → w.cell? ⟨b0, off + i, none⟩ = some (.int .u8 (xs.getD i 0)) := by
      rcases hv with ⟨h, _⟩ | h
      · subst h; simp at h8
      · exact h
    have hL := rd_le (isB_part hb 0 4) (by simp; omega)
    have hS := rd_le (isB_part hb 4 4) (by simp; omega)
    have hL0 : rd (xs.take 4) = (unfL xs : Int) := by unfold unfL; simp only [List.drop_zero] at hL; omega
    have hLb : unfL xs < 4294967296 := by simp only [List.drop_zero] at hL; omega
    have hS0 : 0 ≤ unfS xs ∧ unfS xs < 4294967296 := hS
    have hf1 : Calls Tryz.prog 123 #[.slice (some ⟨b0, off, none⟩) 4 cap] w fun e w' => e = .returned (.int .u64 (unfL xs : Int)) ∧ w' = w := by
      have := fbe_any _ ((xs.drop 0).take 4) w (sees_cut hc 0 4 cap (by omega) (by omega) hcm) (by simp; omega) (isB_part hb 0 4)
      rw [List.drop_zero, hL0] at this
      exact this
    have hf2 : Calls Tryz.prog 123 #[.slice (some ⟨b0, off + 4, none⟩) 4 (cap - 4)] w fun e w' => e = .returned (.int .u64 (unfS xs)) ∧ w' = w :=
      fbe_any _ ((xs.drop 4).take 4) w (sees_cut hc 4 4 (cap - 4) (by omega) (by omega) (by omega)) (by simp; omega) (isB_part hb 4 4)
    have HP : Hid (∀ c, xs.length ≥ 8 + unfL xs → unfL xs ≤ c → c ≤ maxLen → Sees w (.slice (some ⟨b0, off + 8, none⟩) (unfL xs) c) (unfB xs)) := fun c h1 h2 h3 => sees_cut hc 8 _ c (by omega) h2 h3
    have hPB : isB (unfB xs) := isB_part hb 8 _
    have hPl : (unfB xs).length ≤ 100000 := by unfold unfB; simp; omega
    have HE : Hid (unfE xs = if 16777216 < unfL xs then 5 else if xs.length < 8 + unfL xs then 8 else if (crc (unfB xs) : Int) = unfS xs then 0 else 12) := by show _ = _; rw [unfE, if_neg h8]
    have HR : Hid (unfR xs = if unfE xs = 0 then unfB xs else []) := rfl
    have HN : Hid (unfN xs = if unfE xs = 0 then 8 + unfL xs else 0) := rfl
    have HC : Hid (crc (unfB xs) < 4294967296) := crc_lt _
    have HZ : Hid (unfL xs = 0 → unfB xs = []) := fun h => by unfold unfB; rw [h]; simp
    have h80 : 8 ≤ xs.length := by omega
    clear hc hL hS hL0
    generalize unfL xs = L at *
    generalize unfS xs = S at *
    generalize unfB xs = P at *
    by_cases hbig : 16777216 < L
    · have hE : unfE xs = 5 := by rw [HE.out, if_pos hbig]
      have hR : unfR xs = [] := by rw [HR.out, hE]; rfl
      have hN : unfN xs = 0 := by rw [HN.out, hE]; rfl
      rw [hE, hR, hN]
      go_enter Tryz.func101, Tryz.ntmps101
      go_wp2_with (go_at_call 123; first | (with_reducible refine hf1.mono ?_; rintro e w1 ⟨rfl, rfl⟩) | (with_reducible refine hf2.mono ?_; rintro e w1 ⟨rfl, rfl⟩))
      go_ret3
      exact ⟨_, rfl, .inl ⟨rfl, _, _, rfl, (fun _ => rfl), by decide⟩, Below.refl _ _⟩
    · by_cases hcut : xs.length < 8 + L
      · have hE : unfE xs = 8 := by rw [HE.out, if_neg hbig, if_pos hcut]
        have hR : unfR xs = [] := by rw [HR.out, hE]; rfl
        have hN : unfN xs = 0 := by rw [HN.out, hE]; rfl
        rw [hE, hR, hN]
        go_enter Tryz.func101, Tryz.ntmps101
        go_wp2_with (go_at_call 123; first | (with_reducible refine hf1.mono ?_; rintro e w1 ⟨rfl, rfl⟩) | (with_reducible refine hf2.mono ?_; rintro e w1 ⟨rfl, rfl⟩))
        go_ret3
        exact ⟨_, rfl, .inl ⟨rfl, _, _, rfl, (fun _ => rfl), by decide⟩, Below.refl _ _⟩
      · have hsum : ∀ v, Sees w v P → Calls Tryz.prog 90 #[v] w fun e w' => e = .returned (.int .u32 (crc P)) ∧ w' = w := fun v hs => sum_any v P w hT hPB (by omega) hs
        have HC' := HC.out
        by_cases heq : (crc P : Int) = S
        · have hE : unfE xs = 0 := by rw [HE.out, if_neg hbig, if_neg hcut, if_pos heq]
          have hR : unfR xs = P := by rw [HR.out, hE]; rfl
          have hN : unfN xs = 8 + L := by rw [HN.out, hE]; rfl
          rw [hE, hR, hN]
          clear HE HR HN
          subst heq
          by_cases hca : cap = 8
          · obtain rfl : L = 0 := by omega
            obtain rfl := HZ.out rfl
            subst hca
            have hf2 : Calls Tryz.prog 123 #[.slice (some ⟨b0, off + 4, none⟩) 4 4] w _ := hf2
            have hsA : Sees w (.slice (some ⟨b0, off, none⟩) 0 0) [] := .inl ⟨rfl, _, _, rfl, (fun e => by cases e), by decide⟩
            go_enter Tryz.func101, Tryz.ntmps101
            go_wp2_with (first | (go_at_call 123; first | (with_reducible refine hf1.mono ?_; rintro e w1 ⟨rfl, rfl⟩) | (with_reducible refine hf2.mono ?_; rintro e w1 ⟨rfl, rfl⟩)) | (go_at_call 90; refine (hsum _ hsA).mono ?_; rintro e w1 ⟨rfl, rfl⟩) | (go_at_call 91; refine (clone_any _ _ _ hsA (by simp)).mono ?_; rintro e w1 ⟨v', rfl, k1, k2⟩))
            go_ret3
            exact ⟨_, rfl, sees_own k1, k2⟩
          · have hsA := HP.out (cap - 8) (by omega) (by omega) (by omega)
            go_enter Tryz.func101, Tryz.ntmps101
            go_wp2_with (first | (go_at_call 123; first | (with_reducible refine hf1.mono ?_; rintro e w1 ⟨rfl, rfl⟩) | (with_reducible refine hf2.mono ?_; rintro e w1 ⟨rfl, rfl⟩)) | (go_at_call 90; refine (hsum _ hsA).mono ?_; rintro e w1 ⟨rfl, rfl⟩) | (go_at_call 91; refine (clone_any _ _ _ hsA (by omega)).mono ?_; rintro e w1 ⟨v', rfl, k1, k2⟩))
            go_ret3
            exact ⟨_, by simp, sees_own k1, k2⟩
        · have hE : unfE xs = 12 := by rw [HE.out, if_neg hbig, if_neg hcut, if_neg heq]
          have hR : unfR xs = [] := by rw [HR.out, hE]; rfl
          have hN : unfN xs = 0 := by rw [HN.out, hE]; rfl
          rw [hE, hR, hN]
          clear HE HR HN
          have hne : ((crc P : Int) == S) = false := by simpa using heq
          by_cases hca : cap = 8
          · obtain rfl : L = 0 := by omega
            obtain rfl := HZ.out rfl
            subst hca
            have hf2 : Calls Tryz.prog 123 #[.slice (some ⟨b0, off + 4, none⟩) 4 4] w _ := hf2
            have hsA : Sees w (.slice (some ⟨b0, off, none⟩) 0 0) [] := .inl ⟨rfl, _, _, rfl, (fun e => by cases e), by decide⟩
            go_enter Tryz.func101, Tryz.ntmps101
            go_wp2_with (first | (go_at_call 123; first | (with_reducible refine hf1.mono ?_; rintro e w1 ⟨rfl, rfl⟩) | (with_reducible refine hf2.mono ?_; rintro e w1 ⟨rfl, rfl⟩)) | (go_at_call 90; refine (hsum _ hsA).mono ?_; rintro e w1 ⟨rfl, rfl⟩))
            go_ret3
            exact ⟨_, rfl, .inl ⟨rfl, _, _, rfl, (fun _ => rfl), by decide⟩, Below.refl _ _⟩
          · have hsA := HP.out (cap - 8) (by omega) (by omega) (by omega)
            go_enter Tryz.func101, Tryz.ntmps101
            go_wp2_with (first | (go_at_call 123; first | (with_reducible refine hf1.mono ?_; rintro e w1 ⟨rfl, rfl⟩) | (with_reducible refine hf2.mono ?_; rintro e w1 ⟨rfl, rfl⟩)) | (go_at_call 90; refine (hsum _ hsA).mono ?_; rintro e w1 ⟨rfl, rfl⟩))
            go_ret3
            exact ⟨_, rfl, .inl ⟨rfl, _, _, rfl, (fun _ => rfl), by decide⟩, Below.refl _ _⟩
theorem be_last (n : Int) : (be (IntKind.u64.wrap n)).drop 7 = [n % 256] := by
  show [IntKind.u64.wrap n % 256] = [n % 256]
  rw [IntKind.wrap_u64]
  congr 1
  omega
theorem frameB_len (zs : List Int) : (frameB zs).length = zs.length + 8 := by simp [frameB, be_len]; omega
theorem rd_low4 (u : Int) (h0 : 0 ≤ u) (h1 : u < 4294967296) : rd ((be u).drop 4) = u := by
  simp only [be, rd, List.drop_succ_cons, List.drop_zero, List.foldl_cons, List.foldl_nil]
  omega
theorem frame_parts (z R : List Int) : frameB z ++ R = (be z.length).drop 4 ++ ((be (crc z : Nat)).drop 4 ++ (z ++ R)) := by simp [frameB]
theorem len4 (u : Int) : ((be u).drop 4).length = 4 := rfl
theorem take_len {α : Type} (A B : List α) (n : Nat) (h : A.length = n) : (A ++ B).take n = A := by subst h; simp
theorem drop_len {α : Type} (A B : List α) (n : Nat) (h : A.length = n) : (A ++ B).drop n = B := by subst h; simp
theorem unfL_frame (z R : List Int) (hz : z.length ≤ 100000) : unfL (frameB z ++ R) = z.length := by
  unfold unfL
  rw [frame_parts, take_len _ _ 4 (len4 _), rd_low4 _ (by omega) (by omega)]
  omega
theorem unfS_frame (z R : List Int) : unfS (frameB z ++ R) = crc z := by
  unfold unfS
  have := crc_lt z
  rw [frame_parts, drop_len _ _ 4 (len4 _), take_len _ _ 4 (len4 _), rd_low4 _ (by omega) (by omega)]
theorem unfB_frame (z R : List Int) (hz : z.length ≤ 100000) : unfB (frameB z ++ R) = z := by
  unfold unfB
  rw [unfL_frame z R hz, frame_parts, ← List.append_assoc, drop_len _ _ 8 (by rw [List.length_append, len4, len4]), take_len _ _ _ rfl]
theorem unfE_frame (z R : List Int) (hz : z.length ≤ 100000) : unfE (frameB z ++ R) = 0 := by
  have hl : (frameB z ++ R).length = z.length + 8 + R.length := by rw [List.length_append, frameB_len]
  rw [unfE, if_neg (by omega), unfL_frame z R hz, if_neg (by omega), if_neg (by omega), unfB_frame z R hz, unfS_frame, if_pos rfl]
theorem unfR_frame (z R : List Int) (hz : z.length ≤ 100000) : unfR (frameB z ++ R) = z := by rw [unfR, if_pos (unfE_frame z R hz), unfB_frame z R hz]
theorem unfN_frame (z R : List Int) (hz : z.length ≤ 100000) : unfN (frameB z ++ R) = z.length + 8 := by rw [unfN, if_pos (unfE_frame z R hz), unfL_frame z R hz]; omega
theorem unfE_cut (z : List Int) (hz : z.length ≤ 100000) (c : Nat) (hc : c < (frameB z).length) : unfE ((frameB z).take c) = 8 := by
  have hfl := frameB_len z
  have hl : ((frameB z).take c).length = c := by simp; omega
  rw [unfE]
  by_cases h8 : c < 8
  · rw [if_pos (by omega)]
  · have hL : unfL ((frameB z).take c) = z.length := by
      have := unfL_frame z [] hz
      unfold unfL at this ⊢
      rw [List.take_take, Nat.min_eq_left (by omega)]
      simpa using this
    rw [if_neg (by omega), hL, if_neg (by omega), if_pos (by omega)]
theorem u64_bd (n : Int) : 0 ≤ IntKind.u64.wrap n ∧ IntKind.u64.wrap n < 18446744073709551616 := by rw [IntKind.wrap_u64]; omega
theorem rd_be0 (n : Int) (h1 : -9223372036854775808 ≤ n) (h2 : n ≤ 9223372036854775807) : wrap64 (rd ((be (IntKind.u64.wrap n)).drop 0)) = n := by
  have hb := u64_bd n
  have e : rd ((be (IntKind.u64.wrap n)).drop 0) = IntKind.u64.wrap n := by
    generalize IntKind.u64.wrap n = u at hb
    simp only [be, rd, List.drop_zero, List.foldl_cons, List.foldl_nil]
    omega
  rw [e, IntKind.wrap_u64]
  unfold wrap64
  omega
theorem rd_be4 (n : Int) : wrap64 (rd ((be (IntKind.u64.wrap n)).drop 4)) = n % 4294967296 := by
  have hb := u64_bd n
  have e : rd ((be (IntKind.u64.wrap n)).drop 4) = IntKind.u64.wrap n % 4294967296 := by
    generalize IntKind.u64.wrap n = u at hb
    simp only [be, rd, List.drop_succ_cons, List.drop_zero, List.foldl_cons, List.foldl_nil]
    omega
  rw [e, IntKind.wrap_u64]
  unfold wrap64
  omega
theorem rd_be7 (n : Int) : wrap64 (rd ((be (IntKind.u64.wrap n)).drop 7)) = n % 256 := by
  rw [be_last]
  simp only [rd, List.foldl_cons, List.foldl_nil]
  unfold wrap64
  omega
theorem str_back (s : ByteArray) : strOfNums (strB s) = s := by
  unfold strOfNums strB
  rw [List.map_map]
  have : (s.data.toList.map ((fun n : Int => UInt8.ofNat n.toNat) ∘ fun b : UInt8 => (b.toNat : Int))) = s.data.toList := by
    conv => rhs; rw [← List.map_id s.data.toList]
    apply List.map_congr_left
    intro b _
    simp
  rw [this]
theorem ok_at (A X R : List Int) : okT (A ++ (X ++ R)) A.length 0 X.length = true := by simp [okT]
theorem takeB_at (A X R : List Int) : takeB (A ++ (X ++ R)) A.length 0 X.length = X := by rw [takeB, if_pos (ok_at A X R)]; simp
theorem takeA_at (A X R : List Int) : takeA (A ++ (X ++ R)) A.length 0 X.length = A.length + X.length := by rw [takeA, if_pos (ok_at A X R)]
theorem takeE_at (A X R : List Int) : takeE (A ++ (X ++ R)) A.length 0 X.length = 0 := by rw [takeE, if_pos (ok_at A X R)]
theorem text_at (A R : List Int) (s : ByteArray) (hs : s.size ≤ 100000) : textB (A ++ (((be (IntKind.u64.wrap s.size)).drop 4 ++ strB s) ++ R)) A.length 0 = strB s ∧
    textE (A ++ (((be (IntKind.u64.wrap s.size)).drop 4 ++ strB s) ++ R)) A.length 0 = 0 ∧ textA (A ++ (((be (IntKind.u64.wrap s.size)).drop 4 ++ strB s) ++ R)) A.length 0 = A.length + ((be (IntKind.u64.wrap s.size)).drop 4 ++ strB s).length := by
  obtain ⟨L, hL⟩ : ∃ L, L = (be (IntKind.u64.wrap s.size)).drop 4 := ⟨_, rfl⟩
  have h4 : L.length = 4 := by rw [hL]; rfl
  have hv : (rd L).toNat = (strB s).length := by
    have h := rd_be4 s.size
    have h1 := rd_le (l := L) (by rw [hL]; exact fun x hx => be_isB _ (u64_bd _).1 (u64_bd _).2 x (List.mem_of_mem_drop hx)) (by omega)
    rw [← hL] at h
    unfold wrap64 at h
    rw [strB_len]
    omega
  rw [← hL]
  have e1 : A ++ ((L ++ strB s) ++ R) = A ++ (L ++ (strB s ++ R)) := by simp
  have e2 : A ++ ((L ++ strB s) ++ R) = (A ++ L) ++ (strB s ++ R) := by simp
  have b4 : takeB (A ++ ((L ++ strB s) ++ R)) A.length 0 4 = L := by rw [e1, ← h4]; exact takeB_at A L _
  have a4 : takeA (A ++ ((L ++ strB s) ++ R)) A.length 0 4 = (A ++ L).length := by rw [e1, ← h4, takeA_at]; simp
  have f4 : takeE (A ++ ((L ++ strB s) ++ R)) A.length 0 4 = 0 := by rw [e1, ← h4]; exact takeE_at A L _
  have n4 : textN (A ++ ((L ++ strB s) ++ R)) A.length 0 = (strB s).length := by rw [textN, b4, hv]
  have hE : textE (A ++ ((L ++ strB s) ++ R)) A.length 0 = 0 := by rw [textE, a4, f4, n4, e2]; exact takeE_at _ _ _
  refine ⟨?_, hE, ?_⟩
  · rw [textB, a4, f4, n4, e2]; exact takeB_at _ _ _
  · rw [textA, if_pos hE, a4, f4, n4, e2, takeA_at]; simp; omega
end Go.Proofs.YtdcpfjlnagigaaaGreatDoor
