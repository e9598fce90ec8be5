/- The document's own frame, and what both take off bytes as the first frame. -/
import Derived.Test.YtamgoknoapcnjaaDoorRefNum
namespace Go.Proofs.YtamgoknoapcnjaaDoor
open Go Go.RowKit

theorem OwPost.belowOf {B : Nat} {w w' : World} {v v' : Value} {xs ys : List Int} (h : OwPost B w w' v v' ys) (ho : w.ownsRow B 5 1 v xs.length (u8s xs)) (hB : B ≤ w.heap.size) : Below B w w' :=
  h.2.1.below hB (fun k hk e => by have := (ho.lt k e.symm).1; omega)

set_option maxRecDepth 100000 in
set_option maxHeartbeats 1000000 in
theorem fFrame (v : Value) (zs : List Int) (w : World) (hb : isB zs) (hl : zs.length ≤ 100000) (hv : Sees w v zs) :
    Calls Tryd.prog 33 #[v] w fun e w' => ∃ v', e = .returned v' ∧ w'.ownsRow w.heap.size 5 1 v' (frameB zs).length (u8s (frameB zs)) ∧ Below w.heap.size w w' := by
  obtain ⟨i0, hi, hz0, hz1, hz2⟩ := info_parts info5
  obtain ⟨ao, cap, rfl, _, _⟩ := hv.form
  have hcrc := crc_lt zs
  go_enter Tryd.func33, Tryd.ntmps33
  go_wp2_with fail
  refine (fNum4 w.heap.size _ [] (zs.length : Int) _ (World.ownsRow_nil _ _ _ _) (by simp) (Nat.le_refl _) (by omega) (by omega)).mono ?_
  rintro e w1 ⟨v1, rfl, h1⟩
  have hb1 := h1.belowOf (xs := []) (World.ownsRow_nil _ _ _ _) (Nat.le_refl _)
  obtain ⟨ys, HY⟩ : ∃ ys : List Int, Hid (ys = [] ++ (be zs.length).drop 4) := ⟨_, Eq.refl ([] ++ (be zs.length).drop 4)⟩
  rw [← HY.out] at h1
  have hyl : ys.length ≤ 4 := by rw [HY.out]; simp [be_len]
  go_wp2_with (go_at_call 64; refine (fSum _ zs _ hb (by omega) (hv.below hb1)).mono ?_; rintro e w2 ⟨rfl, rfl⟩)
  refine (fNum4 w.heap.size _ ys (crc zs : Nat) _ h1.1 (by omega) hb1.size (by omega) (by omega)).mono ?_
  rintro e w3 ⟨v2, rfl, h2⟩
  have hb2 := h2.belowOf h1.1 hb1.size
  obtain ⟨ts, HZ⟩ : ∃ ts : List Int, Hid (ts = ys ++ (be (crc zs : Nat)).drop 4) := ⟨_, Eq.refl (ys ++ (be (crc zs : Nat)).drop 4)⟩
  rw [← HZ.out] at h2
  have htl : ts.length ≤ 8 := by rw [HZ.out]; simp [be_len]; omega
  have hb3 := hb1.trans hb2
  have hsrc := Src_sees (hv.below hb3)
  go_wp2_with (at_builtin; refine wpList_app _ rfl (.tmp 10) (.tmp 11) 26 26 rfl w.heap.size 5 i0 Tryd.underlying26 hi hz0 hz1 hz2 v2 ts.length (u8s ts) rfl h2.1 _ rfl _ _ hsrc (by omega) hb3.size ?_; intro v' w' g1 g2 g3 g4)
  go_ret
  refine ⟨_, rfl, ?_, ?_⟩
  · have e : frameB zs = ts ++ zs := by
      rw [HZ.out, HY.out, List.nil_append, List.append_assoc]; rfl
    rw [e, List.length_append]
    simpa using g1
  · exact hb3.trans (g2.below hb3.size (fun k hk h => by have := (h2.1.lt k h.symm).1; omega))

/-- The first frame of bytes: its bytes, how many it has with its head, the error. -/
def unfL (xs : List Int) : Nat := (rd (xs.take 4)).toNat
def unfS (xs : List Int) : Int := rd ((xs.drop 4).take 4)
def unfB (xs : List Int) : List Int := (xs.drop 8).take (unfL xs)
def unfE (xs : List Int) : Int := if xs.length < 8 then 8 else if 16777216 < unfL xs then 5 else if xs.length < 8 + unfL xs then 8 else if (crc (unfB xs) : Int) = unfS xs then 0 else 12
def unfR (xs : List Int) : List Int := if unfE xs = 0 then unfB xs else []
def unfN (xs : List Int) : Nat := if unfE xs = 0 then 8 + unfL xs else 0

theorem sees_cut {w : World} {b0 off : Nat} {xs : List Int} (hc : ∀ i, i < xs.length → w.cell? ⟨b0, off + i, none⟩ = some (.int .u8 (xs.getD i 0))) (a n c : Nat) (hn : a + n ≤ xs.length) (hcc : n ≤ c) (hcm : c ≤ maxLen) :
    Sees w (.slice (some ⟨b0, off + a, none⟩) n c) ((xs.drop a).take n) := by
  by_cases h0 : n = 0
  · subst h0
    exact .inl ⟨by simp, _, c, rfl, (fun e => by cases e), hcm⟩
  · have hl : ((xs.drop a).take n).length = n := by simp; omega
    refine .inr ⟨b0, off + a, c, by rw [hl], by omega, by omega, hcm, fun i hi => ?_⟩
    have := hc (a + i) (by omega)
    rw [show off + a + i = off + (a + i) by omega, this]
    have hin : i < n := by omega
    simp [List.getD_eq_getElem?_getD, hin]
theorem isB_part {xs : List Int} (h : isB xs) (a n : Nat) : isB ((xs.drop a).take n) := fun x hx => h x (List.mem_of_mem_drop (List.mem_of_mem_take hx))

set_option maxRecDepth 100000 in
set_option maxHeartbeats 1000000 in
theorem unframe_any (v : Value) (xs : List Int) (w : World) (hT : HasTab w) (hb : isB xs) (hl : xs.length ≤ 100000) (hv : Sees w v xs) :
    Calls Tryd.prog 34 #[v] w fun e w' => ∃ v', e = .returned (.tuple #[v', .int .i64 (unfN xs), .int .i64 (unfE xs)]) ∧ Sees w' v' (unfR xs) ∧ Below w.heap.size w w' := by
  by_cases h8 : xs.length < 8
  · obtain ⟨ao, cap, rfl, _, _⟩ := hv.form
    have hE : unfE xs = 8 := by rw [unfE, if_pos h8]
    have hR : unfR xs = [] := by rw [unfR, hE]; rfl
    have hN : unfN xs = 0 := by rw [unfN, hE]; rfl
    rw [hE, hR, hN]
    go_enter Tryd.func34, Tryd.ntmps34
    go_wp2
    go_ret3
    exact ⟨_, rfl, .inl ⟨rfl, _, _, rfl, (fun _ => rfl), by decide⟩, Below.refl _ _⟩
  · obtain ⟨b0, off, cap, rfl, hx0, hcap, hcm, hc⟩ : ∃ b0 off cap, v = .slice (some ⟨b0, off, none⟩) xs.length cap ∧ 0 < xs.length ∧ xs.length ≤ cap ∧ cap ≤ maxLen ∧ ∀ i, i < xs.length → w.cell? ⟨b0, off + i, none⟩ = some (.int .u8 (xs.getD i 0)) := by
      rcases hv with ⟨h, _⟩ | h
      · subst h; simp at h8
      · exact h
    have hL := rd_le (isB_part hb 0 4) (by simp; omega)
    have hS := rd_le (isB_part hb 4 4) (by simp; omega)
    have hL0 : rd (xs.take 4) = (unfL xs : Int) := by unfold unfL; simp only [List.drop_zero] at hL; omega
    have hLb : unfL xs < 4294967296 := by simp only [List.drop_zero] at hL; omega
    have hS0 : 0 ≤ unfS xs ∧ unfS xs < 4294967296 := hS
    have hf1 : Calls Tryd.prog 65 #[.slice (some ⟨b0, off, none⟩) 4 cap] w fun e w' => e = .returned (.int .u64 (unfL xs : Int)) ∧ w' = w := by
      have := fbe_any _ ((xs.drop 0).take 4) w (sees_cut hc 0 4 cap (by omega) (by omega) hcm) (by simp; omega) (isB_part hb 0 4)
      rw [List.drop_zero, hL0] at this
      exact this
    have hf2 : Calls Tryd.prog 65 #[.slice (some ⟨b0, off + 4, none⟩) 4 (cap - 4)] w fun e w' => e = .returned (.int .u64 (unfS xs)) ∧ w' = w :=
      fbe_any _ ((xs.drop 4).take 4) w (sees_cut hc 4 4 (cap - 4) (by omega) (by omega) (by omega)) (by simp; omega) (isB_part hb 4 4)
    have HP : Hid (∀ c, xs.length ≥ 8 + unfL xs → unfL xs ≤ c → c ≤ maxLen → Sees w (.slice (some ⟨b0, off + 8, none⟩) (unfL xs) c) (unfB xs)) := fun c h1 h2 h3 => sees_cut hc 8 _ c (by omega) h2 h3
    have hPB : isB (unfB xs) := isB_part hb 8 _
    have hPl : (unfB xs).length ≤ 100000 := by unfold unfB; simp; omega
    have HE : Hid (unfE xs = if 16777216 < unfL xs then 5 else if xs.length < 8 + unfL xs then 8 else if (crc (unfB xs) : Int) = unfS xs then 0 else 12) := by show _ = _; rw [unfE, if_neg h8]
    have HR : Hid (unfR xs = if unfE xs = 0 then unfB xs else []) := rfl
    have HN : Hid (unfN xs = if unfE xs = 0 then 8 + unfL xs else 0) := rfl
    have HC : Hid (crc (unfB xs) < 4294967296) := crc_lt _
    have HZ : Hid (unfL xs = 0 → unfB xs = []) := fun h => by unfold unfB; rw [h]; simp
    have h80 : 8 ≤ xs.length := by omega
    clear hc hL hS hL0
    generalize unfL xs = L at *
    generalize unfS xs = S at *
    generalize unfB xs = P at *
    by_cases hbig : 16777216 < L
    · have hE : unfE xs = 5 := by rw [HE.out, if_pos hbig]
      have hR : unfR xs = [] := by rw [HR.out, hE]; rfl
      have hN : unfN xs = 0 := by rw [HN.out, hE]; rfl
      rw [hE, hR, hN]
      go_enter Tryd.func34, Tryd.ntmps34
      go_wp2_with (go_at_call 65; first | (with_reducible refine hf1.mono ?_; rintro e w1 ⟨rfl, rfl⟩) | (with_reducible refine hf2.mono ?_; rintro e w1 ⟨rfl, rfl⟩))
      go_ret3
      exact ⟨_, rfl, .inl ⟨rfl, _, _, rfl, (fun _ => rfl), by decide⟩, Below.refl _ _⟩
    · by_cases hcut : xs.length < 8 + L
      · have hE : unfE xs = 8 := by rw [HE.out, if_neg hbig, if_pos hcut]
        have hR : unfR xs = [] := by rw [HR.out, hE]; rfl
        have hN : unfN xs = 0 := by rw [HN.out, hE]; rfl
        rw [hE, hR, hN]
        go_enter Tryd.func34, Tryd.ntmps34
        go_wp2_with (go_at_call 65; first | (with_reducible refine hf1.mono ?_; rintro e w1 ⟨rfl, rfl⟩) | (with_reducible refine hf2.mono ?_; rintro e w1 ⟨rfl, rfl⟩))
        go_ret3
        exact ⟨_, rfl, .inl ⟨rfl, _, _, rfl, (fun _ => rfl), by decide⟩, Below.refl _ _⟩
      · have hsum : ∀ v, Sees w v P → Calls Tryd.prog 60 #[v] w fun e w' => e = .returned (.int .u32 (crc P)) ∧ w' = w := fun v hs => sum_any v P w hT hPB (by omega) hs
        have HC' := HC.out
        by_cases heq : (crc P : Int) = S
        · have hE : unfE xs = 0 := by rw [HE.out, if_neg hbig, if_neg hcut, if_pos heq]
          have hR : unfR xs = P := by rw [HR.out, hE]; rfl
          have hN : unfN xs = 8 + L := by rw [HN.out, hE]; rfl
          rw [hE, hR, hN]
          clear HE HR HN
          subst heq
          by_cases hca : cap = 8
          · obtain rfl : L = 0 := by omega
            obtain rfl := HZ.out rfl
            subst hca
            have hf2 : Calls Tryd.prog 65 #[.slice (some ⟨b0, off + 4, none⟩) 4 4] w _ := hf2
            have hsA : Sees w (.slice (some ⟨b0, off, none⟩) 0 0) [] := .inl ⟨rfl, _, _, rfl, (fun e => by cases e), by decide⟩
            go_enter Tryd.func34, Tryd.ntmps34
            go_wp2_with (first | (go_at_call 65; first | (with_reducible refine hf1.mono ?_; rintro e w1 ⟨rfl, rfl⟩) | (with_reducible refine hf2.mono ?_; rintro e w1 ⟨rfl, rfl⟩)) | (go_at_call 60; refine (hsum _ hsA).mono ?_; rintro e w1 ⟨rfl, rfl⟩) | (go_at_call 61; refine (clone_any _ _ _ hsA (by simp)).mono ?_; rintro e w1 ⟨v', rfl, k1, k2⟩))
            go_ret3
            exact ⟨_, rfl, sees_own k1, k2⟩
          · have hsA := HP.out (cap - 8) (by omega) (by omega) (by omega)
            go_enter Tryd.func34, Tryd.ntmps34
            go_wp2_with (first | (go_at_call 65; first | (with_reducible refine hf1.mono ?_; rintro e w1 ⟨rfl, rfl⟩) | (with_reducible refine hf2.mono ?_; rintro e w1 ⟨rfl, rfl⟩)) | (go_at_call 60; refine (hsum _ hsA).mono ?_; rintro e w1 ⟨rfl, rfl⟩) | (go_at_call 61; refine (clone_any _ _ _ hsA (by omega)).mono ?_; rintro e w1 ⟨v', rfl, k1, k2⟩))
            go_ret3
            exact ⟨_, by simp, sees_own k1, k2⟩
        · have hE : unfE xs = 12 := by rw [HE.out, if_neg hbig, if_neg hcut, if_neg heq]
          have hR : unfR xs = [] := by rw [HR.out, hE]; rfl
          have hN : unfN xs = 0 := by rw [HN.out, hE]; rfl
          rw [hE, hR, hN]
          clear HE HR HN
          have hne : ((crc P : Int) == S) = false := by simpa using heq
          by_cases hca : cap = 8
          · obtain rfl : L = 0 := by omega
            obtain rfl := HZ.out rfl
            subst hca
            have hf2 : Calls Tryd.prog 65 #[.slice (some ⟨b0, off + 4, none⟩) 4 4] w _ := hf2
            have hsA : Sees w (.slice (some ⟨b0, off, none⟩) 0 0) [] := .inl ⟨rfl, _, _, rfl, (fun e => by cases e), by decide⟩
            go_enter Tryd.func34, Tryd.ntmps34
            go_wp2_with (first | (go_at_call 65; first | (with_reducible refine hf1.mono ?_; rintro e w1 ⟨rfl, rfl⟩) | (with_reducible refine hf2.mono ?_; rintro e w1 ⟨rfl, rfl⟩)) | (go_at_call 60; refine (hsum _ hsA).mono ?_; rintro e w1 ⟨rfl, rfl⟩))
            go_ret3
            exact ⟨_, rfl, .inl ⟨rfl, _, _, rfl, (fun _ => rfl), by decide⟩, Below.refl _ _⟩
          · have hsA := HP.out (cap - 8) (by omega) (by omega) (by omega)
            go_enter Tryd.func34, Tryd.ntmps34
            go_wp2_with (first | (go_at_call 65; first | (with_reducible refine hf1.mono ?_; rintro e w1 ⟨rfl, rfl⟩) | (with_reducible refine hf2.mono ?_; rintro e w1 ⟨rfl, rfl⟩)) | (go_at_call 60; refine (hsum _ hsA).mono ?_; rintro e w1 ⟨rfl, rfl⟩))
            go_ret3
            exact ⟨_, rfl, .inl ⟨rfl, _, _, rfl, (fun _ => rfl), by decide⟩, Below.refl _ _⟩
end Go.Proofs.YtamgoknoapcnjaaDoor
