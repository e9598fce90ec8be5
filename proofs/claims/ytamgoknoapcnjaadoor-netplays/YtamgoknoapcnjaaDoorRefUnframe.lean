/- The document's own taking off of a frame: the same as the program's. -/
import Derived.Test.YtamgoknoapcnjaaDoorRefFrame
namespace Go.Proofs.YtamgoknoapcnjaaDoor
open Go Go.RowKit

theorem Hid.mk' {p : Prop} (h : p) : Hid p := h
set_option maxRecDepth 100000 in
set_option maxHeartbeats 1000000 in
theorem fUnframe (v : Value) (xs : List Int) (w : World) (hb : isB xs) (hl : xs.length ≤ 100000) (hv : Sees w v xs) :
    Calls Tryd.prog 37 #[v] w fun e w' => ∃ v', e = .returned (.tuple #[v', .int .i64 (unfN xs), .int .i64 (unfE xs)]) ∧ Sees w' v' (unfR xs) ∧ Below w.heap.size w w' := by
  obtain ⟨i0, hi, hz0, hz1, hz2⟩ := info_parts info5
  by_cases h8 : xs.length < 8
  · obtain ⟨ao, cap, rfl, _, _⟩ := hv.form
    have hE : unfE xs = 8 := by rw [unfE, if_pos h8]
    have hR : unfR xs = [] := by rw [unfR, hE]; rfl
    have hN : unfN xs = 0 := by rw [unfN, hE]; rfl
    rw [hE, hR, hN]
    go_enter Tryd.func37, Tryd.ntmps37
    go_wp2
    go_ret3
    exact ⟨_, rfl, .inl ⟨rfl, _, _, rfl, (fun _ => rfl), by decide⟩, Below.refl _ _⟩
  · obtain ⟨b0, off, cap, rfl, hx0, hcap, hcm, hc⟩ : ∃ b0 off cap, v = .slice (some ⟨b0, off, none⟩) xs.length cap ∧ 0 < xs.length ∧ xs.length ≤ cap ∧ cap ≤ maxLen ∧ ∀ i, i < xs.length → w.cell? ⟨b0, off + i, none⟩ = some (.int .u8 (xs.getD i 0)) := by
      rcases hv with ⟨h, _⟩ | h
      · subst h; simp at h8
      · exact h
    have hbl : b0 < w.heap.size := World.block_lt_of_cell? _ _ (hc 0 hx0)
    have hL := rd_le (isB_part hb 0 4) (by simp; omega)
    have hS := rd_le (isB_part hb 4 4) (by simp; omega)
    simp only [List.drop_zero] at hL
    have hL0 : rd (xs.take 4) = (unfL xs : Int) := by unfold unfL; omega
    have hLb : unfL xs < 4294967296 := by omega
    have hS0 : 0 ≤ unfS xs ∧ unfS xs < 4294967296 := hS
    have ho1 : okT xs 0 0 4 = true := decide_eq_true ⟨rfl, by omega⟩
    have ho2 : okT xs 4 0 4 = true := decide_eq_true ⟨rfl, by omega⟩
    have hb0 : Below w.heap.size w (w.alloc (.cells #[.slice (some ⟨b0, off, none⟩) xs.length cap, .int .i64 0, .bool false] 78)) := (Below.refl _ _).alloc (Nat.le_refl _) _
    have hr0 : Rf (w.alloc (.cells #[.slice (some ⟨b0, off, none⟩) xs.length cap, .int .i64 0, .bool false] 78)) w.heap.size (.slice (some ⟨b0, off, none⟩) xs.length cap) xs 0 0 := by
      refine ⟨by simp, by simp, by simp, by simp, by simp, hv.below hb0, ?_, .inl rfl, Nat.zero_le _, by omega, hb⟩
      intro k hk _
      have := Option.some.inj (show some b0 = some k from hk)
      omega
    have hf1 := fU32 _ _ _ _ _ _ hr0
    rw [takeB, takeA, takeE, if_pos ho1, if_pos ho1, if_pos ho1, List.drop_zero, hL0] at hf1
    have hf2 : ∀ w1, RfPost (w.alloc (.cells #[.slice (some ⟨b0, off, none⟩) xs.length cap, .int .i64 0, .bool false] 78)) w1 w.heap.size (.slice (some ⟨b0, off, none⟩) xs.length cap) xs (0 + 4) 0 → Calls Tryd.prog 75 #[.pointer (some ⟨w.heap.size, 0, none⟩)] w1 fun e w' => e = .returned (.int .i64 (wrap64 (unfS xs))) ∧ Upd (w.alloc (.cells #[.slice (some ⟨b0, off, none⟩) xs.length cap, .int .i64 0, .bool false] 78)) w' (fun k => k = w.heap.size) := fun w1 h => by
      refine (fU32 _ _ _ _ _ _ h.1).mono ?_
      rintro e w2 ⟨rfl, hp⟩
      exact ⟨by rw [takeB, if_pos (by simpa using ho2)]; rfl, h.2.trans hp.2 (fun _ _ h => h)⟩
    have HE : Hid (unfE xs = if 16777216 < unfL xs then 5 else if xs.length < 8 + unfL xs then 8 else if (crc (unfB xs) : Int) = unfS xs then 0 else 12) := by show _ = _; rw [unfE, if_neg h8]
    have HR : Hid (unfR xs = if unfE xs = 0 then unfB xs else []) := rfl
    have HN : Hid (unfN xs = if unfE xs = 0 then 8 + unfL xs else 0) := rfl
    have HC : Hid (crc (unfB xs) < 4294967296) := crc_lt _
    have hPB : isB (unfB xs) := isB_part hb 8 _
    have HPl : Hid ((unfB xs).length ≤ unfL xs ∧ (xs.length ≥ 8 + unfL xs → (unfB xs).length = unfL xs)) := by unfold unfB; refine ⟨by simp; omega, fun h => ?_⟩; simp; omega
    have HP : Hid (∀ c, xs.length ≥ 8 + unfL xs → unfL xs ≤ c → c ≤ maxLen → Sees w (.slice (some ⟨b0, off + 8, none⟩) (unfL xs) c) (unfB xs)) := fun c h1 h2 h3 => sees_cut hc 8 _ c (by omega) h2 h3
    have HZ : Hid (unfL xs = 0 → unfB xs = []) := fun h => by unfold unfB; rw [h]; simp
    have h80 : 8 ≤ xs.length := by omega
    have hwr : wrap64 (unfS xs) = unfS xs := by unfold wrap64; omega
    have hwL : wrap64 (unfL xs : Int) = (unfL xs : Int) := by unfold wrap64; omega
    rw [hwL] at hf1
    clear hwL
    clear hc hL hS hL0
    rw [hwr] at hf2
    clear hwr
    generalize unfL xs = L at *
    generalize unfS xs = S at *
    generalize unfB xs = P at *
    have hbw : ∀ w2, Upd (w.alloc (.cells #[.slice (some ⟨b0, off, none⟩) xs.length cap, .int .i64 0, .bool false] 78)) w2 (fun k => k = w.heap.size) → Below w.heap.size w w2 := fun w2 h => hb0.trans (h.below (by simp) (fun k hk e => by omega))
    have HF2 := Hid.mk' hf2
    clear hf2 hr0 hv ho1 ho2 hb0
    by_cases hbig : 16777216 < L
    · have hE : unfE xs = 5 := by rw [HE.out, if_pos hbig]
      have hR : unfR xs = [] := by rw [HR.out, hE]; rfl
      have hN : unfN xs = 0 := by rw [HN.out, hE]; rfl
      rw [hE, hR, hN]
      clear hE hR hN
      go_enter Tryd.func37, Tryd.ntmps37
      go_wp2_with fail
      with_reducible refine hf1.mono ?_
      rintro e w1 ⟨rfl, hp1⟩
      clear hf1
      go_wp2_with (go_at_call 75; refine (HF2.out _ hp1).mono ?_; rintro e w2 ⟨rfl, hp2⟩)
      go_ret3
      exact ⟨_, rfl, .inl ⟨rfl, _, _, rfl, (fun _ => rfl), by decide⟩, hbw _ hp2⟩
    · by_cases hcut : xs.length < 8 + L
      · have hE : unfE xs = 8 := by rw [HE.out, if_neg hbig, if_pos hcut]
        have hR : unfR xs = [] := by rw [HR.out, hE]; rfl
        have hN : unfN xs = 0 := by rw [HN.out, hE]; rfl
        rw [hE, hR, hN]
        clear hE hR hN
        go_enter Tryd.func37, Tryd.ntmps37
        go_wp2_with fail
        with_reducible refine hf1.mono ?_
        rintro e w1 ⟨rfl, hp1⟩
        clear hf1
        go_wp2_with (go_at_call 75; refine (HF2.out _ hp1).mono ?_; rintro e w2 ⟨rfl, hp2⟩)
        go_ret3
        exact ⟨_, rfl, .inl ⟨rfl, _, _, rfl, (fun _ => rfl), by decide⟩, hbw _ hp2⟩
      · by_cases hca : cap = 8
        · obtain rfl : L = 0 := by omega
          obtain rfl := HZ.out rfl
          subst hca
          have hsee : ∀ w2, Below w.heap.size w w2 → Sees w2 (.slice (some ⟨b0, off, none⟩) 0 0) [] := fun w2 _ => .inl ⟨rfl, _, _, rfl, (fun e => by cases e), by decide⟩
          have HSE := Hid.mk' hsee
          clear hsee HPl HP HZ
          by_cases heq : (crc [] : Int) = S
          · have hE : unfE xs = 0 := by rw [HE.out, if_neg hbig, if_neg hcut, if_pos heq]
            have hR : unfR xs = [] := by rw [HR.out, hE]; rfl
            have hN : unfN xs = 8 + 0 := by rw [HN.out, hE]; rfl
            rw [hE, hR, hN]
            clear hE hR hN HE HR HN
            subst heq
            go_enter Tryd.func37, Tryd.ntmps37
            go_wp2_with fail
            with_reducible refine hf1.mono ?_
            rintro e w1 ⟨rfl, hp1⟩
            clear hf1
            go_wp2_with (first | (go_at_call 75; refine (HF2.out _ hp1).mono ?_; rintro e w2 ⟨rfl, hp2⟩; have hbw2 := hbw _ hp2; have hsrc := Src_sees (HSE.out _ (hbw2.alloc hbw2.size (.cells #[] 5))); have hown : (w2.alloc (.cells #[] 5)).ownsRow w2.heap.size 5 1 (.slice (some ⟨w2.heap.size, 0, none⟩) 0 0) 0 [] := World.ownsRow_lit (size := 1) (e := 5) w2 #[] 0 (Nat.le_refl _) (by decide) rfl) | (at_builtin; refine wpList_app _ rfl (.tmp 26) (.tmp 30) 26 26 rfl w2.heap.size 5 i0 Tryd.underlying26 hi hz0 hz1 hz2 _ 0 [] rfl hown _ rfl _ _ hsrc (by simp; try omega) (by simp) ?_; intro va w3 ha1 ha2 ha3 ha4; simp only [Nat.zero_add, List.nil_append] at ha1) | (go_at_call 64; refine (fSum _ [] _ hPB (by simp; try omega) (sees_own ha1)).mono ?_; rintro e w4 ⟨rfl, rfl⟩))
            go_ret3
            exact ⟨_, by simp, sees_own ha1, (hbw2.alloc hbw2.size _).trans (ha2.below (by simp; have := hbw2.size; omega) (fun k hk e => by have := Option.some.inj (show some k = some w2.heap.size from e); have := hbw2.size; omega))⟩
          · have hE : unfE xs = 12 := by rw [HE.out, if_neg hbig, if_neg hcut, if_neg heq]
            have hR : unfR xs = [] := by rw [HR.out, hE]; rfl
            have hN : unfN xs = 0 := by rw [HN.out, hE]; rfl
            rw [hE, hR, hN]
            clear hE hR hN HE HR HN
            have HC' := HC.out
            have hne : ((crc [] : Int) == S) = false := by simpa using heq
            go_enter Tryd.func37, Tryd.ntmps37
            go_wp2_with fail
            with_reducible refine hf1.mono ?_
            rintro e w1 ⟨rfl, hp1⟩
            clear hf1
            go_wp2_with (first | (go_at_call 75; refine (HF2.out _ hp1).mono ?_; rintro e w2 ⟨rfl, hp2⟩; have hbw2 := hbw _ hp2; have hsrc := Src_sees (HSE.out _ (hbw2.alloc hbw2.size (.cells #[] 5))); have hown : (w2.alloc (.cells #[] 5)).ownsRow w2.heap.size 5 1 (.slice (some ⟨w2.heap.size, 0, none⟩) 0 0) 0 [] := World.ownsRow_lit (size := 1) (e := 5) w2 #[] 0 (Nat.le_refl _) (by decide) rfl) | (at_builtin; refine wpList_app _ rfl (.tmp 26) (.tmp 30) 26 26 rfl w2.heap.size 5 i0 Tryd.underlying26 hi hz0 hz1 hz2 _ 0 [] rfl hown _ rfl _ _ hsrc (by simp; try omega) (by simp) ?_; intro va w3 ha1 ha2 ha3 ha4; simp only [Nat.zero_add, List.nil_append] at ha1) | (go_at_call 64; refine (fSum _ [] _ hPB (by simp; try omega) (sees_own ha1)).mono ?_; rintro e w4 ⟨rfl, rfl⟩))
            go_ret3
            exact ⟨_, rfl, .inl ⟨rfl, _, _, rfl, (fun _ => rfl), by decide⟩, (hbw2.alloc hbw2.size _).trans (ha2.below (by simp; have := hbw2.size; omega) (fun k hk e => by have := Option.some.inj (show some k = some w2.heap.size from e); have := hbw2.size; omega))⟩
        · have hsee : ∀ w2, Below w.heap.size w w2 → Sees w2 (.slice (some ⟨b0, off + 8, none⟩) (8 + L - 8) (cap - 8)) P := fun w2 h2 => by rw [Nat.add_sub_cancel_left]; exact (HP.out (cap - 8) (by omega) (by omega) (by omega)).below h2
          have hPl : P.length ≤ 100000 := by have := HPl.out.2 (by omega); omega
          have HSE := Hid.mk' hsee
          clear hsee HPl HP HZ
          by_cases heq : (crc P : Int) = S
          · have hE : unfE xs = 0 := by rw [HE.out, if_neg hbig, if_neg hcut, if_pos heq]
            have hR : unfR xs = P := by rw [HR.out, hE]; rfl
            have hN : unfN xs = 8 + L := by rw [HN.out, hE]; rfl
            rw [hE, hR, hN]
            clear hE hR hN HE HR HN
            subst heq
            go_enter Tryd.func37, Tryd.ntmps37
            go_wp2_with fail
            with_reducible refine hf1.mono ?_
            rintro e w1 ⟨rfl, hp1⟩
            clear hf1
            go_wp2_with (first | (go_at_call 75; refine (HF2.out _ hp1).mono ?_; rintro e w2 ⟨rfl, hp2⟩; have hbw2 := hbw _ hp2; have hsrc := Src_sees (HSE.out _ (hbw2.alloc hbw2.size (.cells #[] 5))); have hown : (w2.alloc (.cells #[] 5)).ownsRow w2.heap.size 5 1 (.slice (some ⟨w2.heap.size, 0, none⟩) 0 0) 0 [] := World.ownsRow_lit (size := 1) (e := 5) w2 #[] 0 (Nat.le_refl _) (by decide) rfl) | (at_builtin; refine wpList_app _ rfl (.tmp 26) (.tmp 30) 26 26 rfl w2.heap.size 5 i0 Tryd.underlying26 hi hz0 hz1 hz2 _ 0 [] rfl hown _ rfl _ _ hsrc (by simp; try omega) (by simp) ?_; intro va w3 ha1 ha2 ha3 ha4; simp only [Nat.zero_add, List.nil_append] at ha1) | (go_at_call 64; refine (fSum _ P _ hPB (by omega) (sees_own ha1)).mono ?_; rintro e w4 ⟨rfl, rfl⟩))
            go_ret3
            exact ⟨_, by simp, sees_own ha1, (hbw2.alloc hbw2.size _).trans (ha2.below (by simp; have := hbw2.size; omega) (fun k hk e => by have := Option.some.inj (show some k = some w2.heap.size from e); have := hbw2.size; omega))⟩
          · have hE : unfE xs = 12 := by rw [HE.out, if_neg hbig, if_neg hcut, if_neg heq]
            have hR : unfR xs = [] := by rw [HR.out, hE]; rfl
            have hN : unfN xs = 0 := by rw [HN.out, hE]; rfl
            rw [hE, hR, hN]
            clear hE hR hN HE HR HN
            have HC' := HC.out
            have hne : ((crc P : Int) == S) = false := by simpa using heq
            go_enter Tryd.func37, Tryd.ntmps37
            go_wp2_with fail
            with_reducible refine hf1.mono ?_
            rintro e w1 ⟨rfl, hp1⟩
            clear hf1
            go_wp2_with (first | (go_at_call 75; refine (HF2.out _ hp1).mono ?_; rintro e w2 ⟨rfl, hp2⟩; have hbw2 := hbw _ hp2; have hsrc := Src_sees (HSE.out _ (hbw2.alloc hbw2.size (.cells #[] 5))); have hown : (w2.alloc (.cells #[] 5)).ownsRow w2.heap.size 5 1 (.slice (some ⟨w2.heap.size, 0, none⟩) 0 0) 0 [] := World.ownsRow_lit (size := 1) (e := 5) w2 #[] 0 (Nat.le_refl _) (by decide) rfl) | (at_builtin; refine wpList_app _ rfl (.tmp 26) (.tmp 30) 26 26 rfl w2.heap.size 5 i0 Tryd.underlying26 hi hz0 hz1 hz2 _ 0 [] rfl hown _ rfl _ _ hsrc (by simp; try omega) (by simp) ?_; intro va w3 ha1 ha2 ha3 ha4; simp only [Nat.zero_add, List.nil_append] at ha1) | (go_at_call 64; refine (fSum _ P _ hPB (by omega) (sees_own ha1)).mono ?_; rintro e w4 ⟨rfl, rfl⟩))
            go_ret3
            exact ⟨_, rfl, .inl ⟨rfl, _, _, rfl, (fun _ => rfl), by decide⟩, (hbw2.alloc hbw2.size _).trans (ha2.below (by simp; have := hbw2.size; omega) (fun k hk e => by have := Option.some.inj (show some k = some w2.heap.size from e); have := hbw2.size; omega))⟩
end Go.Proofs.YtamgoknoapcnjaaDoor
