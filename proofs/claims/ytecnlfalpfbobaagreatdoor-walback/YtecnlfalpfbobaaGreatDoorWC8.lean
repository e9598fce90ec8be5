/- What framed does: the bytes of records. -/
import Derived.Test.YtecnlfalpfbobaaGreatDoorWC6
import Derived.Test.YtecnlfalpfbobaaGreatDoorWC7
namespace Go.Proofs.YtecnlfalpfbobaaGreatDoor
open Go Go.RowKit
abbrev pureR (r : RecV) : Rec := r.map Ev.e Vv.vs
theorem HasTab.upd {w w' : World} (h : HasTab w) (hb : Below 1 w w') : HasTab w' := fun j hj => by
  have := h j hj
  rw [← this]
  exact hb.cell (p := ⟨0, j, none⟩) (by show 0 < 1; omega)
theorem wr_new (w : World) : Wr w.heap.size (w.alloc (.cells #[.slice none 0 0] 197)) w.heap.size (.slice none 0 0) [] :=
  ⟨by simp, by simp, World.ownsRow_nil _ _ _ _, (fun e => by cases e), Nat.le_refl _⟩
set_option maxRecDepth 100000 in
set_option maxHeartbeats 4000000 in
theorem framed_any (v : Value) (rs : List RecV) (w : World) (hT : HasTab w) (hr : SeesR w v rs) (hok : ∀ r ∈ rs, (pureR r).ok) (hl : (encs (rs.map pureR)).length ≤ 900000) (hn : rs.length ≤ 1000000) :
    Calls Tryz.prog 50 #[v] w fun e w' => ∃ v', e = .returned v' ∧ w'.ownsRow w.heap.size 5 1 v' (encs (rs.map pureR)).length (u8s (encs (rs.map pureR))) ∧ Below w.heap.size w w' := by
  obtain ⟨ao, cp, rfl, hcm⟩ := hr.form
  obtain ⟨i0, hi0, hz0, hz1, hz2⟩ := info_parts info5
  have HRR := Hid.mk' hr
  have HOK := Hid.mk' hok
  have HT := Hid.mk' hT
  generalize hm : rs.length = n at *
  have HN := Hid.mk' hm
  clear hr hok hT hm
  go_enter Tryz.func50, Tryz.ntmps50
  go_wp2
  go_loopg [3, 9] n (fun kx s3 s9 wr => ∃ (k : Nat) (u : Value) (L : List Int), s9 = .int .i64 k ∧ s3 = u ∧ k ≤ n ∧ n - k ≤ kx ∧ Hid (L = encs ((rs.take k).map pureR)) ∧ wr.ownsRow w.heap.size 5 1 u L.length (u8s L) ∧ Hid (Below w.heap.size w wr))
  case atStart => exact ⟨0, _, [], rfl, rfl, Nat.zero_le _, by omega, Hid.mk' (by simp [encs]), World.ownsRow_nil _ _ _ _, Hid.mk' (Below.refl _ _)⟩
  case round =>
    obtain ⟨k, u, L, rfl, rfl, hk, hkx, HL, hown, HB⟩ := hrel
    obtain ⟨uo, uc, rfl⟩ := owns_form hown
    by_cases hlt : k < n
    · have hkr : k < rs.length := by rw [HN.out]; exact hlt
      have hR2 := HRR.out.upd (Upd.ofBelow HB.out : Upd w wr (fun _ => False)) ⟨fun _ _ => id, fun r _ => by cases r <;> first | exact trivial | exact fun _ _ _ => id⟩
      rw [← HN.out] at hR2
      obtain ⟨g, off, rfl, hcell⟩ := hR2.at_ k hkr
      have hro := hR2.ok _ (List.getElem_mem hkr)
      have hpo := HOK.out _ (List.getElem_mem hkr)
      have HE : Hid (encs ((rs.take (k + 1)).map pureR) = encs ((rs.take k).map pureR) ++ (pureR rs[k]).enc) := by
        show _ = _
        rw [List.take_succ_eq_append_getElem hkr, List.map_append, encs_append]
        simp [encs]
      have HLL : Hid (L.length + (pureR rs[k]).enc.length ≤ 900000) := by
        show _ ≤ _
        rw [HL.out, ← List.length_append, ← HE.out]
        refine Nat.le_trans ?_ hl
        conv => rhs; rw [← List.take_append_drop (k + 1) rs, List.map_append, encs_append, List.length_append]
        omega
      generalize rs[k] = r at *
      have HBS := Hid.mk' (body_small hpo)
      have HBI := Hid.mk' (body_isB hpo)
      have HEL := Hid.mk' (enc_len (pureR r))
      have hal : Below wr.heap.size wr (wr.alloc (.cells #[.slice none 0 0] 197)) := (Below.refl _ _).alloc (Nat.le_refl _) _
      have hsz : (wr.alloc (.cells #[.slice none 0 0] 197)).heap.size = wr.heap.size + 1 := by simp
      have haw : RecAway (fun k => k = wr.heap.size ∨ some k = (Value.slice none 0 0).ownBlock) r := by
        cases r with
        | hard _ _ _ => exact trivial
        | entry x => intro j hj h0 e; rcases e with e | e; have := hro.1.lt hj h0; omega; cases e
        | base _ _ _ => intro j hj h0 e; rcases e with e | e; have := hro.1.lt hj h0; omega; cases e
      have HTT : Hid (∀ w', Below wr.heap.size wr w' → HasTab w') := fun w' h => HT.out.below (HB.out.trans (h.mono HB.out.size))
      have HBSZ := Hid.mk' HB.out.size
      cases r with
      | hard a1 a2 a3 =>
        simp only [recVal] at hcell
        have hcall := writeHard wr.heap.size wr.heap.size _ a1 a2 a3 _ (wr_new wr) (by simp)
        have HW : Hid (Calls Tryz.prog 223 _ _ _) := hcall
        change Hid (Calls Tryz.prog 223 _ _ fun e w' => e = .returned (.tuple #[]) ∧ WrPost wr.heap.size _ w' wr.heap.size _ (pureR (.hard a1 a2 a3)).body) at HW
        generalize hbd : (pureR (.hard a1 a2 a3)).body = body at *
        have HENC : Hid ((pureR (.hard a1 a2 a3)).enc = frameB body) := by show frameB _ = _; rw [hbd]
        clear hbd hcall hro hpo hR2 hkr
        go_wp2_with (first | (go_at_call 93; refine (wNew _).mono ?_; rintro e w2 ⟨rfl, rfl⟩)  | (go_at_call 223; refine HW.out.mono ?_; rintro e w3 ⟨rfl, hp⟩; obtain ⟨v3, hw3, hu3, ho3⟩ := hp; have hb3 : Below wr.heap.size wr w3 := hal.trans (hu3.below (by simp) (fun j hj e => by rcases e with e | e; omega; cases e)))  | (go_at_call 95; refine (wDone _ _ _ _ _ hw3 (by have := HBS.out; omega)).mono ?_; rintro e w4 ⟨v4, rfl, ho4, hb4⟩; have hb4 : Below wr.heap.size wr w4 := hb3.trans (hb4.mono hb3.size); have hs4 := sees_own ho4; obtain ⟨a4, c4, rfl⟩ := owns_form ho4)  | (go_at_call 94; refine (frame_any _ body w4 (HTT.out _ hb4) HBI.out (by have := HBS.out; omega) hs4).mono ?_; rintro e w5 ⟨v5, rfl, ho5, hb5⟩; have hb5 : Below wr.heap.size wr w5 := hb4.trans (hb5.mono hb4.size); have hsrc := Src_sees (sees_own ho5); have hown5 := ownsRow_upd hown (Upd.ofBelow hb5 : Upd wr w5 (fun _ => False)) (fun _ _ => id); obtain ⟨a5, c5, rfl⟩ := owns_form ho5)  | (at_builtin; refine wpList_app _ rfl (.tmp 17) (.tmp 20) 58 58 rfl w.heap.size 5 i0 Tryz.underlying58 hi0 hz0 hz1 hz2 _ L.length (u8s L) rfl hown5 _ rfl _ _ hsrc (by have := HLL.out; rw [HENC.out] at this; omega) (by have := hb5.size; have := HBSZ.out; omega) ?_; intro v6 w6 h1 h2 h3 h4; obtain ⟨a6, c6, rfl⟩ := owns_form h1))
        go_roundg (n - (k + 1))
        case measure => omega
        case rel =>
          refine ⟨k + 1, _, L ++ frameB body, rfl, rfl, by omega, by omega, Hid.mk' ?_, ?_, Hid.mk' ?_⟩
          · rw [HE.out, HL.out, HENC.out]
          · simpa using h1
          · exact (HB.out.trans (hb5.mono HB.out.size)).trans (h2.below (by have := hb5.size; have := HBSZ.out; omega) (fun j hj e => by have := (hown.lt _ e.symm).1; omega))
      | entry x =>
        obtain ⟨vo, vc, hvv⟩ := hro.1.sees.form
        have hcall := writeEntry wr.heap.size wr.heap.size _ x _ (wr_new wr) (by simp) (hro.1.upd (Upd.ofBelow hal : Upd wr _ (fun _ => False)) (fun _ _ _ => id)) haw
        simp only [recVal, hvv] at hcell hcall
        clear hvv
        have HW : Hid (Calls Tryz.prog 221 _ _ _) := hcall
        change Hid (Calls Tryz.prog 221 _ _ fun e w' => e = .returned (.tuple #[]) ∧ WrPost wr.heap.size _ w' wr.heap.size _ (pureR (.entry x)).body) at HW
        generalize hbd : (pureR (.entry x)).body = body at *
        have HENC : Hid ((pureR (.entry x)).enc = frameB body) := by show frameB _ = _; rw [hbd]
        clear hbd hcall hro hpo hR2 hkr
        go_wp2_with (first | (go_at_call 93; refine (wNew _).mono ?_; rintro e w2 ⟨rfl, rfl⟩)  | (go_at_call 221; refine HW.out.mono ?_; rintro e w3 ⟨rfl, hp⟩; obtain ⟨v3, hw3, hu3, ho3⟩ := hp; have hb3 : Below wr.heap.size wr w3 := hal.trans (hu3.below (by simp) (fun j hj e => by rcases e with e | e; omega; cases e)))  | (go_at_call 95; refine (wDone _ _ _ _ _ hw3 (by have := HBS.out; omega)).mono ?_; rintro e w4 ⟨v4, rfl, ho4, hb4⟩; have hb4 : Below wr.heap.size wr w4 := hb3.trans (hb4.mono hb3.size); have hs4 := sees_own ho4; obtain ⟨a4, c4, rfl⟩ := owns_form ho4)  | (go_at_call 94; refine (frame_any _ body w4 (HTT.out _ hb4) HBI.out (by have := HBS.out; omega) hs4).mono ?_; rintro e w5 ⟨v5, rfl, ho5, hb5⟩; have hb5 : Below wr.heap.size wr w5 := hb4.trans (hb5.mono hb4.size); have hsrc := Src_sees (sees_own ho5); have hown5 := ownsRow_upd hown (Upd.ofBelow hb5 : Upd wr w5 (fun _ => False)) (fun _ _ => id); obtain ⟨a5, c5, rfl⟩ := owns_form ho5)  | (at_builtin; refine wpList_app _ rfl (.tmp 17) (.tmp 20) 58 58 rfl w.heap.size 5 i0 Tryz.underlying58 hi0 hz0 hz1 hz2 _ L.length (u8s L) rfl hown5 _ rfl _ _ hsrc (by have := HLL.out; rw [HENC.out] at this; omega) (by have := hb5.size; have := HBSZ.out; omega) ?_; intro v6 w6 h1 h2 h3 h4; obtain ⟨a6, c6, rfl⟩ := owns_form h1))
        go_roundg (n - (k + 1))
        case measure => omega
        case rel =>
          refine ⟨k + 1, _, L ++ frameB body, rfl, rfl, by omega, by omega, Hid.mk' ?_, ?_, Hid.mk' ?_⟩
          · rw [HE.out, HL.out, HENC.out]
          · simpa using h1
          · exact (HB.out.trans (hb5.mono HB.out.size)).trans (h2.below (by have := hb5.size; have := HBSZ.out; omega) (fun j hj e => by have := (hown.lt _ e.symm).1; omega))
      | base i t vv =>
        obtain ⟨vo, vc, hvv⟩ := hro.1.sees.form
        have hcall := writeBase wr.heap.size wr.heap.size _ i t vv _ (wr_new wr) (by simp) (hro.1.upd (Upd.ofBelow hal : Upd wr _ (fun _ => False)) (fun _ _ _ => id)) haw
        simp only [recVal, hvv] at hcell hcall
        clear hvv
        have HW : Hid (Calls Tryz.prog 218 _ _ _) := hcall
        change Hid (Calls Tryz.prog 218 _ _ fun e w' => e = .returned (.tuple #[]) ∧ WrPost wr.heap.size _ w' wr.heap.size _ (pureR (.base i t vv)).body) at HW
        generalize hbd : (pureR (.base i t vv)).body = body at *
        have HENC : Hid ((pureR (.base i t vv)).enc = frameB body) := by show frameB _ = _; rw [hbd]
        clear hbd hcall hro hpo hR2 hkr
        go_wp2_with (first | (go_at_call 93; refine (wNew _).mono ?_; rintro e w2 ⟨rfl, rfl⟩)  | (go_at_call 218; refine HW.out.mono ?_; rintro e w3 ⟨rfl, hp⟩; obtain ⟨v3, hw3, hu3, ho3⟩ := hp; have hb3 : Below wr.heap.size wr w3 := hal.trans (hu3.below (by simp) (fun j hj e => by rcases e with e | e; omega; cases e)))  | (go_at_call 95; refine (wDone _ _ _ _ _ hw3 (by have := HBS.out; omega)).mono ?_; rintro e w4 ⟨v4, rfl, ho4, hb4⟩; have hb4 : Below wr.heap.size wr w4 := hb3.trans (hb4.mono hb3.size); have hs4 := sees_own ho4; obtain ⟨a4, c4, rfl⟩ := owns_form ho4)  | (go_at_call 94; refine (frame_any _ body w4 (HTT.out _ hb4) HBI.out (by have := HBS.out; omega) hs4).mono ?_; rintro e w5 ⟨v5, rfl, ho5, hb5⟩; have hb5 : Below wr.heap.size wr w5 := hb4.trans (hb5.mono hb4.size); have hsrc := Src_sees (sees_own ho5); have hown5 := ownsRow_upd hown (Upd.ofBelow hb5 : Upd wr w5 (fun _ => False)) (fun _ _ => id); obtain ⟨a5, c5, rfl⟩ := owns_form ho5)  | (at_builtin; refine wpList_app _ rfl (.tmp 17) (.tmp 20) 58 58 rfl w.heap.size 5 i0 Tryz.underlying58 hi0 hz0 hz1 hz2 _ L.length (u8s L) rfl hown5 _ rfl _ _ hsrc (by have := HLL.out; rw [HENC.out] at this; omega) (by have := hb5.size; have := HBSZ.out; omega) ?_; intro v6 w6 h1 h2 h3 h4; obtain ⟨a6, c6, rfl⟩ := owns_form h1))
        go_roundg (n - (k + 1))
        case measure => omega
        case rel =>
          refine ⟨k + 1, _, L ++ frameB body, rfl, rfl, by omega, by omega, Hid.mk' ?_, ?_, Hid.mk' ?_⟩
          · rw [HE.out, HL.out, HENC.out]
          · simpa using h1
          · exact (HB.out.trans (hb5.mono HB.out.size)).trans (h2.below (by have := hb5.size; have := HBSZ.out; omega) (fun j hj e => by have := (hown.lt _ e.symm).1; omega))
    · obtain rfl : k = n := by omega
      have HLE : Hid (L = encs (rs.map pureR)) := by show _ = _; rw [HL.out, List.take_of_length_le (by rw [HN.out]; exact Nat.le_refl _)]
      go_wp2
      go_ret
      rw [← HLE.out]
      exact ⟨_, rfl, hown, HB.out⟩
end Go.Proofs.YtecnlfalpfbobaaGreatDoor
