/- What recordsIn does: the records of a file. -/
import Derived.Test.YtecnlfalpfbobaaGreatDoorWC10
import Derived.Test.YtecnlfalpfbobaaGreatDoorWC8
namespace Go.Proofs.YtecnlfalpfbobaaGreatDoor
open Go Go.RowKit
def NoBF : Nat → List Int → Prop
  | 0, _ => True
  | n + 1, zs => unfE zs = 0 → kindOf (unfR zs) ≠ 3 ∧ NoBF n (zs.drop (unfN zs))
/-- No frame of these bytes is a base. -/
def NoB (zs : List Int) : Prop := ∀ n, NoBF n zs
theorem NoB.kind {zs : List Int} (h : NoB zs) (he : unfE zs = 0) : kindOf (unfR zs) ≠ 3 := (h 1 he).1
theorem NoB.rest {zs : List Int} (h : NoB zs) (he : unfE zs = 0) : NoB (zs.drop (unfN zs)) := fun n => (h (n + 1) he).2
theorem kind_body : ∀ {r : Rec}, r.ok → kindOf r.body = match r with | .hard _ _ _ => 1 | .entry _ => 2 | .base _ _ _ => 3
  | .hard t v c, _ => num1_of (n := 1) (A := []) (R := q8 t ++ q8 v ++ q8 c) (by simp only [RecG.body, List.append_assoc, List.nil_append]) (by decide) (by decide)
  | .entry ⟨i, t, k, d⟩, _ => num1_of (n := 2) (A := []) (R := q8 i ++ q8 t ++ q1 k ++ (q4 d.length ++ d)) (by simp only [RecG.body, List.append_assoc, List.nil_append]) (by decide) (by decide)
  | .base i t vs, _ => num1_of (n := 3) (A := []) (R := q8 i ++ q8 t ++ q1 vs.length ++ vsB vs) (by simp only [RecG.body, List.append_assoc, List.nil_append]) (by decide) (by decide)
theorem noB_encs : ∀ {rs : List Rec} (_ : ∀ r ∈ rs, r.ok ∧ r.isBase = false), NoB (encs rs)
  | [], _ => fun n => by
    cases n with
    | zero => trivial
    | succ n => intro h; exact absurd h (by decide)
  | r :: rs, h => fun n => by
    cases n with
    | zero => trivial
    | succ n =>
      intro _
      obtain ⟨hr, hbs⟩ := h r (by simp)
      have hb := body_small hr
      rw [encs_cons]
      have hR : unfR (r.enc ++ encs rs) = r.body := unfR_frame r.body _ (by omega)
      have hN : unfN (r.enc ++ encs rs) = r.enc.length := by rw [enc_len]; have := unfN_frame r.body (encs rs) (by omega); unfold RecG.enc; omega
      rw [hR, hN, List.drop_left, kind_body hr]
      refine ⟨?_, noB_encs (fun x hx => h x (by simp [hx])) n⟩
      cases r with
      | hard _ _ _ => show (1 : Int) ≠ 3; decide
      | entry _ => show (2 : Int) ≠ 3; decide
      | base _ _ _ => cases hbs
theorem sees_lt {w : World} {v : Value} {zs : List Int} (h : Sees w v zs) : ∀ k, v.ownBlock = some k → 0 < zs.length → k < w.heap.size := fun k hk h0 => by
  rcases h with ⟨h, _⟩ | ⟨b, off, cap, e, _, _, _, hc⟩
  · rw [h] at h0; simp at h0
  · rw [e] at hk
    simp only [Value.ownBlock, Option.some.injEq] at hk
    subst hk
    exact World.block_lt_of_cell? _ _ (hc 0 h0)
set_option maxRecDepth 100000 in
set_option maxHeartbeats 4000000 in
theorem recordsIn_any (v : Value) (zs : List Int) (w : World) (hT : HasTab w) (hv : Sees w v zs) (hb : isB zs) (hl : zs.length ≤ 70000) (hnb : NoB zs) :
    Calls Tryz.prog 83 #[v] w fun e w' => ∃ v' rs, e = .returned v' ∧ SeesR w' v' rs ∧ NewR w.heap.size v' rs ∧ rs.map pureR = recsOf zs ∧ Below w.heap.size w w' := by
  obtain ⟨i0, hi0, hz0, hz1, hz2⟩ := info_parts info107
  have HT := Hid.mk' hT
  have HV := Hid.mk' hv
  have HBB := Hid.mk' hb
  have HNB := Hid.mk' hnb
  obtain ⟨ao, cp, rfl⟩ := hv.form
  have HL := Hid.mk' hl
  clear hT hv hb hnb hl
  go_enter Tryz.func83, Tryz.ntmps83
  go_wp2
  go_loopg [0, 3] zs.length (fun kx s0 s3 wr => ∃ (v1 : Value) (ys : List Int) (u : Value) (rs : List RecV), s0 = v1 ∧ s3 = u ∧ ys.length ≤ kx ∧ Hid (Sees wr v1 ys ∧ isB ys ∧ NoB ys ∧ ys.length ≤ 70000) ∧ Hid (∀ k, v1.ownBlock = some k → 0 < ys.length → k < w.heap.size) ∧ Hid (OwnR w.heap.size wr u rs) ∧ Hid (∀ r ∈ rs, RecAway (fun j => j < w.heap.size) r) ∧ Hid (rs.map pureR ++ recsOf ys = recsOf zs) ∧ Hid (rs.length + ys.length ≤ zs.length) ∧ Hid (Below w.heap.size w wr))
  case atStart => exact ⟨_, zs, _, [], rfl, rfl, Nat.le_refl _, Hid.mk' ⟨HV.out, HBB.out, HNB.out, HL.out⟩, Hid.mk' (sees_lt HV.out), Hid.mk' (OwnR.nil _ _), Hid.mk' (fun _ h => by cases h), Hid.mk' rfl, Hid.mk' (by simp), Hid.mk' (Below.refl _ _)⟩
  case round =>
    obtain ⟨v1, ys, u, rs, rfl, rfl, hkx, HS, HBK, HR, HLO, HE, HLN, HB⟩ := hrel
    have huf := unframe_any _ ys wr (HT.out.below HB.out) HS.out.2.1 (by have := HS.out.2.2.2; omega) HS.out.1
    obtain ⟨yo, yc, rfl⟩ := HS.out.1.form
    obtain ⟨uo, uc, rfl, _, _⟩ := HR.out.row.form
    by_cases he : unfE ys = 0
    · have hne : (unfE ys != 0) = false := by rw [bne_eq_false_iff_eq]; exact he
      obtain ⟨hE1, hE2, hE3⟩ := unfE_len he
      have hpi : isB (unfR ys) := by rw [hE3]; exact isB_part HS.out.2.1 8 _
      have hpl : (unfR ys).length ≤ 70000 := by rw [hE3]; unfold unfB; have := HS.out.2.2.2; simp; omega
      have hk3 := HS.out.2.2.1.kind he
      have hyl := HS.out.2.2.2
      cases hp : parseP (unfR ys) with
      | none =>
        have HRE := Hid.mk' (recsOf_bad he hp)
        have hpa := fun v2 w2 (hs2 : Sees w2 v2 (unfR ys)) => parse_any v2 (unfR ys) w2 hs2 hpi hpl hk3
        rw [hp] at hpa
        clear hp he hk3 hpi hE1 hE2 hE3
        go_wp2_with (first | (go_at_call 118; refine huf.mono ?_; rintro e w2 ⟨v2, rfl, hs2, hb2⟩; have hpa := hpa _ _ hs2; obtain ⟨a2, c2, rfl⟩ := hs2.form) | (go_at_call 119; refine hpa.mono ?_; rintro e w3 ⟨rv, ok, rfl, ⟨rfl, rfl⟩, hb3⟩))
        go_ret
        exact ⟨_, rs, rfl, ((HR.out.below hb2).below hb3).sees, ⟨fun j hj => (HR.out.row.lt hj).1, HLO.out⟩, by rw [← HE.out, HRE.out, List.append_nil], (HB.out.trans (hb2.mono HB.out.size)).trans (hb3.mono (by have := hb2.size; have := HB.out.size; omega))⟩
      | some r =>
        have HRE := Hid.mk' (recsOf_cons he hp)
        have HNR := Hid.mk' (HS.out.2.2.1.rest he)
        have hpa := fun v2 w2 (hs2 : Sees w2 v2 (unfR ys)) => parse_any v2 (unfR ys) w2 hs2 hpi hpl hk3
        rw [hp] at hpa
        clear hp he hk3 hpi
        obtain ⟨b0, off, cap, hv0, _, hcap, hcm, hcl⟩ : ∃ b0 off cap, Value.slice yo ys.length yc = .slice (some ⟨b0, off, none⟩) ys.length cap ∧ 0 < ys.length ∧ ys.length ≤ cap ∧ cap ≤ maxLen ∧ ∀ i, i < ys.length → wr.cell? ⟨b0, off + i, none⟩ = some (.int .u8 (ys.getD i 0)) := by
          rcases HS.out.1 with ⟨h, _⟩ | h
          · rw [h] at hE1; simp at hE1
          · exact h
        simp only [Value.slice.injEq, true_and] at hv0
        obtain ⟨rfl, rfl⟩ := hv0
        generalize unfN ys = N at *
        have HCL := Hid.mk' hcl
        have hNl : N ≤ ys.length := by omega
        have hN8 : 8 ≤ N := by omega
        have HBK0 : Hid (b0 < w.heap.size) := HBK.out b0 rfl (by omega)
        have HAWAY : Hid (¬ some b0 = (Value.slice uo rs.length uc).ownBlock) := fun e => by have h4 := (HR.out.row.lt e.symm).1; have h5 := HBK0.out; omega
        have HSEE : Hid (∀ w', Upd wr w' (fun k => some k = (Value.slice uo rs.length uc).ownBlock) → ¬ some b0 = (Value.slice uo rs.length uc).ownBlock → Sees w' (.slice (if yc = N then some ⟨b0, off, none⟩ else some ⟨b0, off + N, none⟩) (ys.length - N) (yc - N)) (ys.drop N)) := by
          intro w' hb' hna
          have hs := sees_cut HCL.out N (ys.length - N) (yc - N) (by omega) (by omega) (by omega)
          rw [List.take_of_length_le (by rw [List.length_drop]; exact Nat.le_refl _)] at hs
          split
          · rename_i hc
            refine .inl ⟨List.drop_of_length_le (by omega), _, _, by rw [show ys.length - N = 0 by omega], (fun e => by cases e), by omega⟩
          · exact hs.upd hb' (fun k hk _ e => by simp only [Value.ownBlock, Option.some.injEq] at hk; subst hk; exact hna e)
        clear hcl hE1 hE2 hE3
        by_cases hc : yc = N
        · rw [if_pos hc, show yc - N = 0 by omega, show ys.length - N = 0 by omega] at HSEE
          subst hc
          go_wp2_with (first | (go_at_call 118; refine huf.mono ?_; rintro e w2 ⟨v2, rfl, hs2, hb2⟩; have hpa := hpa _ _ hs2; obtain ⟨a2, c2, rfl⟩ := hs2.form) | (go_at_call 119; refine hpa.mono ?_; rintro e w3 ⟨rv, ok, rfl, ⟨rfl, rV, rfl, hpu, hrok, hraw⟩, hb3⟩; obtain ⟨tt, pv, hform⟩ := recVal_form rV; have HFORM := Hid.mk' hform; rw [hform]; have hsrc := Src_one (w := w3) (x := .iface tt pv) rfl; have HB3 : Hid (Below wr.heap.size wr (w3.alloc (.cells #[.iface tt pv] 107))) := (((Below.refl _ _).trans hb2).trans (hb3.mono hb2.size)).alloc (by have := hb2.size; have := hb3.size; omega) _; have hrow := (HR.out.below HB3.out).row; have hbs : w.heap.size ≤ w3.heap.size := (by have := hb2.size; have := hb3.size; have := HB.out.size; omega); have hln := HLN.out; have hzl := HL.out) | (at_builtin; refine wpList_appO _ rfl (.tmp 26) (.tmp 28) 102 102 rfl w.heap.size 107 i0 .nilIface 1 Tryz.underlying102 hi0 hz0 hz1 rfl (by omega) _ rs.length (rs.map recVal) rfl hrow _ rfl 1 _ hsrc (by omega) (by simp; omega) ?_; intro v6 w6 h1 h2 h3; obtain ⟨a6, c6, rfl, _, _⟩ := h1.form))
          go_roundg (ys.drop yc).length
          case measure => rw [List.length_drop]; omega
          case rel =>
            have hlow : RecAway (fun j => j < w.heap.size) rV := hraw.mono (fun j (hj : j < w.heap.size) => by have h4 := hb2.size; have h5 := HB.out.size; show j < w2.heap.size; omega)
            have hap : RecAway (fun j => some j = (Value.slice uo rs.length uc).ownBlock) rV := hraw.mono (fun j (hj : some j = _) => by have h4 := hb2.size; have h5 := (HR.out.row.lt hj.symm).2; show j < w2.heap.size; omega)
            have key := HR.out.push (r := rV) HB3.out (hrok.below ((Below.refl _ _).alloc (Nat.le_refl _) _)) hap (by rw [HFORM.out]; exact h1) h2 h3
            have hU : Upd wr w6 (fun k => some k = (Value.slice uo rs.length uc).ownBlock) := (Upd.ofBelow HB3.out : Upd wr _ (fun k => some k = (Value.slice uo rs.length uc).ownBlock)).trans h2 (fun _ _ h => h)
            have hsee := HSEE.out _ hU HAWAY.out
            refine ⟨_, ys.drop yc, _, rs ++ [rV], rfl, rfl, Nat.le_refl _, Hid.mk' ⟨hsee, fun x hx => HS.out.2.1 x (List.mem_of_mem_drop hx), HNR.out, by rw [List.length_drop]; omega⟩, Hid.mk' (fun j hj _ => by simp only [Value.ownBlock, Option.some.injEq] at hj; subst hj; exact HBK0.out), Hid.mk' key, Hid.mk' (fun x hx => ?_), Hid.mk' ?_, Hid.mk' ?_, Hid.mk' ?_⟩
            · rcases List.mem_append.1 hx with hx | hx
              · exact HLO.out x hx
              · rw [List.mem_singleton.1 hx]; exact hlow
            · rw [← HE.out, HRE.out, List.map_append, List.append_assoc]
              show _ ++ ([pureR rV] ++ _) = _
              rw [show pureR rV = r from hpu]
              rfl
            · rw [List.length_append, List.length_drop]; show rs.length + 1 + _ ≤ _; omega
            · exact HB.out.trans ((HB3.out.mono HB.out.size).trans (h2.below (Nat.le_trans HB.out.size HB3.out.size) (fun j hj e => by have := (HR.out.row.lt e.symm).1; omega)))
        · rw [if_neg hc] at HSEE
          go_wp2_with (first | (go_at_call 118; refine huf.mono ?_; rintro e w2 ⟨v2, rfl, hs2, hb2⟩; have hpa := hpa _ _ hs2; obtain ⟨a2, c2, rfl⟩ := hs2.form) | (go_at_call 119; refine hpa.mono ?_; rintro e w3 ⟨rv, ok, rfl, ⟨rfl, rV, rfl, hpu, hrok, hraw⟩, hb3⟩; obtain ⟨tt, pv, hform⟩ := recVal_form rV; have HFORM := Hid.mk' hform; rw [hform]; have hsrc := Src_one (w := w3) (x := .iface tt pv) rfl; have HB3 : Hid (Below wr.heap.size wr (w3.alloc (.cells #[.iface tt pv] 107))) := (((Below.refl _ _).trans hb2).trans (hb3.mono hb2.size)).alloc (by have := hb2.size; have := hb3.size; omega) _; have hrow := (HR.out.below HB3.out).row; have hbs : w.heap.size ≤ w3.heap.size := (by have := hb2.size; have := hb3.size; have := HB.out.size; omega); have hln := HLN.out; have hzl := HL.out) | (at_builtin; refine wpList_appO _ rfl (.tmp 26) (.tmp 28) 102 102 rfl w.heap.size 107 i0 .nilIface 1 Tryz.underlying102 hi0 hz0 hz1 rfl (by omega) _ rs.length (rs.map recVal) rfl hrow _ rfl 1 _ hsrc (by omega) (by simp; omega) ?_; intro v6 w6 h1 h2 h3; obtain ⟨a6, c6, rfl, _, _⟩ := h1.form))
          go_roundg (ys.drop N).length
          case measure => rw [List.length_drop]; omega
          case rel =>
            have hlow : RecAway (fun j => j < w.heap.size) rV := hraw.mono (fun j (hj : j < w.heap.size) => by have h4 := hb2.size; have h5 := HB.out.size; show j < w2.heap.size; omega)
            have hap : RecAway (fun j => some j = (Value.slice uo rs.length uc).ownBlock) rV := hraw.mono (fun j (hj : some j = _) => by have h4 := hb2.size; have h5 := (HR.out.row.lt hj.symm).2; show j < w2.heap.size; omega)
            have key := HR.out.push (r := rV) HB3.out (hrok.below ((Below.refl _ _).alloc (Nat.le_refl _) _)) hap (by rw [HFORM.out]; exact h1) h2 h3
            have hU : Upd wr w6 (fun k => some k = (Value.slice uo rs.length uc).ownBlock) := (Upd.ofBelow HB3.out : Upd wr _ (fun k => some k = (Value.slice uo rs.length uc).ownBlock)).trans h2 (fun _ _ h => h)
            have hsee := HSEE.out _ hU HAWAY.out
            refine ⟨_, ys.drop N, _, rs ++ [rV], rfl, rfl, Nat.le_refl _, Hid.mk' ⟨hsee, fun x hx => HS.out.2.1 x (List.mem_of_mem_drop hx), HNR.out, by rw [List.length_drop]; omega⟩, Hid.mk' (fun j hj _ => by simp only [Value.ownBlock, Option.some.injEq] at hj; subst hj; exact HBK0.out), Hid.mk' key, Hid.mk' (fun x hx => ?_), Hid.mk' ?_, Hid.mk' ?_, Hid.mk' ?_⟩
            · rcases List.mem_append.1 hx with hx | hx
              · exact HLO.out x hx
              · rw [List.mem_singleton.1 hx]; exact hlow
            · rw [← HE.out, HRE.out, List.map_append, List.append_assoc]
              show _ ++ ([pureR rV] ++ _) = _
              rw [show pureR rV = r from hpu]
              rfl
            · rw [List.length_append, List.length_drop]; show rs.length + 1 + _ ≤ _; omega
            · exact HB.out.trans ((HB3.out.mono HB.out.size).trans (h2.below (Nat.le_trans HB.out.size HB3.out.size) (fun j hj e => by have := (HR.out.row.lt e.symm).1; omega)))
    · have hne : (unfE ys != 0) = true := by rw [bne_iff_ne]; exact he
      have HRE := Hid.mk' (recsOf_none he)
      go_wp2_with (go_at_call 118; refine huf.mono ?_; rintro e w2 ⟨v2, rfl, hs2, hb2⟩; obtain ⟨a2, c2, rfl⟩ := hs2.form)
      go_ret
      exact ⟨_, rs, rfl, (HR.out.below hb2).sees, ⟨fun j hj => (HR.out.row.lt hj).1, HLO.out⟩, by rw [← HE.out, HRE.out, List.append_nil], HB.out.trans (hb2.mono HB.out.size)⟩
end Go.Proofs.YtecnlfalpfbobaaGreatDoor
