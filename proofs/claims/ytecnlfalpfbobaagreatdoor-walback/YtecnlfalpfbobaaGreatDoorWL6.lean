/- Save, where all may be saved and the disk takes it. -/
import Derived.Test.YtecnlfalpfbobaaGreatDoorWL5
namespace Go.Proofs.YtecnlfalpfbobaaGreatDoor
open Go Go.RowKit
/-- What a Save brings is new: blocks of the disk, entries' Data. -/
def Fresh (w : World) (d : Nat) (g g' : Gu) (s s' : Sm) : Prop := (∀ k, Foot d g' k → Foot d g k ∨ w.heap.size ≤ k) ∧ ∀ S : Nat → Prop, (∀ k, S k → k < w.heap.size) → (∀ y ∈ s.es, EvAway S y) → VvAway S s.vs → (∀ y ∈ s'.es, EvAway S y) ∧ VvAway S s'.vs
theorem recAway_all {S : Nat → Prop} : ∀ {r : RecV}, RecAway S r → RecAll (EvAway S) (VvAway S) r
  | .hard _ _ _, _ => trivial
  | .entry _, h => h
  | .base _ _ _, h => h
theorem RecAway.both {S T U : Nat → Prop} (hU : ∀ k, U k → S k ∨ T k) : ∀ {r : RecV}, RecAway S r → RecAway T r → RecAway U r
  | .hard _ _ _, _, _ => trivial
  | .entry _, h, k => fun j hj h0 e => (hU j e).elim (h j hj h0) (k j hj h0)
  | .base _ _ _, h, k => fun j hj h0 e => (hU j e).elim (h j hj h0) (k j hj h0)
theorem owns_new {B : Nat} {w : World} {e : TypeId} {v : Value} {n k : Nat} {xs : List Value} (h : w.ownsRow B e 1 v n xs) (hk : v.ownBlock = some k) : B ≤ k := by
  rcases h.2 with ⟨rfl, _⟩ | ⟨g, cap, cur, rfl, hb, _⟩
  · cases hk
  · cases hk; exact hb
set_option maxRecDepth 100000 in
set_option maxHeartbeats 4000000 in
theorem save_ok (B l d : Nat) (g : Gu) (p : PS) (s : Sm) (ev hv v : Value) (h : Option (Int × Int × Int)) (xs : List Ev) (newest left room : Int) (q : Nat) (w : World) (hl : Lg B w l d g p s ev newest left) (hB : B ≤ w.heap.size) (hT : HasTab w)
    (hh : HardAt w hv h) (hho : HardOk h) (hx : SeesE w v xs) (ht : Takes s xs) (hn : xs.length ≤ 100000) (hne : recsFor (xs.map Ev.e) h ≠ []) (hok : ∀ r ∈ recsFor (xs.map Ev.e) h, r.ok) (hlen : (encs (recsFor (xs.map Ev.e) h)).length ≤ 900000) (hes : s.es.length ≤ 100000)
    (hg : Goes p newest left q room) (hq : q < 100) (hs : p.sane) (hs2 : (appP p (fname q) (encs (recsFor (xs.map Ev.e) h))).sane) (ha : appE p (fname q) (encs (recsFor (xs.map Ev.e) h)).length = 0) (hy : opE (appP p (fname q) (encs (recsFor (xs.map Ev.e) h))) (fname q) = 0) (hr : -10000000 ≤ room ∧ room ≤ 10000000) :
    Calls Tryz.prog 19 #[ptr l, hv, v] w fun e w' => e = .returned (.int .i64 0) ∧ ∃ g' s' ev', Lg B w' l d g' (syncP (appP p (fname q) (encs (recsFor (xs.map Ev.e) h))) (fname q)) s' ev' q (room - (encs (recsFor (xs.map Ev.e) h)).length) ∧
      pureS s' = (pureS s).says (recsFor (xs.map Ev.e) h) ∧ LgUpd w w' l d g ev ∧ Owned w ev ev' ∧ Fresh w d g g' s s' := by
  have hrl : (recsFor (xs.map Ev.e) h).length ≤ xs.length + 1 := by
    unfold recsFor
    rcases h with _ | ⟨t, vo, c⟩ <;> simp
  have hrf := refresh_any l w hl.c10
  have hre := refuse_ok B l s ev v hv h xs w hl.sm hx ht hn hh hho
  have hts := fun (w1 : World) (hb : Below w.heap.size w w1) => toSave_any hv v h xs w1 (hh.below hb) (hx.below hb) hn
  generalize recsFor (xs.map Ev.e) h = rr at *
  have HL := Hid.mk' hl
  have HT := Hid.mk' hT
  have HW : Hid (∀ (w3 : World) (v3 : Value), Below w.heap.size w w3 → w3.ownsRow w.heap.size 5 1 v3 (encs rr).length (u8s (encs rr)) → isB (encs rr) →
      Calls Tryz.prog 49 #[ptr l, v3] w3 fun e w' => e = .returned (.int .i64 0) ∧ ∃ g', Lg B w' l d g' (syncP (appP p (fname q) (encs rr)) (fname q)) s ev q (room - (encs rr).length) ∧ LgUpd w3 w' l d g ev ∧ ∀ k, Foot d g' k → Foot d g k ∨ w3.heap.size ≤ k) := by
    intro w3 v3 hb3 ho3 hi3
    exact write_any B l d g p s ev v3 newest left room q (encs rr) w3 (hl.below hb3) (Nat.le_trans hB hb3.size) hg hq hs hs2 ha hy (sees_own ho3) hi3 hlen (fun k hk h0 e => by
      have h1 := hl.dk.lt e
      have h2 := owns_new ho3 hk
      omega) hr
  obtain ⟨ao, cp, rfl, _⟩ := hx.form
  have HOK := Hid.mk' hok
  have hrr0 : 0 < rr.length := List.length_pos_iff.2 hne
  have HES := Hid.mk' hes
  have HLEN := Hid.mk' hlen
  have HBB := Hid.mk' hB
  have HLL := Hid.mk' hl.sm.cells.lt
  have HEV : Hid (∀ k, some k = ev.ownBlock → k < w.heap.size) := fun k hk => (hl.sm.rest.row.lt hk.symm).2
  have HFT : Hid (∀ k, Foot d g k → k < w.heap.size) := fun k hk => hl.dk.lt hk
  clear hl hT hh hho hx ht hne hok hes hB hg hs hs2 ha hy hlen
  go_enter Tryz.func19, Tryz.ntmps19
  go_wp2_with (first | (go_at_call 46; refine hrf.mono ?_; rintro e w1 ⟨rfl, h1⟩; have h1 := h1.symm; subst h1) | (go_at_call 47; refine hre.mono ?_; rintro e w2 ⟨rfl, hb2⟩))
  refine (hts _ hb2).mono ?_
  rintro e w3 ⟨v3, rs, rfl, hsr, hnr, hrs, hb3⟩
  have hrsl : rs.length = rr.length := by rw [← hrs, List.length_map]
  have HB3 : Hid (Below w.heap.size w w3) := hb2.trans (hb3.mono hb2.size)
  obtain ⟨a3, c3, rfl, hc3⟩ := hsr.form
  obtain ⟨g3, off3, rfl, hcx0⟩ := hsr.at_ 0 (by omega)
  clear hcx0
  have hfr := framed_any _ rs w3 (HT.out.below HB3.out) hsr (fun r hr => HOK.out _ (by rw [← hrs]; exact List.mem_map_of_mem hr)) (by rw [show rs.map pureR = rr from hrs]; exact HLEN.out) (by omega)
  rw [show rs.map pureR = rr from hrs] at hfr
  have HSR := Hid.mk' hsr
  have HNR : Hid (NewR w.heap.size (.slice (some ⟨g3, off3, none⟩) rs.length c3) rs) := ⟨fun k hk => Nat.le_trans hb2.size (hnr.1 k hk), fun r hr => (hnr.2 r hr).mono (fun j (hj : j < w.heap.size) => Nat.lt_of_lt_of_le hj hb2.size)⟩
  have HRS := Hid.mk' hrs
  obtain ⟨n, hn0⟩ : ∃ n, n = rs.length := ⟨_, rfl⟩
  have HN := Hid.mk' hn0
  rw [← hn0] at hrsl hfr ⊢
  have hz0 : ((n : Int) == 0) = false := by rw [beq_eq_false_iff_ne]; omega
  have hnb : n ≤ 100001 := by omega
  clear hrf hre hts hsr hnr hrs hn0 hb2 hb3 hrsl hrr0 hrl
  go_wp2_with (first | (go_at_call 50; refine hfr.mono ?_; rintro e w4 ⟨v4, rfl, ho4, hb4⟩; obtain ⟨a4, c4, rfl⟩ := owns_form ho4; have HB4 : Hid (Below w.heap.size w w4) := HB3.out.trans (hb4.mono HB3.out.size); have hwr := HW.out w4 _ HB4.out ⟨ho4.1, ho4.2.imp id (fun ⟨g, cap, cur, e1, e2, e3⟩ => ⟨g, cap, cur, e1, Nat.le_trans HB3.out.size e2, e3⟩)⟩ (encs_isB HOK.out); have HSR4 := Hid.mk' (HSR.out.upd (Upd.ofBelow hb4 : Upd w3 w4 (fun _ => False)) ⟨fun _ _ => id, fun r hr => (HNR.out.2 r hr).mono (fun _ h => h.elim)⟩); have HS34 : Hid (w3.heap.size ≤ w4.heap.size) := hb4.size; clear hfr ho4 hb4) | (go_at_call 49; refine hwr.mono ?_; rintro e w5 ⟨rfl, g5, hl5, hu5, hf5⟩; clear hwr))
  have HL5 := Hid.mk' hl5
  have HU5 := Hid.mk' hu5
  have HF5 := Hid.mk' hf5
  have HSR5 : Hid (SeesR w5 (.slice (some ⟨g3, off3, none⟩) rs.length c3) rs) := HSR4.out.upd hu5 (HNR.out.away (fun k hk => by
    rcases hk with hk | hk | hk
    · rw [hk]; exact HLL.out
    · exact HEV.out k hk
    · exact HFT.out k hk))
  have HRA : Hid (RowAway (fun k => k = l ∨ some k = ev.ownBlock) (.slice (some ⟨g3, off3, none⟩) rs.length c3) rs) := HNR.out.away (fun k hk => by
    rcases hk with hk | hk
    · rw [hk]; exact HLL.out
    · exact HEV.out k hk)
  have HSTEP : Hid (∀ (wr : World) (ev1 : Value) (k : Nat) (hk : k < rs.length), Smem B wr l 1 (s.says (rs.take k)) ev1 → Upd w5 wr (fun j => j = l ∨ some j = ev.ownBlock) → Owned w5 ev ev1 → Keeps w5 wr l 1 →
      wr.cell? ⟨g3, off3 + k, none⟩ = some (recVal rs[k]) ∧ Calls Tryz.prog 51 #[.pointer (some ⟨l, 1, none⟩), recVal rs[k]] wr fun e w' => e = .returned (.tuple #[]) ∧ SmPost B w5 w' l 1 ev (s.says (rs.take (k + 1)))) := by
    intro wr ev1 k hk hm hu ho hkp
    have hrr := HSR5.out.upd hu HRA.out
    obtain ⟨g', off', e', hc'⟩ := hrr.at_ k hk
    simp only [Option.some.injEq, Addr.mk.injEq, and_true] at e'
    obtain ⟨rfl, rfl⟩ := e'
    refine ⟨hc', ?_⟩
    have hmem := List.getElem_mem hk
    have hlen := says_len (rs.take k) s
    have hlt : (rs.take k).length ≤ rs.length := by rw [List.length_take]; omega
    refine (say_any B l 1 _ ev1 rs[k] wr hm (hrr.ok _ hmem) ((HRA.out.2 _ hmem).owned (HSR5.out.ok _ hmem) ho) (by have := HN.out; have := HES.out; omega) (Nat.le_trans HBB.out (Nat.le_trans HB4.out.size (Nat.le_trans HU5.out.size hu.size)))).mono ?_
    rintro e w' ⟨rfl, hp⟩
    refine ⟨rfl, ?_⟩
    rw [List.take_succ_eq_append_getElem hk, says_snoc]
    exact SmPost.trans hu ho hkp hp
  have HK5 := Hid.mk' hl5.sm
  clear hl5 hu5 hf5
  go_loopg [36] n (fun kx s36 wr => ∃ k : Nat, s36 = .int .i64 k ∧ k ≤ n ∧ n - k ≤ kx ∧ Hid (SmPost B w5 wr l 1 ev ((s : Sm).says (rs.take k))))
  case atStart => exact ⟨0, rfl, Nat.zero_le _, by omega, Hid.mk' ⟨ev, HK5.out, Upd.refl _ _, .inl rfl, Keeps.refl _ _ _⟩⟩
  case round =>
    obtain ⟨k, rfl, hkn, hkx, HP⟩ := hrel
    by_cases hk : k < n
    · obtain ⟨ev1, hm1, hu1, ho1, hk1⟩ := HP.out
      have hkr : k < rs.length := by rw [← HN.out]; exact hk
      obtain ⟨hcell, hcall⟩ := HSTEP.out _ _ k hkr hm1 hu1 ho1 hk1
      obtain ⟨tt, vv1, hform⟩ := recVal_form rs[k]
      rw [hform] at hcell hcall
      clear hm1 hu1 ho1 hk1 hform
      go_wp2_with (go_at_call 51; refine hcall.mono ?_; rintro e w6 ⟨rfl, hp⟩)
      go_roundg (n - (k + 1))
      case measure => omega
      case rel => exact ⟨k + 1, rfl, by omega, by omega, Hid.mk' hp⟩
    · obtain rfl : k = n := by omega
      have hp := HP.out
      rw [List.take_of_length_le (by rw [← HN.out]; exact Nat.le_refl _)] at hp
      have HP2 := Hid.mk' hp
      clear hp
      go_wp2
      go_ret
      have hlow : ∀ r ∈ rs, RecAway (Foot d g5) r := fun r hr => RecAway.both (S := fun j => j < w.heap.size) (T := fun j => w4.heap.size ≤ j) (fun j hj => (HF5.out j hj).imp (HFT.out j) id) (HNR.out.2 r hr) (recOk_lt (Nat.le_refl _) (HSR4.out.ok r hr))
      obtain ⟨ev7, hl7, hu7, ho7⟩ := HL5.out.said HP2.out (StAll.says ⟨HL5.out.fe, HL5.out.fv⟩ (fun r hr => recAway_all (hlow r hr)))
      refine ⟨rfl, g5, _, ev7, hl7, ?_, ?_, ?_, ⟨fun j hj => (HF5.out j hj).imp id (fun h => Nat.le_trans HB4.out.size h), fun S hS he hv => StAll.says ⟨he, hv⟩ (fun r hr => recAway_all ((HNR.out.2 r hr).mono (fun j hj => hS j hj)))⟩⟩
      · rw [← HRS.out]; exact says_map (f := Ev.e) (g := Vv.vs) (fun _ => rfl) (fun _ => rfl) rs s
      · refine ((Upd.ofBelow HB4.out : Upd w w4 _).trans HU5.out (fun _ _ h => h)).trans hu7 (fun j _ h => ?_)
        rcases h with h | h
        · exact .inl h
        · exact .inr (.inl h)
      · exact Owned.trans (.inl rfl) (Nat.le_trans HB4.out.size HU5.out.size) ho7
end Go.Proofs.YtecnlfalpfbobaaGreatDoor
