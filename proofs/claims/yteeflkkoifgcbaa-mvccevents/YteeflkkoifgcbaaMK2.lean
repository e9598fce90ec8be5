/- A store takes a write. -/
import Derived.Test.YteeflkkoifgcbaaMK1
namespace Go.Proofs.Yteeflkkoifgcbaa
open Go Go.RowKit

theorem row_cell {w : World} {v : Value} {ks : List ByteArray} (h : w.ownsRow 0 9 1 v ks.length (strs ks)) {j : Nat} {k : ByteArray} (hj : ks[j]? = some k) : ∃ g c, v = .slice (some ⟨g, 0, none⟩) ks.length c ∧ w.cell? ⟨g, j, none⟩ = some (.string k) := by
  have hl := (List.getElem?_eq_some_iff.1 hj).1
  obtain ⟨g, c, hv, _, _⟩ := owns_formB h (by omega)
  have hc := h.cells (g := g) (by rw [hv]; rfl) j (.string k) (by simp [hj])
  simp only [Addr.add_lit, Nat.zero_add] at hc
  exact ⟨g, c, hv, hc⟩
theorem lay_st {n : Nat} {w : World} {s : Nat} {S : Sto} {g : Sg} {o : Value} (h : St n w s S g o) (hn : n ≤ 900000) {r : Int} {key : ByteArray} {c : Option KVd} (L : LayOk S r key c) (hr : r = S.rev) (hrb : r ≤ 1000000) :
    Calls Try.prog 36 #[ptr s, .agg #[.int .i64 r, .string key], encC key c] w fun e w' => e = .returned (.tuple #[]) ∧ ∃ g', St (n + 1) w' s (layS S r key c) g' o ∧ KpM w w' s g g' ∧ g'.lv = g.lv := by
  cases c with
  | none => exact lay_del h hn L hr hrb
  | some v => exact lay_put h hn L hr hrb
/-- What is taken may be laid, key by key. -/
theorem layOk_take {S : Sto} {W : Wri} (hw : Wok S W) (hnd : W.keys.Nodup) (hcov : ∀ k, W.ch k ≠ none ↔ k ∈ W.keys) (hok : ∀ k, HOk k S.rev (S.kh k)) {i : Nat} {k : ByteArray} (hk : W.keys[i]? = some k) : LayOk (takeS S W i) ((S.rev : Int) + 1) k (chG W k) ∧ W.ch k = some (chG W k) := by
  have hm : k ∈ W.keys := List.mem_of_getElem? hk
  obtain ⟨c, hc⟩ : ∃ c, W.ch k = some c := Option.ne_none_iff_exists'.1 ((hcov k).2 hm)
  have e : chG W k = c := by unfold chG; rw [hc]; rfl
  obtain ⟨q1, q2, q3⟩ := hw k c hc
  have hkh : (takeS S W i).kh k = S.kh k := by unfold takeS; exact layAll_not _ _ (not_take hnd hk)
  rw [e]
  refine ⟨⟨q1, fun p hp => ?_, by omega, q2, fun h => by rw [hkh]; exact q3 h⟩, hc⟩
  rw [hkh] at hp
  have := ((hok k).pos p hp).2
  omega
set_option maxRecDepth 100000 in
set_option maxHeartbeats 2000000 in
theorem take_none {n : Nat} {w : World} {s b : Nat} {S : Sto} {W : Wri} {g : Sg} {h : Wg} (H : Ow n w s b S W g h) (hk : W.keys = []) : Calls Try.prog 28 #[ptr s, ptr b] w fun e w' => e = .returned (.tuple #[]) ∧ w' = w := by
  obtain ⟨-, c1, -, -⟩ := H.wr.cells
  obtain ⟨vp, vc, hv⟩ := owns_formB0 H.wr.row
  rw [hv, hk] at c1
  clear H
  go_enter Try.func28, Try.ntmps28
  go_wp2
  first | go_end0 | refine bodyPost_ret (results_none rfl _ _ _) rfl ?_
  exact ⟨rfl, rfl⟩
set_option maxRecDepth 100000 in
set_option maxHeartbeats 2000000 in
theorem take_st {n : Nat} {w : World} {s b : Nat} {S : Sto} {W : Wri} {g : Sg} {h : Wg} (H : Ow n w s b S W g h) (hw : Wok S W) (hk : W.keys ≠ []) (hn : n + W.keys.length ≤ 900000) (hr : S.rev ≤ 999998) :
    Calls Try.prog 28 #[ptr s, ptr b] w fun e w' => e = .returned (.tuple #[]) ∧ ∃ g', St (n + W.keys.length) w' s (takeS S W W.keys.length) g' (ptr b) ∧ Upd w w' (fun k => ftS s g k ∨ h.v.ownBlock = some k) ∧ (∀ k, ftS s g' k → (ftS s g k ∨ h.v.ownBlock = some k) ∨ w.heap.size ≤ k) ∧ g'.lv = setF g.lv ((S.rev : Int) + 1) h.v := by
  obtain ⟨-, c1, c2, -⟩ := H.wr.cells
  obtain ⟨vp, vc, hv⟩ := owns_formB0 H.wr.row
  have hlen : 0 < W.keys.length := List.length_pos_iff.2 hk
  rw [hv] at c1
  obtain ⟨d0, -, -, -, d4, -, -⟩ := H.st.cells
  have f0 := frozen_of_row w s 0 _ _ H.st.blk
  obtain ⟨w1, hw1⟩ : ∃ w1, w1 = w.setCell ⟨s, 0, none⟩ (.int .i64 ((S.rev : Int) + 1)) := ⟨_, rfl⟩
  have hs1 : Upd w w1 (fun k => k = s) := by rw [hw1]; exact (Upd.refl w (fun k => k = s)).setCell (p := ⟨s, 0, none⟩) (.inr rfl) _
  have hl1 : MapF w1 encI g.bl g.lv g.nl := H.st.lg.upd hs1 (H.st.offm (b := g.bl) (.inr (.inl rfl))).1.symm
  obtain ⟨w2, hup, hm2, hu2⟩ := (show MapF w1.drew encI g.bl g.lv g.nl from hl1).set law61 Try.underlying61 ((S.rev : Int) + 1) h.v
  have hup' : (Instr.mapUpdate 61 (.map (some g.bl)) (.int .i64 ((S.rev : Int) + 1)) (.slice vp W.keys.length vc)).run Try.prog w1.drew = .ok () w2 := by rw [← hv]; exact hup
  obtain ⟨hst2, hu02⟩ := St.next H hw1 hm2 hu2.undrew
  have hbs : b ≠ s := fun e => H.ap s (.inl rfl) (.inl e.symm)
  have hb1 : w1.heap[b]? = _ := (hs1.block b (H.wr.lt (.inl rfl)) hbs).trans H.wr.blk
  have e1 : w1.cell? ⟨b, 1, none⟩ = some h.v := cell_of_row _ _ _ _ _ _ hb1
  rw [hv] at e1
  have hs1b : w1.heap[s]? = some (.cells #[.int .i64 ((S.rev : Int) + 1), .int .i64 S.past, ptr g.x, .map (some g.bc), .map (some g.bl), .map (some g.bt), ptr b] 64 (0, 0)) := by rw [hw1]; exact heap_setCell_row H.st.blk _
  have e0 : w1.cell? ⟨s, 0, none⟩ = some (.int .i64 ((S.rev : Int) + 1)) := cell_of_row _ _ _ _ _ _ hs1b
  have e4 : w1.cell? ⟨s, 4, none⟩ = some (.map (some g.bl)) := cell_of_row _ _ _ _ _ _ hs1b
  have HH := Hid.mk'' H
  have HW := Hid.mk'' hw
  have HST := Hid.mk'' hst2
  have HU := Hid.mk'' hu02
  have HV := Hid.mk'' hv
  obtain ⟨g2, hg2⟩ : ∃ g2 : Sg, g2 = { g with lv := setF g.lv ((S.rev : Int) + 1) h.v, nl := if (g.lv ((S.rev : Int) + 1)).isSome then g.nl else g.nl + 1 } := ⟨_, rfl⟩
  rw [← hg2] at HST
  have HG := Hid.mk'' hg2
  have hbw2 : ¬ ftS s g b ∧ ¬ ftS s g h.bw := ⟨fun hf => HH.out.ap b hf (.inl rfl), fun hf => HH.out.ap h.bw hf (.inr (.inl rfl))⟩
  have HB2 := Hid.mk'' ((hu02.block b (H.wr.lt (.inl rfl)) hbw2.1).trans H.wr.blk)
  have f1 : w2.cell? ⟨b, 1, none⟩ = some h.v := cell_of_row _ _ _ _ _ _ HB2.out
  rw [hv] at f1
  clear hl1 hup hm2 hu2 hst2 hu02 hs1 hb1 hs1b hw H hg2 hbw2 hv
  go_enter Try.func28, Try.ntmps28
  go_upto_region 2 with fail
  rw [← hw1]
  clear hw1
  go_region
  go_upto_region 4 with fail
  have hft : ∀ k, ftS s g2 k → ftS s g k ∨ h.v.ownBlock = some k := fun k hf => by
    rw [HG.out] at hf
    rcases hf with hf | hf | hf | hf | hf | ⟨r, v, hv, hf⟩
    · exact .inl (.inl hf)
    · exact .inl (.inr (.inl hf))
    · exact .inl (.inr (.inr (.inl hf)))
    · exact .inl (.inr (.inr (.inr (.inl hf))))
    · exact .inl (.inr (.inr (.inr (.inr (.inl hf)))))
    · dsimp only at hv
      by_cases e : r = (S.rev : Int) + 1
      · subst e; rw [setF_same] at hv; cases hv; exact .inr hf
      · rw [setF_other _ _ e] at hv; exact .inl (.inr (.inr (.inr (.inr (.inr ⟨r, v, hv, hf⟩)))))
  have hnb : ¬ ftS s g2 b := fun hf => (hft b hf).elim (fun h1 => HH.out.ap b h1 (.inl rfl)) (fun h1 => (HH.out.wr.apart.1 b h1).1 rfl)
  have hnw : ¬ ftS s g2 h.bw := fun hf => (hft h.bw hf).elim (fun h1 => HH.out.ap h.bw h1 (.inr (.inl rfl))) (fun h1 => (HH.out.wr.apart.1 h.bw h1).2 rfl)
  have HFT := Hid.mk'' hft
  have hlv2 : g2.lv ((S.rev : Int) + 1) = some h.v := by rw [HG.out]; exact setF_same _ _ _
  have hm2 : MapF w2 encB h.bw (wcF W) h.nw := HH.out.wr.mp.upd HU.out (fun hf => HH.out.ap h.bw hf (.inr (.inl rfl)))
  have hbl2 : b < w2.heap.size := (Array.getElem?_eq_some_iff.1 HB2.out).1
  have HMW := Hid.mk'' hm2
  have hwl2 : h.bw < w2.heap.size := hm2.lt
  have k22 : w2.cell? ⟨b, 2, none⟩ = some (.map (some h.bw)) := cell_of_row _ _ _ _ _ _ HB2.out
  have HK22 := Hid.mk'' k22
  have HLV := Hid.mk'' hlv2
  clear hft hlv2 hm2 k22 c1 c2 d0 d4 f0 hup' e1 e0 e4 f1 hk
  have hl0 : ((W.keys.length : Int) == 0) = false := by rw [beq_eq_false_iff_ne]; omega
  simp only [hl0]
  clear hl0
  go_loopg [36] (W.keys.length + 1) (fun kx s36 wr => ∃ (i : Nat) (g' : Sg), s36 = .int .i64 i ∧ kx + i = W.keys.length + 1 ∧ i ≤ W.keys.length ∧ Hid (St (n + i) wr s (takeS S W i) g' (ptr b) ∧ KpM w2 wr s g2 g' ∧ g'.lv = g2.lv))
  case atStart => exact ⟨0, g2, rfl, rfl, Nat.zero_le _, by rw [takeS_zero]; exact ⟨HST.out, KpM.same (Below.refl _ _), rfl⟩⟩
  case round =>
    obtain ⟨i, g', rfl, hkx, hi, HM⟩ := hrel
    by_cases hlt : i < W.keys.length
    · obtain ⟨k, hkk⟩ : ∃ k, W.keys[i]? = some k := ⟨_, List.getElem?_eq_getElem hlt⟩
      obtain ⟨hL, hch⟩ := layOk_take HW.out HH.out.wr.nd HH.out.wr.cov HH.out.st.hok hkk
      have hsucc := takeS_succ (S := S) hkk
      obtain ⟨hrv, -, hlg⟩ := takeS_rev S W i
      have hrow := (HM.out.1.rows ((S.rev : Int) + 1) h.v (by rw [HM.out.2.2]; exact HLV.out)).2
      rw [hlg, nextS_lg] at hrow
      obtain ⟨gk, ck, hvv, hcell⟩ := row_cell hrow hkk
      rw [HV.out] at hvv
      have hvp : vp = some ⟨gk, 0, none⟩ := by cases hvv; rfl
      subst hvp
      have hdr : Below wr.heap.size wr wr.drew := (Below.refl _ _).drew
      have hlay := lay_st (HM.out.1.below hdr) (by omega) hL (by rw [hrv]; simp) (by omega)
      rw [← hsucc] at hlay
      have c0 := HM.out.1.cells.1
      rw [hrv] at c0
      have c0' : wr.cell? ⟨s, 0, none⟩ = some (.int .i64 ((S.rev : Int) + 1)) := by rw [c0]; simp
      have cb : wr.cell? ⟨b, 2, none⟩ = some (.map (some h.bw)) := (HM.out.2.1.1.cell (p := ⟨b, 2, none⟩) hbl2 hnb).trans HK22.out
      have hmw : MapF wr encB h.bw (wcF W) h.nw := HMW.out.upd HM.out.2.1.1 hnw
      have hwc : wcF W k = some (encC k (chG W k)) := by unfold wcF; rw [hch]; rfl
      have hlk : ∀ V : World, MapF V encB h.bw (wcF W) h.nw → (Instr.lookup 65 (.map (some h.bw)) (.string k) false).run Try.prog V = .ok (encC k (chG W k)) V := fun V hm => by
        have := hm.look law65 Try.underlying65 (zero71 _) k false
        rw [hwc] at this
        exact this
      have hS0 : wr.drew.cell? ⟨s, 0, none⟩ = some (.int .i64 ((S.rev : Int) + 1)) ∧ wr.drew.cell? ⟨b, 2, none⟩ = some (.map (some h.bw)) ∧ (Instr.lookup 65 (.map (some h.bw)) (.string k) false).run Try.prog wr.drew = .ok (encC k (chG W k)) wr.drew := ⟨c0', cb, hlk _ hmw⟩
      have HF9 : Hid (∀ w9, (∃ g9, St (n + i + 1) w9 s (takeS S W (i + 1)) g9 (ptr b) ∧ KpM wr.drew w9 s g' g9 ∧ g9.lv = g'.lv) → (w9.cell? ⟨s, 0, none⟩ = some (.int .i64 ((S.rev : Int) + 1)) ∧ w9.cell? ⟨b, 2, none⟩ = some (.map (some h.bw)) ∧ (Instr.lookup 65 (.map (some h.bw)) (.string k) false).run Try.prog w9 = .ok (encC k (chG W k)) w9) ∧ ∃ g9, Hid (St (n + (i + 1)) w9 s (takeS S W (i + 1)) g9 (ptr b) ∧ KpM w2 w9 s g2 g9 ∧ g9.lv = g2.lv)) := fun w9 ⟨g9, q1, q2, q3⟩ => by
        have kk : KpM w2 w9 s g2 g9 := (HM.out.2.1.trans (KpM.same hdr)).trans q2
        have z0 := q1.cells.1
        rw [(takeS_rev S W (i + 1)).1] at z0
        refine ⟨⟨by rw [z0]; simp, (kk.1.cell (p := ⟨b, 2, none⟩) hbl2 hnb).trans HK22.out, hlk _ (HMW.out.upd kk.1 hnw)⟩, g9, ?_⟩
        exact ⟨by rw [← Nat.add_assoc]; exact q1, kk, q3.trans HM.out.2.2⟩
      clear hL hsucc hrv hlg hrow hvv hdr c0 c0' cb hmw hwc hlk hkk hch HM
      go_upto_region 6 with fail
      go_region_held_law (fun V => V.cell? ⟨s, 0, none⟩ = some (.int .i64 ((S.rev : Int) + 1)) ∧ V.cell? ⟨b, 2, none⟩ = some (.map (some h.bw)) ∧ (Instr.lookup 65 (.map (some h.bw)) (.string k) false).run Try.prog V = .ok (encC k (chG W k)) V) (first | with_reducible assumption | (show _ ∧ _ ∧ _; with_reducible assumption)) (first | (go_at_call 36; refine hlay.mono ?_; rintro e w9 ⟨rfl, HN⟩; obtain ⟨hS9, g9, HN9⟩ := HF9.out w9 HN; clear HN))
      go_wp2
      go_roundg (W.keys.length - i)
      case measure => omega
      case rel => exact ⟨i + 1, g9, by congr 1, by omega, by omega, HN9⟩
    · obtain rfl : i = W.keys.length := by omega
      go_wp2
      first | go_end0 | refine bodyPost_ret (results_none rfl _ _ _) rfl ?_
      refine ⟨rfl, g', HM.out.1, ?_, fun k hf => ?_, by rw [HM.out.2.2, HG.out]⟩
      · exact (HU.out.mono (T := fun k => ftS s g k ∨ h.v.ownBlock = some k) (fun k _ hk => .inl hk)).trans (HM.out.2.1.1.mono (T := fun k => ftS s g k ∨ h.v.ownBlock = some k) (fun k _ hk => HFT.out k hk)) (fun j _ hg => hg)
      · rcases HM.out.2.1.2 k hf with hf | hf
        · exact .inl (HFT.out k hf)
        · exact .inr (Nat.le_trans HU.out.size hf)
end Go.Proofs.Yteeflkkoifgcbaa
