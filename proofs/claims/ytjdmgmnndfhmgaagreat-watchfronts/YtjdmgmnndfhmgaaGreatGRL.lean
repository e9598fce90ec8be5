/- What a write leaves when it is done, as data. -/
import Derived.Test.YtjdmgmnndfhmgaaGreatGRK
namespace Go.Proofs.YtjdmgmnndfhmgaaGreat
open Go Go.RowKit

/-- A write that a store may take. -/
def Wok (S : Sto) (W : Wri) : Prop := ∀ k c, W.ch k = some c → (0 < k.size ∧ k.size ≤ 100) ∧ (∀ v, c = some v → v.key = k ∧ v.mod = (S.rev : Int) + 1 ∧ 1 ≤ v.version ∧ v.version ≤ (S.rev : Int) + 1) ∧ (c = none → (thereH (S.kh k)).isSome = true)
/-- The store at its new revision, nothing laid yet. -/
def nextS (S : Sto) (l : List ByteArray) : Sto := { S with rev := S.rev + 1, lg := fun x => if x = (S.rev : Int) + 1 then l else S.lg x }
def layAll (f : ByteArray → Option KVd) (r : Int) (S : Sto) (l : List ByteArray) : Sto := l.foldl (fun S k => layS S r k (f k)) S
def chG (W : Wri) (k : ByteArray) : Option KVd := (W.ch k).getD none
def takeS (S : Sto) (W : Wri) (i : Nat) : Sto := layAll (chG W) ((S.rev : Int) + 1) (nextS S W.keys) (W.keys.take i)
def doneS (S : Sto) (W : Wri) : Sto := if W.keys = [] then S else takeS S W W.keys.length
theorem layAll_rev (f : ByteArray → Option KVd) (r : Int) : ∀ (l : List ByteArray) (S : Sto), (layAll f r S l).rev = S.rev ∧ (layAll f r S l).past = S.past ∧ (layAll f r S l).lg = S.lg
  | [], S => ⟨rfl, rfl, rfl⟩
  | k :: l, S => by
    have := layAll_rev f r l (layS S r k (f k))
    exact ⟨this.1.trans rfl, this.2.1.trans rfl, this.2.2.trans rfl⟩
theorem layAll_not (f : ByteArray → Option KVd) (r : Int) {k : ByteArray} : ∀ {l : List ByteArray} {S : Sto}, k ∉ l → (layAll f r S l).kh k = S.kh k
  | [], _, _ => rfl
  | j :: l, S, h => by
    simp only [List.mem_cons, not_or] at h
    have := layAll_not f r (l := l) (S := layS S r j (f j)) h.2
    exact this.trans (layS_other _ _ _ h.1)
theorem layAll_in (f : ByteArray → Option KVd) (r : Int) {k : ByteArray} : ∀ {l : List ByteArray} {S : Sto}, l.Nodup → k ∈ l → (layAll f r S l).kh k = S.kh k ++ [(r, f k)]
  | [], _, _, h => by cases h
  | j :: l, S, hn, h => by
    obtain ⟨h1, h2⟩ := List.nodup_cons.1 hn
    rcases List.mem_cons.1 h with rfl | h
    · have := layAll_not f r (l := l) (S := layS S r k (f k)) h1
      exact this.trans (layS_same _ _ _ _)
    · have := layAll_in f r (l := l) (S := layS S r j (f j)) h2 h
      have hne : ¬ k = j := fun e => h1 (e ▸ h)
      rw [layS_other _ _ _ hne] at this
      exact this
theorem takeS_succ {S : Sto} {W : Wri} {i : Nat} {k : ByteArray} (hk : W.keys[i]? = some k) : takeS S W (i + 1) = layS (takeS S W i) ((S.rev : Int) + 1) k (chG W k) := by
  unfold takeS layAll
  rw [List.take_add_one, hk, List.foldl_append]
  rfl
theorem takeS_rev (S : Sto) (W : Wri) (i : Nat) : (takeS S W i).rev = S.rev + 1 ∧ (takeS S W i).past = S.past ∧ (takeS S W i).lg = (nextS S W.keys).lg := by
  unfold takeS
  have := layAll_rev (chG W) ((S.rev : Int) + 1) (W.keys.take i) (nextS S W.keys)
  exact ⟨this.1, this.2.1, this.2.2⟩
theorem takeS_zero (S : Sto) (W : Wri) : takeS S W 0 = nextS S W.keys := by
  unfold takeS
  rw [List.take_zero]
  rfl
theorem nextS_lg (S : Sto) (l : List ByteArray) : (nextS S l).lg ((S.rev : Int) + 1) = l := by simp [nextS]
/-- The store at its new revision in memory. -/
theorem St.next {n : Nat} {w w1 w2 : World} {s b : Nat} {S : Sto} {W : Wri} {g : Sg} {h : Wg} (H : Ow n w s b S W g h) (hw1 : w1 = w.setCell ⟨s, 0, none⟩ (.int .i64 ((S.rev : Int) + 1))) {nl' : Nat}
    (hm : MapF w2 encI g.bl (setF g.lv ((S.rev : Int) + 1) h.v) nl') (hu : Upd w1 w2 (fun k => k = g.bl)) :
    St n w2 s (nextS S W.keys) { g with lv := setF g.lv ((S.rev : Int) + 1) h.v, nl := nl' } (ptr b) ∧ Upd w w2 (ftS s g) := by
  have hst := H.st
  have hs1 : Upd w w1 (fun k => k = s) := by rw [hw1]; exact (Upd.refl w (fun k => k = s)).setCell (p := ⟨s, 0, none⟩) (.inr rfl) _
  have hb1 : w1.heap[s]? = some (.cells #[.int .i64 ((S.rev : Int) + 1), .int .i64 S.past, ptr g.x, .map (some g.bc), .map (some g.bl), .map (some g.bt), ptr b] 74 (0, 0)) := by rw [hw1]; exact heap_setCell_row hst.blk _
  obtain ⟨o1, o2, o3, o4, o5⟩ := hst.off
  obtain ⟨a1, a2, a3⟩ := hst.offm (b := g.bl) (.inr (.inl rfl))
  obtain ⟨c1, -, -⟩ := hst.offm (b := g.bc) (.inl rfl)
  obtain ⟨d1, -, -⟩ := hst.offm (b := g.bt) (.inr (.inr rfl))
  obtain ⟨n1, n2, n3⟩ := hst.ne
  have hsl := hst.lt (.inl rfl)
  have hrs : ∀ r v k, g.lv r = some v → v.ownBlock = some k → k ≠ s := fun r v k hv hk e => by
    obtain ⟨_, cc, f, hh⟩ := ownBlock_ge (hst.rows r v hv).2 hk
    have := hst.blk
    rw [← e, hh] at this
    cases this
  have hvk : ∀ k, h.v.ownBlock = some k → k ≠ s ∧ k ≠ g.bl := fun k hk => ⟨fun e => H.ap s (.inl rfl) (.inr (.inr (by rw [← e]; exact hk))), fun e => H.ap g.bl (.inr (.inr (.inl rfl))) (.inr (.inr (by rw [← e]; exact hk)))⟩
  refine ⟨⟨?_, ((hst.ix.upd hs1 (fun k hk e => o1 (e ▸ hk))).upd hu a2), ?_, (hst.ch.upd hs1 c1.symm).upd hu n1, hm, (hst.th.upd hs1 d1.symm).upd hu n3.symm, hst.ne, ?_, ?_, hst.mem, hst.sz, ?_⟩, ?_⟩
  · exact (hu.block s (Nat.lt_of_lt_of_le hsl hs1.size) a1).trans hb1
  · exact hst.bd
  · intro r v hv
    show r ≤ ((S.rev + 1 : Nat) : Int) ∧ _
    dsimp only at hv
    by_cases e : r = (S.rev : Int) + 1
    · subst e
      rw [setF_same] at hv
      cases hv
      refine ⟨by omega, ?_⟩
      rw [nextS_lg]
      exact ownsRow_upd (ownsRow_upd H.wr.row hs1 (fun k hk => (hvk k hk).1)) hu (fun k hk => (hvk k hk).2)
    · rw [setF_other _ _ e] at hv
      obtain ⟨q1, q2⟩ := hst.rows r v hv
      refine ⟨by omega, ?_⟩
      have e2 : (nextS S W.keys).lg r = S.lg r := by simp [nextS, e]
      rw [e2]
      exact ownsRow_upd (ownsRow_upd q2 hs1 (fun k hk => hrs r v k hv hk)) hu (fun k hk => a3 r v k hv hk)
  · intro k
    exact (hst.hok k).mono (by show (S.rev : Int) ≤ ((S.rev + 1 : Nat) : Int); omega)
  · exact Nat.le_succ_of_le hst.past
  · exact (hs1.mono (T := ftS s g) (fun k _ hk => .inl hk)).trans (hu.mono (T := ftS s g) (fun k _ hk => .inr (.inr (.inl hk)))) (fun j _ hg => hg)
end Go.Proofs.YtjdmgmnndfhmgaaGreat
/- A store takes a write. -/
namespace Go.Proofs.YtjdmgmnndfhmgaaGreat
open Go Go.RowKit

theorem row_cell {w : World} {v : Value} {ks : List ByteArray} (h : w.ownsRow 0 9 1 v ks.length (strs ks)) {j : Nat} {k : ByteArray} (hj : ks[j]? = some k) : ∃ g c, v = .slice (some ⟨g, 0, none⟩) ks.length c ∧ w.cell? ⟨g, j, none⟩ = some (.string k) := by
  have hl := (List.getElem?_eq_some_iff.1 hj).1
  obtain ⟨g, c, hv, _, _⟩ := owns_formB h (by omega)
  have hc := h.cells (g := g) (by rw [hv]; rfl) j (.string k) (by simp [hj])
  simp only [Addr.add_lit, Nat.zero_add] at hc
  exact ⟨g, c, hv, hc⟩
theorem lay_st {n : Nat} {w : World} {s : Nat} {S : Sto} {g : Sg} {o : Value} (h : St n w s S g o) (hn : n ≤ 900000) {r : Int} {key : ByteArray} {c : Option KVd} (L : LayOk S r key c) (hr : r = S.rev) (hrb : r ≤ 1000000) :
    Calls Tryz.prog 64 #[ptr s, .agg #[.int .i64 r, .string key], encC key c] w fun e w' => e = .returned (.tuple #[]) ∧ ∃ g', St (n + 1) w' s (layS S r key c) g' o ∧ KpM w w' s g g' ∧ g'.lv = g.lv := by
  cases c with
  | none => exact lay_del h hn L hr hrb
  | some v => exact lay_put h hn L hr hrb
/-- What is taken may be laid, key by key. -/
theorem layOk_take {S : Sto} {W : Wri} (hw : Wok S W) (hnd : W.keys.Nodup) (hcov : ∀ k, W.ch k ≠ none ↔ k ∈ W.keys) (hok : ∀ k, HOk k S.rev (S.kh k)) {i : Nat} {k : ByteArray} (hk : W.keys[i]? = some k) : LayOk (takeS S W i) ((S.rev : Int) + 1) k (chG W k) ∧ W.ch k = some (chG W k) := by
  have hm : k ∈ W.keys := List.mem_of_getElem? hk
  obtain ⟨c, hc⟩ : ∃ c, W.ch k = some c := Option.ne_none_iff_exists'.1 ((hcov k).2 hm)
  have e : chG W k = c := by unfold chG; rw [hc]; rfl
  obtain ⟨q1, q2, q3⟩ := hw k c hc
  have hkh : (takeS S W i).kh k = S.kh k := by unfold takeS; exact layAll_not _ _ (not_take hnd hk)
  rw [e]
  refine ⟨⟨q1, fun p hp => ?_, by omega, q2, fun h => by rw [hkh]; exact q3 h⟩, hc⟩
  rw [hkh] at hp
  have := ((hok k).pos p hp).2
  omega
set_option maxRecDepth 100000 in
set_option maxHeartbeats 2000000 in
theorem take_none {n : Nat} {w : World} {s b : Nat} {S : Sto} {W : Wri} {g : Sg} {h : Wg} (H : Ow n w s b S W g h) (hk : W.keys = []) : Calls Tryz.prog 47 #[ptr s, ptr b] w fun e w' => e = .returned (.tuple #[]) ∧ w' = w := by
  obtain ⟨-, c1, -, -⟩ := H.wr.cells
  obtain ⟨vp, vc, hv⟩ := owns_formB0 H.wr.row
  rw [hv, hk] at c1
  clear H
  go_enter Tryz.func47, Tryz.ntmps47
  go_wp2
  first | go_end0 | refine bodyPost_ret (results_none rfl _ _ _) rfl ?_
  exact ⟨rfl, rfl⟩
set_option maxRecDepth 100000 in
set_option maxHeartbeats 2000000 in
theorem take_st {n : Nat} {w : World} {s b : Nat} {S : Sto} {W : Wri} {g : Sg} {h : Wg} (H : Ow n w s b S W g h) (hw : Wok S W) (hk : W.keys ≠ []) (hn : n + W.keys.length ≤ 900000) (hr : S.rev ≤ 999998) :
    Calls Tryz.prog 47 #[ptr s, ptr b] w fun e w' => e = .returned (.tuple #[]) ∧ ∃ g', St (n + W.keys.length) w' s (takeS S W W.keys.length) g' (ptr b) ∧ Upd w w' (fun k => ftS s g k ∨ h.v.ownBlock = some k) ∧ (∀ k, ftS s g' k → (ftS s g k ∨ h.v.ownBlock = some k) ∨ w.heap.size ≤ k) ∧ g'.lv = setF g.lv ((S.rev : Int) + 1) h.v := by
  obtain ⟨-, c1, c2, -⟩ := H.wr.cells
  obtain ⟨vp, vc, hv⟩ := owns_formB0 H.wr.row
  have hlen : 0 < W.keys.length := List.length_pos_iff.2 hk
  rw [hv] at c1
  obtain ⟨d0, -, -, -, d4, -, -⟩ := H.st.cells
  have f0 := frozen_of_row w s 0 _ _ H.st.blk
  obtain ⟨w1, hw1⟩ : ∃ w1, w1 = w.setCell ⟨s, 0, none⟩ (.int .i64 ((S.rev : Int) + 1)) := ⟨_, rfl⟩
  have hs1 : Upd w w1 (fun k => k = s) := by rw [hw1]; exact (Upd.refl w (fun k => k = s)).setCell (p := ⟨s, 0, none⟩) (.inr rfl) _
  have hl1 : MapF w1 encI g.bl g.lv g.nl := H.st.lg.upd hs1 (H.st.offm (b := g.bl) (.inr (.inl rfl))).1.symm
  obtain ⟨w2, hup, hm2, hu2⟩ := (show MapF w1.drew encI g.bl g.lv g.nl from hl1).set law61 Tryz.underlying71 ((S.rev : Int) + 1) h.v
  have hup' : (Instr.mapUpdate 71 (.map (some g.bl)) (.int .i64 ((S.rev : Int) + 1)) (.slice vp W.keys.length vc)).run Tryz.prog w1.drew = .ok () w2 := by rw [← hv]; exact hup
  obtain ⟨hst2, hu02⟩ := St.next H hw1 hm2 hu2.undrew
  have hbs : b ≠ s := fun e => H.ap s (.inl rfl) (.inl e.symm)
  have hb1 : w1.heap[b]? = _ := (hs1.block b (H.wr.lt (.inl rfl)) hbs).trans H.wr.blk
  have e1 : w1.cell? ⟨b, 1, none⟩ = some h.v := cell_of_row _ _ _ _ _ _ hb1
  rw [hv] at e1
  have hs1b : w1.heap[s]? = some (.cells #[.int .i64 ((S.rev : Int) + 1), .int .i64 S.past, ptr g.x, .map (some g.bc), .map (some g.bl), .map (some g.bt), ptr b] 74 (0, 0)) := by rw [hw1]; exact heap_setCell_row H.st.blk _
  have e0 : w1.cell? ⟨s, 0, none⟩ = some (.int .i64 ((S.rev : Int) + 1)) := cell_of_row _ _ _ _ _ _ hs1b
  have e4 : w1.cell? ⟨s, 4, none⟩ = some (.map (some g.bl)) := cell_of_row _ _ _ _ _ _ hs1b
  have HH := Hid.mk'' H
  have HW := Hid.mk'' hw
  have HST := Hid.mk'' hst2
  have HU := Hid.mk'' hu02
  have HV := Hid.mk'' hv
  obtain ⟨g2, hg2⟩ : ∃ g2 : Sg, g2 = { g with lv := setF g.lv ((S.rev : Int) + 1) h.v, nl := if (g.lv ((S.rev : Int) + 1)).isSome then g.nl else g.nl + 1 } := ⟨_, rfl⟩
  rw [← hg2] at HST
  have HG := Hid.mk'' hg2
  have hbw2 : ¬ ftS s g b ∧ ¬ ftS s g h.bw := ⟨fun hf => HH.out.ap b hf (.inl rfl), fun hf => HH.out.ap h.bw hf (.inr (.inl rfl))⟩
  have HB2 := Hid.mk'' ((hu02.block b (H.wr.lt (.inl rfl)) hbw2.1).trans H.wr.blk)
  have f1 : w2.cell? ⟨b, 1, none⟩ = some h.v := cell_of_row _ _ _ _ _ _ HB2.out
  rw [hv] at f1
  clear hl1 hup hm2 hu2 hst2 hu02 hs1 hb1 hs1b hw H hg2 hbw2 hv
  go_enter Tryz.func47, Tryz.ntmps47
  go_upto_region 2 with fail
  rw [← hw1]
  clear hw1
  go_region
  go_upto_region 4 with fail
  have hft : ∀ k, ftS s g2 k → ftS s g k ∨ h.v.ownBlock = some k := fun k hf => by
    rw [HG.out] at hf
    rcases hf with hf | hf | hf | hf | hf | ⟨r, v, hv, hf⟩
    · exact .inl (.inl hf)
    · exact .inl (.inr (.inl hf))
    · exact .inl (.inr (.inr (.inl hf)))
    · exact .inl (.inr (.inr (.inr (.inl hf))))
    · exact .inl (.inr (.inr (.inr (.inr (.inl hf)))))
    · dsimp only at hv
      by_cases e : r = (S.rev : Int) + 1
      · subst e; rw [setF_same] at hv; cases hv; exact .inr hf
      · rw [setF_other _ _ e] at hv; exact .inl (.inr (.inr (.inr (.inr (.inr ⟨r, v, hv, hf⟩)))))
  have hnb : ¬ ftS s g2 b := fun hf => (hft b hf).elim (fun h1 => HH.out.ap b h1 (.inl rfl)) (fun h1 => (HH.out.wr.apart.1 b h1).1 rfl)
  have hnw : ¬ ftS s g2 h.bw := fun hf => (hft h.bw hf).elim (fun h1 => HH.out.ap h.bw h1 (.inr (.inl rfl))) (fun h1 => (HH.out.wr.apart.1 h.bw h1).2 rfl)
  have HFT := Hid.mk'' hft
  have hlv2 : g2.lv ((S.rev : Int) + 1) = some h.v := by rw [HG.out]; exact setF_same _ _ _
  have hm2 : MapF w2 encB h.bw (wcF W) h.nw := HH.out.wr.mp.upd HU.out (fun hf => HH.out.ap h.bw hf (.inr (.inl rfl)))
  have hbl2 : b < w2.heap.size := (Array.getElem?_eq_some_iff.1 HB2.out).1
  have HMW := Hid.mk'' hm2
  have hwl2 : h.bw < w2.heap.size := hm2.lt
  have k22 : w2.cell? ⟨b, 2, none⟩ = some (.map (some h.bw)) := cell_of_row _ _ _ _ _ _ HB2.out
  have HK22 := Hid.mk'' k22
  have HLV := Hid.mk'' hlv2
  clear hft hlv2 hm2 k22 c1 c2 d0 d4 f0 hup' e1 e0 e4 f1 hk
  have hl0 : ((W.keys.length : Int) == 0) = false := by rw [beq_eq_false_iff_ne]; omega
  simp only [hl0]
  clear hl0
  go_loopg [36] (W.keys.length + 1) (fun kx s36 wr => ∃ (i : Nat) (g' : Sg), s36 = .int .i64 i ∧ kx + i = W.keys.length + 1 ∧ i ≤ W.keys.length ∧ Hid (St (n + i) wr s (takeS S W i) g' (ptr b) ∧ KpM w2 wr s g2 g' ∧ g'.lv = g2.lv))
  case atStart => exact ⟨0, g2, rfl, rfl, Nat.zero_le _, by rw [takeS_zero]; exact ⟨HST.out, KpM.same (Below.refl _ _), rfl⟩⟩
  case round =>
    obtain ⟨i, g', rfl, hkx, hi, HM⟩ := hrel
    by_cases hlt : i < W.keys.length
    · obtain ⟨k, hkk⟩ : ∃ k, W.keys[i]? = some k := ⟨_, List.getElem?_eq_getElem hlt⟩
      obtain ⟨hL, hch⟩ := layOk_take HW.out HH.out.wr.nd HH.out.wr.cov HH.out.st.hok hkk
      have hsucc := takeS_succ (S := S) hkk
      obtain ⟨hrv, -, hlg⟩ := takeS_rev S W i
      have hrow := (HM.out.1.rows ((S.rev : Int) + 1) h.v (by rw [HM.out.2.2]; exact HLV.out)).2
      rw [hlg, nextS_lg] at hrow
      obtain ⟨gk, ck, hvv, hcell⟩ := row_cell hrow hkk
      rw [HV.out] at hvv
      have hvp : vp = some ⟨gk, 0, none⟩ := by cases hvv; rfl
      subst hvp
      have hdr : Below wr.heap.size wr wr.drew := (Below.refl _ _).drew
      have hlay := lay_st (HM.out.1.below hdr) (by omega) hL (by rw [hrv]; simp) (by omega)
      rw [← hsucc] at hlay
      have c0 := HM.out.1.cells.1
      rw [hrv] at c0
      have c0' : wr.cell? ⟨s, 0, none⟩ = some (.int .i64 ((S.rev : Int) + 1)) := by rw [c0]; simp
      have cb : wr.cell? ⟨b, 2, none⟩ = some (.map (some h.bw)) := (HM.out.2.1.1.cell (p := ⟨b, 2, none⟩) hbl2 hnb).trans HK22.out
      have hmw : MapF wr encB h.bw (wcF W) h.nw := HMW.out.upd HM.out.2.1.1 hnw
      have hwc : wcF W k = some (encC k (chG W k)) := by unfold wcF; rw [hch]; rfl
      have hlk : ∀ V : World, MapF V encB h.bw (wcF W) h.nw → (Instr.lookup 78 (.map (some h.bw)) (.string k) false).run Tryz.prog V = .ok (encC k (chG W k)) V := fun V hm => by
        have := hm.look law65 Tryz.underlying78 (zero71 _) k false
        rw [hwc] at this
        exact this
      have hS0 : wr.drew.cell? ⟨s, 0, none⟩ = some (.int .i64 ((S.rev : Int) + 1)) ∧ wr.drew.cell? ⟨b, 2, none⟩ = some (.map (some h.bw)) ∧ (Instr.lookup 78 (.map (some h.bw)) (.string k) false).run Tryz.prog wr.drew = .ok (encC k (chG W k)) wr.drew := ⟨c0', cb, hlk _ hmw⟩
      have HF9 : Hid (∀ w9, (∃ g9, St (n + i + 1) w9 s (takeS S W (i + 1)) g9 (ptr b) ∧ KpM wr.drew w9 s g' g9 ∧ g9.lv = g'.lv) → (w9.cell? ⟨s, 0, none⟩ = some (.int .i64 ((S.rev : Int) + 1)) ∧ w9.cell? ⟨b, 2, none⟩ = some (.map (some h.bw)) ∧ (Instr.lookup 78 (.map (some h.bw)) (.string k) false).run Tryz.prog w9 = .ok (encC k (chG W k)) w9) ∧ ∃ g9, Hid (St (n + (i + 1)) w9 s (takeS S W (i + 1)) g9 (ptr b) ∧ KpM w2 w9 s g2 g9 ∧ g9.lv = g2.lv)) := fun w9 ⟨g9, q1, q2, q3⟩ => by
        have kk : KpM w2 w9 s g2 g9 := (HM.out.2.1.trans (KpM.same hdr)).trans q2
        have z0 := q1.cells.1
        rw [(takeS_rev S W (i + 1)).1] at z0
        refine ⟨⟨by rw [z0]; simp, (kk.1.cell (p := ⟨b, 2, none⟩) hbl2 hnb).trans HK22.out, hlk _ (HMW.out.upd kk.1 hnw)⟩, g9, ?_⟩
        exact ⟨by rw [← Nat.add_assoc]; exact q1, kk, q3.trans HM.out.2.2⟩
      clear hL hsucc hrv hlg hrow hvv hdr c0 c0' cb hmw hwc hlk hkk hch HM
      go_upto_region 6 with fail
      go_region_held_law (fun V => V.cell? ⟨s, 0, none⟩ = some (.int .i64 ((S.rev : Int) + 1)) ∧ V.cell? ⟨b, 2, none⟩ = some (.map (some h.bw)) ∧ (Instr.lookup 78 (.map (some h.bw)) (.string k) false).run Tryz.prog V = .ok (encC k (chG W k)) V) (first | with_reducible assumption | (show _ ∧ _ ∧ _; with_reducible assumption)) (first | (go_at_call 64; refine hlay.mono ?_; rintro e w9 ⟨rfl, HN⟩; obtain ⟨hS9, g9, HN9⟩ := HF9.out w9 HN; clear HN))
      go_wp2
      go_roundg (W.keys.length - i)
      case measure => omega
      case rel => exact ⟨i + 1, g9, by congr 1, by omega, by omega, HN9⟩
    · obtain rfl : i = W.keys.length := by omega
      go_wp2
      first | go_end0 | refine bodyPost_ret (results_none rfl _ _ _) rfl ?_
      refine ⟨rfl, g', HM.out.1, ?_, fun k hf => ?_, by rw [HM.out.2.2, HG.out]⟩
      · exact (HU.out.mono (T := fun k => ftS s g k ∨ h.v.ownBlock = some k) (fun k _ hk => .inl hk)).trans (HM.out.2.1.1.mono (T := fun k => ftS s g k ∨ h.v.ownBlock = some k) (fun k _ hk => HFT.out k hk)) (fun j _ hg => hg)
      · rcases HM.out.2.1.2 k hf with hf | hf
        · exact .inl (HFT.out k hf)
        · exact .inr (Nat.le_trans HU.out.size hf)
end Go.Proofs.YtjdmgmnndfhmgaaGreat
/- Done; Write; New. -/
namespace Go.Proofs.YtjdmgmnndfhmgaaGreat
open Go Go.RowKit

/-- Another open write, or none. -/
theorem St.setOpen {n : Nat} {w : World} {s : Nat} {S : Sto} {g : Sg} {o : Value} (h : St n w s S g o) (o' : Value) : St n (w.setCell ⟨s, 6, none⟩ o') s S g o' ∧ Upd w (w.setCell ⟨s, 6, none⟩ o') (fun k => k = s) := by
  have hu : Upd w (w.setCell ⟨s, 6, none⟩ o') (fun k => k = s) := (Upd.refl w (fun k => k = s)).setCell (p := ⟨s, 6, none⟩) (.inr rfl) _
  have hrs : ∀ r v k, g.lv r = some v → v.ownBlock = some k → k ≠ s := fun r v k hv hk e => by
    obtain ⟨_, cc, f, hh⟩ := ownBlock_ge (h.rows r v hv).2 hk
    have := h.blk
    rw [← e, hh] at this
    cases this
  refine ⟨⟨heap_setCell_row h.blk _, h.ix.upd hu (fun k hk e => h.off.1 (e ▸ hk)), h.bd, h.ch.upd hu (h.offm (b := g.bc) (.inl rfl)).1.symm, h.lg.upd hu (h.offm (b := g.bl) (.inr (.inl rfl))).1.symm, h.th.upd hu (h.offm (b := g.bt) (.inr (.inr rfl))).1.symm, h.ne, fun r v hv => ⟨(h.rows r v hv).1, ownsRow_upd (h.rows r v hv).2 hu (fun k hk => hrs r v k hv hk)⟩, h.hok, h.mem, h.sz, h.past⟩, hu⟩
/-- What Done leaves. -/
def DoneP (w w' : World) (s b : Nat) (g : Sg) (h : Wg) (g' : Sg) : Prop := Upd w w' (fun k => ftS s g k ∨ ftW b h k) ∧ ∀ k, ftS s g' k → (ftS s g k ∨ ftW b h k) ∨ w.heap.size ≤ k
/-- The log's rows behind a Done. -/
def doneLv (S : Sto) (W : Wri) (g : Sg) (h : Wg) : Int → Option Value := if W.keys = [] then g.lv else setF g.lv ((S.rev : Int) + 1) h.v
set_option maxRecDepth 100000 in
set_option maxHeartbeats 2000000 in
theorem done_lg {n : Nat} {w : World} {s b : Nat} {S : Sto} {W : Wri} {g : Sg} {h : Wg} (H : Ow n w s b S W g h) (hw : Wok S W) (hn : n + W.keys.length ≤ 900000) (hr : S.rev ≤ 999998) :
    Calls Tryz.prog 17 #[ptr b] w fun e w' => e = .returned (.int .i64 (doneS S W).rev) ∧ ∃ g', St (n + W.keys.length) w' s (doneS S W) g' (.pointer none) ∧ DoneP w w' s b g h g' ∧ g'.lv = doneLv S W g h := by
  have hopen := open_st H
  obtain ⟨c0, -⟩ := H.wr.cells
  have hbs : b ≠ s := fun e => H.ap s (.inl rfl) (.inl e.symm)
  have HT : Hid (∃ Q : World → Prop, Calls Tryz.prog 47 #[ptr s, ptr b] w (fun e w' => e = .returned (.tuple #[]) ∧ Q w') ∧ ∀ w', Q w' → ∃ g', St (n + W.keys.length) w' s (doneS S W) g' (ptr b) ∧ DoneP w w' s b g h g' ∧ w'.cell? ⟨b, 0, none⟩ = some (ptr s) ∧ g'.lv = doneLv S W g h) := by
    by_cases hk : W.keys = []
    · refine ⟨fun w' => w' = w, take_none H hk, fun w' e => ?_⟩
      subst e
      have e1 : doneS S W = S := if_pos hk
      rw [e1, hk]
      exact ⟨g, H.st, ⟨Upd.refl _ _, fun k hf => .inl (.inl hf)⟩, c0, (if_pos hk).symm⟩
    · refine ⟨_, take_st H hw hk hn hr, ?_⟩
      rintro w' ⟨g', q1, q2, q3, q4⟩
      have e1 : doneS S W = takeS S W W.keys.length := if_neg hk
      rw [e1]
      refine ⟨g', q1, ⟨q2.mono (fun k _ hf => hf.imp id (fun h1 => .inr (.inr h1))), fun k hf => (q3 k hf).imp (fun h1 => h1.imp id (fun h2 => .inr (.inr h2))) id⟩, ?_, q4.trans (if_neg hk).symm⟩
      have hb := q2.block b (H.wr.lt (.inl rfl)) (fun hf => hf.elim (fun h1 => H.ap b h1 (.inl rfl)) (fun h1 => (H.wr.apart.1 b h1).1 rfl))
      exact cell_of_row _ _ _ _ _ _ (hb.trans H.wr.blk)
  obtain ⟨Q, hcall, hQ⟩ := HT.out
  have HQ := Hid.mk'' hQ
  have hsl := H.st.lt (.inl rfl)
  clear H hw HT hQ
  go_enter Tryz.func17, Tryz.ntmps17
  go_upto_region 5 with (first | (go_at_call 36; refine hopen.mono ?_; rintro e w' ⟨rfl, hw'⟩; obtain rfl := hw'.symm) | (go_at_call 47; refine hcall.mono ?_; rintro e w3 ⟨rfl, HN⟩))
  obtain ⟨g', q1, q2, k0, k9⟩ := HQ.out _ HN
  have HLV := Hid.mk'' k9
  have hso := q1.setOpen (.pointer none)
  obtain ⟨d0, -, -, -, -, -, d6⟩ := q1.cells
  have f6 := frozen_of_row w3 s 6 _ _ q1.blk
  have HFIN : Hid (St (n + W.keys.length) (w3.setCell ⟨s, 6, none⟩ (.pointer none)) s (doneS S W) g' (.pointer none) ∧ DoneP w (w3.setCell ⟨s, 6, none⟩ (.pointer none)) s b g h g') := ⟨hso.1, q2.1.trans (hso.2.mono (T := fun k => ftS s g k ∨ ftW b h k) (fun k _ hk => .inl (.inl hk))) (fun j _ hg => hg), q2.2⟩
  have e0 : (w3.setCell ⟨s, 6, none⟩ (.pointer none)).cell? ⟨s, 0, none⟩ = some (.int .i64 (doneS S W).rev) := hso.1.cells.1
  clear q1 q2 hso HQ HN hcall hopen k9
  go_wp2
  go_ret
  exact ⟨rfl, g', HFIN.out.1, HFIN.out.2, HLV.out⟩
theorem done_st {n : Nat} {w : World} {s b : Nat} {S : Sto} {W : Wri} {g : Sg} {h : Wg} (H : Ow n w s b S W g h) (hw : Wok S W) (hn : n + W.keys.length ≤ 900000) (hr : S.rev ≤ 999998) :
    Calls Tryz.prog 17 #[ptr b] w fun e w' => e = .returned (.int .i64 (doneS S W).rev) ∧ ∃ g', St (n + W.keys.length) w' s (doneS S W) g' (.pointer none) ∧ DoneP w w' s b g h g' :=
  (done_lg H hw hn hr).mono fun _ _ ⟨he, g', h1, h2, _⟩ => ⟨he, g', h1, h2⟩
def noW (n : Int) : Wri := ⟨[], fun _ => none, n⟩
set_option maxRecDepth 100000 in
set_option maxHeartbeats 2000000 in
theorem write_st {n : Nat} {w : World} {s : Nat} {S : Sto} {g : Sg} {o : Value} (h : St n w s S g o) : Calls Tryz.prog 11 #[ptr s] w fun e w' => e = .returned (ptr (w.heap.size + 1)) ∧ Ow n w' s (w.heap.size + 1) S (noW S.nth) g ⟨w.heap.size, .slice none 0 0, 0⟩ ∧ Upd w w' (fun k => k = s) := by
  have hmm := @run_makeMap Tryz.prog
  have hb1 : Below w.heap.size w (w.alloc (.map #[] 0)) := (Below.refl _ w).alloc (Nat.le_refl _) _
  have hlen : ∀ ty, (Builtin.len_ #[72] ty #[.map (some g.bt)]).run Tryz.prog (w.alloc (.map #[] 0)) = .ok (.int .i64 S.nth) (w.alloc (.map #[] 0)) := fun ty => (h.below hb1).th.len Tryz.underlying72 ty
  obtain ⟨-, -, c2, -, -, c5, c6⟩ := h.cells
  obtain ⟨-, -, -, -, -, d5, -⟩ := (h.below hb1).cells
  have hsl := h.lt (.inl rfl)
  obtain ⟨w1, hw1⟩ : ∃ w1, w1 = w.setCell ⟨s, 6, none⟩ (ptr (w.heap.size + 1)) := ⟨_, rfl⟩
  have hso := h.setOpen (ptr (w.heap.size + 1))
  rw [← hw1] at hso
  have hz1 : w1.heap.size = w.heap.size := by rw [hw1]; simp
  obtain ⟨w2, hw2⟩ : ∃ w2, w2 = (w1.alloc (.map #[] 0)).alloc (.cells #[ptr s, .slice none 0 0, .map (some w.heap.size), .int .i64 S.nth] 80) := ⟨_, rfl⟩
  have hb2 : Below w1.heap.size w1 w2 := by rw [hw2]; exact ((Below.refl _ w1).alloc (Nat.le_refl _) _).alloc (by simp) _
  have h2 := hso.1.below hb2
  have rb : w2.heap[w.heap.size + 1]? = some (.cells #[ptr s, .slice none 0 0, .map (some w.heap.size), .int .i64 S.nth] 80 (0, 0)) := by
    rw [hw2, ← hz1]
    have := row_alloc (w1.alloc (.map #[] 0)) #[ptr s, .slice none 0 0, .map (some w1.heap.size), .int .i64 S.nth] 80
    simpa using this
  have hm : MapF w2 encB w.heap.size (fun _ => none) 0 := by rw [hw2, ← hz1]; exact (MapF.made w1 encB).below ((Below.refl _ _).alloc (Nat.le_refl _) _)
  have HFIN : Hid (Ow n w2 s (w.heap.size + 1) S (noW S.nth) g ⟨w.heap.size, .slice none 0 0, 0⟩ ∧ Upd w w2 (fun k => k = s)) := by
    refine ⟨⟨h2, ⟨rb, hm.congr (fun k => rfl), World.ownsRow_nil _ _ _ _, fun k => by simp [noW], List.nodup_nil⟩, ?_⟩, hso.2.trans (Upd.ofBelow hb2) (fun j _ hg => hg)⟩
    rintro k hf (e | e | e)
    · have := h.lt hf; omega
    · have := h.lt hf; dsimp only at e; omega
    · cases e
  obtain ⟨-, -, -, -, -, -, k6⟩ := h2.cells
  have f6 := frozen_of_row w s 6 _ _ h.blk
  clear h hso h2 hm rb hb2
  go_enter Tryz.func11, Tryz.ntmps11
  go_upto_region 4 with fail
  have hpp : Value.pointer (some ⟨w.heap.size + 1, 0, none⟩) = ptr (w.heap.size + 1) := rfl
  rw [hpp, ← hw1, ← hw2]
  clear hpp hw1 hw2 hz1 hb1 hlen c2 c5 c6 d5 f6 hmm
  go_wp2
  go_ret
  exact ⟨rfl, HFIN.out⟩
def noS : Sto := ⟨0, 0, [], fun _ => [], fun _ => [], 0⟩
set_option maxRecDepth 100000 in
set_option maxHeartbeats 2000000 in
theorem new_st (w : World) : Calls Tryz.prog 7 #[] w fun e w' => ∃ s g, e = .returned (ptr s) ∧ St 0 w' s noS g (.pointer none) ∧ Below w.heap.size w w' ∧ ∀ k, ftS s g k → w.heap.size ≤ k := by
  have hmm := @run_makeMap Tryz.prog
  have hx := new_xd w
  go_enter Tryz.func7, Tryz.ntmps7
  go_wp2_with (go_at_call 35; refine hx.mono ?_; rintro e w1 ⟨rfl, hx1, hb1, hs1⟩)
  go_ret
  obtain ⟨m1, hm1⟩ : ∃ m1, m1 = w1.alloc (.map #[] 0) := ⟨_, rfl⟩
  obtain ⟨m2, hm2⟩ : ∃ m2, m2 = m1.alloc (.map #[] 0) := ⟨_, rfl⟩
  obtain ⟨m3, hm3⟩ : ∃ m3, m3 = m2.alloc (.map #[] 0) := ⟨_, rfl⟩
  obtain ⟨m4, hm4⟩ : ∃ m4, m4 = m3.alloc (.cells #[.int .i64 0, .int .i64 0, ptr w.heap.size, .map (some (w.heap.size + 1)), .map (some (w.heap.size + 1 + 1)), .map (some (w.heap.size + 1 + 1 + 1)), .pointer none] 74) := ⟨_, rfl⟩
  rw [← hm1, ← hm2, ← hm3, ← hm4]
  have z1 : m1.heap.size = w.heap.size + 2 := by rw [hm1]; simp; omega
  have z2 : m2.heap.size = w.heap.size + 3 := by rw [hm2]; simp; omega
  have z3 : m3.heap.size = w.heap.size + 4 := by rw [hm3]; simp; omega
  have b1 : Below w1.heap.size w1 m1 := by rw [hm1]; exact (Below.refl _ _).alloc (Nat.le_refl _) _
  have b2 : Below m1.heap.size m1 m2 := by rw [hm2]; exact (Below.refl _ _).alloc (Nat.le_refl _) _
  have b3 : Below m2.heap.size m2 m3 := by rw [hm3]; exact (Below.refl _ _).alloc (Nat.le_refl _) _
  have b4 : Below m3.heap.size m3 m4 := by rw [hm4]; exact (Below.refl _ _).alloc (Nat.le_refl _) _
  have b34 := b3.trans (b4.mono b3.size)
  have b24 := b2.trans (b34.mono b2.size)
  have b14 := b1.trans (b24.mono b1.size)
  have f1 : MapF m1 encP w1.heap.size (fun _ => none) 0 := by rw [hm1]; exact MapF.made w1 encP
  have f2 : MapF m2 encI m1.heap.size (fun _ => none) 0 := by rw [hm2]; exact MapF.made m1 encI
  have f3 : MapF m3 encB m2.heap.size (fun _ => none) 0 := by rw [hm3]; exact MapF.made m2 encB
  have r4 : m4.heap[m3.heap.size]? = some (.cells #[.int .i64 0, .int .i64 0, ptr w.heap.size, .map (some (w.heap.size + 1)), .map (some (w.heap.size + 1 + 1)), .map (some (w.heap.size + 1 + 1 + 1)), .pointer none] 74 (0, 0)) := by rw [hm4]; exact row_alloc m3 _ _
  rw [hs1] at f1
  rw [z1] at f2
  rw [z2] at f3
  rw [z3] at r4
  refine ⟨w.heap.size + 4, ⟨w.heap.size, w.heap.size + 1, w.heap.size + 2, w.heap.size + 3, [w.heap.size], fun _ => none, 0, 0⟩, rfl, ⟨r4, hx1.below b14, Bd.nil, (f1.below b24).congr (fun _ => rfl), (f2.below b34).congr (fun _ => rfl), (f3.below b4).congr (fun _ => rfl), by dsimp only; omega, fun r v hv => (by cases hv), fun k => HOk.nil k _, fun k => (by simp [noS]), fun k hk => (by cases hk), Nat.le_refl _⟩, hb1.trans (b14.mono (by omega)), ?_⟩
  rintro k (rfl | rfl | rfl | rfl | hk | ⟨r, v, hv, _⟩)
  · omega
  · dsimp only; omega
  · dsimp only; omega
  · dsimp only; omega
  · have : k = w.heap.size := by simpa using hk
    omega
  · cases hv
end Go.Proofs.YtjdmgmnndfhmgaaGreat
/- lastPut of the past. -/
namespace Go.Proofs.YtjdmgmnndfhmgaaGreat
open Go Go.RowKit

def tlen (ms : List Mk) (r : Int) : Nat := (ms.takeWhile fun m => decide (m.1 ≤ r)).length
theorem tlen_le (ms : List Mk) (r : Int) : tlen ms r ≤ ms.length := (List.takeWhile_prefix _).length_le
theorem tlen_lt {r : Int} : ∀ {ms : List Mk} {k : Nat} {m : Mk}, k < tlen ms r → ms[k]? = some m → m.1 ≤ r
  | [], _, _, _, h => by simp at h
  | x :: ms, k, m, hk, h => by
    unfold tlen at hk
    rw [List.takeWhile_cons] at hk
    by_cases hx : x.1 ≤ r
    · rw [if_pos (decide_eq_true hx)] at hk
      cases k with
      | zero => obtain rfl : x = m := by simpa using h
                exact hx
      | succ k => exact tlen_lt (ms := ms) (k := k) (by simpa [tlen] using hk) (by simpa using h)
    · rw [if_neg (by simp [hx])] at hk
      simp at hk
theorem tlen_ge {r : Int} : ∀ {ms : List Mk} {k : Nat} {m : Mk}, MAsc ms → tlen ms r ≤ k → ms[k]? = some m → r < m.1
  | [], _, _, _, _, h => by simp at h
  | x :: ms, k, m, hs, hk, h => by
    obtain ⟨h1, h2⟩ := List.pairwise_cons.1 hs
    unfold tlen at hk
    rw [List.takeWhile_cons] at hk
    by_cases hx : x.1 ≤ r
    · rw [if_pos (decide_eq_true hx)] at hk
      cases k with
      | zero => simp at hk
      | succ k => exact tlen_ge (ms := ms) (k := k) h2 (by simpa [tlen] using hk) (by simpa using h)
    · cases k with
      | zero => obtain rfl : x = m := by simpa using h
                omega
      | succ k =>
        have := h1 m (List.mem_of_getElem? (i := k) (by simpa using h))
        omega
/-- Marks in a row of cells. -/
def MksAt (w : World) (g : Nat) (ms : List Mk) : Prop := ∀ j m, ms[j]? = some m → w.cell? ⟨g, j * 2, none⟩ = some (.int .i64 m.1) ∧ w.cell? ⟨g, j * 2 + 1, none⟩ = some (.bool m.2)
theorem MksAt.below {w w' : World} {g : Nat} {ms : List Mk} (h : MksAt w g ms) (hb : Below w.heap.size w w') : MksAt w' g ms := fun j it hj => by
  obtain ⟨h1, h2⟩ := h j it hj
  exact ⟨(hb.cell (p := ⟨g, j * 2, none⟩) (World.block_lt_of_cell? _ _ h1)).trans h1, (hb.cell (p := ⟨g, j * 2 + 1, none⟩) (World.block_lt_of_cell? _ _ h2)).trans h2⟩
theorem below_drewQ {B : Nat} {w W : World} (h : Below B w W) : ∀ n, Below B w (W.drewN n)
  | 0 => h
  | n + 1 => (below_drewQ h n).drew
set_option maxRecDepth 100000 in
set_option maxHeartbeats 400000 in
theorem behind_any (a q g c : Nat) (ms : List Mk) (r : Int) (w : World) (ha : w.cell? ⟨a, 0, none⟩ = some (.slice (some ⟨g, 0, none⟩) ms.length c)) (hq : w.cell? ⟨q, 0, none⟩ = some (.int .i64 r)) (i : Nat) (m : Mk) (hm : ms[i]? = some m) (hc : MksAt w g ms) :
    Calls Tryz.prog 94 #[.int .i64 i, ptr a, ptr q] w fun e w' => e = .returned (.bool (decide (r < m.1))) ∧ Below w.heap.size w w' := by
  obtain ⟨c1, -⟩ := hc i m hm
  have hi := (List.getElem?_eq_some_iff.1 hm).1
  have HB : ∀ q, Hid (Below w.heap.size w (w.drewN q)) := fun q => below_drewQ (Below.refl _ _) q
  clear hc hm
  go_enter Tryz.func94, Tryz.ntmps94
  go_wp2
  go_quiet (fail)
  go_wp2
  go_ret
  exact ⟨rfl, (HB _).out⟩
set_option maxRecDepth 100000 in
set_option maxHeartbeats 1000000 in
theorem ssearch_any (a q g c : Nat) (ms : List Mk) (r : Int) (w : World) (ha : w.cell? ⟨a, 0, none⟩ = some (.slice (some ⟨g, 0, none⟩) ms.length c)) (hq : w.cell? ⟨q, 0, none⟩ = some (.int .i64 r)) (hc : MksAt w g ms) (hs : MAsc ms) (hn : ms.length ≤ 1000000) :
    Calls Tryz.prog 93 #[.int .i64 ms.length, .func (.func 94) #[] #[ptr a, ptr q]] w fun e w' => e = .returned (.int .i64 (tlen ms r)) ∧ Below w.heap.size w w' := by
  have HF : Hid (∀ (W : World) (i : Nat) (m : Mk), Below w.heap.size w W → ms[i]? = some m → Calls Tryz.prog 94 #[.int .i64 i, ptr a, ptr q] W fun e w' => e = .returned (.bool (decide (r < m.1))) ∧ Below W.heap.size W w') := fun W i m hb hm =>
    behind_any a q g c ms r W ((hb.cell (p := ⟨a, 0, none⟩) (World.block_lt_of_cell? _ _ ha)).trans ha) ((hb.cell (p := ⟨q, 0, none⟩) (World.block_lt_of_cell? _ _ hq)).trans hq) i m hm (hc.below hb)
  have HS := Hid.mk'' hs
  have hp := tlen_le ms r
  clear hs hc ha hq
  go_enter Tryz.func93, Tryz.ntmps93
  go_wp2
  go_loopw [5, 6] (fun x y W => ∃ i j : Nat, x = .int .i64 i ∧ y = .int .i64 j ∧ i ≤ tlen ms r ∧ tlen ms r ≤ j ∧ j ≤ ms.length ∧ Below w.heap.size w W) (fun x y _ => (intOf y).toNat - (intOf x).toNat)
  case atStart => exact ⟨0, ms.length, rfl, rfl, Nat.zero_le _, hp, Nat.le_refl _, Below.refl _ _⟩
  case round =>
    obtain ⟨i, j, rfl, rfl, h1, h2, h3, hb⟩ := hrel
    by_cases hij : i < j
    · obtain ⟨m, hit⟩ : ∃ m, ms[(i + j) / 2]? = some m := ⟨_, List.getElem?_eq_getElem (by omega)⟩
      have hci := HF.out wr ((i + j) / 2) m hb hit
      have HI : Hid (ms[(i + j) / 2]? = some m) := hit
      clear hit
      by_cases hk : r < m.1
      · rw [decide_eq_true hk] at hci
        have HK := Hid.mk'' hk
        clear hk
        go_wp2_with (go_at_call 94; refine hci.mono ?_; rintro e w' ⟨rfl, hb'⟩)
        go_roundw
        case rel =>
          refine ⟨i, (i + j) / 2, rfl, rfl, h1, ?_, by omega, hb.trans (hb'.mono hb.size)⟩
          refine Nat.le_of_not_lt fun hlt => ?_
          have h1 := tlen_lt hlt HI.out
          have h2 := HK.out
          omega
        case measure => simp [intOf]; omega
      · rw [decide_eq_false hk] at hci
        have HK := Hid.mk'' hk
        clear hk
        go_wp2_with (go_at_call 94; refine hci.mono ?_; rintro e w' ⟨rfl, hb'⟩)
        go_roundw
        case rel =>
          refine ⟨(i + j) / 2 + 1, j, by go_num, rfl, ?_, h2, h3, hb.trans (hb'.mono hb.size)⟩
          refine Nat.le_of_not_lt fun hlt => ?_
          have := tlen_ge (r := r) HS.out (by omega) HI.out
          have := HK.out
          omega
        case measure => simp [intOf]; omega
    · obtain rfl : i = tlen ms r := by omega
      have hb9 := Hid.mk'' hb
      go_wp2
      go_ret
      exact ⟨rfl, hb9.out⟩
end Go.Proofs.YtjdmgmnndfhmgaaGreat
