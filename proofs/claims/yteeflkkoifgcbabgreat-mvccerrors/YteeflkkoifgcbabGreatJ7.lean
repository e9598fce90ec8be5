/- join. -/
import Derived.Test.YteeflkkoifgcbabGreatGRJ
import Derived.Test.YteeflkkoifgcbabGreatGRC
namespace Go.Proofs.YteeflkkoifgcbabGreat
open Go Go.RowKit

theorem Src_owns {P : Program} {tx e s : Nat} {w : World} (hk : P.underlying tx = some (.slice e)) {base : Nat} {v : Value} {n : Nat} {xs : List Value} (h : w.ownsRow base e s v n xs) (h1 : ∀ u ∈ xs, u.oneCell' = true) : Src P s tx v n xs w := by
  rcases h.2 with ⟨rfl, rfl⟩ | ⟨g, cap, cur, rfl, _⟩
  · have : xs = [] := List.eq_nil_of_length_eq_zero (by rw [h.1, Nat.zero_mul])
    subst this
    exact Src.ofNil w hk 0
  · exact Src.ofSlice w hk ⟨g, 0, none⟩ n cap xs h.1 (fun j u hu => h.cells (g := g) rfl j u hu) h1
/-- Two appends, one behind the other. -/
theorem upd_two {V w1 w2 : World} {v v1 : Value} (h1 : Upd V w1 (fun k => some k = v.ownBlock)) (h2 : Upd w1 w2 (fun k => some k = v1.ownBlock)) (hb : v1.ownBlock = v.ownBlock ∨ v1.ownBlock = some V.heap.size) : Upd V w2 (fun k => some k = v.ownBlock) := by
  refine h1.trans h2 (fun k hk e => ?_)
  rcases hb with hb | hb
  · rw [hb] at e; exact e
  · rw [hb] at e; cases e; omega

set_option maxRecDepth 100000 in
set_option maxHeartbeats 4000000 in
theorem join_any {w0 w : World} {F0 : List Nat} {b l r i : Nat} {iv kv liv lkv riv rkv : Value} {its lits rits : List Itm} {ks lks rks : List Nat} {s : Itm} (T : Tri w0 w F0 b iv kv its ks l liv lkv lits lks r riv rkv rits rks) (hl : ks[i]? = some l) (hr : ks[i + 1]? = some r) (hs : its[i]? = some s) (hn : its.length ≤ 100) (hk : ks.length ≤ 100) (hll : lits.length ≤ 100) (hrl : rits.length ≤ 100) (hlk : lks.length ≤ 100) (hrk : rks.length ≤ 100) :
    Calls Tryz.prog 87 #[ptr b, .int .i64 i] w fun e w' => e = .returned (.tuple #[]) ∧ ∃ iv' kv' liv' lkv', Tri w0 w' F0 b iv' kv' (its.take i ++ its.drop (i + 1)) (ks.take (i + 1) ++ ks.drop (i + 2)) l liv' lkv' (lits ++ s :: rits) (lks ++ rks) r riv rkv rits rks := by
  have hik : i + 1 < ks.length := (List.getElem?_eq_some_iff.1 hr).1
  have hii : i < its.length := (List.getElem?_eq_some_iff.1 hs).1
  have HT := Hid.mk'' T
  obtain ⟨kg, kc, hkv, hkc, hkm⟩ := owns_form1 T.hn.kids (by omega)
  have kk := T.hn.kid hkv hl
  have kk1 := T.hn.kid hkv hr
  have c1 := T.hn.c1
  rw [hkv] at c1
  have hw : IntKind.i64.wrap ((i : Int) + 1) = (i : Int) + 1 := by rw [IntKind.wrap_i64]; omega
  clear T
  go_enter Tryz.func87, Tryz.ntmps87
  go_wp2_with fail
  go_cut [4, 5] from 6 to 20 (fun v4 v5 wx => v4 = ptr l ∧ v5 = ptr r ∧ Hid (Tri w0 wx F0 b iv kv its ks l liv lkv lits lks r riv rkv rits rks))
  case first =>
    go_region_with (fail)
    all_goals (go_wp2_with fail; go_meet; case rel => exact ⟨rfl, rfl, HT.out.below (Below.refl _ _).drew⟩)
  case rest =>
  obtain ⟨rfl, rfl, HT1⟩ := hcut
  clear HT kk kk1 c1
  generalize wc = W1 at *
  go_wp2_with fail
  obtain ⟨lp, lc, hlv, hlc, hlm⟩ := owns_form HT1.out.hl.items
  obtain ⟨ng, nc, hiv, hnc, hnm⟩ := owns_form1 HT1.out.hn.items (by omega)
  obtain ⟨rp, rc, hrv, hrc, hrm⟩ := owns_form HT1.out.hr.items
  have ss : isSl s.mv := HT1.out.hn.mvs s (List.mem_of_getElem? hs)
  have s01 := fun W (hb : Below W1.heap.size W1 W) => (HT1.out.hn.below hb).item hiv hs
  obtain ⟨skey, smv⟩ := s
  obtain ⟨sp, sn, sc, hsv⟩ := ss
  dsimp only at hsv s01
  subst hsv
  subst hlv
  subst hiv
  subst hrv
  subst hkv
  go_cut [] from 21 to 41 (fun wx => ∃ g' c', Hid (Tri w0 wx F0 b (.slice (some ⟨ng, 0, none⟩) its.length nc) (.slice (some ⟨kg, 0, none⟩) ks.length kc) its ks l (.slice (some ⟨g', 0, none⟩) (lits.length + 1 + rits.length) c') lkv (lits ++ ⟨skey, .slice sp sn sc⟩ :: rits) lks r (.slice rp rits.length rc) rkv rits rks))
  case first =>
    have n0 := HT1.out.hn.c0
    have l0 := HT1.out.hl.c0
    have r0 := HT1.out.hr.c0
    obtain ⟨s0, s1⟩ := s01 _ (Below.refl _ _)
    have ca0 : ∀ o, (W1.alloc o).cell? ⟨l, 0, none⟩ = _ := fun o => (HT1.out.below ((Below.refl _ W1).alloc (Nat.le_refl _) o)).hl.c0
    have cr0 : ∀ o, (W1.alloc o).cell? ⟨r, 0, none⟩ = _ := fun o => (HT1.out.below ((Below.refl _ W1).alloc (Nat.le_refl _) o)).hr.c0
    have HMK : Hid (∀ W, Below W1.heap.size W1 W → W.ownsRow 0 97 2 (.slice lp lits.length lc) lits.length (itsC lits)) := fun W hb => (HT1.out.hl.below hb).items
    obtain ⟨ti, hti, hz0, hz1, hz2⟩ := info_parts info66
    have HSR : Hid (∀ W, W.heap[W1.heap.size]? = some (.cells #[.string skey, .slice sp sn sc] 97 (0, 0)) → Src Tryz.prog 2 122 (.slice (some ⟨W1.heap.size, 0, none⟩) 1 1) 1 (itC ⟨skey, .slice sp sn sc⟩) W) := fun W hr => Src.ofSlice W Tryz.underlying122 ⟨W1.heap.size, 0, none⟩ 1 1 (itC ⟨skey, .slice sp sn sc⟩) rfl (fun j u hj => by
      rw [Addr.add_lit, Nat.zero_add, cell_of_row _ _ _ _ _ _ hr]; simpa [itC] using hj) (fun u hu => itsC_mem (its := [⟨skey, .slice sp sn sc⟩]) (by simp [isSl]) u (by rw [itsC_one]; exact hu))
    have HR1 : Hid (∀ V w1, Below W1.heap.size W1 V → Upd V w1 (fun k => some k = (Value.slice lp lits.length lc).ownBlock) → w1.cell? ⟨r, 0, none⟩ = some (.slice rp rits.length rc) ∧ Src Tryz.prog 2 122 (.slice rp rits.length rc) rits.length (itsC rits) w1) := fun V w1 hb q2 => by
      have hN := (HT1.out.hr.below hb).upd q2 (fun k hk e => (nd3 HT1.out.s.nd).2.2 k (by simp [nf, e]) hk)
      exact ⟨hN.c0, Src_owns Tryz.underlying122 hN.items (itsC_mem hN.mvs)⟩
    have HAP : Hid (∀ (V w1 : World) (v1 : Value) (w2 : World) (v2 : Value), Below W1.heap.size W1 V → Upd V w1 (fun k => some k = (Value.slice lp lits.length lc).ownBlock) → (v1.ownBlock = (Value.slice lp lits.length lc).ownBlock ∨ v1.ownBlock = some V.heap.size) →
        w2.ownsRow 0 97 2 v2 (lits.length + 1 + rits.length) (itsC lits ++ itC ⟨skey, .slice sp sn sc⟩ ++ itsC rits) → Upd w1 w2 (fun k => some k = v1.ownBlock) → (v2.ownBlock = v1.ownBlock ∨ v2.ownBlock = some w1.heap.size) →
        w2.cell? ⟨l, 0, none⟩ = some (.slice lp lits.length lc) ∧ w2.frozen? ⟨l, 0, none⟩ = false ∧ Hid (Tri w0 (w2.setCell ⟨l, 0, none⟩ v2) F0 b (.slice (some ⟨ng, 0, none⟩) its.length nc) (.slice (some ⟨kg, 0, none⟩) ks.length kc) its ks l v2 lkv (lits ++ ⟨skey, .slice sp sn sc⟩ :: rits) lks r (.slice rp rits.length rc) rkv rits rks)) := fun V w1 v1 w2 v2 hb q2 q3 p1 p2 p3 => by
      have hL := HT1.out.hl.below hb
      have hu := upd_two q2 p2 q3
      rw [← itsC_one, ← itsC_append, ← itsC_append, show lits.length + 1 + rits.length = (lits ++ [(⟨skey, .slice sp sn sc⟩ : Itm)] ++ rits).length by simp; omega] at p1
      have hmv : ∀ it ∈ lits ++ [(⟨skey, .slice sp sn sc⟩ : Itm)] ++ rits, isSl it.mv := fun x hx => by
        simp only [List.mem_append, List.mem_cons, List.not_mem_nil, or_false] at hx
        rcases hx with (hx | rfl) | hx
        · exact hL.mvs x hx
        · exact ⟨_, _, _, rfl⟩
        · exact HT1.out.hr.mvs x hx
      have hbk : v2.ownBlock = (Value.slice lp lits.length lc).ownBlock ∨ ∃ k, v2.ownBlock = some k ∧ V.heap.size ≤ k := by
        rcases p3 with p3 | p3
        · rcases q3 with q3 | q3
          · exact .inl (p3.trans q3)
          · exact .inr ⟨_, p3.trans q3, Nat.le_refl _⟩
        · exact .inr ⟨_, p3, q2.size⟩
      obtain ⟨hN', hS'⟩ := hL.setItems p1 hu hbk hmv
      obtain ⟨d0, d1⟩ := cell_upd hu hL.blk (fun e => (nf_iv hL.nd).1 e.symm) (j := 0) rfl
      rw [List.append_assoc, List.singleton_append] at hN'
      exact ⟨d0, d1, HT1.out.onL hN' (Step.from hb hS' HT1.out.hl.nd HT1.out.hl.foot_lt)⟩
    clear HT1 s01
    go_region_law (first | (refine step_appS _ rfl _ _ 122 122 rfl 0 97 ti _ 2 Tryz.underlying122 hti hz0 hz1 rfl (by rw [hz2]; omega) (.slice lp lits.length lc) lits.length (itsC lits) (by simp [Act.eval]; done) (HMK.out _ (by first | exact ((Below.refl _ _).drew.alloc (Nat.le_refl _) _) | exact ((Below.refl _ _).alloc (Nat.le_refl _) _).drew)) (.slice (some ⟨W1.heap.size, 0, none⟩) 1 1) (by simp [Act.eval]; done) 1 (itC ⟨skey, .slice sp sn sc⟩) (HSR.out _ (by first | exact row_alloc _ _ _ | rfl)) (by omega) (Nat.zero_le _) ?_; intro v1 w1 q1 q2 q3 q4; obtain ⟨e0, hsr⟩ := HR1.out _ _ (by first | exact ((Below.refl _ _).drew.alloc (Nat.le_refl _) _) | exact ((Below.refl _ _).alloc (Nat.le_refl _) _).drew) q2; obtain ⟨g1, c1, rfl, _, _⟩ := owns_form1 q1 (by omega)) | (refine step_appS _ rfl _ _ 122 122 rfl 0 97 ti _ 2 Tryz.underlying122 hti hz0 hz1 rfl (by rw [hz2]; omega) (.slice (some ⟨g1, 0, none⟩) (lits.length + 1) c1) (lits.length + 1) (itsC lits ++ itC ⟨skey, .slice sp sn sc⟩) (by simp [Act.eval]; done) q1 (.slice rp rits.length rc) (by simp [Act.eval]; done) rits.length (itsC rits) hsr (by omega) (Nat.zero_le _) ?_; intro v2 w2 p1 p2 p3 p4; obtain ⟨d0, d1, hX⟩ := HAP.out _ _ _ _ _ (by first | exact ((Below.refl _ _).drew.alloc (Nat.le_refl _) _) | exact ((Below.refl _ _).alloc (Nat.le_refl _) _).drew) q2 q3 p1 p2 p3; obtain ⟨g', c', rfl, _, _⟩ := owns_form1 p1 (by omega)))
    all_goals (go_wp2_with fail; go_meet; case rel => exact ⟨_, _, hX⟩)
  case rest =>
  obtain ⟨lg, lc', HT2⟩ := hcut
  clear HT1 s01
  generalize wc = W2 at *
  go_wp2_with fail
  obtain ⟨qp, qc, hqv, hqc, hqm⟩ := owns_form HT2.out.hl.kids
  obtain ⟨up, uc, huv, huc, hum⟩ := owns_form HT2.out.hr.kids
  subst hqv
  subst huv
  go_cut [] from 42 to 53 (fun wx => ∃ p' c', Hid (Tri w0 wx F0 b (.slice (some ⟨ng, 0, none⟩) its.length nc) (.slice (some ⟨kg, 0, none⟩) ks.length kc) its ks l (.slice (some ⟨lg, 0, none⟩) (lits.length + 1 + rits.length) lc') (.slice p' (lks.length + rks.length) c') (lits ++ ⟨skey, .slice sp sn sc⟩ :: rits) (lks ++ rks) r (.slice rp rits.length rc) (.slice up rks.length uc) rits rks))
  case first =>
    have l1 := HT2.out.hl.c1
    have r1 := HT2.out.hr.c1
    have HMK : Hid (∀ W, Below W2.heap.size W2 W → W.ownsRow 0 78 1 (.slice qp lks.length qc) lks.length (lks.map ptr)) := fun W hb => (HT2.out.hl.below hb).kids
    have HSR : Hid (∀ W, Below W2.heap.size W2 W → Src Tryz.prog 1 123 (.slice up rks.length uc) rks.length (rks.map ptr) W) := fun W hb => Src_owns Tryz.underlying123 (HT2.out.hr.below hb).kids (ptrs_mem rks)
    obtain ⟨ti, hti, hz0, hz1, hz2⟩ := info_parts info57
    have HAP : Hid (∀ V w' v', Below W2.heap.size W2 V → w'.ownsRow 0 78 1 v' (lks.length + rks.length) (lks.map ptr ++ rks.map ptr) → Upd V w' (fun j => some j = (Value.slice qp lks.length qc).ownBlock) → (v'.ownBlock = (Value.slice qp lks.length qc).ownBlock ∨ v'.ownBlock = some V.heap.size) →
        w'.cell? ⟨l, 1, none⟩ = some (.slice qp lks.length qc) ∧ w'.frozen? ⟨l, 1, none⟩ = false ∧ Hid (Tri w0 (w'.setCell ⟨l, 1, none⟩ v') F0 b (.slice (some ⟨ng, 0, none⟩) its.length nc) (.slice (some ⟨kg, 0, none⟩) ks.length kc) its ks l (.slice (some ⟨lg, 0, none⟩) (lits.length + 1 + rits.length) lc') v' (lits ++ ⟨skey, .slice sp sn sc⟩ :: rits) (lks ++ rks) r (.slice rp rits.length rc) (.slice up rks.length uc) rits rks)) := fun V w' v' hb q1 q2 q3 => by
      obtain ⟨d0, d1, hN', hS'⟩ := (HT2.out.hl.below hb).appK (news := rks) q1 rfl q2 q3
      exact ⟨d0, d1, HT2.out.onL hN' (Step.from hb hS' HT2.out.hl.nd HT2.out.hl.foot_lt)⟩
    clear HT2
    go_region_law (refine step_appS _ rfl _ _ 123 123 rfl 0 78 ti _ 1 Tryz.underlying123 hti hz0 hz1 rfl (by rw [hz2]; omega) (.slice qp lks.length qc) lks.length (lks.map ptr) (by simp [Act.eval]) (HMK.out _ (Below.refl _ _).drew) (.slice up rks.length uc) (by simp [Act.eval]) rks.length (rks.map ptr) (HSR.out _ (Below.refl _ _).drew) (by omega) (Nat.zero_le _) ?_; intro v' w' q1 q2 q3 q4; obtain ⟨d0, d1, hX⟩ := HAP.out _ _ _ (Below.refl _ _).drew q1 q2 q3; obtain ⟨p', c', rfl, _, _⟩ := owns_form q1)
    all_goals (go_wp2_with fail; go_meet; case rel => exact ⟨_, _, hX⟩)
  case rest =>
  obtain ⟨p', c', HT3⟩ := hcut
  clear HT2
  generalize wc = W3 at *
  have n0 := HT3.out.hn.c0
  have hdel := delI_node HT3.out.hn i (i + 1) (by omega) (by omega) (by omega)
  rw [show ((i + 1 : Nat) : Int) = (i : Int) + 1 by omega] at hdel
  go_upto_region 4 with (go_at_call 76; refine hdel.mono ?_; rintro e w4 ⟨_, rfl, ⟨ip', ic', rfl⟩, d0, d1, hN', hS'⟩)
  have HT4 := Hid.mk'' (HT3.out.onN hN' hS')
  clear HT3 hN' hS' hdel n0 d0 d1
  generalize (w4.setCell ⟨b, 0, none⟩ (.slice ip' (i + (its.length - (i + 1))) ic')) = W4 at *
  have n1 := HT4.out.hn.c1
  have hdel := delK_node HT4.out.hn (i + 1) (i + 2) (by omega) (by omega) (by omega)
  rw [show ((i + 1 : Nat) : Int) = (i : Int) + 1 by omega, show ((i + 2 : Nat) : Int) = (i : Int) + 2 by omega] at hdel
  go_wp2_with (go_at_call 91; refine hdel.mono ?_; rintro e w7 ⟨_, rfl, ⟨lp7, lc7, rfl⟩, d0, d1, hL', hS'⟩)
  first | go_end0 | refine bodyPost_ret (results_none rfl _ _ _) rfl ?_
  exact ⟨rfl, _, _, _, _, HT4.out.onN hL' hS'⟩
end Go.Proofs.YteeflkkoifgcbabGreat
