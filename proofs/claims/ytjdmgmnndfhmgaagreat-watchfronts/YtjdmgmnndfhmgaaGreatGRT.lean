/- join. -/
import Derived.Test.YtjdmgmnndfhmgaaGreatGRS
import Derived.Test.YtjdmgmnndfhmgaaGreatGRF
import Derived.Test.YtjdmgmnndfhmgaaGreatGRR
import Derived.Test.YtjdmgmnndfhmgaaGreatGRD
namespace Go.Proofs.YtjdmgmnndfhmgaaGreat
open Go Go.RowKit

theorem Src_owns {P : Program} {tx e s : Nat} {w : World} (hk : P.underlying tx = some (.slice e)) {base : Nat} {v : Value} {n : Nat} {xs : List Value} (h : w.ownsRow base e s v n xs) (h1 : ∀ u ∈ xs, u.oneCell' = true) : Src P s tx v n xs w := by
  rcases h.2 with ⟨rfl, rfl⟩ | ⟨g, cap, cur, rfl, _⟩
  · have : xs = [] := List.eq_nil_of_length_eq_zero (by rw [h.1, Nat.zero_mul])
    subst this
    exact Src.ofNil w hk 0
  · exact Src.ofSlice w hk ⟨g, 0, none⟩ n cap xs h.1 (fun j u hu => h.cells (g := g) rfl j u hu) h1
/-- Two appends, one behind the other. -/
theorem upd_two {V w1 w2 : World} {v v1 : Value} (h1 : Upd V w1 (fun k => some k = v.ownBlock)) (h2 : Upd w1 w2 (fun k => some k = v1.ownBlock)) (hb : v1.ownBlock = v.ownBlock ∨ v1.ownBlock = some V.heap.size) : Upd V w2 (fun k => some k = v.ownBlock) := by
  refine h1.trans h2 (fun k hk e => ?_)
  rcases hb with hb | hb
  · rw [hb] at e; exact e
  · rw [hb] at e; cases e; omega

set_option maxRecDepth 100000 in
set_option maxHeartbeats 4000000 in
theorem join_any {w0 w : World} {F0 : List Nat} {b l r i : Nat} {iv kv liv lkv riv rkv : Value} {its lits rits : List Itm} {ks lks rks : List Nat} {s : Itm} (T : Tri w0 w F0 b iv kv its ks l liv lkv lits lks r riv rkv rits rks) (hl : ks[i]? = some l) (hr : ks[i + 1]? = some r) (hs : its[i]? = some s) (hn : its.length ≤ 100) (hk : ks.length ≤ 100) (hll : lits.length ≤ 100) (hrl : rits.length ≤ 100) (hlk : lks.length ≤ 100) (hrk : rks.length ≤ 100) :
    Calls Tryz.prog 127 #[ptr b, .int .i64 i] w fun e w' => e = .returned (.tuple #[]) ∧ ∃ iv' kv' liv' lkv', Tri w0 w' F0 b iv' kv' (its.take i ++ its.drop (i + 1)) (ks.take (i + 1) ++ ks.drop (i + 2)) l liv' lkv' (lits ++ s :: rits) (lks ++ rks) r riv rkv rits rks := by
  have hik : i + 1 < ks.length := (List.getElem?_eq_some_iff.1 hr).1
  have hii : i < its.length := (List.getElem?_eq_some_iff.1 hs).1
  have HT := Hid.mk'' T
  obtain ⟨kg, kc, hkv, hkc, hkm⟩ := owns_form1 T.hn.kids (by omega)
  have kk := T.hn.kid hkv hl
  have kk1 := T.hn.kid hkv hr
  have c1 := T.hn.c1
  rw [hkv] at c1
  have hw : IntKind.i64.wrap ((i : Int) + 1) = (i : Int) + 1 := by rw [IntKind.wrap_i64]; omega
  clear T
  go_enter Tryz.func127, Tryz.ntmps127
  go_wp2_with fail
  go_cut [4, 5] from 6 to 20 (fun v4 v5 wx => v4 = ptr l ∧ v5 = ptr r ∧ Hid (Tri w0 wx F0 b iv kv its ks l liv lkv lits lks r riv rkv rits rks))
  case first =>
    go_region_with (fail)
    all_goals (go_wp2_with fail; go_meet; case rel => exact ⟨rfl, rfl, HT.out.below (Below.refl _ _).drew⟩)
  case rest =>
  obtain ⟨rfl, rfl, HT1⟩ := hcut
  clear HT kk kk1 c1
  generalize wc = W1 at *
  go_wp2_with fail
  obtain ⟨lp, lc, hlv, hlc, hlm⟩ := owns_form HT1.out.hl.items
  obtain ⟨ng, nc, hiv, hnc, hnm⟩ := owns_form1 HT1.out.hn.items (by omega)
  obtain ⟨rp, rc, hrv, hrc, hrm⟩ := owns_form HT1.out.hr.items
  have ss : isSl s.mv := HT1.out.hn.mvs s (List.mem_of_getElem? hs)
  have s01 := fun W (hb : Below W1.heap.size W1 W) => (HT1.out.hn.below hb).item hiv hs
  obtain ⟨skey, smv⟩ := s
  obtain ⟨sp, sn, sc, hsv⟩ := ss
  dsimp only at hsv s01
  subst hsv
  subst hlv
  subst hiv
  subst hrv
  subst hkv
  go_cut [] from 21 to 41 (fun wx => ∃ g' c', Hid (Tri w0 wx F0 b (.slice (some ⟨ng, 0, none⟩) its.length nc) (.slice (some ⟨kg, 0, none⟩) ks.length kc) its ks l (.slice (some ⟨g', 0, none⟩) (lits.length + 1 + rits.length) c') lkv (lits ++ ⟨skey, .slice sp sn sc⟩ :: rits) lks r (.slice rp rits.length rc) rkv rits rks))
  case first =>
    have n0 := HT1.out.hn.c0
    have l0 := HT1.out.hl.c0
    have r0 := HT1.out.hr.c0
    obtain ⟨s0, s1⟩ := s01 _ (Below.refl _ _)
    have ca0 : ∀ o, (W1.alloc o).cell? ⟨l, 0, none⟩ = _ := fun o => (HT1.out.below ((Below.refl _ W1).alloc (Nat.le_refl _) o)).hl.c0
    have cr0 : ∀ o, (W1.alloc o).cell? ⟨r, 0, none⟩ = _ := fun o => (HT1.out.below ((Below.refl _ W1).alloc (Nat.le_refl _) o)).hr.c0
    have HMK : Hid (∀ W, Below W1.heap.size W1 W → W.ownsRow 0 151 2 (.slice lp lits.length lc) lits.length (itsC lits)) := fun W hb => (HT1.out.hl.below hb).items
    obtain ⟨ti, hti, hz0, hz1, hz2⟩ := info_parts info66
    have HSR : Hid (∀ W, W.heap[W1.heap.size]? = some (.cells #[.string skey, .slice sp sn sc] 151 (0, 0)) → Src Tryz.prog 2 183 (.slice (some ⟨W1.heap.size, 0, none⟩) 1 1) 1 (itC ⟨skey, .slice sp sn sc⟩) W) := fun W hr => Src.ofSlice W Tryz.underlying183 ⟨W1.heap.size, 0, none⟩ 1 1 (itC ⟨skey, .slice sp sn sc⟩) rfl (fun j u hj => by
      rw [Addr.add_lit, Nat.zero_add, cell_of_row _ _ _ _ _ _ hr]; simpa [itC] using hj) (fun u hu => itsC_mem (its := [⟨skey, .slice sp sn sc⟩]) (by simp [isSl]) u (by rw [itsC_one]; exact hu))
    have HR1 : Hid (∀ V w1, Below W1.heap.size W1 V → Upd V w1 (fun k => some k = (Value.slice lp lits.length lc).ownBlock) → w1.cell? ⟨r, 0, none⟩ = some (.slice rp rits.length rc) ∧ Src Tryz.prog 2 183 (.slice rp rits.length rc) rits.length (itsC rits) w1) := fun V w1 hb q2 => by
      have hN := (HT1.out.hr.below hb).upd q2 (fun k hk e => (nd3 HT1.out.s.nd).2.2 k (by simp [nf, e]) hk)
      exact ⟨hN.c0, Src_owns Tryz.underlying183 hN.items (itsC_mem hN.mvs)⟩
    have HAP : Hid (∀ (V w1 : World) (v1 : Value) (w2 : World) (v2 : Value), Below W1.heap.size W1 V → Upd V w1 (fun k => some k = (Value.slice lp lits.length lc).ownBlock) → (v1.ownBlock = (Value.slice lp lits.length lc).ownBlock ∨ v1.ownBlock = some V.heap.size) →
        w2.ownsRow 0 151 2 v2 (lits.length + 1 + rits.length) (itsC lits ++ itC ⟨skey, .slice sp sn sc⟩ ++ itsC rits) → Upd w1 w2 (fun k => some k = v1.ownBlock) → (v2.ownBlock = v1.ownBlock ∨ v2.ownBlock = some w1.heap.size) →
        w2.cell? ⟨l, 0, none⟩ = some (.slice lp lits.length lc) ∧ w2.frozen? ⟨l, 0, none⟩ = false ∧ Hid (Tri w0 (w2.setCell ⟨l, 0, none⟩ v2) F0 b (.slice (some ⟨ng, 0, none⟩) its.length nc) (.slice (some ⟨kg, 0, none⟩) ks.length kc) its ks l v2 lkv (lits ++ ⟨skey, .slice sp sn sc⟩ :: rits) lks r (.slice rp rits.length rc) rkv rits rks)) := fun V w1 v1 w2 v2 hb q2 q3 p1 p2 p3 => by
      have hL := HT1.out.hl.below hb
      have hu := upd_two q2 p2 q3
      rw [← itsC_one, ← itsC_append, ← itsC_append, show lits.length + 1 + rits.length = (lits ++ [(⟨skey, .slice sp sn sc⟩ : Itm)] ++ rits).length by simp; omega] at p1
      have hmv : ∀ it ∈ lits ++ [(⟨skey, .slice sp sn sc⟩ : Itm)] ++ rits, isSl it.mv := fun x hx => by
        simp only [List.mem_append, List.mem_cons, List.not_mem_nil, or_false] at hx
        rcases hx with (hx | rfl) | hx
        · exact hL.mvs x hx
        · exact ⟨_, _, _, rfl⟩
        · exact HT1.out.hr.mvs x hx
      have hbk : v2.ownBlock = (Value.slice lp lits.length lc).ownBlock ∨ ∃ k, v2.ownBlock = some k ∧ V.heap.size ≤ k := by
        rcases p3 with p3 | p3
        · rcases q3 with q3 | q3
          · exact .inl (p3.trans q3)
          · exact .inr ⟨_, p3.trans q3, Nat.le_refl _⟩
        · exact .inr ⟨_, p3, q2.size⟩
      obtain ⟨hN', hS'⟩ := hL.setItems p1 hu hbk hmv
      obtain ⟨d0, d1⟩ := cell_upd hu hL.blk (fun e => (nf_iv hL.nd).1 e.symm) (j := 0) rfl
      rw [List.append_assoc, List.singleton_append] at hN'
      exact ⟨d0, d1, HT1.out.onL hN' (Step.from hb hS' HT1.out.hl.nd HT1.out.hl.foot_lt)⟩
    clear HT1 s01
    go_region_law (first | (refine step_appS _ rfl _ _ 183 183 rfl 0 151 ti _ 2 Tryz.underlying183 hti hz0 hz1 rfl (by rw [hz2]; omega) (.slice lp lits.length lc) lits.length (itsC lits) (by simp [Act.eval]; done) (HMK.out _ (by first | exact ((Below.refl _ _).drew.alloc (Nat.le_refl _) _) | exact ((Below.refl _ _).alloc (Nat.le_refl _) _).drew)) (.slice (some ⟨W1.heap.size, 0, none⟩) 1 1) (by simp [Act.eval]; done) 1 (itC ⟨skey, .slice sp sn sc⟩) (HSR.out _ (by first | exact row_alloc _ _ _ | rfl)) (by omega) (Nat.zero_le _) ?_; intro v1 w1 q1 q2 q3 q4; obtain ⟨e0, hsr⟩ := HR1.out _ _ (by first | exact ((Below.refl _ _).drew.alloc (Nat.le_refl _) _) | exact ((Below.refl _ _).alloc (Nat.le_refl _) _).drew) q2; obtain ⟨g1, c1, rfl, _, _⟩ := owns_form1 q1 (by omega)) | (refine step_appS _ rfl _ _ 183 183 rfl 0 151 ti _ 2 Tryz.underlying183 hti hz0 hz1 rfl (by rw [hz2]; omega) (.slice (some ⟨g1, 0, none⟩) (lits.length + 1) c1) (lits.length + 1) (itsC lits ++ itC ⟨skey, .slice sp sn sc⟩) (by simp [Act.eval]; done) q1 (.slice rp rits.length rc) (by simp [Act.eval]; done) rits.length (itsC rits) hsr (by omega) (Nat.zero_le _) ?_; intro v2 w2 p1 p2 p3 p4; obtain ⟨d0, d1, hX⟩ := HAP.out _ _ _ _ _ (by first | exact ((Below.refl _ _).drew.alloc (Nat.le_refl _) _) | exact ((Below.refl _ _).alloc (Nat.le_refl _) _).drew) q2 q3 p1 p2 p3; obtain ⟨g', c', rfl, _, _⟩ := owns_form1 p1 (by omega)))
    all_goals (go_wp2_with fail; go_meet; case rel => exact ⟨_, _, hX⟩)
  case rest =>
  obtain ⟨lg, lc', HT2⟩ := hcut
  clear HT1 s01
  generalize wc = W2 at *
  go_wp2_with fail
  obtain ⟨qp, qc, hqv, hqc, hqm⟩ := owns_form HT2.out.hl.kids
  obtain ⟨up, uc, huv, huc, hum⟩ := owns_form HT2.out.hr.kids
  subst hqv
  subst huv
  go_cut [] from 42 to 53 (fun wx => ∃ p' c', Hid (Tri w0 wx F0 b (.slice (some ⟨ng, 0, none⟩) its.length nc) (.slice (some ⟨kg, 0, none⟩) ks.length kc) its ks l (.slice (some ⟨lg, 0, none⟩) (lits.length + 1 + rits.length) lc') (.slice p' (lks.length + rks.length) c') (lits ++ ⟨skey, .slice sp sn sc⟩ :: rits) (lks ++ rks) r (.slice rp rits.length rc) (.slice up rks.length uc) rits rks))
  case first =>
    have l1 := HT2.out.hl.c1
    have r1 := HT2.out.hr.c1
    have HMK : Hid (∀ W, Below W2.heap.size W2 W → W.ownsRow 0 123 1 (.slice qp lks.length qc) lks.length (lks.map ptr)) := fun W hb => (HT2.out.hl.below hb).kids
    have HSR : Hid (∀ W, Below W2.heap.size W2 W → Src Tryz.prog 1 184 (.slice up rks.length uc) rks.length (rks.map ptr) W) := fun W hb => Src_owns Tryz.underlying184 (HT2.out.hr.below hb).kids (ptrs_mem rks)
    obtain ⟨ti, hti, hz0, hz1, hz2⟩ := info_parts info57
    have HAP : Hid (∀ V w' v', Below W2.heap.size W2 V → w'.ownsRow 0 123 1 v' (lks.length + rks.length) (lks.map ptr ++ rks.map ptr) → Upd V w' (fun j => some j = (Value.slice qp lks.length qc).ownBlock) → (v'.ownBlock = (Value.slice qp lks.length qc).ownBlock ∨ v'.ownBlock = some V.heap.size) →
        w'.cell? ⟨l, 1, none⟩ = some (.slice qp lks.length qc) ∧ w'.frozen? ⟨l, 1, none⟩ = false ∧ Hid (Tri w0 (w'.setCell ⟨l, 1, none⟩ v') F0 b (.slice (some ⟨ng, 0, none⟩) its.length nc) (.slice (some ⟨kg, 0, none⟩) ks.length kc) its ks l (.slice (some ⟨lg, 0, none⟩) (lits.length + 1 + rits.length) lc') v' (lits ++ ⟨skey, .slice sp sn sc⟩ :: rits) (lks ++ rks) r (.slice rp rits.length rc) (.slice up rks.length uc) rits rks)) := fun V w' v' hb q1 q2 q3 => by
      obtain ⟨d0, d1, hN', hS'⟩ := (HT2.out.hl.below hb).appK (news := rks) q1 rfl q2 q3
      exact ⟨d0, d1, HT2.out.onL hN' (Step.from hb hS' HT2.out.hl.nd HT2.out.hl.foot_lt)⟩
    clear HT2
    go_region_law (refine step_appS _ rfl _ _ 184 184 rfl 0 123 ti _ 1 Tryz.underlying184 hti hz0 hz1 rfl (by rw [hz2]; omega) (.slice qp lks.length qc) lks.length (lks.map ptr) (by simp [Act.eval]) (HMK.out _ (Below.refl _ _).drew) (.slice up rks.length uc) (by simp [Act.eval]) rks.length (rks.map ptr) (HSR.out _ (Below.refl _ _).drew) (by omega) (Nat.zero_le _) ?_; intro v' w' q1 q2 q3 q4; obtain ⟨d0, d1, hX⟩ := HAP.out _ _ _ (Below.refl _ _).drew q1 q2 q3; obtain ⟨p', c', rfl, _, _⟩ := owns_form q1)
    all_goals (go_wp2_with fail; go_meet; case rel => exact ⟨_, _, hX⟩)
  case rest =>
  obtain ⟨p', c', HT3⟩ := hcut
  clear HT2
  generalize wc = W3 at *
  have n0 := HT3.out.hn.c0
  have hdel := delI_node HT3.out.hn i (i + 1) (by omega) (by omega) (by omega)
  rw [show ((i + 1 : Nat) : Int) = (i : Int) + 1 by omega] at hdel
  go_upto_region 4 with (go_at_call 116; refine hdel.mono ?_; rintro e w4 ⟨_, rfl, ⟨ip', ic', rfl⟩, d0, d1, hN', hS'⟩)
  have HT4 := Hid.mk'' (HT3.out.onN hN' hS')
  clear HT3 hN' hS' hdel n0 d0 d1
  generalize (w4.setCell ⟨b, 0, none⟩ (.slice ip' (i + (its.length - (i + 1))) ic')) = W4 at *
  have n1 := HT4.out.hn.c1
  have hdel := delK_node HT4.out.hn (i + 1) (i + 2) (by omega) (by omega) (by omega)
  rw [show ((i + 1 : Nat) : Int) = (i : Int) + 1 by omega, show ((i + 2 : Nat) : Int) = (i : Int) + 2 by omega] at hdel
  go_wp2_with (go_at_call 131; refine hdel.mono ?_; rintro e w7 ⟨_, rfl, ⟨lp7, lc7, rfl⟩, d0, d1, hL', hS'⟩)
  first | go_end0 | refine bodyPost_ret (results_none rfl _ _ _) rfl ?_
  exact ⟨rfl, _, _, _, _, HT4.out.onN hL' hS'⟩
end Go.Proofs.YtjdmgmnndfhmgaaGreat
/- mend: which neighbour helps. -/
namespace Go.Proofs.YtjdmgmnndfhmgaaGreat
open Go Go.RowKit

section
variable {w : World} {b kg kc kn : Nat} (c1 : w.cell? ⟨b, 1, none⟩ = some (.slice (some ⟨kg, 0, none⟩) kn kc)) {Q : World → Prop}
include c1
set_option maxRecDepth 100000 in
set_option maxHeartbeats 1000000 in
/-- There is nothing to mend. -/
theorem mend_no {i k n c : Nat} {p : Option Addr} (hi : i < kn) (h0 : w.cell? ⟨kg, i, none⟩ = some (ptr k)) (h1 : w.cell? ⟨k, 0, none⟩ = some (.slice p n c)) (hn : 2 ≤ n) :
    Calls Tryz.prog 118 #[ptr b, .int .i64 i] w fun e w' => e = .returned (.tuple #[]) ∧ w' = w := by
  go_enter Tryz.func118, Tryz.ntmps118
  go_wp2
  first | go_end0 | refine bodyPost_ret (results_none rfl _ _ _) rfl ?_
  exact ⟨rfl, rfl⟩
set_option maxRecDepth 100000 in
set_option maxHeartbeats 1000000 in
theorem mend_right {j k n c k1 n1 c1' : Nat} {p p1 : Option Addr} (hi : j + 1 < kn) (hk : kn ≤ 1000) (h0 : w.cell? ⟨kg, j + 1, none⟩ = some (ptr k)) (h1 : w.cell? ⟨k, 0, none⟩ = some (.slice p n c)) (hn : n < 2) (h2 : w.cell? ⟨kg, j, none⟩ = some (ptr k1)) (h3 : w.cell? ⟨k1, 0, none⟩ = some (.slice p1 n1 c1')) (hn1 : 2 < n1)
    (hc : Calls Tryz.prog 125 #[ptr b, .int .i64 j] w fun e w' => e = .returned (.tuple #[]) ∧ Q w') :
    Calls Tryz.prog 118 #[ptr b, .int .i64 ((j : Int) + 1)] w fun e w' => e = .returned (.tuple #[]) ∧ Q w' := by
  go_enter Tryz.func118, Tryz.ntmps118
  go_wp2_with (go_at_call 125; refine hc.mono ?_; rintro e w1 ⟨rfl, hq⟩)
  first | go_end0 | refine bodyPost_ret (results_none rfl _ _ _) rfl ?_
  exact ⟨rfl, hq⟩
set_option maxRecDepth 100000 in
set_option maxHeartbeats 1000000 in
theorem mend_left0 {k n c nn ic : Nat} {p ip : Option Addr} (hi : 0 < kn) (hk : kn ≤ 1000) (c0 : w.cell? ⟨b, 0, none⟩ = some (.slice ip nn ic)) (_hnn : nn ≤ 1000) (h0 : w.cell? ⟨kg, 0, none⟩ = some (ptr k)) (h1 : w.cell? ⟨k, 0, none⟩ = some (.slice p n c)) (hn : n < 2) (hr : 0 < nn) (hkn : 1 < kn) {k2 n2 c2 : Nat} {p2 : Option Addr} (h4 : w.cell? ⟨kg, 1, none⟩ = some (ptr k2)) (h5 : w.cell? ⟨k2, 0, none⟩ = some (.slice p2 n2 c2)) (hn2 : 2 < n2)
    (hc : Calls Tryz.prog 126 #[ptr b, .int .i64 0] w fun e w' => e = .returned (.tuple #[]) ∧ Q w') :
    Calls Tryz.prog 118 #[ptr b, .int .i64 0] w fun e w' => e = .returned (.tuple #[]) ∧ Q w' := by
  go_enter Tryz.func118, Tryz.ntmps118
  go_wp2_with (go_at_call 126; refine hc.mono ?_; rintro e w1 ⟨rfl, hq⟩)
  first | go_end0 | refine bodyPost_ret (results_none rfl _ _ _) rfl ?_
  exact ⟨rfl, hq⟩
set_option maxRecDepth 100000 in
set_option maxHeartbeats 1000000 in
theorem mend_left {j k n c nn ic : Nat} {p ip : Option Addr} (_hi : j + 1 < kn) (hk : kn ≤ 1000) (c0 : w.cell? ⟨b, 0, none⟩ = some (.slice ip nn ic)) (_hnn : nn ≤ 1000) (h0 : w.cell? ⟨kg, j + 1, none⟩ = some (ptr k)) (h1 : w.cell? ⟨k, 0, none⟩ = some (.slice p n c)) (hn : n < 2) {k1 n1 c1' : Nat} {p1 : Option Addr} (h2 : w.cell? ⟨kg, j, none⟩ = some (ptr k1)) (h3 : w.cell? ⟨k1, 0, none⟩ = some (.slice p1 n1 c1')) (hn1 : n1 ≤ 2) (hr : j + 1 < nn) (hkn : j + 1 + 1 < kn) {k2 n2 c2 : Nat} {p2 : Option Addr} (h4 : w.cell? ⟨kg, j + 1 + 1, none⟩ = some (ptr k2)) (h5 : w.cell? ⟨k2, 0, none⟩ = some (.slice p2 n2 c2)) (hn2 : 2 < n2)
    (hc : Calls Tryz.prog 126 #[ptr b, .int .i64 ((j : Int) + 1)] w fun e w' => e = .returned (.tuple #[]) ∧ Q w') :
    Calls Tryz.prog 118 #[ptr b, .int .i64 ((j : Int) + 1)] w fun e w' => e = .returned (.tuple #[]) ∧ Q w' := by
  go_enter Tryz.func118, Tryz.ntmps118
  go_wp2_with (go_at_call 126; refine hc.mono ?_; rintro e w1 ⟨rfl, hq⟩)
  first | go_end0 | refine bodyPost_ret (results_none rfl _ _ _) rfl ?_
  exact ⟨rfl, hq⟩
set_option maxRecDepth 100000 in
set_option maxHeartbeats 1000000 in
theorem mend_joinE {j k n c nn ic : Nat} {p ip : Option Addr} (hi : j + 1 < kn) (hk : kn ≤ 1000) (c0 : w.cell? ⟨b, 0, none⟩ = some (.slice ip nn ic)) (_hnn : nn ≤ 1000) (h0 : w.cell? ⟨kg, j + 1, none⟩ = some (ptr k)) (h1 : w.cell? ⟨k, 0, none⟩ = some (.slice p n c)) (hn : n < 2) {k1 n1 c1' : Nat} {p1 : Option Addr} (h2 : w.cell? ⟨kg, j, none⟩ = some (ptr k1)) (h3 : w.cell? ⟨k1, 0, none⟩ = some (.slice p1 n1 c1')) (hn1 : n1 ≤ 2) (hr : nn ≤ j + 1)
    (hc : Calls Tryz.prog 127 #[ptr b, .int .i64 j] w fun e w' => e = .returned (.tuple #[]) ∧ Q w') :
    Calls Tryz.prog 118 #[ptr b, .int .i64 ((j : Int) + 1)] w fun e w' => e = .returned (.tuple #[]) ∧ Q w' := by
  go_enter Tryz.func118, Tryz.ntmps118
  go_wp2_with (go_at_call 127; refine hc.mono ?_; rintro e w1 ⟨rfl, hq⟩)
  first | go_end0 | refine bodyPost_ret (results_none rfl _ _ _) rfl ?_
  exact ⟨rfl, hq⟩
set_option maxRecDepth 100000 in
set_option maxHeartbeats 1000000 in
theorem mend_joinM {j k n c nn ic : Nat} {p ip : Option Addr} (_hi : j + 1 < kn) (hk : kn ≤ 1000) (c0 : w.cell? ⟨b, 0, none⟩ = some (.slice ip nn ic)) (_hnn : nn ≤ 1000) (h0 : w.cell? ⟨kg, j + 1, none⟩ = some (ptr k)) (h1 : w.cell? ⟨k, 0, none⟩ = some (.slice p n c)) (hn : n < 2) {k1 n1 c1' : Nat} {p1 : Option Addr} (h2 : w.cell? ⟨kg, j, none⟩ = some (ptr k1)) (h3 : w.cell? ⟨k1, 0, none⟩ = some (.slice p1 n1 c1')) (hn1 : n1 ≤ 2) (hr : j + 1 < nn) (hkn : j + 1 + 1 < kn) {k2 n2 c2 : Nat} {p2 : Option Addr} (h4 : w.cell? ⟨kg, j + 1 + 1, none⟩ = some (ptr k2)) (h5 : w.cell? ⟨k2, 0, none⟩ = some (.slice p2 n2 c2)) (hn2 : n2 ≤ 2)
    (hc : Calls Tryz.prog 127 #[ptr b, .int .i64 j] w fun e w' => e = .returned (.tuple #[]) ∧ Q w') :
    Calls Tryz.prog 118 #[ptr b, .int .i64 ((j : Int) + 1)] w fun e w' => e = .returned (.tuple #[]) ∧ Q w' := by
  go_enter Tryz.func118, Tryz.ntmps118
  go_wp2_with (go_at_call 127; refine hc.mono ?_; rintro e w1 ⟨rfl, hq⟩)
  first | go_end0 | refine bodyPost_ret (results_none rfl _ _ _) rfl ?_
  exact ⟨rfl, hq⟩
set_option maxRecDepth 100000 in
set_option maxHeartbeats 1000000 in
theorem mend_join0 {k n c nn ic : Nat} {p ip : Option Addr} (hi : 0 < kn) (hk : kn ≤ 1000) (c0 : w.cell? ⟨b, 0, none⟩ = some (.slice ip nn ic)) (_hnn : nn ≤ 1000) (h0 : w.cell? ⟨kg, 0, none⟩ = some (ptr k)) (h1 : w.cell? ⟨k, 0, none⟩ = some (.slice p n c)) (hn : n < 2) (hr : 0 < nn) (hkn : 1 < kn) {k2 n2 c2 : Nat} {p2 : Option Addr} (h4 : w.cell? ⟨kg, 1, none⟩ = some (ptr k2)) (h5 : w.cell? ⟨k2, 0, none⟩ = some (.slice p2 n2 c2)) (hn2 : n2 ≤ 2)
    (hc : Calls Tryz.prog 127 #[ptr b, .int .i64 0] w fun e w' => e = .returned (.tuple #[]) ∧ Q w') :
    Calls Tryz.prog 118 #[ptr b, .int .i64 0] w fun e w' => e = .returned (.tuple #[]) ∧ Q w' := by
  go_enter Tryz.func118, Tryz.ntmps118
  go_wp2_with (go_at_call 127; refine hc.mono ?_; rintro e w1 ⟨rfl, hq⟩)
  first | go_end0 | refine bodyPost_ret (results_none rfl _ _ _) rfl ?_
  exact ⟨rfl, hq⟩
end
end Go.Proofs.YtjdmgmnndfhmgaaGreat
/- Two kids side by side, and the item between them, in a tree. -/
namespace Go.Proofs.YtjdmgmnndfhmgaaGreat
open Go Go.RowKit

theorem Step.less {w w' : World} {F F' F'' : List Nat} (h : Step w w' F F') (hn : F''.Nodup) (hs : ∀ k ∈ F'', k ∈ F') : Step w w' F F'' := ⟨h.upd, hn, fun k hk => h.sub k (hs k hk), fun k hk => h.lt k (hs k hk)⟩
abbrev KidOK (w : World) (h : Nat) (x : KidD) : Prop := Tre w h x.b x.its x.L x.F ∧ 2 ≤ x.its.length ∧ x.its.length ≤ 4
def Shape (h n : Nat) (g : List KidD) : Prop := match h with | 0 => g = [] | _ + 1 => g.length = n + 1
def Trees (w : World) (h : Nat) (g : List KidD) : Prop := match h with | 0 => True | h + 1 => ∀ k ∈ g, KidOK w h k
theorem good_iff {w : World} {h n : Nat} {g : List KidD} : Good w h n g ↔ Shape h n g ∧ Trees w h g := by
  cases h with
  | zero => simp [Good, Shape, Trees]
  | succ h => simp [Good, Shape, Trees, KidOK]
theorem Trees.append {w : World} {h : Nat} {g k : List KidD} : Trees w h (g ++ k) ↔ Trees w h g ∧ Trees w h k := by
  cases h with
  | zero => simp [Trees]
  | succ h =>
    simp only [Trees, List.mem_append]
    exact ⟨fun H => ⟨fun x hx => H x (.inl hx), fun x hx => H x (.inr hx)⟩, fun H x hx => hx.elim (H.1 x) (H.2 x)⟩
theorem Trees.upd {w w' : World} {S : Nat → Prop} (hu : Upd w w' S) {h : Nat} {g : List KidD} (hg : Trees w h g) (hS : ∀ k ∈ g.flatMap KidD.F, ¬ S k) : Trees w' h g := by
  cases h with
  | zero => trivial
  | succ h => exact fun k hk => ⟨(hg k hk).1.upd hu (fun j hj => hS j (List.mem_flatMap.2 ⟨k, hk, hj⟩)), (hg k hk).2⟩
theorem Good.flt {w : World} {h n : Nat} {g : List KidD} (hg : Good w h n g) : ∀ j ∈ g.flatMap KidD.F, j < w.heap.size := fun j hj => by
  obtain ⟨x, hx, hj⟩ := List.mem_flatMap.1 hj
  cases h with
  | zero => obtain rfl : g = [] := hg; cases hx
  | succ h => exact (hg.2 x hx).1.lt j hj

structure Two (W : World) (h b : Nat) (iv kv : Value) (A B : List KidD) (l r : KidD) (C D : List Itm) (s : Itm) (liv lkv riv rkv : Value) (gl gr : List KidD) : Prop where
  hN : Nod W b iv kv (C ++ s :: D) ((A ++ l :: r :: B).map KidD.b)
  hAC : A.length = C.length
  hBD : B.length = D.length
  hA : ∀ x ∈ A ++ B, KidOK W h x
  hl : Nod W l.b liv lkv l.its (gl.map KidD.b)
  gdl : Good W h l.its.length gl
  lL : l.L = lv h gl l.its
  lF : l.F = ff l.b liv lkv gl
  hr : Nod W r.b riv rkv r.its (gr.map KidD.b)
  gdr : Good W h r.its.length gr
  rL : r.L = lv h gr r.its
  rF : r.F = ff r.b riv rkv gr
  nd : (ff b iv kv (A ++ l :: r :: B)).Nodup
theorem Two.of {W : World} {h b : Nat} {iv kv : Value} {A B : List KidD} {l r : KidD} {C D : List Itm} {s : Itm} (hN : Nod W b iv kv (C ++ s :: D) ((A ++ l :: r :: B).map KidD.b)) (hAC : A.length = C.length) (hBD : B.length = D.length) (hA : ∀ x ∈ A ++ B, KidOK W h x) (hl : Tre W h l.b l.its l.L l.F) (hr : Tre W h r.b r.its r.L r.F) (hnd : (ff b iv kv (A ++ l :: r :: B)).Nodup) :
    ∃ liv lkv riv rkv gl gr, Two W h b iv kv A B l r C D s liv lkv riv rkv gl gr := by
  obtain ⟨liv, lkv, gl, a1, a2, a3, a4⟩ := hl.open_
  obtain ⟨riv, rkv, gr, b1, b2, b3, b4⟩ := hr.open_
  exact ⟨liv, lkv, riv, rkv, gl, gr, hN, hAC, hBD, hA, a1, a2, a3, a4, b1, b2, b3, b4, hnd⟩
theorem two_il (A B : List KidD) (l r : KidD) : ((A ++ l :: r :: B).map KidD.b)[A.length]? = some l.b := by
  rw [List.map_append, List.getElem?_append_right (by simp)]; simp
theorem two_ir (A B : List KidD) (l r : KidD) : ((A ++ l :: r :: B).map KidD.b)[A.length + 1]? = some r.b := by
  rw [List.map_append, List.getElem?_append_right (by simp)]; simp
section
variable {W : World} {h b : Nat} {iv kv : Value} {A B : List KidD} {l r : KidD} {C D : List Itm} {s : Itm} {liv lkv riv rkv : Value} {gl gr : List KidD} (H : Two W h b iv kv A B l r C D s liv lkv riv rkv gl gr)
include H
theorem Two.perm : (ff b iv kv (A ++ l :: r :: B)).Perm ((nf b iv kv ++ nf l.b liv lkv ++ nf r.b riv rkv) ++ ((gl ++ gr).flatMap KidD.F ++ (A ++ B).flatMap KidD.F)) := by
  simp only [ff, List.flatMap_append, List.flatMap_cons, H.lF, H.rF]
  rw [List.perm_iff_count]
  intro a
  simp only [List.count_append]
  omega
theorem Two.nd' : ((nf b iv kv ++ nf l.b liv lkv ++ nf r.b riv rkv) ++ ((gl ++ gr).flatMap KidD.F ++ (A ++ B).flatMap KidD.F)).Nodup := H.perm.nodup_iff.1 H.nd
theorem Two.flt : ∀ j ∈ (gl ++ gr).flatMap KidD.F ++ (A ++ B).flatMap KidD.F, j < W.heap.size := fun j hj => by
  rw [List.flatMap_append] at hj
  rcases List.mem_append.1 hj with hj | hj
  · rcases List.mem_append.1 hj with hj | hj
    · exact H.gdl.flt j hj
    · exact H.gdr.flt j hj
  · obtain ⟨x, hx, hj⟩ := List.mem_flatMap.1 hj
    exact (H.hA x hx).1.lt j hj
theorem Two.tri : Tri W W (nf b iv kv ++ nf l.b liv lkv ++ nf r.b riv rkv) b iv kv (C ++ s :: D) ((A ++ l :: r :: B).map KidD.b) l.b liv lkv l.its (gl.map KidD.b) r.b riv rkv r.its (gr.map KidD.b) :=
  ⟨H.hN, H.hl, H.hr, Step.refl (List.nodup_append.1 H.nd').1 (fun k hk => by
    simp only [List.mem_append] at hk
    rcases hk with (hk | hk) | hk
    · exact H.hN.foot_lt k hk
    · exact H.hl.foot_lt k hk
    · exact H.hr.foot_lt k hk)⟩
theorem Two.is : (C ++ s :: D)[A.length]? = some s := by rw [H.hAC]; simp
theorem Two.disj {W2 : World} {F' : List Nat} (S : Step W W2 (nf b iv kv ++ nf l.b liv lkv ++ nf r.b riv rkv) F') : Trees W2 h (gl ++ gr) ∧ ∀ x ∈ A ++ B, KidOK W2 h x := by
  have hd : ∀ j ∈ (gl ++ gr).flatMap KidD.F ++ (A ++ B).flatMap KidD.F, j ∉ nf b iv kv ++ nf l.b liv lkv ++ nf r.b riv rkv := fun j hj hj' => (List.nodup_append.1 H.nd').2.2 j hj' j hj rfl
  refine ⟨(Trees.append.2 ⟨(good_iff.1 H.gdl).2, (good_iff.1 H.gdr).2⟩).upd S.upd (fun j hj => hd j (List.mem_append_left _ hj)), fun x hx => ⟨(H.hA x hx).1.upd S.upd (fun j hj => hd j (List.mem_append_right _ (List.mem_flatMap.2 ⟨x, hx, hj⟩))), (H.hA x hx).2⟩⟩
/-- An item went over. -/
theorem Two.shift {W2 : World} {iv' kv' liv' lkv' riv' rkv' : Value} {s' : Itm} {lits' rits' : List Itm} {gl' gr' : List KidD} (T : Tri W W2 (nf b iv kv ++ nf l.b liv lkv ++ nf r.b riv rkv) b iv' kv' (C ++ s' :: D) ((A ++ l :: r :: B).map KidD.b) l.b liv' lkv' lits' (gl'.map KidD.b) r.b riv' rkv' rits' (gr'.map KidD.b))
    (hgg : gl' ++ gr' = gl ++ gr) (sl : Shape h lits'.length gl') (sr : Shape h rits'.length gr') (hL : lv h gl' lits' ++ s' :: lv h gr' rits' = lv h gl l.its ++ s :: lv h gr r.its) (l2 : 2 ≤ lits'.length) (l4 : lits'.length ≤ 4) (r2 : 2 ≤ rits'.length) (r4 : rits'.length ≤ 4) :
    ∃ F', Tre W2 (h + 1) b (C ++ s' :: D) (weave (A ++ l :: r :: B) (C ++ s :: D)) F' ∧ Step W W2 (ff b iv kv (A ++ l :: r :: B)) F' := by
  obtain ⟨hT, hA2⟩ := H.disj T.s
  rw [← hgg, Trees.append] at hT
  have TL := Tre.close (h := h) T.hl (good_iff.2 ⟨sl, hT.1⟩)
  have TR := Tre.close (h := h) T.hr (good_iff.2 ⟨sr, hT.2⟩)
  have hN2 : Nod W2 b iv' kv' (C ++ s' :: D) ((A ++ (⟨l.b, lits', lv h gl' lits', ff l.b liv' lkv' gl'⟩ : KidD) :: (⟨r.b, rits', lv h gr' rits', ff r.b riv' rkv' gr'⟩ : KidD) :: B).map KidD.b) := by
    have := T.hn
    simpa using this
  have TT := Tre.close (h := h + 1) hN2 ⟨by have := H.hAC; have := H.hBD; simp; omega, fun x hx => by
    simp only [List.mem_append, List.mem_cons] at hx
    rcases hx with hx | rfl | rfl | hx
    · exact hA2 x (List.mem_append_left _ hx)
    · exact ⟨TL, l2, l4⟩
    · exact ⟨TR, r2, r4⟩
    · exact hA2 x (List.mem_append_right _ hx)⟩
  have e1 : lv (h + 1) (A ++ (⟨l.b, lits', lv h gl' lits', ff l.b liv' lkv' gl'⟩ : KidD) :: (⟨r.b, rits', lv h gr' rits', ff r.b riv' rkv' gr'⟩ : KidD) :: B) (C ++ s' :: D) = weave (A ++ l :: r :: B) (C ++ s :: D) := by
    show weave _ _ = _
    rw [weave_split A _ _ C (s' :: D) H.hAC, weave_split A l _ C (s :: D) H.hAC]
    simp only [suf, List.append_assoc]
    congr 1
    have := congrArg (· ++ suf D B) hL
    simp only [List.append_assoc, List.cons_append] at this
    rw [H.lL, H.rL]
    exact this
  rw [e1] at TT
  refine ⟨_, TT, (T.s.frame _ H.nd' H.flt).perm H.perm.symm ?_⟩
  rw [← hgg]
  simp only [ff, List.flatMap_append, List.flatMap_cons]
  rw [List.perm_iff_count]
  intro a
  simp only [List.count_append]
  omega
/-- The two became one. -/
theorem Two.join {W2 : World} {iv' kv' liv' lkv' : Value} (T : Tri W W2 (nf b iv kv ++ nf l.b liv lkv ++ nf r.b riv rkv) b iv' kv' (C ++ D) ((A ++ l :: B).map KidD.b) l.b liv' lkv' (l.its ++ s :: r.its) ((gl ++ gr).map KidD.b) r.b riv rkv r.its (gr.map KidD.b))
    (l4 : l.its.length + r.its.length ≤ 3) (l1 : 1 ≤ l.its.length + r.its.length) :
    ∃ F', Tre W2 (h + 1) b (C ++ D) (weave (A ++ l :: r :: B) (C ++ s :: D)) F' ∧ Step W W2 (ff b iv kv (A ++ l :: r :: B)) F' := by
  obtain ⟨hT, hA2⟩ := H.disj T.s
  have hsh : Shape h (l.its ++ s :: r.its).length (gl ++ gr) := by
    have h1 := (good_iff.1 H.gdl).1
    have h2 := (good_iff.1 H.gdr).1
    cases h with
    | zero => simp only [Shape] at h1 h2 ⊢; rw [h1, h2]; rfl
    | succ h => simp only [Shape] at h1 h2 ⊢; simp; omega
  have TL := Tre.close (h := h) T.hl (good_iff.2 ⟨hsh, hT⟩)
  have hN2 : Nod W2 b iv' kv' (C ++ D) ((A ++ (⟨l.b, l.its ++ s :: r.its, lv h (gl ++ gr) (l.its ++ s :: r.its), ff l.b liv' lkv' (gl ++ gr)⟩ : KidD) :: B).map KidD.b) := by
    have := T.hn
    simpa using this
  have TT := Tre.close (h := h + 1) hN2 ⟨by have := H.hAC; have := H.hBD; simp; omega, fun x hx => by
    simp only [List.mem_append, List.mem_cons] at hx
    rcases hx with hx | rfl | hx
    · exact hA2 x (List.mem_append_left _ hx)
    · exact ⟨TL, by simp; omega, by simp; omega⟩
    · exact hA2 x (List.mem_append_right _ hx)⟩
  have hjl : lv h (gl ++ gr) (l.its ++ s :: r.its) = lv h gl l.its ++ s :: lv h gr r.its := by
    have h1 := (good_iff.1 H.gdl).1
    have h2 := (good_iff.1 H.gdr).1
    cases h with
    | zero => rfl
    | succ h =>
      simp only [Shape] at h1 h2
      show weave _ _ = weave _ _ ++ s :: weave _ _
      obtain ⟨g0, k0, rfl⟩ : ∃ g0 k0, gl = g0 ++ [k0] := ⟨gl.dropLast, gl.getLast (by intro e; rw [e] at h1; simp at h1), (List.dropLast_concat_getLast _).symm⟩
      obtain ⟨k1, g1, rfl⟩ : ∃ k1 g1, gr = k1 :: g1 := by
        cases gr with
        | nil => simp at h2
        | cons a l => exact ⟨a, l, rfl⟩
      have hg0 : g0.length = l.its.length := by simpa using h1
      rw [List.append_assoc, List.singleton_append, weave_split g0 k0 (k1 :: g1) l.its (s :: r.its) hg0]
      have := weave_split g0 k0 [] l.its [] hg0
      rw [List.append_nil] at this
      rw [this]
      simp [suf, weave]
  have e1 : lv (h + 1) (A ++ (⟨l.b, l.its ++ s :: r.its, lv h (gl ++ gr) (l.its ++ s :: r.its), ff l.b liv' lkv' (gl ++ gr)⟩ : KidD) :: B) (C ++ D) = weave (A ++ l :: r :: B) (C ++ s :: D) := by
    show weave _ _ = _
    rw [weave_split A _ _ C D H.hAC, weave_split A l _ C (s :: D) H.hAC]
    simp only [suf, hjl, H.lL, H.rL, List.append_assoc, List.cons_append]
  rw [e1] at TT
  have S1 := (T.s.frame _ H.nd' H.flt).perm H.perm.symm (List.Perm.refl _)
  have hp : ((nf b iv' kv' ++ nf l.b liv' lkv' ++ nf r.b riv rkv) ++ ((gl ++ gr).flatMap KidD.F ++ (A ++ B).flatMap KidD.F)).Perm (ff b iv' kv' (A ++ (⟨l.b, l.its ++ s :: r.its, lv h (gl ++ gr) (l.its ++ s :: r.its), ff l.b liv' lkv' (gl ++ gr)⟩ : KidD) :: B) ++ nf r.b riv rkv) := by
    simp only [ff, List.flatMap_append, List.flatMap_cons]
    rw [List.perm_iff_count]
    intro a
    simp only [List.count_append]
    omega
  refine ⟨_, TT, S1.less ?_ (fun k hk => hp.mem_iff.2 (List.mem_append_left _ hk))⟩
  exact (List.nodup_append.1 (hp.nodup_iff.1 S1.nd)).1
end
end Go.Proofs.YtjdmgmnndfhmgaaGreat
/- mend, in a tree. -/
namespace Go.Proofs.YtjdmgmnndfhmgaaGreat
open Go Go.RowKit

/-- What mend and its helpers leave. -/
def MendP (W : World) (h b : Nat) (L : List Itm) (n : Nat) (F : List Nat) (W2 : World) : Prop :=
  ∃ its' F', Tre W2 (h + 1) b its' L F' ∧ n ≤ its'.length + 1 ∧ its'.length ≤ n ∧ Step W W2 F F'
theorem set_mid {α : Type} (C : List α) (s t : α) (D : List α) (n : Nat) (h : n = C.length) : (C ++ s :: D).set n t = C ++ t :: D := by
  subst h; simp
theorem good_len {w : World} {h n : Nat} {g : List KidD} (hg : Good w h n g) : g.length ≤ n + 1 := by
  rcases hg.zero with rfl | h
  · simp
  · omega
section
variable {W : World} {h b : Nat} {iv kv : Value} {A B : List KidD} {l r : KidD} {C D : List Itm} {s : Itm} {liv lkv riv rkv : Value} {gl gr : List KidD} (H : Two W h b iv kv A B l r C D s liv lkv riv rkv gl gr)
include H
theorem shiftR_two (hn : (C ++ s :: D).length ≤ 4) (hl3 : 3 ≤ l.its.length) (hl4 : l.its.length ≤ 4) (hr1 : 1 ≤ r.its.length) (hr3 : r.its.length ≤ 3) :
    Calls Tryz.prog 125 #[ptr b, .int .i64 A.length] W fun e W2 => e = .returned (.tuple #[]) ∧ MendP W h b (weave (A ++ l :: r :: B) (C ++ s :: D)) (C ++ s :: D).length (ff b iv kv (A ++ l :: r :: B)) W2 := by
  obtain ⟨lits, t, hlt⟩ : ∃ lits t, l.its = lits ++ [t] := ⟨l.its.dropLast, l.its.getLast (by intro e; rw [e] at hl3; simp at hl3), (List.dropLast_concat_getLast _).symm⟩
  have T := H.tri
  have hk : ((A ++ l :: r :: B).map KidD.b).length ≤ 100 := by have := H.hAC; have := H.hBD; simp at hn ⊢; omega
  have hll : lits.length + 1 = l.its.length := by rw [hlt]; simp
  have hset : ∀ t, (C ++ s :: D).set A.length t = C ++ t :: D := fun t => set_mid C s t D _ H.hAC
  have hlen : ∀ t : Itm, (C ++ t :: D).length = (C ++ s :: D).length := fun t => by simp
  rw [hlt] at T
  rcases H.gdl.zero with hgl | hgl
  · have h0 : h = 0 := by
      have := (good_iff.1 H.gdl).1
      cases h with
      | zero => rfl
      | succ h => simp only [Shape] at this; rw [hgl] at this; simp at this
    subst h0
    have hgr : gr = [] := H.gdr
    rw [hgl, hgr] at T
    simp only [List.map_nil] at T
    refine (shiftR_leaf T (two_il A B l r) (two_ir A B l r) H.is (by omega) hk (by omega) (by omega)).mono ?_
    rintro e W2 ⟨rfl, liv', riv', T2⟩
    rw [hset] at T2
    obtain ⟨F', q1, q2⟩ := H.shift (s' := t) (gl' := []) (gr' := []) (lits' := lits) (rits' := s :: r.its) (by simpa using T2) (by rw [hgl, hgr]) rfl rfl (by simp [lv, hlt]) (by omega) (by omega) (by simp; omega) (by simp; omega)
    exact ⟨rfl, _, F', q1, by have := hlen t; omega, by have := hlen t; omega, q2⟩
  · obtain ⟨h', rfl⟩ : ∃ h', h = h' + 1 := by
      cases h with
      | zero => have : gl = [] := H.gdl; rw [this] at hgl; simp at hgl
      | succ h => exact ⟨h, rfl⟩
    obtain ⟨g0, k0, hg0⟩ : ∃ g0 k0, gl = g0 ++ [k0] := ⟨gl.dropLast, gl.getLast (by intro e; rw [e] at hgl; simp at hgl), (List.dropLast_concat_getLast _).symm⟩
    have hg0l : g0.length = lits.length + 1 := by rw [hg0] at hgl; simp at hgl; omega
    have hgrl : gr.length = r.its.length + 1 := H.gdr.1
    rw [hg0] at T
    simp only [List.map_append, List.map_cons, List.map_nil] at T
    refine (shiftR_in T (by simp) (by simp) H.is (by omega) (by simpa using hk) (by omega) (by omega) (by simpa using hg0l) (by simp; omega)).mono ?_
    rintro e W2 ⟨rfl, liv', lkv', riv', rkv', T2⟩
    rw [hset] at T2
    obtain ⟨F', q1, q2⟩ := H.shift (s' := t) (gl' := g0) (gr' := k0 :: gr) (lits' := lits) (rits' := s :: r.its) (by simpa using T2) (by rw [hg0]; simp) (by simpa [Shape] using hg0l) (by simpa [Shape] using hgrl) (by
      simp only [lv]
      have e0 := weave_split g0 k0 [] (lits ++ [t]) [] (by simp [hg0l])
      rw [List.append_nil] at e0
      rw [hg0, hlt, e0]
      obtain ⟨g1, k1, rfl⟩ : ∃ g1 k1, g0 = g1 ++ [k1] := ⟨g0.dropLast, g0.getLast (by intro e; rw [e] at hg0l; simp at hg0l), (List.dropLast_concat_getLast _).symm⟩
      have hg1 : g1.length = lits.length := by simpa using hg0l
      have e1 := weave_split g1 k1 [] lits [] hg1
      rw [List.append_nil] at e1
      rw [e1, pre_snoc g1 k1 lits t hg1, weave_cons _ _ _ _ (by intro e; rw [e] at hgrl; simp at hgrl)]
      simp [suf]) (by omega) (by omega) (by simp; omega) (by simp; omega)
    exact ⟨rfl, _, F', q1, by have := hlen t; omega, by have := hlen t; omega, q2⟩
theorem shiftL_two (hn : (C ++ s :: D).length ≤ 4) (hr3 : 3 ≤ r.its.length) (hr4 : r.its.length ≤ 4) (hl1 : 1 ≤ l.its.length) (hl3 : l.its.length ≤ 3) :
    Calls Tryz.prog 126 #[ptr b, .int .i64 A.length] W fun e W2 => e = .returned (.tuple #[]) ∧ MendP W h b (weave (A ++ l :: r :: B) (C ++ s :: D)) (C ++ s :: D).length (ff b iv kv (A ++ l :: r :: B)) W2 := by
  obtain ⟨t, rits, hrt⟩ : ∃ t rits, r.its = t :: rits := by
    cases hr : r.its with
    | nil => rw [hr] at hr3; simp at hr3
    | cons a l => exact ⟨a, l, rfl⟩
  have T := H.tri
  have hk : ((A ++ l :: r :: B).map KidD.b).length ≤ 100 := by have := H.hAC; have := H.hBD; simp at hn ⊢; omega
  have hrl : rits.length + 1 = r.its.length := by rw [hrt]; simp
  have hset : ∀ t, (C ++ s :: D).set A.length t = C ++ t :: D := fun t => set_mid C s t D _ H.hAC
  have hlen : ∀ t : Itm, (C ++ t :: D).length = (C ++ s :: D).length := fun t => by simp
  rw [hrt] at T
  rcases H.gdl.zero with hgl | hgl
  · have h0 : h = 0 := by
      have := (good_iff.1 H.gdl).1
      cases h with
      | zero => rfl
      | succ h => simp only [Shape] at this; rw [hgl] at this; simp at this
    subst h0
    have hgr : gr = [] := H.gdr
    rw [hgl, hgr] at T
    simp only [List.map_nil] at T
    refine (shiftL_leaf T (two_il A B l r) (two_ir A B l r) H.is (by omega) hk (by omega) (by omega)).mono ?_
    rintro e W2 ⟨rfl, liv', riv', T2⟩
    rw [hset] at T2
    obtain ⟨F', q1, q2⟩ := H.shift (s' := t) (gl' := []) (gr' := []) (lits' := l.its ++ [s]) (rits' := rits) (by simpa using T2) (by rw [hgl, hgr]) rfl rfl (by simp [lv, hrt]) (by simp; omega) (by simp; omega) (by omega) (by omega)
    exact ⟨rfl, _, F', q1, by have := hlen t; omega, by have := hlen t; omega, q2⟩
  · obtain ⟨h', rfl⟩ : ∃ h', h = h' + 1 := by
      cases h with
      | zero => have : gl = [] := H.gdl; rw [this] at hgl; simp at hgl
      | succ h => exact ⟨h, rfl⟩
    have hgrl : gr.length = r.its.length + 1 := H.gdr.1
    obtain ⟨k0, g0, hg0⟩ : ∃ k0 g0, gr = k0 :: g0 := by
      cases gr with
      | nil => simp at hgrl
      | cons a l => exact ⟨a, l, rfl⟩
    have hg0l : g0.length = rits.length + 1 := by rw [hg0] at hgrl; simp at hgrl; omega
    rw [hg0] at T
    simp only [List.map_append, List.map_cons] at T
    refine (shiftL_in T (by simp) (by simp) H.is (by omega) (by simpa using hk) (by omega) (by omega) (by simp; omega) (by simp; omega)).mono ?_
    rintro e W2 ⟨rfl, liv', lkv', riv', rkv', T2⟩
    rw [hset] at T2
    obtain ⟨F', q1, q2⟩ := H.shift (s' := t) (gl' := gl ++ [k0]) (gr' := g0) (lits' := l.its ++ [s]) (rits' := rits) (by simpa using T2) (by rw [hg0]; simp) (by simp only [Shape]; simp; omega) (by simpa [Shape] using hg0l) (by
      simp only [lv]
      obtain ⟨g1, k1, rfl⟩ : ∃ g1 k1, gl = g1 ++ [k1] := ⟨gl.dropLast, gl.getLast (by intro e; rw [e] at hgl; simp at hgl), (List.dropLast_concat_getLast _).symm⟩
      have hg1 : g1.length = l.its.length := by simpa using hgl
      have e1 := weave_split g1 k1 [] l.its [] hg1
      rw [List.append_nil] at e1
      have e2 := weave_split (g1 ++ [k1]) k0 [] (l.its ++ [s]) [] (by simp [hg1])
      rw [List.append_nil] at e2
      rw [e1, e2, pre_snoc g1 k1 l.its s hg1, hg0, hrt, weave_cons _ _ _ _ (by intro e; rw [e] at hg0l; simp at hg0l)]
      simp [suf]) (by simp; omega) (by simp; omega) (by omega) (by omega)
    exact ⟨rfl, _, F', q1, by have := hlen t; omega, by have := hlen t; omega, q2⟩
theorem join_two (hn : (C ++ s :: D).length ≤ 4) (hl1 : 1 ≤ l.its.length + r.its.length) (hl3 : l.its.length + r.its.length ≤ 3) :
    Calls Tryz.prog 127 #[ptr b, .int .i64 A.length] W fun e W2 => e = .returned (.tuple #[]) ∧ MendP W h b (weave (A ++ l :: r :: B) (C ++ s :: D)) (C ++ s :: D).length (ff b iv kv (A ++ l :: r :: B)) W2 := by
  have T := H.tri
  have hk : ((A ++ l :: r :: B).map KidD.b).length ≤ 100 := by have := H.hAC; have := H.hBD; simp at hn ⊢; omega
  have g1 := good_len H.gdl
  have g2 := good_len H.gdr
  refine (join_any T (two_il A B l r) (two_ir A B l r) H.is (by omega) hk (by omega) (by omega) (by simp; omega) (by simp; omega)).mono ?_
  rintro e W2 ⟨rfl, iv', kv', liv', lkv', T2⟩
  have e1 : (C ++ s :: D).take A.length ++ (C ++ s :: D).drop (A.length + 1) = C ++ D := by rw [H.hAC]; simp
  have e2 : ((A ++ l :: r :: B).map KidD.b).take (A.length + 1) ++ ((A ++ l :: r :: B).map KidD.b).drop (A.length + 2) = (A ++ l :: B).map KidD.b := by
    rw [List.map_append, List.map_cons, List.map_cons, show A.length + 1 = (A.map KidD.b).length + 1 by simp, show A.length + 2 = (A.map KidD.b).length + 2 by simp, List.take_length_add_append, List.drop_length_add_append]
    simp
  rw [e1, e2] at T2
  obtain ⟨F', q1, q2⟩ := H.join (by simpa using T2) hl3 hl1
  exact ⟨rfl, _, F', q1, by simp; omega, by simp, q2⟩
end
theorem cell_len {w : World} {b : Nat} {iv kv : Value} {its : List Itm} {ks : List Nat} (h : Nod w b iv kv its ks) : ∃ p c, w.cell? ⟨b, 0, none⟩ = some (.slice p its.length c) := by
  obtain ⟨p, c, hiv, _, _⟩ := owns_form h.items
  have := h.c0
  rw [hiv] at this
  exact ⟨p, c, this⟩
theorem Tre.cell_len {w : World} {h b : Nat} {its L : List Itm} {F : List Nat} (ht : Tre w h b its L F) : ∃ p c, w.cell? ⟨b, 0, none⟩ = some (.slice p its.length c) := by
  obtain ⟨iv, kv, g, hN, _⟩ := ht.open_
  exact Go.Proofs.YtjdmgmnndfhmgaaGreat.cell_len hN

theorem mend_tre {W : World} {h b : Nat} {iv kv : Value} {A B : List KidD} {k : KidD} {C D : List Itm} (hN : Nod W b iv kv (C ++ D) ((A ++ k :: B).map KidD.b)) (hAC : A.length = C.length) (hBD : B.length = D.length)
    (hA : ∀ x ∈ A ++ B, KidOK W h x) (hk : Tre W h k.b k.its k.L k.F) (h1 : 1 ≤ k.its.length) (h4 : k.its.length ≤ 4) (hnd : (ff b iv kv (A ++ k :: B)).Nodup) (hn : (C ++ D).length ≤ 4) (hpos : 1 ≤ (C ++ D).length) :
    Calls Tryz.prog 118 #[ptr b, .int .i64 C.length] W fun e W2 => e = .returned (.tuple #[]) ∧ MendP W h b (weave (A ++ k :: B) (C ++ D)) (C ++ D).length (ff b iv kv (A ++ k :: B)) W2 := by
  have hkl : ((A ++ k :: B).map KidD.b).length = (C ++ D).length + 1 := by simp; omega
  obtain ⟨kg, kc, hkv, _, _⟩ := owns_form1 hN.kids (by omega)
  have c1 := hN.c1
  rw [hkv] at c1
  have hkid : ∀ j x, (A ++ k :: B)[j]? = some x → W.cell? ⟨kg, j, none⟩ = some (ptr x.b) := fun j x hj => hN.kid hkv (by rw [List.getElem?_map, hj]; rfl)
  obtain ⟨kp, kcc, kcell⟩ := hk.cell_len
  obtain ⟨np, ncc, ncell⟩ := cell_len hN
  have hi0 : (A ++ k :: B)[C.length]? = some k := by rw [← hAC]; simp
  by_cases h2 : 2 ≤ k.its.length
  · refine (mend_no c1 (i := C.length) (by rw [hkl]; simp; omega) (hkid _ _ hi0) kcell h2).mono ?_
    rintro e W2 ⟨rfl, rfl⟩
    have TT := Tre.close (h := h + 1) hN ⟨by simp; omega, fun x hx => by
      simp only [List.mem_append, List.mem_cons] at hx
      rcases hx with hx | rfl | hx
      · exact hA x (List.mem_append_left _ hx)
      · exact ⟨hk, h2, h4⟩
      · exact hA x (List.mem_append_right _ hx)⟩
    exact ⟨rfl, _, _, TT, by omega, Nat.le_refl _, Step.refl hnd TT.lt⟩
  have k1 : k.its.length = 1 := by omega
  -- with the kid ahead
  have hleft : ∀ A' a C' c, A = A' ++ [a] → C = C' ++ [c] → ∃ liv lkv riv rkv gl gr, Two W h b iv kv A' B a k C' D c liv lkv riv rkv gl gr ∧ 2 ≤ a.its.length ∧ a.its.length ≤ 4 := fun A' a C' c e1 e2 => by
    subst e1 e2
    have ha := hA a (by simp)
    obtain ⟨liv, lkv, riv, rkv, gl, gr, H⟩ := Two.of (l := a) (r := k) (A := A') (B := B) (C := C') (D := D) (s := c) (h := h) (by simpa using hN) (by simpa using hAC) hBD (fun x hx => hA x (by simp only [List.mem_append, List.mem_singleton] at hx ⊢; exact hx.elim (fun h => .inl (.inl h)) .inr)) ha.1 hk (by simpa using hnd)
    exact ⟨liv, lkv, riv, rkv, gl, gr, H, ha.2⟩
  have hright : ∀ r B' d D', B = r :: B' → D = d :: D' → ∃ liv lkv riv rkv gl gr, Two W h b iv kv A B' k r C D' d liv lkv riv rkv gl gr ∧ 2 ≤ r.its.length ∧ r.its.length ≤ 4 := fun r B' d D' e1 e2 => by
    subst e1 e2
    have hr := hA r (by simp)
    obtain ⟨liv, lkv, riv, rkv, gl, gr, H⟩ := Two.of (l := k) (r := r) (A := A) (B := B') (C := C) (D := D') (s := d) (h := h) hN hAC (by simpa using hBD) (fun x hx => hA x (by simp only [List.mem_append, List.mem_cons] at hx ⊢; exact hx.elim .inl (fun h => .inr (.inr h)))) hk hr.1 hnd
    exact ⟨liv, lkv, riv, rkv, gl, gr, H, hr.2⟩
  have kn0 : k.its.length < 2 := by omega
  rcases List.eq_nil_or_concat C with hC | ⟨C', c, hC⟩
  · subst hC
    obtain rfl : A = [] := List.eq_nil_of_length_eq_zero (by simpa using hAC)
    obtain ⟨d, D', rfl⟩ : ∃ d D', D = d :: D' := by
      cases D with
      | nil => simp at hpos
      | cons d D' => exact ⟨d, D', rfl⟩
    obtain ⟨r, B', rfl⟩ : ∃ r B', B = r :: B' := by
      cases B with
      | nil => simp at hBD
      | cons d D' => exact ⟨d, D', rfl⟩
    obtain ⟨liv, lkv, riv, rkv, gl, gr, H, hr2, hr4⟩ := hright r B' d D' rfl rfl
    obtain ⟨rp, rcc, rcell⟩ := (hA r (by simp)).1.cell_len
    by_cases hr3 : 2 < r.its.length
    · have := shiftL_two H (by simpa using hn) (by omega) hr4 h1 (by omega)
      exact mend_left0 c1 (by rw [hkl]; omega) (by rw [hkl]; omega) ncell (by omega) (hkid 0 k (by simp)) kcell kn0 (by omega) (by rw [hkl]; omega) (hkid 1 r (by simp)) rcell hr3 this
    · have := join_two H (by simpa using hn) (by omega) (by omega)
      exact mend_join0 c1 (by rw [hkl]; omega) (by rw [hkl]; omega) ncell (by omega) (hkid 0 k (by simp)) kcell kn0 (by omega) (by rw [hkl]; omega) (hkid 1 r (by simp)) rcell (by omega) this
  · rw [List.concat_eq_append] at hC
    obtain ⟨A', a, hA'⟩ : ∃ A' a, A = A' ++ [a] := by
      rcases List.eq_nil_or_concat A with h | ⟨A', a, h⟩
      · rw [h, hC] at hAC; simp at hAC
      · exact ⟨A', a, by rw [h, List.concat_eq_append]⟩
    have hal : A'.length + 1 = C.length := by rw [← hAC, hA']; simp
    have hcl : C.length ≤ (C ++ D).length := by simp
    have ea : (A ++ k :: B)[A'.length]? = some a := by rw [hA']; simp
    have ek : (A ++ k :: B)[A'.length + 1]? = some k := by rw [hal]; exact hi0
    rw [show ((C.length : Nat) : Int) = (A'.length : Int) + 1 by omega]
    obtain ⟨liv, lkv, riv, rkv, gl, gr, H, ha2, ha4⟩ := hleft A' a C' c hA' hC
    obtain ⟨ap, acc, acell⟩ := (hA a (by rw [hA']; simp)).1.cell_len
    have ewv : weave (A' ++ a :: k :: B) (C' ++ c :: D) = weave (A ++ k :: B) (C ++ D) := by rw [hA', hC]; simp
    have eff : ff b iv kv (A' ++ a :: k :: B) = ff b iv kv (A ++ k :: B) := by rw [hA']; simp
    have elen : (C' ++ c :: D).length = (C ++ D).length := by rw [hC]; simp
    by_cases ha3 : 2 < a.its.length
    · have := shiftR_two H (by rw [elen]; exact hn) (by omega) ha4 h1 (by omega)
      rw [ewv, eff, elen] at this
      exact mend_right c1 (by rw [hkl]; omega) (by rw [hkl]; omega) (hkid _ k ek) kcell kn0 (hkid _ a ea) acell ha3 this
    · have hj := join_two H (by rw [elen]; exact hn) (by omega) (by omega)
      rw [ewv, eff, elen] at hj
      cases D with
      | nil =>
        refine mend_joinE c1 (by rw [hkl]; omega) (by rw [hkl]; omega) ncell (by omega) (hkid _ k ek) kcell kn0 (hkid _ a ea) acell (by omega) (by simp; omega) hj
      | cons d D' =>
        obtain ⟨r, B', rfl⟩ : ∃ r B', B = r :: B' := by
          cases B with
          | nil => simp at hBD
          | cons d D' => exact ⟨d, D', rfl⟩
        obtain ⟨liv, lkv, riv, rkv, gl, gr, H2, hr2, hr4⟩ := hright r B' d D' rfl rfl
        obtain ⟨rp, rcc, rcell⟩ := (hA r (by simp)).1.cell_len
        have er : (A ++ k :: r :: B')[A'.length + 1 + 1]? = some r := by rw [hal, ← hAC]; simp
        by_cases hr3 : 2 < r.its.length
        · have := shiftL_two H2 (by simpa using hn) (by omega) hr4 h1 (by omega)
          rw [hAC, show ((C.length : Nat) : Int) = (A'.length : Int) + 1 by omega] at this
          exact mend_left c1 (by rw [hkl]; omega) (by rw [hkl]; omega) ncell (by omega) (hkid _ k ek) kcell kn0 (hkid _ a ea) acell (by omega) (by simp; omega) (by rw [hkl]; simp; omega) (hkid _ r er) rcell hr3 this
        · exact mend_joinM c1 (by rw [hkl]; omega) (by rw [hkl]; omega) ncell (by omega) (hkid _ k ek) kcell kn0 (hkid _ a ea) acell (by omega) (by simp; omega) (by rw [hkl]; simp; omega) (hkid _ r er) rcell (by omega) hj
end Go.Proofs.YtjdmgmnndfhmgaaGreat
/- takeLast and drop, within a node that has kids: their walks. -/
namespace Go.Proofs.YtjdmgmnndfhmgaaGreat
open Go Go.RowKit

set_option maxRecDepth 100000 in
set_option maxHeartbeats 2000000 in
theorem takeLast_walk {w : World} {b : Nat} {iv kv : Value} {its : List Itm} {kb : List Nat} {k : Nat} (hN : Nod w b iv kv its kb) (hn : its.length ≤ 100) (h1 : 1 ≤ its.length) (hkl : kb.length = its.length + 1) (hk : kb[its.length]? = some k) (Q : Itm → World → Prop)
    (hrec : ∀ W, Below w.heap.size w W → w.heap.size < W.heap.size → Calls Tryz.prog 117 #[ptr k] W fun e W1 => ∃ it : Itm, e = .returned (.agg #[.string it.key, it.mv]) ∧ isSl it.mv ∧ (∀ x o, w.heap.size ≤ x → W.heap[x]? = some o → W1.heap[x]? = some o) ∧
      ∀ W2, Below W1.heap.size W1 W2 → Calls Tryz.prog 118 #[ptr b, .int .i64 its.length] W2 fun e W3 => e = .returned (.tuple #[]) ∧ (∀ y o, (w.heap.size ≤ y ∧ y < W.heap.size ∨ W1.heap.size ≤ y) → W2.heap[y]? = some o → W3.heap[y]? = some o) ∧ ∀ v0 v1, Q it ((W3.setCell ⟨w.heap.size, 0, none⟩ v0).setCell ⟨w.heap.size, 1, none⟩ v1)) :
    Calls Tryz.prog 117 #[ptr b] w fun e w' => ∃ it : Itm, e = .returned (.agg #[.string it.key, it.mv]) ∧ isSl it.mv ∧ Q it w' := by
  obtain ⟨W0, hW0⟩ : ∃ W0, W0 = w.alloc (.cells #[.string ⟨#[]⟩, .slice none 0 0] 151) := ⟨_, rfl⟩
  have hb0 : Below w.heap.size w W0 := by rw [hW0]; exact (Below.refl _ w).alloc (Nat.le_refl _) _
  have hz0 : W0.heap.size = w.heap.size + 1 := by rw [hW0]; simp
  have hr0 : W0.heap[w.heap.size]? = some (.cells #[.string ⟨#[]⟩, .slice none 0 0] 151 (0, 0)) := by rw [hW0]; exact row_alloc w _ _
  obtain ⟨kg, kc, hkv, hkc, hkm⟩ := owns_form1 hN.kids (by omega)
  obtain ⟨ip, ic, hiv, hic, him⟩ := owns_form hN.items
  have hlf := leaf_node (hN.below hb0)
  rw [decide_eq_false (show ¬ kb.length = 0 by omega)] at hlf
  have c0 := (hN.below hb0).c0
  have c1 := (hN.below hb0).c1
  have kk := (hN.below hb0).kid hkv hk
  rw [hiv] at c0
  rw [hkv, hkl] at c1
  have hcall := hrec W0 hb0 (by omega)
  have hx1 : IntKind.i64.wrap ((its.length : Int) - 1) = ((its.length - 1 : Nat) : Int) := by rw [IntKind.wrap_i64]; omega
  have hx2 : IntKind.i64.wrap (((its.length - 1 : Nat) : Int) + 1) = (its.length : Int) := by rw [IntKind.wrap_i64]; omega
  clear hrec hN hk
  go_enter Tryz.func117, Tryz.ntmps117
  go_upto_region 1 with (fail)
  rw [← hW0]
  clear hW0
  go_upto_region 7 with (first | (go_at_call 115; refine hlf.mono ?_; rintro e w2 ⟨rfl, rfl⟩) | (go_at_call 117; refine hcall.mono ?_; rintro e W1 ⟨it, rfl, hsl, hkeep, hnext⟩; obtain ⟨key, mv⟩ := it; obtain ⟨mp, mn, mc, hmv⟩ := hsl; dsimp only at hmv hnext; subst hmv))
  have hx := hkeep _ _ (Nat.le_refl _) hr0
  have hxl := (Array.getElem?_eq_some_iff.1 hx).1
  have hx' := (Below.heap_alloc W1 (.cells #[.string key, .slice mp mn mc] 151) w.heap.size hxl).trans hx
  have hy := row_alloc W1 #[.string key, .slice mp mn mc] 151
  have hmd := hnext _ ((Below.refl _ W1).alloc (Nat.le_refl _) (.cells #[.string key, .slice mp mn mc] 151))
  have hmd2 := hmd.mono (R' := fun e W3 => e = .returned (.tuple #[]) ∧ W3.heap[w.heap.size]? = some (.cells #[.string ⟨#[]⟩, .slice none 0 0] 151 (0, 0)) ∧ W3.heap[W1.heap.size]? = some (.cells #[.string key, .slice mp mn mc] 151 (0, 0)) ∧ Hid (∀ v0 v1, Q ⟨key, .slice mp mn mc⟩ ((W3.setCell ⟨w.heap.size, 0, none⟩ v0).setCell ⟨w.heap.size, 1, none⟩ v1)))
    fun e W3 h => ⟨h.1, h.2.1 _ _ (.inl ⟨Nat.le_refl _, by omega⟩) hx', h.2.1 _ _ (.inr (Nat.le_refl _)) hy, h.2.2⟩
  clear hmd hnext hkeep hcall hlf c0 c1 kk hx hx' hy hr0 hb0
  go_upto_region 8 with (go_at_call 118; refine hmd2.mono ?_; rintro e W3 ⟨rfl, d2, d3, hQ⟩)
  have x0 : W3.cell? ⟨w.heap.size, 0, none⟩ = some (.string ⟨#[]⟩) := by simp [World.cell?, d2]
  have x1 : W3.cell? ⟨w.heap.size, 1, none⟩ = some (.slice none 0 0) := by simp [World.cell?, d2]
  have f0 : W3.frozen? ⟨w.heap.size, 0, none⟩ = false := by simp [World.frozen?, d2]
  have f1 : W3.frozen? ⟨w.heap.size, 1, none⟩ = false := by simp [World.frozen?, d2]
  have y0 : W3.cell? ⟨W1.heap.size, 0, none⟩ = some (.string key) := by simp [World.cell?, d3]
  have y1 : W3.cell? ⟨W1.heap.size, 1, none⟩ = some (.slice mp mn mc) := by simp [World.cell?, d3]
  clear hmd2 d2 d3
  go_wp2
  refine bodyPost_ret (v := .agg #[.string key, .slice mp mn mc]) (by simp [results, Tryz.results117, go_sem, x0, x1]) rfl ⟨⟨key, .slice mp mn mc⟩, rfl, ⟨mp, mn, mc, rfl⟩, hQ.out _ _⟩

set_option maxRecDepth 100000 in
set_option maxHeartbeats 2000000 in
/-- drop, of a key in a kid. -/
theorem drop_down {w : World} {b : Nat} {iv kv : Value} {its : List Itm} {kb : List Nat} {k : Nat} (hN : Nod w b iv kv its kb) (hs : Asc (keysI its)) (hn : its.length ≤ 100) (hkl : kb.length = its.length + 1) (key : ByteArray) (hk : kb[plc its key]? = some k) (hf : hre its key = false) (Q : World → Prop)
    (hrec : ∀ W, Below w.heap.size w W → Calls Tryz.prog 102 #[ptr k, .string key] W fun e W1 => e = .returned (.tuple #[]) ∧ Calls Tryz.prog 118 #[ptr b, .int .i64 (plc its key)] W1 fun e W3 => e = .returned (.tuple #[]) ∧ Q W3) :
    Calls Tryz.prog 102 #[ptr b, .string key] w fun e w' => e = .returned (.tuple #[]) ∧ Q w' := by
  have hpl := place_node hN hs (by omega) key
  rw [hf] at hpl
  have hpk := plc_le its key
  obtain ⟨kg, kc, hkv, hkc, hkm⟩ := owns_form1 hN.kids (by omega)
  have HN := Hid.mk'' hN
  have HREC := Hid.mk'' hrec
  clear hrec hN hs hf
  go_enter Tryz.func102, Tryz.ntmps102
  go_wp2_with (first | (go_at_call 113; refine hpl.mono ?_; rintro e w1 ⟨rfl, hb⟩; have hlf := leaf_node (HN.out.below hb); rw [decide_eq_false (show ¬ kb.length = 0 by omega)] at hlf; have c1 := (HN.out.below hb).c1; rw [hkv, hkl] at c1; have kk := (HN.out.below hb).kid hkv hk; have hcall := HREC.out _ hb) | (go_at_call 115; refine hlf.mono ?_; rintro e w2 ⟨rfl, rfl⟩) | (go_at_call 102; refine hcall.mono ?_; rintro e w3 ⟨rfl, hm⟩) | (go_at_call 118; refine hm.mono ?_; rintro e w4 ⟨rfl, hq⟩))
  first | go_end0 | refine bodyPost_ret (results_none rfl _ _ _) rfl ?_
  exact ⟨rfl, hq⟩

set_option maxRecDepth 100000 in
set_option maxHeartbeats 2000000 in
/-- drop, of a key that is the node's own. -/
theorem drop_here {w : World} {b : Nat} {iv kv : Value} {its : List Itm} {kb : List Nat} {k g c : Nat} (hN : Nod w b iv kv its kb) (hs : Asc (keysI its)) (hn : its.length ≤ 100) (hkl : kb.length = its.length + 1) (key : ByteArray) (hk : kb[plc its key]? = some k) (hf : hre its key = true) (hiv : iv = .slice (some ⟨g, 0, none⟩) its.length c) (Q : World → Prop)
    (hrec : ∀ W, Below w.heap.size w W → Calls Tryz.prog 117 #[ptr k] W fun e W1 => ∃ it : Itm, e = .returned (.agg #[.string it.key, it.mv]) ∧ isSl it.mv ∧ Nod W1 b iv kv its kb ∧
      ∀ W2, Below W1.heap.size W1 W2 → Calls Tryz.prog 118 #[ptr b, .int .i64 (plc its key)] ((W2.setCell ⟨g, plc its key * 2, none⟩ (.string it.key)).setCell ⟨g, plc its key * 2 + 1, none⟩ it.mv) fun e W3 => e = .returned (.tuple #[]) ∧ Q W3) :
    Calls Tryz.prog 102 #[ptr b, .string key] w fun e w' => e = .returned (.tuple #[]) ∧ Q w' := by
  have hpl := place_node hN hs (by omega) key
  rw [hf] at hpl
  obtain ⟨s, hsi, _⟩ := hre_true hf
  have hpk : plc its key < its.length := (List.getElem?_eq_some_iff.1 hsi).1
  obtain ⟨kg, kc, hkv, hkc, hkm⟩ := owns_form1 hN.kids (by omega)
  have HN := Hid.mk'' hN
  have HREC := Hid.mk'' hrec
  clear hrec hN hs hf
  go_enter Tryz.func102, Tryz.ntmps102
  go_upto_region 5 with (first | (go_at_call 113; refine hpl.mono ?_; rintro e w1 ⟨rfl, hb⟩; have hlf := leaf_node (HN.out.below hb); rw [decide_eq_false (show ¬ kb.length = 0 by omega)] at hlf) | (go_at_call 115; refine hlf.mono ?_; rintro e w2 ⟨rfl, rfl⟩))
  have HSI := Hid.mk'' hsi
  clear hsi hpl hlf
  have c0 := (HN.out.below hb).c0
  rw [hiv] at c0
  have c1 := (HN.out.below hb).c1
  rw [hkv, hkl] at c1
  have kk := (HN.out.below hb).kid hkv hk
  have hcall : Calls Tryz.prog 117 #[ptr k] w2.drew fun e W1 => ∃ key' mp mn mc, e = .returned (.agg #[.string key', .slice mp mn mc]) ∧ W1.cell? ⟨b, 0, none⟩ = some (.slice (some ⟨g, 0, none⟩) its.length c) ∧ W1.cell? ⟨g, plc its key * 2, none⟩ = some (.string s.key) ∧ W1.cell? ⟨g, plc its key * 2 + 1, none⟩ = some s.mv ∧ W1.frozen? ⟨g, plc its key * 2, none⟩ = false ∧ W1.frozen? ⟨g, plc its key * 2 + 1, none⟩ = false ∧ Hid (Calls Tryz.prog 118 #[ptr b, .int .i64 (plc its key)] ((W1.setCell ⟨g, plc its key * 2, none⟩ (.string key')).setCell ⟨g, plc its key * 2 + 1, none⟩ (.slice mp mn mc)) fun e W3 => e = .returned (.tuple #[]) ∧ Q W3) := by
    refine (HREC.out _ hb.drew).mono ?_
    rintro e W1 ⟨⟨key', mv⟩, rfl, ⟨mp, mn, mc, hmv⟩, hN1, hnx⟩
    dsimp only at hmv hnx
    subst hmv
    have h0 := hN1.c0
    rw [hiv] at h0
    obtain ⟨i0, i1⟩ := hN1.item hiv HSI.out
    have hfr : ∀ j, W1.frozen? ⟨g, j, none⟩ = false := fun j => by
      rcases hN1.items.2 with ⟨h1, _⟩ | ⟨g', cap, cur, h1, _, hg, _⟩
      · rw [hiv] at h1; cases h1
      · rw [hiv] at h1; cases h1
        simp [World.frozen?, hg]
    exact ⟨key', mp, mn, mc, rfl, h0, i0, i1, hfr _, hfr _, hnx _ (Below.refl _ _)⟩
  clear HREC
  go_region_with (go_at_call 117; refine hcall.mono ?_; rintro e w3 ⟨key', mp, mn, mc, rfl, h0, i0, i1, f0, f1, hR⟩)
  all_goals
    clear hcall
    have hm := hR.out
    go_wp2_with (go_at_call 118; refine hm.mono ?_; rintro e w4 ⟨rfl, hq⟩)
    first | go_end0 | refine bodyPost_ret (results_none rfl _ _ _) rfl ?_
    exact ⟨rfl, hq⟩
end Go.Proofs.YtjdmgmnndfhmgaaGreat
/- takeLast and drop, in a tree. -/
namespace Go.Proofs.YtjdmgmnndfhmgaaGreat
open Go Go.RowKit

/-- A kid has turned: the node's blocks, the others. -/
structure KidT (w W1 : World) (h b : Nat) (iv kv : Value) (its : List Itm) (A B : List KidD) (k k1 : KidD) : Prop where
  hN : Nod W1 b iv kv its ((A ++ k1 :: B).map KidD.b)
  hA : ∀ x ∈ A ++ B, KidOK W1 h x
  t : Tre W1 h k1.b k1.its k1.L k1.F
  s : Step w W1 (ff b iv kv (A ++ k :: B)) (ff b iv kv (A ++ k1 :: B))
theorem kid_turn {w W W1 : World} {h b : Nat} {iv kv : Value} {its : List Itm} {A B : List KidD} {k : KidD} (hb : Below w.heap.size w W) (hN : Nod w b iv kv its ((A ++ k :: B).map KidD.b)) (hks : ∀ x ∈ A ++ k :: B, KidOK w h x) (hnd : (ff b iv kv (A ++ k :: B)).Nodup)
    {its1 L1 : List Itm} {F1 : List Nat} (T1 : Tre W1 h k.b its1 L1 F1) (s1 : Step W W1 k.F F1) : KidT W W1 h b iv kv its A B k ⟨k.b, its1, L1, F1⟩ := by
  have hkm : k ∈ A ++ k :: B := by simp
  have hndk : (∀ j ∈ k.F, j ∉ nf b iv kv) ∧ (∀ j ∈ k.F, ∀ x ∈ A ++ B, j ∉ x.F) := by
    have hnd := hnd
    simp only [ff, List.flatMap_append, List.flatMap_cons, List.nodup_append, List.mem_append, List.mem_flatMap] at hnd
    obtain ⟨_, ⟨_, ⟨d1, _, d3⟩, d4⟩, d5⟩ := hnd
    refine ⟨fun j hj hj' => d5 j hj' j (.inr (.inl hj)) rfl, fun j hj x hx hj' => ?_⟩
    rcases List.mem_append.1 hx with hx | hx
    · exact d4 j ⟨x, hx, hj'⟩ j (.inl hj) rfl
    · exact d3 j hj j ⟨x, hx, hj'⟩ rfl
  have hp : ∀ (K : List Nat), (nf b iv kv ++ (A.flatMap KidD.F ++ K ++ B.flatMap KidD.F)).Perm (K ++ (nf b iv kv ++ (A.flatMap KidD.F ++ B.flatMap KidD.F))) := fun K => by
    rw [List.perm_iff_count]; intro a; simp only [List.count_append]; omega
  have hfm : ∀ (x : KidD), (A ++ x :: B).flatMap KidD.F = A.flatMap KidD.F ++ x.F ++ B.flatMap KidD.F := fun x => by simp
  have hltR : ∀ j ∈ nf b iv kv ++ (A.flatMap KidD.F ++ B.flatMap KidD.F), j < W.heap.size := fun j hj => by
    refine Nat.lt_of_lt_of_le ?_ hb.size
    simp only [List.mem_append, List.mem_flatMap] at hj
    rcases hj with hj | ⟨x, hx, hj⟩ | ⟨x, hx, hj⟩
    · exact hN.foot_lt j hj
    · exact (hks x (by simp [hx])).1.lt j hj
    · exact (hks x (by simp [hx])).1.lt j hj
  refine ⟨?_, fun x hx => ?_, T1, ?_⟩
  · have := s1.keep (hN.below hb) (fun j hj hj' => hndk.1 j hj' hj)
    simpa using this
  · have hxm : x ∈ A ++ k :: B := by simp only [List.mem_append, List.mem_cons] at hx ⊢; exact hx.elim .inl (fun h => .inr (.inr h))
    exact ⟨((hks x hxm).1.below hb).step s1 (fun j hj hj' => hndk.2 j hj' x hx hj), (hks x hxm).2⟩
  · rw [ff, ff, hfm, hfm]
    exact (s1.frame _ ((hp k.F).nodup_iff.1 (by rw [← hfm]; exact hnd)) hltR).perm (hp k.F).symm (hp F1).symm

def TakeP (w : World) (h b : Nat) (its L : List Itm) (F : List Nat) (it : Itm) (w' : World) : Prop :=
  ∃ its' L0 F', L = L0 ++ [it] ∧ Tre w' h b its' L0 F' ∧ its.length ≤ its'.length + 1 ∧ its'.length ≤ its.length ∧ Step w w' F F'
theorem takeLast_tre : ∀ (h : Nat) (w : World) (b : Nat) (its L : List Itm) (F : List Nat), Tre w h b its L F → F.Nodup → 2 ≤ its.length → its.length ≤ 4 →
    Calls Tryz.prog 117 #[ptr b] w fun e w' => ∃ it : Itm, e = .returned (.agg #[.string it.key, it.mv]) ∧ isSl it.mv ∧ TakeP w h b its L F it w' := by
  intro h
  induction h with
  | zero =>
    rintro w b its L F ⟨iv, kv, hN, rfl, rfl⟩ hnd h2 h4
    obtain ⟨ini, it, rfl⟩ : ∃ ini it, L = ini ++ [it] := ⟨L.dropLast, L.getLast (by intro e; rw [e] at h2; simp at h2), (List.dropLast_concat_getLast _).symm⟩
    refine (takeLast_leaf hN (by simp at h4; omega)).mono ?_
    rintro e w' ⟨rfl, iv', hN', hs⟩
    exact ⟨it, rfl, hN.mvs it (by simp), ini, ini, _, rfl, ⟨iv', kv, hN', rfl, rfl⟩, by simp, by simp, hs⟩
  | succ h ih =>
    rintro w b its L F ⟨iv, kv, ks, hN, hl, hks, rfl, rfl⟩ hnd h2 h4
    obtain ⟨A, k, rfl⟩ : ∃ A k, ks = A ++ [k] := ⟨ks.dropLast, ks.getLast (by intro e; rw [e] at hl; simp at hl), (List.dropLast_concat_getLast _).symm⟩
    have hAl : A.length = its.length := by simpa using hl
    have hkm : k ∈ A ++ [k] := by simp
    have hik : ((A ++ [k]).map KidD.b)[its.length]? = some k.b := by rw [← hAl]; simp
    have hkF : k.F.Nodup := by
      have := hnd
      simp only [List.flatMap_append, List.flatMap_cons, List.flatMap_nil, List.append_nil, List.nodup_append] at this
      exact this.2.1.2.1
    have hFl : ∀ j ∈ nf b iv kv ++ (A ++ [k]).flatMap KidD.F, j < w.heap.size := (show Tre w (h + 1) b its _ _ from ⟨iv, kv, A ++ [k], hN, hl, hks, rfl, rfl⟩).lt
    refine (takeLast_walk hN (by omega) (by omega) (by simpa using hl) hik (TakeP w (h + 1) b its (weave (A ++ [k]) its) (nf b iv kv ++ (A ++ [k]).flatMap KidD.F)) ?_)
    intro W hb hlt
    refine (ih W k.b k.its k.L k.F ((hks k hkm).1.below hb) hkF (hks k hkm).2.1 (hks k hkm).2.2).mono ?_
    rintro e W1 ⟨it, rfl, hsl, its1, L0, F1, hkL, T1, q1, q2, s1⟩
    have KT := kid_turn (B := []) hb hN hks hnd T1 s1
    refine ⟨it, rfl, hsl, fun x o hx ho => ?_, fun W2 hb2 => ?_⟩
    · exact (s1.upd.block x (Array.getElem?_eq_some_iff.1 ho).1 (fun hm => by have := (hks k hkm).1.lt x hm; omega)).trans ho
    · have hks2 := (hks k hkm).2
      have hN2 := KT.hN.below hb2
      have hmd := mend_tre (W := W2) (h := h) (b := b) (iv := iv) (kv := kv) (A := A) (B := []) (k := ⟨k.b, its1, L0, F1⟩) (C := its) (D := []) (by rw [List.append_nil]; exact hN2) hAl rfl (fun x hx => ⟨(KT.hA x hx).1.below hb2, (KT.hA x hx).2⟩) (KT.t.below hb2) (by show 1 ≤ its1.length; omega) (by show its1.length ≤ 4; omega) KT.s.nd (by rw [List.append_nil]; omega) (by rw [List.append_nil]; omega)
      rw [List.append_nil] at hmd
      refine hmd.mono ?_
      rintro e W3 ⟨rfl, its', F', T3, r1, r2, s3⟩
      have hlF : ∀ j ∈ ff b iv kv (A ++ [(⟨k.b, its1, L0, F1⟩ : KidD)]), j < W1.heap.size := KT.s.lt
      have hsub := KT.s.sub
      have hsize : w.heap.size ≤ W1.heap.size := Nat.le_trans hb.size KT.s.upd.size
      refine ⟨rfl, fun y o hy ho => ?_, fun v0 v1 => ?_⟩
      · refine (s3.upd.block y (Array.getElem?_eq_some_iff.1 ho).1 (fun hm => ?_)).trans ho
        rcases hy with ⟨hy1, hy2⟩ | hy
        · rcases hsub y hm with hm | hm
          · have := hFl y hm; omega
          · omega
        · have := hlF y hm; omega
      · have S3 : Step W W3 (nf b iv kv ++ (A ++ [k]).flatMap KidD.F) F' := (KT.s.trans (Step.below hb2 KT.s.nd KT.s.lt)).trans s3
        have hxF : w.heap.size ∉ F' := fun hm => (S3.sub _ hm).elim (fun hm => by have := hFl _ hm; omega) (fun h => by omega)
        have hw : weave (A ++ [k]) its = weave (A ++ [(⟨k.b, its1, L0, F1⟩ : KidD)]) its ++ [it] := by
          have e1 := weave_split A k [] its [] hAl
          have e2 := weave_split A ⟨k.b, its1, L0, F1⟩ [] its [] hAl
          rw [List.append_nil] at e1 e2
          rw [e1, e2, hkL]
          simp [suf]
        refine ⟨its', _, F', hw, T3.agree (fun j hj => ?_), r1, r2, ?_⟩
        · have hne : j ≠ w.heap.size := fun e => hxF (e ▸ hj)
          rw [heap_setCell_other _ _ _ _ _ hne, heap_setCell_other _ _ _ _ _ hne]
        · have S4 := Step.from hb S3 hnd hFl
          exact ⟨(S4.upd.setCell (p := ⟨w.heap.size, 0, none⟩) (.inl (Nat.le_refl _)) _).setCell (p := ⟨w.heap.size, 1, none⟩) (.inl (Nat.le_refl _)) _, S4.nd, S4.sub, fun j hj => by rw [size_setCell', size_setCell']; exact S4.lt j hj⟩

def DropP (w : World) (h b : Nat) (its L : List Itm) (F : List Nat) (key : ByteArray) (w' : World) : Prop :=
  ∃ its' X s Z F', L = X ++ s :: Z ∧ s.key = key ∧ Tre w' h b its' (X ++ Z) F' ∧ its.length ≤ its'.length + 1 ∧ its'.length ≤ its.length ∧ Step w w' F F'
theorem mem_at {L : List Itm} {key : ByteArray} (h : key ∈ keysI L) : ∃ (j : Nat) (s : Itm), L[j]? = some s ∧ s.key = key := by
  obtain ⟨s, hs, rfl⟩ := List.mem_map.1 h
  obtain ⟨j, hj⟩ := List.getElem?_of_mem hs
  exact ⟨j, s, hj, rfl⟩
/-- A key that is there stands at its place. -/
theorem at_plc {its : List Itm} {key : ByteArray} (ha : Asc (keysI its)) (h : key ∈ keysI its) : ∃ s : Itm, its[plc its key]? = some s ∧ s.key = key := by
  obtain ⟨j, s, hj, rfl⟩ := mem_at h
  have hle : plc its s.key ≤ j := by
    refine Nat.le_of_not_lt fun hlt => ?_
    have := plc_lt hlt hj
    rw [klt_irrefl] at this; cases this
  have hpl : plc its s.key < its.length := Nat.lt_of_le_of_lt hle (List.getElem?_eq_some_iff.1 hj).1
  rcases Nat.lt_or_ge (plc its s.key) j with hlt | hge
  · have h1 := plc_not (key := s.key) (List.getElem?_eq_getElem hpl)
    have h2 := asc_get ha hlt (show (keysI its)[plc its s.key]? = some (its[plc its s.key]).key by simp [List.getElem?_eq_getElem hpl]) (show (keysI its)[j]? = some s.key by simp [hj])
    rw [h2] at h1; cases h1
  · have : plc its s.key = j := by omega
    rw [this]
    exact ⟨s, hj, rfl⟩
theorem drop_tre (key : ByteArray) : ∀ (h : Nat) (w : World) (b : Nat) (its L : List Itm) (F : List Nat), Tre w h b its L F → F.Nodup → Asc (keysI L) → key ∈ keysI L → 1 ≤ its.length → its.length ≤ 4 →
    Calls Tryz.prog 102 #[ptr b, .string key] w fun e w' => e = .returned (.tuple #[]) ∧ DropP w h b its L F key w' := by
  intro h
  induction h with
  | zero =>
    rintro w b its L F ⟨iv, kv, hN, rfl, rfl⟩ hnd ha hm h1 h4
    obtain ⟨s, hs, hsk⟩ := at_plc ha hm
    have hpl := (List.getElem?_eq_some_iff.1 hs).1
    refine (drop_leaf hN ha (by omega) key hpl).mono ?_
    rintro e w' ⟨rfl, iv', hN', hS⟩
    refine ⟨rfl, _, L.take (plc L key), s, L.drop (plc L key + 1), _, (getElem_part hs).1, hsk, ⟨iv', kv, hN', rfl, rfl⟩, ?_, ?_, hS⟩
    · simp; omega
    · simp; omega
  | succ h ih =>
    rintro w b its L F ⟨iv, kv, ks, hN, hl, hks, rfl, rfl⟩ hnd ha hm h1 h4
    have hai : Asc (keysI its) := asc_sublist ((weave_sublist ks its hl).map _) ha
    obtain ⟨A, k, B, rfl, hAC, hBD, hAp, hw, hX, hZ⟩ := parted (key := key) hl ha
    have hkm : k ∈ A ++ k :: B := by simp
    have hik : ((A ++ k :: B).map KidD.b)[plc its key]? = some k.b := by
      rw [List.map_append, List.getElem?_append_right (by simp; omega)]; simp [hAp]
    have hak : Asc (keysI k.L) := by
      rw [hw] at ha
      simp only [keysI, List.map_append, asc_append] at ha
      exact ha.1.2.1
    have hkF : k.F.Nodup := by
      have := hnd
      simp only [List.flatMap_append, List.flatMap_cons, List.nodup_append] at this
      exact this.2.1.2.1.1
    have hk2 := (hks k hkm).2
    have hFl : ∀ j ∈ nf b iv kv ++ (A ++ k :: B).flatMap KidD.F, j < w.heap.size := (show Tre w (h + 1) b its _ _ from ⟨iv, kv, A ++ k :: B, hN, hl, hks, rfl, rfl⟩).lt
    have hCl : (its.take (plc its key)).length = plc its key := by rw [← hAC, hAp]
    cases hf : hre its key with
    | false =>
      have hmk : key ∈ keysI k.L := in_kid hAC ha hf hX hm
      refine drop_down hN hai (by omega) (by simpa using hl) key hik hf (DropP w (h + 1) b its (weave (A ++ k :: B) its) (nf b iv kv ++ (A ++ k :: B).flatMap KidD.F) key) ?_
      intro W hb
      refine (ih W k.b k.its k.L k.F ((hks k hkm).1.below hb) hkF hak hmk (by omega) (by omega)).mono ?_
      rintro e W1 ⟨rfl, its1, X, s, Z, F1, hkL, hsk, T1, q1, q2, s1⟩
      refine ⟨rfl, ?_⟩
      have KT := kid_turn hb hN hks hnd T1 s1
      have hmd := mend_tre (W := W1) (h := h) (b := b) (iv := iv) (kv := kv) (A := A) (B := B) (k := ⟨k.b, its1, X ++ Z, F1⟩) (C := its.take (plc its key)) (D := its.drop (plc its key)) (by rw [List.take_append_drop]; exact KT.hN) hAC hBD KT.hA KT.t (by show 1 ≤ its1.length; omega) (by show its1.length ≤ 4; omega) KT.s.nd (by rw [List.take_append_drop]; omega) (by rw [List.take_append_drop]; omega)
      rw [List.take_append_drop, hCl] at hmd
      refine hmd.mono ?_
      rintro e W3 ⟨rfl, its', F', T3, r1, r2, s3⟩
      have hw2 := weave_split A ⟨k.b, its1, X ++ Z, F1⟩ B (its.take (plc its key)) (its.drop (plc its key)) hAC
      rw [List.take_append_drop] at hw2
      refine ⟨rfl, its', pre A (its.take (plc its key)) ++ X, s, Z ++ suf (its.drop (plc its key)) B, F', ?_, hsk, ?_, r1, r2, Step.from hb (KT.s.trans s3) hnd hFl⟩
      · rw [hw, hkL]; simp
      · rw [hw2] at T3
        simpa using T3
    | true =>
      obtain ⟨s, hs, hsk⟩ := hre_true hf
      have hpl := (List.getElem?_eq_some_iff.1 hs).1
      obtain ⟨gi, ci, hiv, _, _⟩ := owns_form1 hN.items (by omega)
      refine drop_here hN hai (by omega) (by simpa using hl) key hik hf hiv (DropP w (h + 1) b its (weave (A ++ k :: B) its) (nf b iv kv ++ (A ++ k :: B).flatMap KidD.F) key) ?_
      intro W hb
      refine (takeLast_tre h W k.b k.its k.L k.F ((hks k hkm).1.below hb) hkF hk2.1 hk2.2).mono ?_
      rintro e W1 ⟨it, rfl, hsl, its1, L0, F1, hkL, T1, q1, q2, s1⟩
      have KT := kid_turn hb hN hks hnd T1 s1
      have hmap : (A ++ (⟨k.b, its1, L0, F1⟩ : KidD) :: B).map KidD.b = (A ++ k :: B).map KidD.b := by simp
      refine ⟨it, rfl, hsl, by rw [← hmap]; exact KT.hN, fun W2 hb2 => ?_⟩
      obtain ⟨hN3, hS3⟩ := (KT.hN.below hb2).setItem hiv hpl it hsl
      have hnd2 := KT.s.nd
      have hdis : ∀ x ∈ A ++ (⟨k.b, its1, L0, F1⟩ : KidD) :: B, ∀ j ∈ x.F, j ∉ nf b iv kv := fun x hx j hj hj' => (List.nodup_append.1 hnd2).2.2 j hj' j (List.mem_flatMap.2 ⟨x, hx, hj⟩) rfl
      have hpart := (getElem_part hs).2 it
      have hCl2 : (its.take (plc its key) ++ it :: its.drop (plc its key + 1)).length = its.length := by rw [← hpart]; simp
      obtain ⟨b0, B', rfl⟩ : ∃ b0 B', B = b0 :: B' := by
        cases B with
        | nil => simp at hBD; omega
        | cons x y => exact ⟨x, y, rfl⟩
      have hBD' : (b0 :: B').length = (it :: its.drop (plc its key + 1)).length := by simp at hBD ⊢; omega
      have hltW2 : ∀ j ∈ ff b iv kv (A ++ (⟨k.b, its1, L0, F1⟩ : KidD) :: b0 :: B'), j < W2.heap.size := fun j hj => Nat.lt_of_lt_of_le (KT.s.lt j hj) hb2.size
      have hmd := mend_tre (h := h) (b := b) (iv := iv) (kv := kv) (A := A) (B := b0 :: B') (k := ⟨k.b, its1, L0, F1⟩) (C := its.take (plc its key)) (D := it :: its.drop (plc its key + 1)) (by rw [← hpart]; exact hN3) hAC hBD' (fun x hx => ⟨((KT.hA x hx).1.below hb2).step hS3 (hdis x (by simp only [List.mem_append, List.mem_cons] at hx ⊢; exact hx.elim .inl (fun h => .inr (.inr h)))), (KT.hA x hx).2⟩) ((KT.t.below hb2).step hS3 (hdis _ (by simp))) (by show 1 ≤ its1.length; omega) (by show its1.length ≤ 4; omega) hnd2 (by rw [hCl2]; omega) (by rw [hCl2]; omega)
      rw [hCl2, hCl] at hmd
      refine hmd.mono ?_
      rintro e W3 ⟨rfl, its', F', T3, r1, r2, s3⟩
      have hw2 := weave_split A ⟨k.b, its1, L0, F1⟩ (b0 :: B') (its.take (plc its key)) (it :: its.drop (plc its key + 1)) hAC
      have hdr : its.drop (plc its key) = s :: its.drop (plc its key + 1) := by
        rw [List.drop_eq_getElem_cons hpl]
        rw [List.getElem?_eq_getElem hpl] at hs
        rw [Option.some.inj hs]
      have hS3' := hS3.frame ((A ++ (⟨k.b, its1, L0, F1⟩ : KidD) :: b0 :: B').flatMap KidD.F) hnd2 (fun j hj => hltW2 j (List.mem_append_right _ hj))
      refine ⟨rfl, its', pre A (its.take (plc its key)) ++ k.L, s, b0.L ++ suf (its.drop (plc its key + 1)) B', F', ?_, hsk, ?_, r1, r2, Step.from hb (((KT.s.trans (Step.below hb2 KT.s.nd KT.s.lt)).trans hS3').trans s3) hnd hFl⟩
      · rw [hw, hdr]; simp [suf]
      · rw [hw2] at T3
        rw [hkL]
        simpa [suf] using T3
end Go.Proofs.YtjdmgmnndfhmgaaGreat
/- Index.drop, where the root is a leaf. -/
namespace Go.Proofs.YtjdmgmnndfhmgaaGreat
open Go Go.RowKit

theorem Step.beyond {w w' : World} {F F' : List Nat} {x : Nat} (h : Step w w' F F') (hl : x < w.heap.size) (hx : x ∉ F) : x ∉ F' := fun hm => (h.sub x hm).elim hx (fun h => by omega)
theorem Step.with {w w' : World} {F F' : List Nat} {x : Nat} (h : Step w w' F F') (hl : x < w.heap.size) (hx : x ∉ F) : Step w w' (x :: F) (x :: F') := by
  refine ⟨⟨h.upd.os, h.upd.tape, h.upd.output, h.upd.size, fun k hk hn => h.upd.block k hk (fun hm => hn (List.mem_cons_of_mem _ hm))⟩, List.nodup_cons.2 ⟨h.beyond hl hx, h.nd⟩, fun k hk => ?_, fun k hk => ?_⟩
  · rcases List.mem_cons.1 hk with rfl | hk
    · exact .inl (by simp)
    · exact (h.sub k hk).imp (List.mem_cons_of_mem _) id
  · rcases List.mem_cons.1 hk with rfl | hk
    · exact Nat.lt_of_lt_of_le hl h.upd.size
    · exact h.lt k hk
set_option maxRecDepth 100000 in
set_option maxHeartbeats 1000000 in
theorem idrop_leaf {w : World} {x b n : Nat} {iv kv : Value} {its : List Itm} (hx : xrow w x (some ⟨b, 0, none⟩) n) (hN : Nod w b iv kv its []) (hs : Asc (keysI its)) (hl : its.length ≤ 100) (key : ByteArray) (hp : plc its key < its.length) (hxb : x ∉ nf b iv kv) (hn1 : 1 ≤ n) (hn2 : n ≤ 1000000) :
    Calls Tryz.prog 75 #[ptr x, .string key] w fun e w' => e = .returned (.tuple #[]) ∧ ∃ iv', Nod w' b iv' kv (its.take (plc its key) ++ its.drop (plc its key + 1)) [] ∧ xrow w' x (if its.length = 1 then none else some ⟨b, 0, none⟩) ((n : Int) - 1) ∧ Step w w' (x :: nf b iv kv) (x :: nf b iv' kv) := by
  have hd := drop_leaf hN hs hl key hp
  have hlen : (its.take (plc its key) ++ its.drop (plc its key + 1)).length = its.length - 1 := by simp; omega
  generalize its.take (plc its key) ++ its.drop (plc its key + 1) = its' at *
  have hge : 1 ≤ its.length := by omega
  have c0 := hx.c0
  have hxl := hx.lt
  have hfl := hN.foot_lt
  have hnd := hN.nd
  have HX : Hid (∀ w1, Upd w w1 (fun k => k ∈ nf b iv kv) → xrow w1 x (some ⟨b, 0, none⟩) n) := fun w1 hu => (hu.block x hxl hxb).trans hx
  clear hN hs hp hx
  have hx1 : x ∉ nf b iv kv := hxb
  by_cases h1 : its.length = 1
  · rw [if_pos h1]
    obtain rfl : its' = [] := List.eq_nil_of_length_eq_zero (by omega)
    clear hlen
    go_enter Tryz.func75, Tryz.ntmps75
    go_wp2_with (first | (go_at_call 102; refine hd.mono ?_; rintro e w1 ⟨rfl, iv', hN', hS'⟩; have X1 := Hid.mk'' (HX.out _ hS'.upd); have a0 := X1.out.c0; have a1 := X1.out.c1; have a2 := X1.out.free 0; have a3 := X1.out.free 1; have nb := hN'.c0; obtain ⟨ip, ic, hiv', _, _⟩ := owns_form hN'.items; rw [hiv'] at nb; have hkid := kid_none hN' 0) | (go_at_call 103; refine hkid.mono ?_; rintro e w2 ⟨rfl, rfl⟩))
    first | go_end0 | refine bodyPost_ret (results_none rfl _ _ _) rfl ?_
    have hxn : x ∉ nf b iv' kv := hS'.beyond hxl hxb
    have hnd2 : (x :: nf b iv' kv).Nodup := List.nodup_cons.2 ⟨hxn, hN'.nd⟩
    have S1 := hS'.with hxl hxb
    refine ⟨rfl, iv', hN'.agree (fun k hk => ?_), (X1.out.setRoot none).setSize _, (S1.trans (Step.x (S1.lt x (by simp)) hnd2 hN'.foot_lt)).trans (Step.x (by rw [size_setCell]; exact S1.lt x (by simp)) hnd2 (fun k hk => by rw [size_setCell]; exact hN'.foot_lt k hk))⟩
    have hne : k ≠ x := fun e => hxn (e ▸ hk)
    rw [heap_setCell_other _ _ _ _ _ hne, heap_setCell_other _ _ _ _ _ hne]
  · rw [if_neg h1]
    have hpos : 0 < its'.length := by omega
    go_enter Tryz.func75, Tryz.ntmps75
    go_wp2_with (go_at_call 102; refine hd.mono ?_; rintro e w1 ⟨rfl, iv', hN', hS'⟩; have X1 := Hid.mk'' (HX.out _ hS'.upd); have a0 := X1.out.c0; have a1 := X1.out.c1; have a2 := X1.out.free 0; have a3 := X1.out.free 1; have nb := hN'.c0; obtain ⟨ip, ic, hiv', _, _⟩ := owns_form hN'.items; rw [hiv'] at nb)
    first | go_end0 | refine bodyPost_ret (results_none rfl _ _ _) rfl ?_
    have hxn : x ∉ nf b iv' kv := hS'.beyond hxl hxb
    have hnd2 : (x :: nf b iv' kv).Nodup := List.nodup_cons.2 ⟨hxn, hN'.nd⟩
    have S1 := hS'.with hxl hxb
    refine ⟨rfl, iv', hN'.agree (fun k hk => ?_), X1.out.setSize _, S1.trans (Step.x (S1.lt x (by simp)) hnd2 hN'.foot_lt)⟩
    have hne : k ≠ x := fun e => hxn (e ▸ hk)
    rw [heap_setCell_other _ _ _ _ _ hne]
end Go.Proofs.YtjdmgmnndfhmgaaGreat
