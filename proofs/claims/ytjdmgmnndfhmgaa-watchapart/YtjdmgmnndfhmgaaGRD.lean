/- split: two kids of one. -/
import Derived.Test.YtjdmgmnndfhmgaaGRC
namespace Go.Proofs.Ytjdmgmnndfhmgaa
open Go Go.RowKit

set_option maxRecDepth 100000 in
set_option maxHeartbeats 4000000 in
/-- split of a kid that has five items. -/
theorem split_leaf (b l i : Nat) (iv kv liv lkv : Value) (its : List Itm) (ks : List Nat) (t0 t1 t2 t3 t4 : Itm) (w : World) (hN : Nod w b iv kv its ks) (hL : Nod w l liv lkv [t0, t1, t2, t3, t4] []) (hi : ks[i]? = some l) (hil : i ≤ its.length) (hn : its.length ≤ 100) (hk : ks.length ≤ 100)
    (hnd : (nf b iv kv ++ nf l liv lkv).Nodup) :
    Calls Try.prog 57 #[ptr b, .int .i64 i] w fun e w' => e = .returned (.tuple #[]) ∧ ∃ iv' kv' liv' lkv' r riv rkv, Tri w w' (nf b iv kv ++ nf l liv lkv) b iv' kv' (its.take i ++ t2 :: its.drop i) (ks.take (i + 1) ++ r :: ks.drop (i + 1)) l liv' lkv' [t0, t1] [] r riv rkv [t3, t4] [] := by
  have hik : i < ks.length := (List.getElem?_eq_some_iff.1 hi).1
  have hlt : ∀ k ∈ nf b iv kv ++ nf l liv lkv, k < w.heap.size := fun k hk => (List.mem_append.1 hk).elim (hN.foot_lt k) (hL.foot_lt k)
  have T0 : Tri w (w.alloc (.cells #[.slice none 0 0, .slice none 0 0] 127)) (nf b iv kv ++ nf l liv lkv) b iv kv its ks l liv lkv [t0, t1, t2, t3, t4] [] w.heap.size (.slice none 0 0) (.slice none 0 0) [] [] :=
    ⟨hN.below ((Below.refl _ w).alloc (Nat.le_refl _) _), hL.below ((Below.refl _ w).alloc (Nat.le_refl _) _), Nod.fresh w, by rw [nf_fresh]; exact Step.new _ hnd hlt⟩
  obtain ⟨kg, kc, hkv, hkc, hkm⟩ := owns_form1 hN.kids (by omega)
  have kk := hN.kid hkv hi
  have c1 := hN.c1
  rw [hkv] at c1
  have s2 : isSl t2.mv := hL.mvs t2 (by simp)
  have HT0 := Hid.mk'' T0
  generalize nf b iv kv ++ nf l liv lkv = F0 at *
  clear T0 hN hL hlt hnd
  go_enter Try.func57, Try.ntmps57
  go_upto_region 1 with (fail)
  obtain ⟨W0, hW0⟩ : ∃ W0, W0 = w.alloc (.cells #[.slice none 0 0, .slice none 0 0] 127) := ⟨_, rfl⟩
  rw [← hW0] at HT0 ⊢
  clear hW0 c1 kk
  generalize w.heap.size = r at *
  obtain ⟨lg, lc, hlv, hlc, hlm⟩ := owns_form1 HT0.out.hl.items (by simp)
  have l0 := HT0.out.hl.c0
  obtain ⟨i2a, i2b⟩ := HT0.out.hl.item hlv (j := 2) (it := t2) rfl
  rw [hlv] at l0
  simp only [List.length_cons, List.length_nil, Nat.zero_add, Nat.reduceAdd, Nat.reduceMul] at l0 hlc i2a i2b hlv
  obtain ⟨key2, mv2⟩ := t2
  obtain ⟨mp, mn, mc, hmv⟩ := s2
  dsimp only at hmv i2a i2b
  subst hmv
  go_upto_region 3 with (fail)
  have HT1 : Hid (TriU w (W0.alloc (.cells #[.string key2, .slice mp mn mc] 119)) F0 b iv kv its ks l liv lkv [t0, t1, ⟨key2, .slice mp mn mc⟩, t3, t4] [] r (.slice none 0 0) (.slice none 0 0) [] [] W0.heap.size key2 (.slice mp mn mc)) :=
    ⟨HT0.out.below ((Below.refl _ W0).alloc (Nat.le_refl _) _), row_alloc W0 _ _, fun h => by have := HT0.out.s.lt _ h; omega⟩
  obtain ⟨W1, hW1⟩ : ∃ W1, W1 = W0.alloc (.cells #[.string key2, .slice mp mn mc] 119) := ⟨_, rfl⟩
  rw [← hW1] at HT1 ⊢
  clear hW1 HT0 l0 i2a i2b
  generalize W0.heap.size = u at *
  subst hlv
  have l0 := HT1.out.t.hl.c0
  have f3 := freshI_node HT1.out.t.hl HT1.out.t.hr 3 lc lg rfl (by simp) (by simp) (lc - 3)
  simp only [List.length_cons, List.length_nil, Nat.zero_add, Nat.reduceAdd, Nat.reduceMul, Nat.reduceSub, List.drop_succ_cons, List.drop_zero] at f3
  have hlc3 : ¬ (lc = 3) := by omega
  go_wp2_with (go_at_call 63; refine f3.mono ?_; rintro e w' ⟨_, rfl, ⟨rg, rc, rfl, _, _⟩, d0, d1, hR', hS'⟩)
  have HT2 := Hid.mk'' (HT1.out.onR hR' hS')
  obtain ⟨W2, hW2⟩ : ∃ W2, W2 = w'.setCell ⟨r, 0, none⟩ (.slice (some ⟨rg, 0, none⟩) 2 rc) := ⟨_, rfl⟩
  rw [← hW2] at HT2 ⊢
  clear hW2 hR' hS' d0 d1 f3 HT1 l0
  go_cut [] from 41 to 54 (fun wx => ∃ lp lc', Hid (TriU w wx F0 b iv kv its ks l (.slice lp 2 lc') lkv [t0, t1] [] r (.slice (some ⟨rg, 0, none⟩) 2 rc) (.slice none 0 0) [t3, t4] [] u key2 (.slice mp mn mc)))
  case first =>
    have l0 := HT2.out.t.hl.c0
    have hdel := fun W (hb : Below W2.heap.size W2 W) => delI_node (HT2.out.t.hl.below hb) 2 5 (by omega) (by simp) (by simp)
    simp only [List.length_cons, List.length_nil, Nat.zero_add, Nat.reduceAdd, Nat.reduceSub, List.drop_succ_cons, List.take_succ_cons, List.take_zero, List.append_nil, List.drop_nil] at hdel
    go_region_with (go_at_call 64; refine (hdel _ (Below.refl _ _).drew).mono ?_; rintro e w3 ⟨_, rfl, ⟨lp, lc', rfl⟩, d0, d1, hL', hS'⟩)
    all_goals (go_wp2_with fail; go_meet; case rel => exact ⟨_, _, HT2.out.onL hL' (Step.from (Below.refl _ _).drew hS' HT2.out.t.hl.nd HT2.out.t.hl.foot_lt)⟩)
  case rest =>
  obtain ⟨lp, lc', HT3⟩ := hcut
  clear HT2
  generalize wc = W3 at *
  have hlf := leaf_node HT3.out.t.hl
  simp only [List.length_nil] at hlf
  go_wp2_with (go_at_call 61; refine hlf.mono ?_; rintro e w4 ⟨rfl, rfl⟩)
  have HT5 := HT3
  clear HT3 hlf
  generalize w4 = W5 at *
  subst hkv
  go_cut [] from 84 to 94 (fun wx => ∃ g' c', Hid (Tri w wx F0 b (.slice (some ⟨g', 0, none⟩) (its.length + 1) c') (.slice (some ⟨kg, 0, none⟩) ks.length kc) (its.take i ++ ⟨key2, .slice mp mn mc⟩ :: its.drop i) ks l (.slice lp 2 lc') lkv [t0, t1] [] r (.slice (some ⟨rg, 0, none⟩) 2 rc) (.slice none 0 0) [t3, t4] []))
  case first =>
    obtain ⟨ip, ic, hiv, _, _⟩ := owns_form HT5.out.t.hn.items
    subst hiv
    have c0 := HT5.out.t.hn.c0
    have ca0 : ∀ o, (W5.alloc o).cell? ⟨b, 0, none⟩ = _ := fun o => (HT5.out.below ((Below.refl _ W5).alloc (Nat.le_refl _) o)).t.hn.c0
    have u0 := HT5.out.u0
    have u1 := HT5.out.u1
    have hins := fun W (hb : Below W5.heap.size W5 W) (hr : W.heap[W5.heap.size]? = some (.cells #[.string key2, .slice mp mn mc] 119 (0, 0))) => insI_node (HT5.out.t.hn.below hb) ⟨key2, .slice mp mn mc⟩ ⟨mp, mn, mc, rfl⟩ i W5.heap.size hil (by omega) hr (fun e => by have := owns_lt HT5.out.t.hn.items e; omega)
    go_region_with (go_at_call 62; refine (hins _ (by first | exact ((Below.refl _ _).drew.alloc (Nat.le_refl _) _) | exact ((Below.refl _ _).alloc (Nat.le_refl _) _).drew) (by first | exact row_alloc _ _ _ | rfl)).mono ?_; rintro e w3 ⟨_, rfl, ⟨g', c', rfl, _, _⟩, d0, d1, hN', hS'⟩)
    all_goals (go_wp2_with fail; go_meet; case rel => exact ⟨_, _, HT5.out.t.onN hN' (Step.from (by first | exact ((Below.refl _ _).drew.alloc (Nat.le_refl _) _) | exact ((Below.refl _ _).alloc (Nat.le_refl _) _).drew) hS' HT5.out.t.hn.nd HT5.out.t.hn.foot_lt)⟩)
  case rest =>
  obtain ⟨g', c', HT6⟩ := hcut
  clear HT5
  generalize wc = W6 at *
  have c1 := HT6.out.hn.c1
  have hins := insK_node (HT6.out.below (W' := W6.alloc (.cells #[ptr r] 82)) ((Below.refl _ W6).alloc (Nat.le_refl _) _)).hn r (i + 1) W6.heap.size (by omega) (by omega) (row_alloc _ _ _) (fun e => by have := owns_lt HT6.out.hn.kids e; omega)
  rw [show ((i + 1 : Nat) : Int) = (i : Int) + 1 by omega] at hins
  have ca1 : ∀ o, (W6.alloc o).cell? ⟨b, 1, none⟩ = _ := fun o => (HT6.out.below ((Below.refl _ W6).alloc (Nat.le_refl _) o)).hn.c1
  go_wp2_with (go_at_call 67; refine hins.mono ?_; rintro e w7 ⟨_, rfl, ⟨g7, c7, rfl, _, _⟩, d0, d1, hN', hS'⟩)
  first | go_end0 | refine bodyPost_ret (results_none rfl _ _ _) rfl ?_
  exact ⟨rfl, _, _, _, _, _, _, _, (HT6.out.below ((Below.refl _ W6).alloc (Nat.le_refl _) _)).onN hN' hS'⟩
end Go.Proofs.Ytjdmgmnndfhmgaa
/- split: two kids of one. -/
namespace Go.Proofs.Ytjdmgmnndfhmgaa
open Go Go.RowKit

set_option maxRecDepth 100000 in
set_option maxHeartbeats 4000000 in
/-- split of a kid that has five items and six kids. -/
theorem split_in (b l i : Nat) (iv kv liv lkv : Value) (its : List Itm) (ks : List Nat) (t0 t1 t2 t3 t4 : Itm) (k0 k1 k2 k3 k4 k5 : Nat) (w : World) (hN : Nod w b iv kv its ks) (hL : Nod w l liv lkv [t0, t1, t2, t3, t4] [k0, k1, k2, k3, k4, k5]) (hi : ks[i]? = some l) (hil : i ≤ its.length) (hn : its.length ≤ 100) (hk : ks.length ≤ 100)
    (hnd : (nf b iv kv ++ nf l liv lkv).Nodup) :
    Calls Try.prog 57 #[ptr b, .int .i64 i] w fun e w' => e = .returned (.tuple #[]) ∧ ∃ iv' kv' liv' lkv' r riv rkv, Tri w w' (nf b iv kv ++ nf l liv lkv) b iv' kv' (its.take i ++ t2 :: its.drop i) (ks.take (i + 1) ++ r :: ks.drop (i + 1)) l liv' lkv' [t0, t1] [k0, k1, k2] r riv rkv [t3, t4] [k3, k4, k5] := by
  have hik : i < ks.length := (List.getElem?_eq_some_iff.1 hi).1
  have hlt : ∀ k ∈ nf b iv kv ++ nf l liv lkv, k < w.heap.size := fun k hk => (List.mem_append.1 hk).elim (hN.foot_lt k) (hL.foot_lt k)
  have T0 : Tri w (w.alloc (.cells #[.slice none 0 0, .slice none 0 0] 127)) (nf b iv kv ++ nf l liv lkv) b iv kv its ks l liv lkv [t0, t1, t2, t3, t4] [k0, k1, k2, k3, k4, k5] w.heap.size (.slice none 0 0) (.slice none 0 0) [] [] :=
    ⟨hN.below ((Below.refl _ w).alloc (Nat.le_refl _) _), hL.below ((Below.refl _ w).alloc (Nat.le_refl _) _), Nod.fresh w, by rw [nf_fresh]; exact Step.new _ hnd hlt⟩
  obtain ⟨kg, kc, hkv, hkc, hkm⟩ := owns_form1 hN.kids (by omega)
  have kk := hN.kid hkv hi
  have c1 := hN.c1
  rw [hkv] at c1
  have s2 : isSl t2.mv := hL.mvs t2 (by simp)
  have HT0 := Hid.mk'' T0
  generalize nf b iv kv ++ nf l liv lkv = F0 at *
  clear T0 hN hL hlt hnd
  go_enter Try.func57, Try.ntmps57
  go_upto_region 1 with (fail)
  obtain ⟨W0, hW0⟩ : ∃ W0, W0 = w.alloc (.cells #[.slice none 0 0, .slice none 0 0] 127) := ⟨_, rfl⟩
  rw [← hW0] at HT0 ⊢
  clear hW0 c1 kk
  generalize w.heap.size = r at *
  obtain ⟨lg, lc, hlv, hlc, hlm⟩ := owns_form1 HT0.out.hl.items (by simp)
  have l0 := HT0.out.hl.c0
  obtain ⟨i2a, i2b⟩ := HT0.out.hl.item hlv (j := 2) (it := t2) rfl
  rw [hlv] at l0
  simp only [List.length_cons, List.length_nil, Nat.zero_add, Nat.reduceAdd, Nat.reduceMul] at l0 hlc i2a i2b hlv
  obtain ⟨key2, mv2⟩ := t2
  obtain ⟨mp, mn, mc, hmv⟩ := s2
  dsimp only at hmv i2a i2b
  subst hmv
  go_upto_region 3 with (fail)
  have HT1 : Hid (TriU w (W0.alloc (.cells #[.string key2, .slice mp mn mc] 119)) F0 b iv kv its ks l liv lkv [t0, t1, ⟨key2, .slice mp mn mc⟩, t3, t4] [k0, k1, k2, k3, k4, k5] r (.slice none 0 0) (.slice none 0 0) [] [] W0.heap.size key2 (.slice mp mn mc)) :=
    ⟨HT0.out.below ((Below.refl _ W0).alloc (Nat.le_refl _) _), row_alloc W0 _ _, fun h => by have := HT0.out.s.lt _ h; omega⟩
  obtain ⟨W1, hW1⟩ : ∃ W1, W1 = W0.alloc (.cells #[.string key2, .slice mp mn mc] 119) := ⟨_, rfl⟩
  rw [← hW1] at HT1 ⊢
  clear hW1 HT0 l0 i2a i2b
  generalize W0.heap.size = u at *
  subst hlv
  have l0 := HT1.out.t.hl.c0
  have f3 := freshI_node HT1.out.t.hl HT1.out.t.hr 3 lc lg rfl (by simp) (by simp) (lc - 3)
  simp only [List.length_cons, List.length_nil, Nat.zero_add, Nat.reduceAdd, Nat.reduceMul, Nat.reduceSub, List.drop_succ_cons, List.drop_zero] at f3
  have hlc3 : ¬ (lc = 3) := by omega
  go_wp2_with (go_at_call 63; refine f3.mono ?_; rintro e w' ⟨_, rfl, ⟨rg, rc, rfl, _, _⟩, d0, d1, hR', hS'⟩)
  have HT2 := Hid.mk'' (HT1.out.onR hR' hS')
  obtain ⟨W2, hW2⟩ : ∃ W2, W2 = w'.setCell ⟨r, 0, none⟩ (.slice (some ⟨rg, 0, none⟩) 2 rc) := ⟨_, rfl⟩
  rw [← hW2] at HT2 ⊢
  clear hW2 hR' hS' d0 d1 f3 HT1 l0
  go_cut [] from 41 to 54 (fun wx => ∃ lp lc', Hid (TriU w wx F0 b iv kv its ks l (.slice lp 2 lc') lkv [t0, t1] [k0, k1, k2, k3, k4, k5] r (.slice (some ⟨rg, 0, none⟩) 2 rc) (.slice none 0 0) [t3, t4] [] u key2 (.slice mp mn mc)))
  case first =>
    have l0 := HT2.out.t.hl.c0
    have hdel := fun W (hb : Below W2.heap.size W2 W) => delI_node (HT2.out.t.hl.below hb) 2 5 (by omega) (by simp) (by simp)
    simp only [List.length_cons, List.length_nil, Nat.zero_add, Nat.reduceAdd, Nat.reduceSub, List.drop_succ_cons, List.take_succ_cons, List.take_zero, List.append_nil, List.drop_nil] at hdel
    go_region_with (go_at_call 64; refine (hdel _ (Below.refl _ _).drew).mono ?_; rintro e w3 ⟨_, rfl, ⟨lp, lc', rfl⟩, d0, d1, hL', hS'⟩)
    all_goals (go_wp2_with fail; go_meet; case rel => exact ⟨_, _, HT2.out.onL hL' (Step.from (Below.refl _ _).drew hS' HT2.out.t.hl.nd HT2.out.t.hl.foot_lt)⟩)
  case rest =>
  obtain ⟨lp, lc', HT3⟩ := hcut
  clear HT2
  generalize wc = W3 at *
  have hlf := leaf_node HT3.out.t.hl
  simp only [List.length_nil, List.length_cons] at hlf
  obtain ⟨kg3, kc3, hkv3, hkc3, hkm3⟩ := owns_form1 HT3.out.t.hl.kids (by simp)
  simp only [List.length_cons, List.length_nil, Nat.zero_add, Nat.reduceAdd] at hkv3 hkc3
  subst hkv3
  have k1' := HT3.out.t.hl.c1
  have f6 := freshK_node HT3.out.t.hl HT3.out.t.hr 3 kc3 kg3 rfl (by simp) (by simp) (kc3 - 3)
  simp only [List.length_cons, List.length_nil, Nat.zero_add, Nat.reduceAdd, Nat.reduceSub, List.drop_succ_cons, List.drop_zero] at f6
  have hkc4 : ¬ (kc3 = 3) := by omega
  go_wp2_with (first | (go_at_call 61; refine hlf.mono ?_; rintro e w4 ⟨rfl, rfl⟩) | (go_at_call 65; refine f6.mono ?_; rintro e w5 ⟨_, rfl, ⟨rg2, rc2, rfl, _, _⟩, d0, d1, hR', hS'⟩))
  have HT4 := Hid.mk'' (HT3.out.onR hR' hS')
  obtain ⟨W4, hW4⟩ : ∃ W4, W4 = w5.setCell ⟨r, 1, none⟩ (.slice (some ⟨rg2, 0, none⟩) 3 rc2) := ⟨_, rfl⟩
  rw [← hW4] at HT4 ⊢
  clear hW4 hR' hS' d0 d1 f6 HT3 k1' hlf
  go_cut [] from 69 to 83 (fun wx => ∃ lp2 lc2, Hid (TriU w wx F0 b iv kv its ks l (.slice lp 2 lc') (.slice lp2 3 lc2) [t0, t1] [k0, k1, k2] r (.slice (some ⟨rg, 0, none⟩) 2 rc) (.slice (some ⟨rg2, 0, none⟩) 3 rc2) [t3, t4] [k3, k4, k5] u key2 (.slice mp mn mc)))
  case first =>
    have l1 := HT4.out.t.hl.c1
    have hdel := fun W (hb : Below W4.heap.size W4 W) => delK_node (HT4.out.t.hl.below hb) 3 6 (by omega) (by simp) (by simp)
    simp only [List.length_cons, List.length_nil, Nat.zero_add, Nat.reduceAdd, Nat.reduceSub, List.drop_succ_cons, List.take_succ_cons, List.take_zero, List.append_nil, List.drop_nil] at hdel
    go_region_with (go_at_call 66; refine (hdel _ (Below.refl _ _).drew).mono ?_; rintro e w3 ⟨_, rfl, ⟨lp2, lc2, rfl⟩, d0, d1, hL', hS'⟩)
    all_goals (go_wp2_with fail; go_meet; case rel => exact ⟨_, _, HT4.out.onL hL' (Step.from (Below.refl _ _).drew hS' HT4.out.t.hl.nd HT4.out.t.hl.foot_lt)⟩)
  case rest =>
  obtain ⟨lp2, lc2, HT5⟩ := hcut
  clear HT4
  generalize wc = W5 at *
  go_wp2_with fail
  subst hkv
  go_cut [] from 84 to 94 (fun wx => ∃ g' c', Hid (Tri w wx F0 b (.slice (some ⟨g', 0, none⟩) (its.length + 1) c') (.slice (some ⟨kg, 0, none⟩) ks.length kc) (its.take i ++ ⟨key2, .slice mp mn mc⟩ :: its.drop i) ks l (.slice lp 2 lc') (.slice lp2 3 lc2) [t0, t1] [k0, k1, k2] r (.slice (some ⟨rg, 0, none⟩) 2 rc) (.slice (some ⟨rg2, 0, none⟩) 3 rc2) [t3, t4] [k3, k4, k5]))
  case first =>
    obtain ⟨ip, ic, hiv, _, _⟩ := owns_form HT5.out.t.hn.items
    subst hiv
    have c0 := HT5.out.t.hn.c0
    have ca0 : ∀ o, (W5.alloc o).cell? ⟨b, 0, none⟩ = _ := fun o => (HT5.out.below ((Below.refl _ W5).alloc (Nat.le_refl _) o)).t.hn.c0
    have u0 := HT5.out.u0
    have u1 := HT5.out.u1
    have hins := fun W (hb : Below W5.heap.size W5 W) (hr : W.heap[W5.heap.size]? = some (.cells #[.string key2, .slice mp mn mc] 119 (0, 0))) => insI_node (HT5.out.t.hn.below hb) ⟨key2, .slice mp mn mc⟩ ⟨mp, mn, mc, rfl⟩ i W5.heap.size hil (by omega) hr (fun e => by have := owns_lt HT5.out.t.hn.items e; omega)
    go_region_with (go_at_call 62; refine (hins _ (by first | exact ((Below.refl _ _).drew.alloc (Nat.le_refl _) _) | exact ((Below.refl _ _).alloc (Nat.le_refl _) _).drew) (by first | exact row_alloc _ _ _ | rfl)).mono ?_; rintro e w3 ⟨_, rfl, ⟨g', c', rfl, _, _⟩, d0, d1, hN', hS'⟩)
    all_goals (go_wp2_with fail; go_meet; case rel => exact ⟨_, _, HT5.out.t.onN hN' (Step.from (by first | exact ((Below.refl _ _).drew.alloc (Nat.le_refl _) _) | exact ((Below.refl _ _).alloc (Nat.le_refl _) _).drew) hS' HT5.out.t.hn.nd HT5.out.t.hn.foot_lt)⟩)
  case rest =>
  obtain ⟨g', c', HT6⟩ := hcut
  clear HT5
  generalize wc = W6 at *
  have c1 := HT6.out.hn.c1
  have hins := insK_node (HT6.out.below (W' := W6.alloc (.cells #[ptr r] 82)) ((Below.refl _ W6).alloc (Nat.le_refl _) _)).hn r (i + 1) W6.heap.size (by omega) (by omega) (row_alloc _ _ _) (fun e => by have := owns_lt HT6.out.hn.kids e; omega)
  rw [show ((i + 1 : Nat) : Int) = (i : Int) + 1 by omega] at hins
  have ca1 : ∀ o, (W6.alloc o).cell? ⟨b, 1, none⟩ = _ := fun o => (HT6.out.below ((Below.refl _ W6).alloc (Nat.le_refl _) o)).hn.c1
  go_wp2_with (go_at_call 67; refine hins.mono ?_; rintro e w7 ⟨_, rfl, ⟨g7, c7, rfl, _, _⟩, d0, d1, hN', hS'⟩)
  first | go_end0 | refine bodyPost_ret (results_none rfl _ _ _) rfl ?_
  exact ⟨rfl, _, _, _, _, _, _, _, (HT6.out.below ((Below.refl _ W6).alloc (Nat.le_refl _) _)).onN hN' hS'⟩
end Go.Proofs.Ytjdmgmnndfhmgaa
/- A tree by its topmost node; split in a tree. -/
namespace Go.Proofs.Ytjdmgmnndfhmgaa
open Go Go.RowKit

/-- Kids that may stand below a node of height h with n items. -/
def Good (w : World) : Nat → Nat → List KidD → Prop
  | 0, _, g => g = []
  | h + 1, n, g => g.length = n + 1 ∧ ∀ k ∈ g, Tre w h k.b k.its k.L k.F ∧ 2 ≤ k.its.length ∧ k.its.length ≤ 4
/-- All items of such a node, in order. -/
def lv : Nat → List KidD → List Itm → List Itm
  | 0, _, its => its
  | _ + 1, g, its => weave g its
abbrev ff (b : Nat) (iv kv : Value) (g : List KidD) : List Nat := nf b iv kv ++ g.flatMap KidD.F
theorem Tre.open_ {w : World} : ∀ {h b : Nat} {its L : List Itm} {F : List Nat}, Tre w h b its L F → ∃ iv kv g, Nod w b iv kv its (g.map KidD.b) ∧ Good w h its.length g ∧ L = lv h g its ∧ F = ff b iv kv g
  | 0, _, _, _, _, ⟨iv, kv, hN, hL, hF⟩ => ⟨iv, kv, [], hN, rfl, hL, by simpa [ff] using hF⟩
  | _ + 1, _, _, _, _, ⟨iv, kv, ks, hN, hl, hk, hL, hF⟩ => ⟨iv, kv, ks, hN, ⟨hl, hk⟩, hL, hF⟩
theorem Tre.close {w : World} : ∀ {h b : Nat} {its : List Itm} {iv kv : Value} {g : List KidD}, Nod w b iv kv its (g.map KidD.b) → Good w h its.length g → Tre w h b its (lv h g its) (ff b iv kv g)
  | 0, _, _, iv, kv, g, hN, hg => by
    obtain rfl : g = [] := hg
    exact ⟨iv, kv, hN, rfl, by simp [ff]⟩
  | _ + 1, _, _, iv, kv, g, hN, hg => ⟨iv, kv, g, hN, hg.1, hg.2, rfl, rfl⟩
theorem Good.zero {w : World} {h n : Nat} {g : List KidD} (hg : Good w h n g) : g = [] ∨ g.length = n + 1 := by
  cases h with
  | zero => exact .inl hg
  | succ h => exact .inr hg.1
theorem Good.upd {w w' : World} {S : Nat → Prop} (hu : Upd w w' S) {h n : Nat} {g : List KidD} (hg : Good w h n g) (hS : ∀ k ∈ g.flatMap KidD.F, ¬ S k) : Good w' h n g := by
  cases h with
  | zero => exact hg
  | succ h => exact ⟨hg.1, fun k hk => ⟨(hg.2 k hk).1.upd hu (fun j hj => hS j (List.mem_flatMap.2 ⟨k, hk, hj⟩)), (hg.2 k hk).2⟩⟩
theorem Good.take {w : World} {h n : Nat} {g : List KidD} (hg : Good w h n g) {i : Nat} (hi : i ≤ n) : Good w h i (g.take (i + 1)) := by
  cases h with
  | zero => obtain rfl : g = [] := hg; exact rfl
  | succ h => exact ⟨by rw [List.length_take, hg.1]; omega, fun k hk => hg.2 k (List.mem_of_mem_take hk)⟩
theorem Good.drop {w : World} {h n : Nat} {g : List KidD} (hg : Good w h n g) {i : Nat} (hi : i ≤ n) : Good w h (n - i) (g.drop i) := by
  cases h with
  | zero => obtain rfl : g = [] := hg; exact List.drop_nil
  | succ h => exact ⟨by rw [List.length_drop, hg.1]; omega, fun k hk => hg.2 k (List.mem_of_mem_drop hk)⟩

theorem split_any (b l i : Nat) (iv kv liv lkv : Value) (its : List Itm) (ks : List Nat) (t0 t1 t2 t3 t4 : Itm) (lks : List Nat) (w : World) (hN : Nod w b iv kv its ks) (hL : Nod w l liv lkv [t0, t1, t2, t3, t4] lks) (hlk : lks = [] ∨ lks.length = 6) (hi : ks[i]? = some l) (hil : i ≤ its.length) (hn : its.length ≤ 100) (hk : ks.length ≤ 100)
    (hnd : (nf b iv kv ++ nf l liv lkv).Nodup) :
    Calls Try.prog 57 #[ptr b, .int .i64 i] w fun e w' => e = .returned (.tuple #[]) ∧ ∃ iv' kv' liv' lkv' r riv rkv, Tri w w' (nf b iv kv ++ nf l liv lkv) b iv' kv' (its.take i ++ t2 :: its.drop i) (ks.take (i + 1) ++ r :: ks.drop (i + 1)) l liv' lkv' [t0, t1] (lks.take 3) r riv rkv [t3, t4] (lks.drop 3) := by
  rcases hlk with rfl | hlk
  · exact split_leaf b l i iv kv liv lkv its ks t0 t1 t2 t3 t4 w hN hL hi hil hn hk hnd
  · match lks, hlk, hL with
    | [k0, k1, k2, k3, k4, k5], _, hL => exact split_in b l i iv kv liv lkv its ks t0 t1 t2 t3 t4 k0 k1 k2 k3 k4 k5 w hN hL hi hil hn hk hnd

theorem lv_split5 {w : World} {h : Nat} {g : List KidD} {t0 t1 t2 t3 t4 : Itm} (hg : Good w h 5 g) : lv h g [t0, t1, t2, t3, t4] = lv h (g.take 3) [t0, t1] ++ t2 :: lv h (g.drop 3) [t3, t4] := by
  cases h with
  | zero => rfl
  | succ h =>
    match g, hg.1 with
    | [g0, g1, g2, g3, g4, g5], _ => simp [lv, weave, suf]
theorem perm_mid {α : Type} (X A K B : List α) : (X ++ (A ++ K ++ B)).Perm ((X ++ K) ++ (A ++ B)) := by
  have h1 : (A ++ K ++ B).Perm (K ++ (A ++ B)) := by
    rw [← List.append_assoc]
    exact List.Perm.append_right _ List.perm_append_comm
  have h2 : (X ++ (A ++ K ++ B)).Perm (X ++ (K ++ (A ++ B))) := List.Perm.append_left _ h1
  rwa [← List.append_assoc X K] at h2
/-- split within a tree: the kid in the middle of A and B has five items. -/
theorem split_tre {W : World} {h b : Nat} {iv kv : Value} {A B : List KidD} {k : KidD} {C D : List Itm} (hN : Nod W b iv kv (C ++ D) ((A ++ k :: B).map KidD.b)) (hAC : A.length = C.length) (hBD : B.length = D.length)
    (hA : ∀ x ∈ A ++ B, Tre W h x.b x.its x.L x.F ∧ 2 ≤ x.its.length ∧ x.its.length ≤ 4) (hk : Tre W h k.b k.its k.L k.F) (h5 : k.its.length = 5) (hnd : (ff b iv kv (A ++ k :: B)).Nodup) (hn : (C ++ D).length ≤ 82) :
    Calls Try.prog 57 #[ptr b, .int .i64 C.length] W fun e W2 => e = .returned (.tuple #[]) ∧ ∃ t F', Tre W2 (h + 1) b (C ++ t :: D) (weave (A ++ k :: B) (C ++ D)) F' ∧ Step W W2 (ff b iv kv (A ++ k :: B)) F' := by
  obtain ⟨liv, lkv, g, hL, hg, hkL, hkF⟩ := hk.open_
  obtain ⟨kb, kits, kL, kF⟩ := k
  dsimp only at hL hg hkL hkF h5 hk
  match kits, h5, hL, hg, hkL, hk with
  | [t0, t1, t2, t3, t4], _, hL, hg, hkL, hk =>
  have hp : (ff b iv kv (A ++ ⟨kb, [t0, t1, t2, t3, t4], kL, kF⟩ :: B)).Perm ((nf b iv kv ++ nf kb liv lkv) ++ (g.flatMap KidD.F ++ (A.flatMap KidD.F ++ B.flatMap KidD.F))) := by
    have h1 := perm_mid (nf b iv kv) (A.flatMap KidD.F) kF (B.flatMap KidD.F)
    rw [hkF] at h1
    simp only [ff, List.flatMap_append, List.flatMap_cons, hkF]
    refine List.Perm.trans ?_ (h1.trans ?_)
    · simp only [ff, List.append_assoc]; exact List.Perm.refl _
    · simp only [ff, List.append_assoc]; exact List.Perm.refl _
  have hnd2 := hp.nodup_iff.1 hnd
  have hlt : ∀ j ∈ g.flatMap KidD.F ++ (A.flatMap KidD.F ++ B.flatMap KidD.F), j < W.heap.size := fun j hj => by
    simp only [List.mem_append, List.mem_flatMap] at hj
    rcases hj with ⟨x, hx, hj⟩ | ⟨x, hx, hj⟩ | ⟨x, hx, hj⟩
    · exact hk.lt j (by rw [hkF]; exact List.mem_append_right _ (List.mem_flatMap.2 ⟨x, hx, hj⟩))
    · exact (hA x (List.mem_append_left _ hx)).1.lt j hj
    · exact (hA x (List.mem_append_right _ hx)).1.lt j hj
  have hi : ((A ++ ⟨kb, [t0, t1, t2, t3, t4], kL, kF⟩ :: B).map KidD.b)[C.length]? = some kb := by
    rw [List.map_append, List.getElem?_append_right (by simp; omega)]; simp [hAC]
  have hgl : (g.map KidD.b) = [] ∨ (g.map KidD.b).length = 6 := by
    rcases hg.zero with rfl | h
    · exact .inl rfl
    · right; simpa using h
  refine (split_any b kb C.length iv kv liv lkv (C ++ D) _ t0 t1 t2 t3 t4 (g.map KidD.b) W hN hL hgl hi (by simp) (by omega) (by simp at hn ⊢; omega) (List.nodup_append.1 hnd2).1).mono ?_
  rintro e W2 ⟨rfl, iv', kv', liv', lkv', r, riv, rkv, T⟩
  refine ⟨rfl, t2, ?_⟩
  have hd : ∀ j ∈ g.flatMap KidD.F ++ (A.flatMap KidD.F ++ B.flatMap KidD.F), j ∉ nf b iv kv ++ nf kb liv lkv := fun j hj hj' => (List.nodup_append.1 hnd2).2.2 j hj' j hj rfl
  have hg2 : Good W2 h 5 g := hg.upd T.s.upd (fun j hj => hd j (List.mem_append_left _ hj))
  have gl := hg2.take (i := 2) (by omega)
  have gr := hg2.drop (i := 3) (by omega)
  have hN2 := T.hn
  rw [List.take_left, List.drop_left] at hN2
  have TL := Tre.close (h := h) (w := W2) (b := kb) (its := [t0, t1]) (g := g.take 3) (by rw [List.map_take]; exact T.hl) gl
  have TR := Tre.close (h := h) (w := W2) (b := r) (its := [t3, t4]) (g := g.drop 3) (by rw [List.map_drop]; exact T.hr) gr
  have hks : ((A ++ ⟨kb, [t0, t1, t2, t3, t4], kL, kF⟩ :: B).map KidD.b).take (C.length + 1) ++ r :: ((A ++ ⟨kb, [t0, t1, t2, t3, t4], kL, kF⟩ :: B).map KidD.b).drop (C.length + 1) = (A ++ ⟨kb, [t0, t1], lv h (g.take 3) [t0, t1], ff kb liv' lkv' (g.take 3)⟩ :: ⟨r, [t3, t4], lv h (g.drop 3) [t3, t4], ff r riv rkv (g.drop 3)⟩ :: B).map KidD.b := by
    rw [← hAC, List.map_append, List.map_cons, show A.length + 1 = (A.map KidD.b).length + 1 by simp, List.take_length_add_append, List.drop_length_add_append]
    simp
  rw [hks] at hN2
  have TT := Tre.close (h := h + 1) (w := W2) (b := b) hN2 (by
    refine ⟨by simp; omega, fun x hx => ?_⟩
    simp only [List.mem_append, List.mem_cons] at hx
    have hold : ∀ x ∈ A ++ B, Tre W2 h x.b x.its x.L x.F ∧ 2 ≤ x.its.length ∧ x.its.length ≤ 4 := fun x hx => ⟨(hA x hx).1.upd T.s.upd (fun j hj => hd j (List.mem_append_right _ (by
      rw [← List.flatMap_append]; exact List.mem_flatMap.2 ⟨x, hx, hj⟩))), (hA x hx).2⟩
    rcases hx with hx | rfl | rfl | hx
    · exact hold x (List.mem_append_left _ hx)
    · exact ⟨TL, by simp, by simp⟩
    · exact ⟨TR, by simp, by simp⟩
    · exact hold x (List.mem_append_right _ hx))
  have hLw : weave (A ++ ⟨kb, [t0, t1, t2, t3, t4], kL, kF⟩ :: B) (C ++ D) = lv (h + 1) (A ++ ⟨kb, [t0, t1], lv h (g.take 3) [t0, t1], ff kb liv' lkv' (g.take 3)⟩ :: ⟨r, [t3, t4], lv h (g.drop 3) [t3, t4], ff r riv rkv (g.drop 3)⟩ :: B) (C ++ t2 :: D) := by
    show _ = weave _ _
    rw [weave_split A _ B C D hAC, weave_split A _ _ C (t2 :: D) hAC]
    simp only [hkL, lv_split5 hg, suf, List.append_assoc, List.cons_append]
  rw [hLw]
  refine ⟨_, TT, (T.s.frame _ hnd2 hlt).perm hp.symm ?_⟩
  have hgF : g.flatMap KidD.F = (g.take 3).flatMap KidD.F ++ (g.drop 3).flatMap KidD.F := by rw [← List.flatMap_append, List.take_append_drop]
  rw [hgF]
  simp only [ff, List.flatMap_append, List.flatMap_cons]
  rw [List.perm_iff_count]
  intro a
  simp only [List.count_append]
  omega
end Go.Proofs.Ytjdmgmnndfhmgaa
/- add, in a tree. -/
namespace Go.Proofs.Ytjdmgmnndfhmgaa
open Go Go.RowKit

theorem pre_lt {key : ByteArray} : ∀ (A : List KidD) (C : List Itm), Asc (keysI (pre A C)) → (∀ c ∈ C, klt c.key key = true) → ∀ x ∈ pre A C, klt x.key key = true
  | [], _, _, _, x, hx => by simp [pre] at hx
  | _ :: _, [], _, _, x, hx => by simp [pre] at hx
  | a :: A, c :: C, ha, hc, x, hx => by
    simp only [pre, keysI, List.map_append, List.map_cons, asc_append] at ha
    obtain ⟨h1, ⟨h2, h3⟩, h4⟩ := ha
    simp only [pre, List.mem_append, List.mem_cons] at hx
    rcases hx with hx | rfl | hx
    · exact klt_trans (h4 x.key (List.mem_map_of_mem hx) c.key (by simp)) (hc c (by simp))
    · exact hc x (by simp)
    · exact pre_lt A C h3 (fun d hd => hc d (by simp [hd])) x hx
theorem suf_ge {key : ByteArray} : ∀ (D : List Itm) (B : List KidD), Asc (keysI (suf D B)) → (∀ d ∈ D, klt d.key key = false) → ∀ x ∈ suf D B, klt x.key key = false
  | [], _, _, _, x, hx => by simp [suf] at hx
  | _ :: _, [], _, _, x, hx => by simp [suf] at hx
  | d :: D, b :: B, ha, hd, x, hx => by
    simp only [suf, keysI, List.map_append, List.map_cons] at ha
    obtain ⟨h1, h2⟩ := ha
    simp only [asc_append] at h2
    simp only [suf, List.mem_append, List.mem_cons] at hx
    rcases hx with rfl | hx | hx
    · exact hd x (by simp)
    · have := h1 x.key (List.mem_append_left _ (List.mem_map_of_mem hx))
      cases hk : klt x.key key
      · rfl
      · have h := klt_trans this hk
        rw [hd d (by simp)] at h; cases h
    · exact suf_ge D B h2.2.1 (fun e he => hd e (by simp [he])) x hx
/-- A list parted at a place. -/
theorem part_at {α : Type} (l : List α) (p : Nat) (h : p < l.length) : ∃ A k B, l = A ++ k :: B ∧ A.length = p ∧ B.length = l.length - p - 1 :=
  ⟨l.take p, l[p], l.drop (p + 1), by rw [List.getElem_cons_drop, List.take_append_drop], by simp; omega, by simp; omega⟩
/-- What a node's place says of a tree: what lies ahead of the kid there, what behind. -/
theorem parted {its : List Itm} {key : ByteArray} {ks : List KidD} (hl : ks.length = its.length + 1) (ha : Asc (keysI (weave ks its))) :
    ∃ A k B, ks = A ++ k :: B ∧ A.length = (its.take (plc its key)).length ∧ B.length = (its.drop (plc its key)).length ∧ A.length = plc its key ∧ weave ks its = pre A (its.take (plc its key)) ++ k.L ++ suf (its.drop (plc its key)) B ∧
      (∀ x ∈ pre A (its.take (plc its key)), klt x.key key = true) ∧ (∀ x ∈ suf (its.drop (plc its key)) B, klt x.key key = false) := by
  have hp := plc_le its key
  have hai : Asc (keysI its) := asc_sublist ((weave_sublist ks its hl).map _) ha
  obtain ⟨A, k, B, rfl, hA, hB⟩ := part_at ks (plc its key) (by omega)
  have hAC : A.length = (its.take (plc its key)).length := by rw [hA, List.length_take]; omega
  have hw := weave_split A k B (its.take (plc its key)) (its.drop (plc its key)) hAC
  rw [List.take_append_drop] at hw
  rw [hw] at ha
  simp only [keysI, List.map_append, asc_append] at ha
  refine ⟨A, k, B, rfl, hAC, by rw [hB, List.length_drop, hl]; omega, hA, hw, pre_lt A _ ha.1.1 (fun c hc => ?_), suf_ge _ B ha.2.1 (fun d hd => ?_)⟩
  · obtain ⟨j, hj⟩ := List.getElem?_of_mem hc
    rw [List.getElem?_take] at hj
    split at hj
    · exact plc_lt ‹_› hj
    · cases hj
  · obtain ⟨j, hj⟩ := List.getElem?_of_mem hd
    rw [List.getElem?_drop] at hj
    exact plc_ge hai (Nat.le_add_right _ _) hj

theorem add_tre (it : Itm) (hit : isSl it.mv) : ∀ (h : Nat) (w : World) (b : Nat) (its L : List Itm) (F : List Nat), Tre w h b its L F → F.Nodup → Asc (keysI L) → its.length ≤ 4 →
    Calls Try.prog 56 #[ptr b, .agg #[.string it.key, it.mv]] w fun e w' => e = .returned (.tuple #[]) ∧ ∃ its' F', Tre w' h b its' (insI L it) F' ∧ its.length ≤ its'.length ∧ its'.length ≤ its.length + 1 ∧ Step w w' F F' := by
  intro h
  induction h with
  | zero =>
    rintro w b its L F ⟨iv, kv, hN, rfl, rfl⟩ hnd ha h4
    refine (add_leaf hN ha (by omega) it hit).mono ?_
    rintro e w' ⟨rfl, iv', hN', hs⟩
    rw [insI_plc] at hN'
    exact ⟨rfl, _, _, ⟨iv', kv, hN', rfl, rfl⟩, by rw [insI_len]; omega, by rw [insI_len]; omega, hs⟩
  | succ h ih =>
    rintro w b its L F ⟨iv, kv, ks, hN, hl, hks, rfl, rfl⟩ hnd ha h4
    have hai : Asc (keysI its) := asc_sublist ((weave_sublist ks its hl).map _) ha
    obtain ⟨A, k, B, rfl, hAC, hBD, hAp, hw, hX, hZ⟩ := parted (key := it.key) hl ha
    have hkm : k ∈ A ++ k :: B := by simp
    have hik : ((A ++ k :: B).map KidD.b)[plc its it.key]? = some k.b := by
      rw [List.map_append, List.getElem?_append_right (by simp; omega)]; simp [hAp]
    have hak : Asc (keysI k.L) := by
      rw [hw] at ha
      simp only [keysI, List.map_append, asc_append] at ha
      exact ha.1.2.1
    have hndk : k.F.Nodup ∧ (∀ j ∈ k.F, j ∉ nf b iv kv) ∧ (∀ j ∈ k.F, ∀ x ∈ A ++ B, j ∉ x.F) := by
      simp only [List.flatMap_append, List.flatMap_cons, List.nodup_append, List.mem_append, List.mem_flatMap] at hnd
      obtain ⟨_, ⟨_, ⟨d1, _, d3⟩, d4⟩, d5⟩ := hnd
      refine ⟨d1, fun j hj hj' => d5 j hj' j (.inr (.inl hj)) rfl, fun j hj x hx hj' => ?_⟩
      rcases List.mem_append.1 hx with hx | hx
      · exact d4 j ⟨x, hx, hj'⟩ j (.inl hj) rfl
      · exact d3 j hj j ⟨x, hx, hj'⟩ rfl
    have hp : ∀ (K : List Nat), (nf b iv kv ++ (A.flatMap KidD.F ++ K ++ B.flatMap KidD.F)).Perm (K ++ (nf b iv kv ++ (A.flatMap KidD.F ++ B.flatMap KidD.F))) := fun K => by
      rw [List.perm_iff_count]; intro a; simp only [List.count_append]; omega
    have hfm : ∀ (x : KidD), (A ++ x :: B).flatMap KidD.F = A.flatMap KidD.F ++ x.F ++ B.flatMap KidD.F := fun x => by simp
    refine add_walk hN hai (by omega) (by simp at hl ⊢; omega) it hit hik (fun w' => ∃ its' F', Tre w' (h + 1) b its' (insI (weave (A ++ k :: B) its) it) F' ∧ its.length ≤ its'.length ∧ its'.length ≤ its.length + 1 ∧ Step w w' (nf b iv kv ++ (A ++ k :: B).flatMap KidD.F) F') ?_
    intro W hb
    refine (ih W k.b k.its k.L k.F ((hks k hkm).1.below hb) hndk.1 hak (hks k hkm).2.2).mono ?_
    rintro e W1 ⟨rfl, its1, F1, T1, q1, q2, s1⟩
    have s1' : Step w W1 k.F F1 := Step.from hb s1 hndk.1 (hks k hkm).1.lt
    have hN1 : Nod W1 b iv kv its ((A ++ k :: B).map KidD.b) := s1'.keep hN (fun j hj hj' => hndk.2.1 j hj' hj)
    have hold : ∀ x ∈ A ++ B, Tre W1 h x.b x.its x.L x.F ∧ 2 ≤ x.its.length ∧ x.its.length ≤ 4 := fun x hx => by
      have hxm : x ∈ A ++ k :: B := by simp only [List.mem_append, List.mem_cons] at hx ⊢; exact hx.elim .inl (fun h => .inr (.inr h))
      exact ⟨(hks x hxm).1.step s1' (fun j hj hj' => hndk.2.2 j hj' x hx hj), (hks x hxm).2⟩
    have hltR : ∀ j ∈ nf b iv kv ++ (A.flatMap KidD.F ++ B.flatMap KidD.F), j < w.heap.size := fun j hj => by
      simp only [List.mem_append, List.mem_flatMap] at hj
      rcases hj with hj | ⟨x, hx, hj⟩ | ⟨x, hx, hj⟩
      · exact hN.foot_lt j hj
      · exact (hks x (by simp [hx])).1.lt j hj
      · exact (hks x (by simp [hx])).1.lt j hj
    have S1 : Step w W1 (nf b iv kv ++ (A ++ k :: B).flatMap KidD.F) (ff b iv kv (A ++ ⟨k.b, its1, insI k.L it, F1⟩ :: B)) := by
      rw [ff, hfm, hfm]
      exact (s1'.frame _ ((hp k.F).nodup_iff.1 (by rw [← hfm]; exact hnd)) hltR).perm (hp k.F).symm (hp F1).symm
    have hLL : weave (A ++ ⟨k.b, its1, insI k.L it, F1⟩ :: B) its = insI (weave (A ++ k :: B) its) it := by
      have := weave_split A ⟨k.b, its1, insI k.L it, F1⟩ B (its.take (plc its it.key)) (its.drop (plc its it.key)) hAC
      rw [List.take_append_drop] at this
      rw [this, hw, insI_mid _ _ _ _ hX hZ]
    obtain ⟨civ, ckv, cks, hC1, _, _⟩ := T1.nod
    have hmap : (A ++ k :: B).map KidD.b = (A ++ (⟨k.b, its1, insI k.L it, F1⟩ : KidD) :: B).map KidD.b := by simp
    refine ⟨rfl, civ, ckv, its1, cks, hN1, hC1, ?_⟩
    have hk2 := (hks k hkm).2
    by_cases h5 : its1.length ≤ 4
    · refine .inl ⟨h5, its, _, ?_, Nat.le_refl _, by omega, S1⟩
      rw [← hLL]
      refine Tre.close (h := h + 1) (by rw [← hmap]; exact hN1) ⟨by simp at hl ⊢; omega, fun x hx => ?_⟩
      simp only [List.mem_append, List.mem_cons] at hx
      rcases hx with hx | rfl | hx
      · exact hold x (by simp [hx])
      · exact ⟨T1, by show 2 ≤ its1.length; omega, h5⟩
      · exact hold x (by simp [hx])
    · refine .inr ⟨by omega, ?_⟩
      have hN1' : Nod W1 b iv kv (its.take (plc its it.key) ++ its.drop (plc its it.key)) ((A ++ (⟨k.b, its1, insI k.L it, F1⟩ : KidD) :: B).map KidD.b) := by
        rw [List.take_append_drop, ← hmap]; exact hN1
      have := split_tre (h := h) hN1' hAC hBD hold T1 (by show its1.length = 5; omega) S1.nd (by rw [List.take_append_drop]; omega)
      rw [show ((its.take (plc its it.key)).length) = plc its it.key by rw [← hAC, hAp], List.take_append_drop, hLL] at this
      refine this.mono ?_
      rintro e W2 ⟨rfl, t, F', T2, s2⟩
      refine ⟨rfl, _, F', T2, ?_, ?_, S1.trans s2⟩
      · simp; omega
      · simp; omega
end Go.Proofs.Ytjdmgmnndfhmgaa
