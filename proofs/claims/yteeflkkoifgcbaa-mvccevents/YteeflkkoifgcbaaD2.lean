/- split: two kids of one. -/
import Derived.Test.YteeflkkoifgcbaaC3
namespace Go.Proofs.Yteeflkkoifgcbaa
open Go Go.RowKit

set_option maxRecDepth 100000 in
set_option maxHeartbeats 4000000 in
/-- split of a kid that has five items. -/
theorem split_leaf (b l i : Nat) (iv kv liv lkv : Value) (its : List Itm) (ks : List Nat) (t0 t1 t2 t3 t4 : Itm) (w : World) (hN : Nod w b iv kv its ks) (hL : Nod w l liv lkv [t0, t1, t2, t3, t4] []) (hi : ks[i]? = some l) (hil : i ≤ its.length) (hn : its.length ≤ 100) (hk : ks.length ≤ 100)
    (hnd : (nf b iv kv ++ nf l liv lkv).Nodup) :
    Calls Try.prog 53 #[ptr b, .int .i64 i] w fun e w' => e = .returned (.tuple #[]) ∧ ∃ iv' kv' liv' lkv' r riv rkv, Tri w w' (nf b iv kv ++ nf l liv lkv) b iv' kv' (its.take i ++ t2 :: its.drop i) (ks.take (i + 1) ++ r :: ks.drop (i + 1)) l liv' lkv' [t0, t1] [] r riv rkv [t3, t4] [] := by
  have hik : i < ks.length := (List.getElem?_eq_some_iff.1 hi).1
  have hlt : ∀ k ∈ nf b iv kv ++ nf l liv lkv, k < w.heap.size := fun k hk => (List.mem_append.1 hk).elim (hN.foot_lt k) (hL.foot_lt k)
  have T0 : Tri w (w.alloc (.cells #[.slice none 0 0, .slice none 0 0] 123)) (nf b iv kv ++ nf l liv lkv) b iv kv its ks l liv lkv [t0, t1, t2, t3, t4] [] w.heap.size (.slice none 0 0) (.slice none 0 0) [] [] :=
    ⟨hN.below ((Below.refl _ w).alloc (Nat.le_refl _) _), hL.below ((Below.refl _ w).alloc (Nat.le_refl _) _), Nod.fresh w, by rw [nf_fresh]; exact Step.new _ hnd hlt⟩
  obtain ⟨kg, kc, hkv, hkc, hkm⟩ := owns_form1 hN.kids (by omega)
  have kk := hN.kid hkv hi
  have c1 := hN.c1
  rw [hkv] at c1
  have s2 : isSl t2.mv := hL.mvs t2 (by simp)
  have HT0 := Hid.mk'' T0
  generalize nf b iv kv ++ nf l liv lkv = F0 at *
  clear T0 hN hL hlt hnd
  go_enter Try.func53, Try.ntmps53
  go_upto_region 1 with (fail)
  obtain ⟨W0, hW0⟩ : ∃ W0, W0 = w.alloc (.cells #[.slice none 0 0, .slice none 0 0] 123) := ⟨_, rfl⟩
  rw [← hW0] at HT0 ⊢
  clear hW0 c1 kk
  generalize w.heap.size = r at *
  obtain ⟨lg, lc, hlv, hlc, hlm⟩ := owns_form1 HT0.out.hl.items (by simp)
  have l0 := HT0.out.hl.c0
  obtain ⟨i2a, i2b⟩ := HT0.out.hl.item hlv (j := 2) (it := t2) rfl
  rw [hlv] at l0
  simp only [List.length_cons, List.length_nil, Nat.zero_add, Nat.reduceAdd, Nat.reduceMul] at l0 hlc i2a i2b hlv
  obtain ⟨key2, mv2⟩ := t2
  obtain ⟨mp, mn, mc, hmv⟩ := s2
  dsimp only at hmv i2a i2b
  subst hmv
  go_upto_region 3 with (fail)
  have HT1 : Hid (TriU w (W0.alloc (.cells #[.string key2, .slice mp mn mc] 104)) F0 b iv kv its ks l liv lkv [t0, t1, ⟨key2, .slice mp mn mc⟩, t3, t4] [] r (.slice none 0 0) (.slice none 0 0) [] [] W0.heap.size key2 (.slice mp mn mc)) :=
    ⟨HT0.out.below ((Below.refl _ W0).alloc (Nat.le_refl _) _), row_alloc W0 _ _, fun h => by have := HT0.out.s.lt _ h; omega⟩
  obtain ⟨W1, hW1⟩ : ∃ W1, W1 = W0.alloc (.cells #[.string key2, .slice mp mn mc] 104) := ⟨_, rfl⟩
  rw [← hW1] at HT1 ⊢
  clear hW1 HT0 l0 i2a i2b
  generalize W0.heap.size = u at *
  subst hlv
  have l0 := HT1.out.t.hl.c0
  have f3 := freshI_node HT1.out.t.hl HT1.out.t.hr 3 lc lg rfl (by simp) (by simp) (lc - 3)
  simp only [List.length_cons, List.length_nil, Nat.zero_add, Nat.reduceAdd, Nat.reduceMul, Nat.reduceSub, List.drop_succ_cons, List.drop_zero] at f3
  have hlc3 : ¬ (lc = 3) := by omega
  go_wp2_with (go_at_call 59; refine f3.mono ?_; rintro e w' ⟨_, rfl, ⟨rg, rc, rfl, _, _⟩, d0, d1, hR', hS'⟩)
  have HT2 := Hid.mk'' (HT1.out.onR hR' hS')
  obtain ⟨W2, hW2⟩ : ∃ W2, W2 = w'.setCell ⟨r, 0, none⟩ (.slice (some ⟨rg, 0, none⟩) 2 rc) := ⟨_, rfl⟩
  rw [← hW2] at HT2 ⊢
  clear hW2 hR' hS' d0 d1 f3 HT1 l0
  go_cut [] from 41 to 54 (fun wx => ∃ lp lc', Hid (TriU w wx F0 b iv kv its ks l (.slice lp 2 lc') lkv [t0, t1] [] r (.slice (some ⟨rg, 0, none⟩) 2 rc) (.slice none 0 0) [t3, t4] [] u key2 (.slice mp mn mc)))
  case first =>
    have l0 := HT2.out.t.hl.c0
    have hdel := fun W (hb : Below W2.heap.size W2 W) => delI_node (HT2.out.t.hl.below hb) 2 5 (by omega) (by simp) (by simp)
    simp only [List.length_cons, List.length_nil, Nat.zero_add, Nat.reduceAdd, Nat.reduceSub, List.drop_succ_cons, List.take_succ_cons, List.take_zero, List.append_nil, List.drop_nil] at hdel
    go_region_with (go_at_call 60; refine (hdel _ (Below.refl _ _).drew).mono ?_; rintro e w3 ⟨_, rfl, ⟨lp, lc', rfl⟩, d0, d1, hL', hS'⟩)
    all_goals (go_wp2_with fail; go_meet; case rel => exact ⟨_, _, HT2.out.onL hL' (Step.from (Below.refl _ _).drew hS' HT2.out.t.hl.nd HT2.out.t.hl.foot_lt)⟩)
  case rest =>
  obtain ⟨lp, lc', HT3⟩ := hcut
  clear HT2
  generalize wc = W3 at *
  have hlf := leaf_node HT3.out.t.hl
  simp only [List.length_nil] at hlf
  go_wp2_with (go_at_call 57; refine hlf.mono ?_; rintro e w4 ⟨rfl, rfl⟩)
  have HT5 := HT3
  clear HT3 hlf
  generalize w4 = W5 at *
  subst hkv
  go_cut [] from 84 to 94 (fun wx => ∃ g' c', Hid (Tri w wx F0 b (.slice (some ⟨g', 0, none⟩) (its.length + 1) c') (.slice (some ⟨kg, 0, none⟩) ks.length kc) (its.take i ++ ⟨key2, .slice mp mn mc⟩ :: its.drop i) ks l (.slice lp 2 lc') lkv [t0, t1] [] r (.slice (some ⟨rg, 0, none⟩) 2 rc) (.slice none 0 0) [t3, t4] []))
  case first =>
    obtain ⟨ip, ic, hiv, _, _⟩ := owns_form HT5.out.t.hn.items
    subst hiv
    have c0 := HT5.out.t.hn.c0
    have ca0 : ∀ o, (W5.alloc o).cell? ⟨b, 0, none⟩ = _ := fun o => (HT5.out.below ((Below.refl _ W5).alloc (Nat.le_refl _) o)).t.hn.c0
    have u0 := HT5.out.u0
    have u1 := HT5.out.u1
    have hins := fun W (hb : Below W5.heap.size W5 W) (hr : W.heap[W5.heap.size]? = some (.cells #[.string key2, .slice mp mn mc] 104 (0, 0))) => insI_node (HT5.out.t.hn.below hb) ⟨key2, .slice mp mn mc⟩ ⟨mp, mn, mc, rfl⟩ i W5.heap.size hil (by omega) hr (fun e => by have := owns_lt HT5.out.t.hn.items e; omega)
    go_region_with (go_at_call 58; refine (hins _ (by first | exact ((Below.refl _ _).drew.alloc (Nat.le_refl _) _) | exact ((Below.refl _ _).alloc (Nat.le_refl _) _).drew) (by first | exact row_alloc _ _ _ | rfl)).mono ?_; rintro e w3 ⟨_, rfl, ⟨g', c', rfl, _, _⟩, d0, d1, hN', hS'⟩)
    all_goals (go_wp2_with fail; go_meet; case rel => exact ⟨_, _, HT5.out.t.onN hN' (Step.from (by first | exact ((Below.refl _ _).drew.alloc (Nat.le_refl _) _) | exact ((Below.refl _ _).alloc (Nat.le_refl _) _).drew) hS' HT5.out.t.hn.nd HT5.out.t.hn.foot_lt)⟩)
  case rest =>
  obtain ⟨g', c', HT6⟩ := hcut
  clear HT5
  generalize wc = W6 at *
  have c1 := HT6.out.hn.c1
  have hins := insK_node (HT6.out.below (W' := W6.alloc (.cells #[ptr r] 90)) ((Below.refl _ W6).alloc (Nat.le_refl _) _)).hn r (i + 1) W6.heap.size (by omega) (by omega) (row_alloc _ _ _) (fun e => by have := owns_lt HT6.out.hn.kids e; omega)
  rw [show ((i + 1 : Nat) : Int) = (i : Int) + 1 by omega] at hins
  have ca1 : ∀ o, (W6.alloc o).cell? ⟨b, 1, none⟩ = _ := fun o => (HT6.out.below ((Below.refl _ W6).alloc (Nat.le_refl _) o)).hn.c1
  go_wp2_with (go_at_call 63; refine hins.mono ?_; rintro e w7 ⟨_, rfl, ⟨g7, c7, rfl, _, _⟩, d0, d1, hN', hS'⟩)
  first | go_end0 | refine bodyPost_ret (results_none rfl _ _ _) rfl ?_
  exact ⟨rfl, _, _, _, _, _, _, _, (HT6.out.below ((Below.refl _ W6).alloc (Nat.le_refl _) _)).onN hN' hS'⟩
end Go.Proofs.Yteeflkkoifgcbaa
