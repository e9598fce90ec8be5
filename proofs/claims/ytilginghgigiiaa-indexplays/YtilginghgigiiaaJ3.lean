/- shiftRight. -/
import Derived.Test.YtilginghgigiiaaJ2
namespace Go.Proofs.Ytilginghgigiiaa
open Go Go.RowKit

theorem Nod.freeI {w : World} {b g c n : Nat} {iv kv : Value} {its : List Itm} {ks : List Nat} (h : Nod w b iv kv its ks) (hiv : iv = .slice (some ⟨g, 0, none⟩) n c) (j : Nat) : w.frozen? ⟨g, j, none⟩ = false := by
  rcases h.items.2 with ⟨h1, _⟩ | ⟨g', cap, cur, h1, _, hg, _⟩
  · rw [hiv] at h1; cases h1
  · rw [hiv] at h1; cases h1
    simp [World.frozen?, hg]

set_option maxRecDepth 100000 in
set_option maxHeartbeats 4000000 in
theorem shiftR_leaf {w0 w : World} {F0 : List Nat} {b l r i : Nat} {iv kv liv lkv riv rkv : Value} {its lits rits : List Itm} {ks : List Nat} {s t : Itm} (T : Tri w0 w F0 b iv kv its ks l liv lkv (lits ++ [t]) [] r riv rkv rits []) (hl : ks[i]? = some l) (hr : ks[i + 1]? = some r) (hs : its[i]? = some s) (hn : its.length ≤ 100) (hk : ks.length ≤ 100) (hll : lits.length ≤ 100) (hrl : rits.length ≤ 100) :
    Calls Try.prog 62 #[ptr b, .int .i64 i] w fun e w' => e = .returned (.tuple #[]) ∧ ∃ liv' riv', Tri w0 w' F0 b iv kv (its.set i t) ks l liv' lkv lits [] r riv' rkv (s :: rits) [] := by
  have hik : i + 1 < ks.length := (List.getElem?_eq_some_iff.1 hr).1
  have hii : i < its.length := (List.getElem?_eq_some_iff.1 hs).1
  have HT := Hid.mk'' T
  obtain ⟨kg, kc, hkv, hkc, hkm⟩ := owns_form1 T.hn.kids (by omega)
  have kk := T.hn.kid hkv hl
  have kk1 := T.hn.kid hkv hr
  have c1 := T.hn.c1
  rw [hkv] at c1
  have hw : IntKind.i64.wrap ((i : Int) + 1) = (i : Int) + 1 := by rw [IntKind.wrap_i64]; omega
  clear T
  go_enter Try.func62, Try.ntmps62
  go_wp2_with fail
  go_cut [4, 5] from 7 to 21 (fun v4 v5 wx => v4 = ptr l ∧ v5 = ptr r ∧ Hid (Tri w0 wx F0 b iv kv its ks l liv lkv (lits ++ [t]) [] r riv rkv rits []))
  case first =>
    go_region_with (fail)
    all_goals (go_wp2_with fail; go_meet; case rel => exact ⟨rfl, rfl, HT.out.below (Below.refl _ _).drew⟩)
  case rest =>
  obtain ⟨rfl, rfl, HT1⟩ := hcut
  clear HT kk kk1 c1
  generalize wc = W1 at *
  obtain ⟨lg, lc, hlv, hlc, hlm⟩ := owns_form1 HT1.out.hl.items (by simp)
  have l0 := HT1.out.hl.c0
  rw [hlv] at l0
  simp only [List.length_append, List.length_cons, List.length_nil, Nat.zero_add] at l0 hlv hlc
  go_upto_region 2 with (fail)
  obtain ⟨ng, nc, hiv, hnc, hnm⟩ := owns_form1 HT1.out.hn.items (by omega)
  obtain ⟨rp, rc, hrv, hrc, hrm⟩ := owns_form HT1.out.hr.items
  have ss : isSl s.mv := HT1.out.hn.mvs s (List.mem_of_getElem? hs)
  have st : isSl t.mv := HT1.out.hl.mvs t (by simp)
  have s01 := fun W (hb : Below W1.heap.size W1 W) => (HT1.out.hn.below hb).item hiv hs
  obtain ⟨skey, smv⟩ := s
  obtain ⟨tkey, tmv⟩ := t
  obtain ⟨sp, sn, sc, hsv⟩ := ss
  obtain ⟨tp, tn, tc, htv⟩ := st
  dsimp only at hsv htv s01
  subst hsv
  subst htv
  subst hlv
  subst hiv
  subst hrv
  go_cut [] from 28 to 43 (fun wx => ∃ g' c', Hid (Tri w0 wx F0 b (.slice (some ⟨ng, 0, none⟩) its.length nc) kv its ks l (.slice (some ⟨lg, 0, none⟩) (lits.length + 1) lc) lkv (lits ++ [⟨tkey, .slice tp tn tc⟩]) [] r (.slice (some ⟨g', 0, none⟩) (rits.length + 1) c') rkv (⟨skey, .slice sp sn sc⟩ :: rits) []))
  case first =>
    have n0 := HT1.out.hn.c0
    have r0 := HT1.out.hr.c0
    obtain ⟨s0, s1⟩ := s01 _ (Below.refl _ _)
    have ca0 : ∀ o, (W1.alloc o).cell? ⟨r, 0, none⟩ = _ := fun o => (HT1.out.below ((Below.refl _ W1).alloc (Nat.le_refl _) o)).hr.c0
    have cb0 : ∀ o, (W1.alloc o).cell? ⟨b, 0, none⟩ = _ := fun o => (HT1.out.below ((Below.refl _ W1).alloc (Nat.le_refl _) o)).hn.c0
    have hins := fun W (hb : Below W1.heap.size W1 W) (hr : W.heap[W1.heap.size]? = some (.cells #[.string skey, .slice sp sn sc] 66 (0, 0))) => insI_node (HT1.out.hr.below hb) ⟨skey, .slice sp sn sc⟩ ⟨sp, sn, sc, rfl⟩ 0 W1.heap.size (Nat.zero_le _) (by omega) hr (fun e => by have := owns_lt HT1.out.hr.items e; omega)
    simp only [List.take_zero, List.drop_zero, List.nil_append, Int.natCast_zero] at hins
    go_region_with (go_at_call 48; refine (hins _ (by first | exact ((Below.refl _ _).drew.alloc (Nat.le_refl _) _) | exact ((Below.refl _ _).alloc (Nat.le_refl _) _).drew) (by first | exact row_alloc _ _ _ | rfl)).mono ?_; rintro e w3 ⟨_, rfl, ⟨g', c', rfl, _, _⟩, d0, d1, hN', hS'⟩)
    all_goals (go_wp2_with fail; go_meet; case rel => exact ⟨_, _, HT1.out.onR hN' (Step.from (by first | exact ((Below.refl _ _).drew.alloc (Nat.le_refl _) _) | exact ((Below.refl _ _).alloc (Nat.le_refl _) _).drew) hS' HT1.out.hr.nd HT1.out.hr.foot_lt)⟩)
  case rest =>
  obtain ⟨rg, rc', HT2⟩ := hcut
  clear HT1 l0 s01
  generalize wc = W2 at *
  go_wp2_with fail
  go_cut [] from 44 to 56 (fun wx => Hid (Tri w0 wx F0 b (.slice (some ⟨ng, 0, none⟩) its.length nc) kv (its.set i ⟨tkey, .slice tp tn tc⟩) ks l (.slice (some ⟨lg, 0, none⟩) (lits.length + 1) lc) lkv (lits ++ [⟨tkey, .slice tp tn tc⟩]) [] r (.slice (some ⟨rg, 0, none⟩) (rits.length + 1) rc') rkv (⟨skey, .slice sp sn sc⟩ :: rits) []))
  case first =>
    have n0 := HT2.out.hn.c0
    have l0 := HT2.out.hl.c0
    obtain ⟨t0, t1⟩ := HT2.out.hl.item (g := lg) (c := lc) (j := lits.length) (it := ⟨tkey, .slice tp tn tc⟩) (by simp) (by simp)
    obtain ⟨s0, s1⟩ := HT2.out.hn.item rfl hs
    have f0 := HT2.out.hn.freeI rfl (i * 2)
    have f1 := HT2.out.hn.freeI rfl (i * 2 + 1)
    dsimp only at t0 t1 s0 s1
    obtain ⟨hN', hS'⟩ := (HT2.out.hn.below (Below.refl _ W2).drew).setItem rfl hii ⟨tkey, .slice tp tn tc⟩ ⟨tp, tn, tc, rfl⟩
    have HX := Hid.mk'' ((HT2.out.below (Below.refl _ W2).drew).onN hN' hS')
    clear hN' hS'
    dsimp only at HX
    go_region_with (fail)
    all_goals (go_wp2_with fail; go_meet; case rel => exact HX)
  case rest =>
  have HT3 := hcut
  clear hcut
  clear HT2
  generalize wc = W3 at *
  have l0 := HT3.out.hl.c0
  have hdel := delI_node HT3.out.hl lits.length (lits.length + 1) (by omega) (by simp) (by simp; omega)
  rw [List.take_left, List.drop_eq_nil_of_le (by simp), List.append_nil, show ((lits.length + 1 : Nat) : Int) = (lits.length : Int) + 1 by omega, show lits.length + ((lits ++ [(⟨tkey, .slice tp tn tc⟩ : Itm)]).length - (lits.length + 1)) = lits.length by simp] at hdel
  have HT3' := HT3
  go_upto_region 5 with (go_at_call 50; refine hdel.mono ?_; rintro e w4 ⟨_, rfl, ⟨lp, lc', rfl⟩, d0, d1, hL', hS'⟩)
  have HT4 := Hid.mk'' (HT3'.out.onL hL' hS')
  have hlf := leaf_node hL'
  simp only [List.length_nil] at hlf
  clear HT3 HT3' hL' hS' hdel l0 d0 d1
  generalize (w4.setCell ⟨l, 0, none⟩ (.slice lp lits.length lc')) = W4 at *
  go_wp2_with (go_at_call 47; refine hlf.mono ?_; rintro e w5 ⟨rfl, rfl⟩)
  first | go_end0 | refine bodyPost_ret (results_none rfl _ _ _) rfl ?_
  exact ⟨rfl, _, _, HT4.out⟩
end Go.Proofs.Ytilginghgigiiaa
