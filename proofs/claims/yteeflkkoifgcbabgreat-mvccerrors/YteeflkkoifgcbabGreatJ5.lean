/- shiftLeft of leaves. -/
import Derived.Test.YteeflkkoifgcbabGreatGRJ
import Derived.Test.YteeflkkoifgcbabGreatGRC
namespace Go.Proofs.YteeflkkoifgcbabGreat
open Go Go.RowKit

set_option maxRecDepth 100000 in
set_option maxHeartbeats 4000000 in
theorem shiftL_leaf {w0 w : World} {F0 : List Nat} {b l r i : Nat} {iv kv liv lkv riv rkv : Value} {its lits rits : List Itm} {ks : List Nat} {s t : Itm} (T : Tri w0 w F0 b iv kv its ks l liv lkv lits [] r riv rkv (t :: rits) []) (hl : ks[i]? = some l) (hr : ks[i + 1]? = some r) (hs : its[i]? = some s) (hn : its.length ≤ 100) (hk : ks.length ≤ 100) (hll : lits.length ≤ 100) (hrl : rits.length ≤ 100) :
    Calls Tryz.prog 86 #[ptr b, .int .i64 i] w fun e w' => e = .returned (.tuple #[]) ∧ ∃ liv' riv', Tri w0 w' F0 b iv kv (its.set i t) ks l liv' lkv (lits ++ [s]) [] r riv' rkv rits [] := by
  have hik : i + 1 < ks.length := (List.getElem?_eq_some_iff.1 hr).1
  have hii : i < its.length := (List.getElem?_eq_some_iff.1 hs).1
  have HT := Hid.mk'' T
  obtain ⟨kg, kc, hkv, hkc, hkm⟩ := owns_form1 T.hn.kids (by omega)
  have kk := T.hn.kid hkv hl
  have kk1 := T.hn.kid hkv hr
  have c1 := T.hn.c1
  rw [hkv] at c1
  have hw : IntKind.i64.wrap ((i : Int) + 1) = (i : Int) + 1 := by rw [IntKind.wrap_i64]; omega
  clear T
  go_enter Tryz.func86, Tryz.ntmps86
  go_wp2_with fail
  go_cut [4, 5] from 6 to 20 (fun v4 v5 wx => v4 = ptr l ∧ v5 = ptr r ∧ Hid (Tri w0 wx F0 b iv kv its ks l liv lkv lits [] r riv rkv (t :: rits) []))
  case first =>
    go_region_with (fail)
    all_goals (go_wp2_with fail; go_meet; case rel => exact ⟨rfl, rfl, HT.out.below (Below.refl _ _).drew⟩)
  case rest =>
  obtain ⟨rfl, rfl, HT1⟩ := hcut
  clear HT kk kk1 c1
  generalize wc = W1 at *
  go_wp2_with fail
  obtain ⟨lp, lc, hlv, hlc, hlm⟩ := owns_form HT1.out.hl.items
  obtain ⟨ng, nc, hiv, hnc, hnm⟩ := owns_form1 HT1.out.hn.items (by omega)
  obtain ⟨rg, rc, hrv, hrc, hrm⟩ := owns_form1 HT1.out.hr.items (by simp)
  simp only [List.length_cons] at hrv hrc
  have ss : isSl s.mv := HT1.out.hn.mvs s (List.mem_of_getElem? hs)
  have st : isSl t.mv := HT1.out.hr.mvs t (by simp)
  have s01 := fun W (hb : Below W1.heap.size W1 W) => (HT1.out.hn.below hb).item hiv hs
  obtain ⟨skey, smv⟩ := s
  obtain ⟨tkey, tmv⟩ := t
  obtain ⟨sp, sn, sc, hsv⟩ := ss
  obtain ⟨tp, tn, tc, htv⟩ := st
  dsimp only at hsv htv s01
  subst hsv
  subst htv
  subst hlv
  subst hiv
  subst hrv
  go_cut [] from 21 to 36 (fun wx => ∃ g' c', Hid (Tri w0 wx F0 b (.slice (some ⟨ng, 0, none⟩) its.length nc) kv its ks l (.slice (some ⟨g', 0, none⟩) (lits.length + 1) c') lkv (lits ++ [⟨skey, .slice sp sn sc⟩]) [] r (.slice (some ⟨rg, 0, none⟩) (rits.length + 1) rc) rkv (⟨tkey, .slice tp tn tc⟩ :: rits) []))
  case first =>
    have n0 := HT1.out.hn.c0
    have l0 := HT1.out.hl.c0
    obtain ⟨s0, s1⟩ := s01 _ (Below.refl _ _)
    have ca0 : ∀ o, (W1.alloc o).cell? ⟨l, 0, none⟩ = _ := fun o => (HT1.out.below ((Below.refl _ W1).alloc (Nat.le_refl _) o)).hl.c0
    have HMK : Hid (∀ W, Below W1.heap.size W1 W → W.ownsRow 0 97 2 (.slice lp lits.length lc) lits.length (itsC lits)) := fun W hb => (HT1.out.hl.below hb).items
    obtain ⟨ti, hti, hz0, hz1, hz2⟩ := info_parts info66
    have HSR : Hid (∀ W, W.heap[W1.heap.size]? = some (.cells #[.string skey, .slice sp sn sc] 97 (0, 0)) → Src Tryz.prog 2 122 (.slice (some ⟨W1.heap.size, 0, none⟩) 1 1) 1 (itC ⟨skey, .slice sp sn sc⟩) W) := fun W hr => Src.ofSlice W Tryz.underlying122 ⟨W1.heap.size, 0, none⟩ 1 1 (itC ⟨skey, .slice sp sn sc⟩) rfl (fun j u hj => by
      rw [Addr.add_lit, Nat.zero_add, cell_of_row _ _ _ _ _ _ hr]; simpa [itC] using hj) (fun u hu => itsC_mem (its := [⟨skey, .slice sp sn sc⟩]) (by simp [isSl]) u (by rw [itsC_one]; exact hu))
    have HAP : Hid (∀ V w' v', Below W1.heap.size W1 V → w'.ownsRow 0 97 2 v' (lits.length + 1) (itsC lits ++ itC ⟨skey, .slice sp sn sc⟩) → Upd V w' (fun k => some k = (Value.slice lp lits.length lc).ownBlock) → (v'.ownBlock = (Value.slice lp lits.length lc).ownBlock ∨ v'.ownBlock = some V.heap.size) →
        w'.cell? ⟨l, 0, none⟩ = some (.slice lp lits.length lc) ∧ w'.frozen? ⟨l, 0, none⟩ = false ∧ Hid (Tri w0 (w'.setCell ⟨l, 0, none⟩ v') F0 b (.slice (some ⟨ng, 0, none⟩) its.length nc) kv its ks l v' lkv (lits ++ [⟨skey, .slice sp sn sc⟩]) [] r (.slice (some ⟨rg, 0, none⟩) (rits.length + 1) rc) rkv (⟨tkey, .slice tp tn tc⟩ :: rits) [])) := fun V w' v' hb q1 q2 q3 => by
      rw [← itsC_one] at q1
      obtain ⟨d0, d1, hN', hS'⟩ := (HT1.out.hl.below hb).appI q1 rfl q2 q3 (by simp [isSl])
      exact ⟨d0, d1, HT1.out.onL hN' (Step.from hb hS' HT1.out.hl.nd HT1.out.hl.foot_lt)⟩
    clear HT1 s01
    go_region_law (refine step_appS _ rfl _ _ 122 122 rfl 0 97 ti _ 2 Tryz.underlying122 hti hz0 hz1 rfl (by rw [hz2]; omega) (.slice lp lits.length lc) lits.length (itsC lits) (by simp [Act.eval]) (HMK.out _ (by first | exact ((Below.refl _ _).drew.alloc (Nat.le_refl _) _) | exact ((Below.refl _ _).alloc (Nat.le_refl _) _).drew)) (.slice (some ⟨W1.heap.size, 0, none⟩) 1 1) (by simp [Act.eval]) 1 (itC ⟨skey, .slice sp sn sc⟩) (HSR.out _ (by first | exact row_alloc _ _ _ | rfl)) (by omega) (Nat.zero_le _) ?_; intro v' w' q1 q2 q3 q4; obtain ⟨d0, d1, hX⟩ := HAP.out _ _ _ (by first | exact ((Below.refl _ _).drew.alloc (Nat.le_refl _) _) | exact ((Below.refl _ _).alloc (Nat.le_refl _) _).drew) q1 q2 q3; obtain ⟨g', c', rfl, _, _⟩ := owns_form1 q1 (by omega))
    all_goals (go_wp2_with fail; go_meet; case rel => exact ⟨_, _, hX⟩)
  case rest =>
  obtain ⟨lg, lc', HT2⟩ := hcut
  clear HT1 s01
  generalize wc = W2 at *
  go_wp2_with fail
  go_cut [] from 37 to 48 (fun wx => Hid (Tri w0 wx F0 b (.slice (some ⟨ng, 0, none⟩) its.length nc) kv (its.set i ⟨tkey, .slice tp tn tc⟩) ks l (.slice (some ⟨lg, 0, none⟩) (lits.length + 1) lc') lkv (lits ++ [⟨skey, .slice sp sn sc⟩]) [] r (.slice (some ⟨rg, 0, none⟩) (rits.length + 1) rc) rkv (⟨tkey, .slice tp tn tc⟩ :: rits) []))
  case first =>
    have n0 := HT2.out.hn.c0
    have r0 := HT2.out.hr.c0
    obtain ⟨t0, t1⟩ := HT2.out.hr.item (g := rg) (c := rc) (j := 0) (it := ⟨tkey, .slice tp tn tc⟩) (by simp) (by simp)
    obtain ⟨s0, s1⟩ := HT2.out.hn.item rfl hs
    have f0 := HT2.out.hn.freeI rfl (i * 2)
    have f1 := HT2.out.hn.freeI rfl (i * 2 + 1)
    simp only [Nat.zero_mul, Nat.zero_add] at t0 t1
    dsimp only at s0 s1
    obtain ⟨hN', hS'⟩ := (HT2.out.hn.below (Below.refl _ W2).drew).setItem rfl hii ⟨tkey, .slice tp tn tc⟩ ⟨tp, tn, tc, rfl⟩
    have HX := Hid.mk'' ((HT2.out.below (Below.refl _ W2).drew).onN hN' hS')
    clear hN' hS'
    dsimp only at HX
    go_region_with (fail)
    all_goals (go_wp2_with fail; go_meet; case rel => exact HX)
  case rest =>
  have HT3 := hcut
  clear hcut
  clear HT2
  generalize wc = W3 at *
  have r0 := HT3.out.hr.c0
  have hdel := delI_node HT3.out.hr 0 1 (by omega) (by simp) (by simp; omega)
  simp only [List.take_zero, List.nil_append, List.drop_succ_cons, List.drop_zero, List.length_cons, Nat.zero_add, Nat.add_sub_cancel, Int.natCast_zero, Int.natCast_one] at hdel
  have HT3' := HT3
  go_upto_region 4 with (go_at_call 76; refine hdel.mono ?_; rintro e w4 ⟨_, rfl, ⟨rp', rc', rfl⟩, d0, d1, hL', hS'⟩)
  have HT4 := Hid.mk'' (HT3'.out.onR hL' hS')
  have hlf := leaf_node hL'
  simp only [List.length_nil] at hlf
  clear HT3 HT3' hL' hS' hdel r0 d0 d1
  generalize (w4.setCell ⟨r, 0, none⟩ (.slice rp' rits.length rc')) = W4 at *
  go_wp2_with (go_at_call 75; refine hlf.mono ?_; rintro e w5 ⟨rfl, rfl⟩)
  first | go_end0 | refine bodyPost_ret (results_none rfl _ _ _) rfl ?_
  exact ⟨rfl, _, _, HT4.out⟩
end Go.Proofs.YteeflkkoifgcbabGreat
