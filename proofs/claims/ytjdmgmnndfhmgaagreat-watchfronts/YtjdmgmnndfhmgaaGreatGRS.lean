/- shiftRight. -/
import Derived.Test.YtjdmgmnndfhmgaaGreatGRR
import Derived.Test.YtjdmgmnndfhmgaaGreatGRF
namespace Go.Proofs.YtjdmgmnndfhmgaaGreat
open Go Go.RowKit

theorem Nod.freeI {w : World} {b g c n : Nat} {iv kv : Value} {its : List Itm} {ks : List Nat} (h : Nod w b iv kv its ks) (hiv : iv = .slice (some ⟨g, 0, none⟩) n c) (j : Nat) : w.frozen? ⟨g, j, none⟩ = false := by
  rcases h.items.2 with ⟨h1, _⟩ | ⟨g', cap, cur, h1, _, hg, _⟩
  · rw [hiv] at h1; cases h1
  · rw [hiv] at h1; cases h1
    simp [World.frozen?, hg]

set_option maxRecDepth 100000 in
set_option maxHeartbeats 4000000 in
theorem shiftR_leaf {w0 w : World} {F0 : List Nat} {b l r i : Nat} {iv kv liv lkv riv rkv : Value} {its lits rits : List Itm} {ks : List Nat} {s t : Itm} (T : Tri w0 w F0 b iv kv its ks l liv lkv (lits ++ [t]) [] r riv rkv rits []) (hl : ks[i]? = some l) (hr : ks[i + 1]? = some r) (hs : its[i]? = some s) (hn : its.length ≤ 100) (hk : ks.length ≤ 100) (hll : lits.length ≤ 100) (hrl : rits.length ≤ 100) :
    Calls Tryz.prog 125 #[ptr b, .int .i64 i] w fun e w' => e = .returned (.tuple #[]) ∧ ∃ liv' riv', Tri w0 w' F0 b iv kv (its.set i t) ks l liv' lkv lits [] r riv' rkv (s :: rits) [] := by
  have hik : i + 1 < ks.length := (List.getElem?_eq_some_iff.1 hr).1
  have hii : i < its.length := (List.getElem?_eq_some_iff.1 hs).1
  have HT := Hid.mk'' T
  obtain ⟨kg, kc, hkv, hkc, hkm⟩ := owns_form1 T.hn.kids (by omega)
  have kk := T.hn.kid hkv hl
  have kk1 := T.hn.kid hkv hr
  have c1 := T.hn.c1
  rw [hkv] at c1
  have hw : IntKind.i64.wrap ((i : Int) + 1) = (i : Int) + 1 := by rw [IntKind.wrap_i64]; omega
  clear T
  go_enter Tryz.func125, Tryz.ntmps125
  go_wp2_with fail
  go_cut [4, 5] from 7 to 21 (fun v4 v5 wx => v4 = ptr l ∧ v5 = ptr r ∧ Hid (Tri w0 wx F0 b iv kv its ks l liv lkv (lits ++ [t]) [] r riv rkv rits []))
  case first =>
    go_region_with (fail)
    all_goals (go_wp2_with fail; go_meet; case rel => exact ⟨rfl, rfl, HT.out.below (Below.refl _ _).drew⟩)
  case rest =>
  obtain ⟨rfl, rfl, HT1⟩ := hcut
  clear HT kk kk1 c1
  generalize wc = W1 at *
  obtain ⟨lg, lc, hlv, hlc, hlm⟩ := owns_form1 HT1.out.hl.items (by simp)
  have l0 := HT1.out.hl.c0
  rw [hlv] at l0
  simp only [List.length_append, List.length_cons, List.length_nil, Nat.zero_add] at l0 hlv hlc
  go_upto_region 2 with (fail)
  obtain ⟨ng, nc, hiv, hnc, hnm⟩ := owns_form1 HT1.out.hn.items (by omega)
  obtain ⟨rp, rc, hrv, hrc, hrm⟩ := owns_form HT1.out.hr.items
  have ss : isSl s.mv := HT1.out.hn.mvs s (List.mem_of_getElem? hs)
  have st : isSl t.mv := HT1.out.hl.mvs t (by simp)
  have s01 := fun W (hb : Below W1.heap.size W1 W) => (HT1.out.hn.below hb).item hiv hs
  obtain ⟨skey, smv⟩ := s
  obtain ⟨tkey, tmv⟩ := t
  obtain ⟨sp, sn, sc, hsv⟩ := ss
  obtain ⟨tp, tn, tc, htv⟩ := st
  dsimp only at hsv htv s01
  subst hsv
  subst htv
  subst hlv
  subst hiv
  subst hrv
  go_cut [] from 28 to 43 (fun wx => ∃ g' c', Hid (Tri w0 wx F0 b (.slice (some ⟨ng, 0, none⟩) its.length nc) kv its ks l (.slice (some ⟨lg, 0, none⟩) (lits.length + 1) lc) lkv (lits ++ [⟨tkey, .slice tp tn tc⟩]) [] r (.slice (some ⟨g', 0, none⟩) (rits.length + 1) c') rkv (⟨skey, .slice sp sn sc⟩ :: rits) []))
  case first =>
    have n0 := HT1.out.hn.c0
    have r0 := HT1.out.hr.c0
    obtain ⟨s0, s1⟩ := s01 _ (Below.refl _ _)
    have ca0 : ∀ o, (W1.alloc o).cell? ⟨r, 0, none⟩ = _ := fun o => (HT1.out.below ((Below.refl _ W1).alloc (Nat.le_refl _) o)).hr.c0
    have cb0 : ∀ o, (W1.alloc o).cell? ⟨b, 0, none⟩ = _ := fun o => (HT1.out.below ((Below.refl _ W1).alloc (Nat.le_refl _) o)).hn.c0
    have hins := fun W (hb : Below W1.heap.size W1 W) (hr : W.heap[W1.heap.size]? = some (.cells #[.string skey, .slice sp sn sc] 151 (0, 0))) => insI_node (HT1.out.hr.below hb) ⟨skey, .slice sp sn sc⟩ ⟨sp, sn, sc, rfl⟩ 0 W1.heap.size (Nat.zero_le _) (by omega) hr (fun e => by have := owns_lt HT1.out.hr.items e; omega)
    simp only [List.take_zero, List.drop_zero, List.nil_append, Int.natCast_zero] at hins
    go_region_with (go_at_call 128; refine (hins _ (by first | exact ((Below.refl _ _).drew.alloc (Nat.le_refl _) _) | exact ((Below.refl _ _).alloc (Nat.le_refl _) _).drew) (by first | exact row_alloc _ _ _ | rfl)).mono ?_; rintro e w3 ⟨_, rfl, ⟨g', c', rfl, _, _⟩, d0, d1, hN', hS'⟩)
    all_goals (go_wp2_with fail; go_meet; case rel => exact ⟨_, _, HT1.out.onR hN' (Step.from (by first | exact ((Below.refl _ _).drew.alloc (Nat.le_refl _) _) | exact ((Below.refl _ _).alloc (Nat.le_refl _) _).drew) hS' HT1.out.hr.nd HT1.out.hr.foot_lt)⟩)
  case rest =>
  obtain ⟨rg, rc', HT2⟩ := hcut
  clear HT1 l0 s01
  generalize wc = W2 at *
  go_wp2_with fail
  go_cut [] from 44 to 56 (fun wx => Hid (Tri w0 wx F0 b (.slice (some ⟨ng, 0, none⟩) its.length nc) kv (its.set i ⟨tkey, .slice tp tn tc⟩) ks l (.slice (some ⟨lg, 0, none⟩) (lits.length + 1) lc) lkv (lits ++ [⟨tkey, .slice tp tn tc⟩]) [] r (.slice (some ⟨rg, 0, none⟩) (rits.length + 1) rc') rkv (⟨skey, .slice sp sn sc⟩ :: rits) []))
  case first =>
    have n0 := HT2.out.hn.c0
    have l0 := HT2.out.hl.c0
    obtain ⟨t0, t1⟩ := HT2.out.hl.item (g := lg) (c := lc) (j := lits.length) (it := ⟨tkey, .slice tp tn tc⟩) (by simp) (by simp)
    obtain ⟨s0, s1⟩ := HT2.out.hn.item rfl hs
    have f0 := HT2.out.hn.freeI rfl (i * 2)
    have f1 := HT2.out.hn.freeI rfl (i * 2 + 1)
    dsimp only at t0 t1 s0 s1
    obtain ⟨hN', hS'⟩ := (HT2.out.hn.below (Below.refl _ W2).drew).setItem rfl hii ⟨tkey, .slice tp tn tc⟩ ⟨tp, tn, tc, rfl⟩
    have HX := Hid.mk'' ((HT2.out.below (Below.refl _ W2).drew).onN hN' hS')
    clear hN' hS'
    dsimp only at HX
    go_region_with (fail)
    all_goals (go_wp2_with fail; go_meet; case rel => exact HX)
  case rest =>
  have HT3 := hcut
  clear hcut
  clear HT2
  generalize wc = W3 at *
  have l0 := HT3.out.hl.c0
  have hdel := delI_node HT3.out.hl lits.length (lits.length + 1) (by omega) (by simp) (by simp; omega)
  rw [List.take_left, List.drop_eq_nil_of_le (by simp), List.append_nil, show ((lits.length + 1 : Nat) : Int) = (lits.length : Int) + 1 by omega, show lits.length + ((lits ++ [(⟨tkey, .slice tp tn tc⟩ : Itm)]).length - (lits.length + 1)) = lits.length by simp] at hdel
  have HT3' := HT3
  go_upto_region 5 with (go_at_call 116; refine hdel.mono ?_; rintro e w4 ⟨_, rfl, ⟨lp, lc', rfl⟩, d0, d1, hL', hS'⟩)
  have HT4 := Hid.mk'' (HT3'.out.onL hL' hS')
  have hlf := leaf_node hL'
  simp only [List.length_nil] at hlf
  clear HT3 HT3' hL' hS' hdel l0 d0 d1
  generalize (w4.setCell ⟨l, 0, none⟩ (.slice lp lits.length lc')) = W4 at *
  go_wp2_with (go_at_call 115; refine hlf.mono ?_; rintro e w5 ⟨rfl, rfl⟩)
  first | go_end0 | refine bodyPost_ret (results_none rfl _ _ _) rfl ?_
  exact ⟨rfl, _, _, HT4.out⟩
end Go.Proofs.YtjdmgmnndfhmgaaGreat
/- shiftRight of inner nodes. -/
namespace Go.Proofs.YtjdmgmnndfhmgaaGreat
open Go Go.RowKit

set_option maxRecDepth 100000 in
set_option maxHeartbeats 4000000 in
theorem shiftR_in {w0 w : World} {F0 : List Nat} {b l r i : Nat} {iv kv liv lkv riv rkv : Value} {its lits rits : List Itm} {ks lk rks : List Nat} {k : Nat} {s t : Itm} (T : Tri w0 w F0 b iv kv its ks l liv lkv (lits ++ [t]) (lk ++ [k]) r riv rkv rits rks) (hl : ks[i]? = some l) (hr : ks[i + 1]? = some r) (hs : its[i]? = some s) (hn : its.length ≤ 100) (hk : ks.length ≤ 100) (hll : lits.length ≤ 100) (hrl : rits.length ≤ 100) (hlk : lk.length = lits.length + 1) (hrk : rks.length ≤ 100) :
    Calls Tryz.prog 125 #[ptr b, .int .i64 i] w fun e w' => e = .returned (.tuple #[]) ∧ ∃ liv' lkv' riv' rkv', Tri w0 w' F0 b iv kv (its.set i t) ks l liv' lkv' lits lk r riv' rkv' (s :: rits) (k :: rks) := by
  have hik : i + 1 < ks.length := (List.getElem?_eq_some_iff.1 hr).1
  have hii : i < its.length := (List.getElem?_eq_some_iff.1 hs).1
  have HT := Hid.mk'' T
  obtain ⟨kg, kc, hkv, hkc, hkm⟩ := owns_form1 T.hn.kids (by omega)
  have kk := T.hn.kid hkv hl
  have kk1 := T.hn.kid hkv hr
  have c1 := T.hn.c1
  rw [hkv] at c1
  have hw : IntKind.i64.wrap ((i : Int) + 1) = (i : Int) + 1 := by rw [IntKind.wrap_i64]; omega
  clear T
  go_enter Tryz.func125, Tryz.ntmps125
  go_wp2_with fail
  go_cut [4, 5] from 7 to 21 (fun v4 v5 wx => v4 = ptr l ∧ v5 = ptr r ∧ Hid (Tri w0 wx F0 b iv kv its ks l liv lkv (lits ++ [t]) (lk ++ [k]) r riv rkv rits rks))
  case first =>
    go_region_with (fail)
    all_goals (go_wp2_with fail; go_meet; case rel => exact ⟨rfl, rfl, HT.out.below (Below.refl _ _).drew⟩)
  case rest =>
  obtain ⟨rfl, rfl, HT1⟩ := hcut
  clear HT kk kk1 c1
  generalize wc = W1 at *
  obtain ⟨lg, lc, hlv, hlc, hlm⟩ := owns_form1 HT1.out.hl.items (by simp)
  have l0 := HT1.out.hl.c0
  rw [hlv] at l0
  simp only [List.length_append, List.length_cons, List.length_nil, Nat.zero_add] at l0 hlv hlc
  go_upto_region 2 with (fail)
  obtain ⟨ng, nc, hiv, hnc, hnm⟩ := owns_form1 HT1.out.hn.items (by omega)
  obtain ⟨rp, rc, hrv, hrc, hrm⟩ := owns_form HT1.out.hr.items
  have ss : isSl s.mv := HT1.out.hn.mvs s (List.mem_of_getElem? hs)
  have st : isSl t.mv := HT1.out.hl.mvs t (by simp)
  have s01 := fun W (hb : Below W1.heap.size W1 W) => (HT1.out.hn.below hb).item hiv hs
  obtain ⟨skey, smv⟩ := s
  obtain ⟨tkey, tmv⟩ := t
  obtain ⟨sp, sn, sc, hsv⟩ := ss
  obtain ⟨tp, tn, tc, htv⟩ := st
  dsimp only at hsv htv s01
  subst hsv
  subst htv
  subst hlv
  subst hiv
  subst hrv
  go_cut [] from 28 to 43 (fun wx => ∃ g' c', Hid (Tri w0 wx F0 b (.slice (some ⟨ng, 0, none⟩) its.length nc) kv its ks l (.slice (some ⟨lg, 0, none⟩) (lits.length + 1) lc) lkv (lits ++ [⟨tkey, .slice tp tn tc⟩]) (lk ++ [k]) r (.slice (some ⟨g', 0, none⟩) (rits.length + 1) c') rkv (⟨skey, .slice sp sn sc⟩ :: rits) rks))
  case first =>
    have n0 := HT1.out.hn.c0
    have r0 := HT1.out.hr.c0
    obtain ⟨s0, s1⟩ := s01 _ (Below.refl _ _)
    have ca0 : ∀ o, (W1.alloc o).cell? ⟨r, 0, none⟩ = _ := fun o => (HT1.out.below ((Below.refl _ W1).alloc (Nat.le_refl _) o)).hr.c0
    have cb0 : ∀ o, (W1.alloc o).cell? ⟨b, 0, none⟩ = _ := fun o => (HT1.out.below ((Below.refl _ W1).alloc (Nat.le_refl _) o)).hn.c0
    have hins := fun W (hb : Below W1.heap.size W1 W) (hr : W.heap[W1.heap.size]? = some (.cells #[.string skey, .slice sp sn sc] 151 (0, 0))) => insI_node (HT1.out.hr.below hb) ⟨skey, .slice sp sn sc⟩ ⟨sp, sn, sc, rfl⟩ 0 W1.heap.size (Nat.zero_le _) (by omega) hr (fun e => by have := owns_lt HT1.out.hr.items e; omega)
    simp only [List.take_zero, List.drop_zero, List.nil_append, Int.natCast_zero] at hins
    go_region_with (go_at_call 128; refine (hins _ (by first | exact ((Below.refl _ _).drew.alloc (Nat.le_refl _) _) | exact ((Below.refl _ _).alloc (Nat.le_refl _) _).drew) (by first | exact row_alloc _ _ _ | rfl)).mono ?_; rintro e w3 ⟨_, rfl, ⟨g', c', rfl, _, _⟩, d0, d1, hN', hS'⟩)
    all_goals (go_wp2_with fail; go_meet; case rel => exact ⟨_, _, HT1.out.onR hN' (Step.from (by first | exact ((Below.refl _ _).drew.alloc (Nat.le_refl _) _) | exact ((Below.refl _ _).alloc (Nat.le_refl _) _).drew) hS' HT1.out.hr.nd HT1.out.hr.foot_lt)⟩)
  case rest =>
  obtain ⟨rg, rc', HT2⟩ := hcut
  clear HT1 l0 s01
  generalize wc = W2 at *
  go_wp2_with fail
  go_cut [] from 44 to 56 (fun wx => Hid (Tri w0 wx F0 b (.slice (some ⟨ng, 0, none⟩) its.length nc) kv (its.set i ⟨tkey, .slice tp tn tc⟩) ks l (.slice (some ⟨lg, 0, none⟩) (lits.length + 1) lc) lkv (lits ++ [⟨tkey, .slice tp tn tc⟩]) (lk ++ [k]) r (.slice (some ⟨rg, 0, none⟩) (rits.length + 1) rc') rkv (⟨skey, .slice sp sn sc⟩ :: rits) rks))
  case first =>
    have n0 := HT2.out.hn.c0
    have l0 := HT2.out.hl.c0
    obtain ⟨t0, t1⟩ := HT2.out.hl.item (g := lg) (c := lc) (j := lits.length) (it := ⟨tkey, .slice tp tn tc⟩) (by simp) (by simp)
    obtain ⟨s0, s1⟩ := HT2.out.hn.item rfl hs
    have f0 := HT2.out.hn.freeI rfl (i * 2)
    have f1 := HT2.out.hn.freeI rfl (i * 2 + 1)
    dsimp only at t0 t1 s0 s1
    obtain ⟨hN', hS'⟩ := (HT2.out.hn.below (Below.refl _ W2).drew).setItem rfl hii ⟨tkey, .slice tp tn tc⟩ ⟨tp, tn, tc, rfl⟩
    have HX := Hid.mk'' ((HT2.out.below (Below.refl _ W2).drew).onN hN' hS')
    clear hN' hS'
    dsimp only at HX
    go_region_with (fail)
    all_goals (go_wp2_with fail; go_meet; case rel => exact HX)
  case rest =>
  have HT3 := hcut
  clear hcut
  clear HT2
  generalize wc = W3 at *
  have l0 := HT3.out.hl.c0
  have hdel := delI_node HT3.out.hl lits.length (lits.length + 1) (by omega) (by simp) (by simp; omega)
  rw [List.take_left, List.drop_eq_nil_of_le (by simp), List.append_nil, show ((lits.length + 1 : Nat) : Int) = (lits.length : Int) + 1 by omega, show lits.length + ((lits ++ [(⟨tkey, .slice tp tn tc⟩ : Itm)]).length - (lits.length + 1)) = lits.length by simp] at hdel
  have HT3' := HT3
  go_upto_region 5 with (go_at_call 116; refine hdel.mono ?_; rintro e w4 ⟨_, rfl, ⟨lp, lc', rfl⟩, d0, d1, hL', hS'⟩)
  have HT4 := Hid.mk'' (HT3'.out.onL hL' hS')
  have hlf := leaf_node hL'
  rw [show decide ((lk ++ [k]).length = 0) = false by simp] at hlf
  clear HT3 HT3' hL' hS' hdel l0 d0 d1
  generalize (w4.setCell ⟨l, 0, none⟩ (.slice lp lits.length lc')) = W4 at *
  go_wp2_with (go_at_call 115; refine hlf.mono ?_; rintro e w5 ⟨rfl, rfl⟩)
  clear hlf
  obtain ⟨qg, qc, hqv, hqc, hqm⟩ := owns_form1 HT4.out.hl.kids (by simp)
  obtain ⟨up, uc, huv, huc, hum⟩ := owns_form HT4.out.hr.kids
  have k01 := fun W (hb : Below w5.heap.size w5 W) => (HT4.out.hl.below hb).kid hqv (j := lits.length + 1) (k := k) (by rw [← hlk]; simp)
  simp only [List.length_append, List.length_cons, List.length_nil, Nat.zero_add, hlk] at hqv hqc
  subst hqv
  subst huv
  have hw2 : IntKind.i64.wrap ((lits.length : Int) + 1) = (lits.length : Int) + 1 := by rw [IntKind.wrap_i64]; omega
  go_cut [] from 71 to 87 (fun wx => ∃ g' c', Hid (Tri w0 wx F0 b (.slice (some ⟨ng, 0, none⟩) its.length nc) kv (its.set i ⟨tkey, .slice tp tn tc⟩) ks l (.slice lp lits.length lc') (.slice (some ⟨qg, 0, none⟩) (lits.length + 1 + 1) qc) lits (lk ++ [k]) r (.slice (some ⟨rg, 0, none⟩) (rits.length + 1) rc') (.slice (some ⟨g', 0, none⟩) (rks.length + 1) c') (⟨skey, .slice sp sn sc⟩ :: rits) (k :: rks)))
  case first =>
    have l1 := HT4.out.hl.c1
    have r1 := HT4.out.hr.c1
    have kc0 := k01 _ (Below.refl _ _)
    have ca1 : ∀ o, (w5.alloc o).cell? ⟨r, 1, none⟩ = _ := fun o => (HT4.out.below ((Below.refl _ w5).alloc (Nat.le_refl _) o)).hr.c1
    have cb1 : ∀ o, (w5.alloc o).cell? ⟨l, 1, none⟩ = _ := fun o => (HT4.out.below ((Below.refl _ w5).alloc (Nat.le_refl _) o)).hl.c1
    have hins := fun W (hb : Below w5.heap.size w5 W) (hr : W.heap[w5.heap.size]? = some (.cells #[ptr k] 123 (0, 0))) => insK_node (HT4.out.hr.below hb) k 0 w5.heap.size (Nat.zero_le _) (by omega) hr (fun e => by have := owns_lt HT4.out.hr.kids e; omega)
    simp only [List.take_zero, List.drop_zero, List.nil_append, Int.natCast_zero] at hins
    go_region_with (go_at_call 132; refine (hins _ (by first | exact ((Below.refl _ _).drew.alloc (Nat.le_refl _) _) | exact ((Below.refl _ _).alloc (Nat.le_refl _) _).drew) (by first | exact row_alloc _ _ _ | rfl)).mono ?_; rintro e w6 ⟨_, rfl, ⟨g', c', rfl, _, _⟩, d0, d1, hN', hS'⟩)
    all_goals (go_wp2_with fail; go_meet; case rel => exact ⟨_, _, HT4.out.onR hN' (Step.from (by first | exact ((Below.refl _ _).drew.alloc (Nat.le_refl _) _) | exact ((Below.refl _ _).alloc (Nat.le_refl _) _).drew) hS' HT4.out.hr.nd HT4.out.hr.foot_lt)⟩)
  case rest =>
  obtain ⟨vg, vc, HT5⟩ := hcut
  clear HT4 k01
  generalize wc = W5 at *
  have l1 := HT5.out.hl.c1
  have hdel := delK_node HT5.out.hl (lits.length + 1) (lits.length + 2) (by omega) (by simp; omega) (by simp; omega)
  rw [← hlk, List.take_left, List.drop_eq_nil_of_le (by simp; omega), List.append_nil, hlk, show ((lits.length + 1 : Nat) : Int) = (lits.length : Int) + 1 by omega, show ((lits.length + 2 : Nat) : Int) = (lits.length : Int) + 2 by omega, show lits.length + 1 + ((lk ++ [k]).length - (lits.length + 2)) = lits.length + 1 by simp; omega] at hdel
  go_wp2_with (go_at_call 131; refine hdel.mono ?_; rintro e w7 ⟨_, rfl, ⟨lp7, lc7, rfl⟩, d0, d1, hL', hS'⟩)
  first | go_end0 | refine bodyPost_ret (results_none rfl _ _ _) rfl ?_
  exact ⟨rfl, _, _, _, _, HT5.out.onL hL' hS'⟩
end Go.Proofs.YtjdmgmnndfhmgaaGreat
/- shiftLeft of leaves. -/
namespace Go.Proofs.YtjdmgmnndfhmgaaGreat
open Go Go.RowKit

set_option maxRecDepth 100000 in
set_option maxHeartbeats 4000000 in
theorem shiftL_leaf {w0 w : World} {F0 : List Nat} {b l r i : Nat} {iv kv liv lkv riv rkv : Value} {its lits rits : List Itm} {ks : List Nat} {s t : Itm} (T : Tri w0 w F0 b iv kv its ks l liv lkv lits [] r riv rkv (t :: rits) []) (hl : ks[i]? = some l) (hr : ks[i + 1]? = some r) (hs : its[i]? = some s) (hn : its.length ≤ 100) (hk : ks.length ≤ 100) (hll : lits.length ≤ 100) (hrl : rits.length ≤ 100) :
    Calls Tryz.prog 126 #[ptr b, .int .i64 i] w fun e w' => e = .returned (.tuple #[]) ∧ ∃ liv' riv', Tri w0 w' F0 b iv kv (its.set i t) ks l liv' lkv (lits ++ [s]) [] r riv' rkv rits [] := by
  have hik : i + 1 < ks.length := (List.getElem?_eq_some_iff.1 hr).1
  have hii : i < its.length := (List.getElem?_eq_some_iff.1 hs).1
  have HT := Hid.mk'' T
  obtain ⟨kg, kc, hkv, hkc, hkm⟩ := owns_form1 T.hn.kids (by omega)
  have kk := T.hn.kid hkv hl
  have kk1 := T.hn.kid hkv hr
  have c1 := T.hn.c1
  rw [hkv] at c1
  have hw : IntKind.i64.wrap ((i : Int) + 1) = (i : Int) + 1 := by rw [IntKind.wrap_i64]; omega
  clear T
  go_enter Tryz.func126, Tryz.ntmps126
  go_wp2_with fail
  go_cut [4, 5] from 6 to 20 (fun v4 v5 wx => v4 = ptr l ∧ v5 = ptr r ∧ Hid (Tri w0 wx F0 b iv kv its ks l liv lkv lits [] r riv rkv (t :: rits) []))
  case first =>
    go_region_with (fail)
    all_goals (go_wp2_with fail; go_meet; case rel => exact ⟨rfl, rfl, HT.out.below (Below.refl _ _).drew⟩)
  case rest =>
  obtain ⟨rfl, rfl, HT1⟩ := hcut
  clear HT kk kk1 c1
  generalize wc = W1 at *
  go_wp2_with fail
  obtain ⟨lp, lc, hlv, hlc, hlm⟩ := owns_form HT1.out.hl.items
  obtain ⟨ng, nc, hiv, hnc, hnm⟩ := owns_form1 HT1.out.hn.items (by omega)
  obtain ⟨rg, rc, hrv, hrc, hrm⟩ := owns_form1 HT1.out.hr.items (by simp)
  simp only [List.length_cons] at hrv hrc
  have ss : isSl s.mv := HT1.out.hn.mvs s (List.mem_of_getElem? hs)
  have st : isSl t.mv := HT1.out.hr.mvs t (by simp)
  have s01 := fun W (hb : Below W1.heap.size W1 W) => (HT1.out.hn.below hb).item hiv hs
  obtain ⟨skey, smv⟩ := s
  obtain ⟨tkey, tmv⟩ := t
  obtain ⟨sp, sn, sc, hsv⟩ := ss
  obtain ⟨tp, tn, tc, htv⟩ := st
  dsimp only at hsv htv s01
  subst hsv
  subst htv
  subst hlv
  subst hiv
  subst hrv
  go_cut [] from 21 to 36 (fun wx => ∃ g' c', Hid (Tri w0 wx F0 b (.slice (some ⟨ng, 0, none⟩) its.length nc) kv its ks l (.slice (some ⟨g', 0, none⟩) (lits.length + 1) c') lkv (lits ++ [⟨skey, .slice sp sn sc⟩]) [] r (.slice (some ⟨rg, 0, none⟩) (rits.length + 1) rc) rkv (⟨tkey, .slice tp tn tc⟩ :: rits) []))
  case first =>
    have n0 := HT1.out.hn.c0
    have l0 := HT1.out.hl.c0
    obtain ⟨s0, s1⟩ := s01 _ (Below.refl _ _)
    have ca0 : ∀ o, (W1.alloc o).cell? ⟨l, 0, none⟩ = _ := fun o => (HT1.out.below ((Below.refl _ W1).alloc (Nat.le_refl _) o)).hl.c0
    have HMK : Hid (∀ W, Below W1.heap.size W1 W → W.ownsRow 0 151 2 (.slice lp lits.length lc) lits.length (itsC lits)) := fun W hb => (HT1.out.hl.below hb).items
    obtain ⟨ti, hti, hz0, hz1, hz2⟩ := info_parts info66
    have HSR : Hid (∀ W, W.heap[W1.heap.size]? = some (.cells #[.string skey, .slice sp sn sc] 151 (0, 0)) → Src Tryz.prog 2 183 (.slice (some ⟨W1.heap.size, 0, none⟩) 1 1) 1 (itC ⟨skey, .slice sp sn sc⟩) W) := fun W hr => Src.ofSlice W Tryz.underlying183 ⟨W1.heap.size, 0, none⟩ 1 1 (itC ⟨skey, .slice sp sn sc⟩) rfl (fun j u hj => by
      rw [Addr.add_lit, Nat.zero_add, cell_of_row _ _ _ _ _ _ hr]; simpa [itC] using hj) (fun u hu => itsC_mem (its := [⟨skey, .slice sp sn sc⟩]) (by simp [isSl]) u (by rw [itsC_one]; exact hu))
    have HAP : Hid (∀ V w' v', Below W1.heap.size W1 V → w'.ownsRow 0 151 2 v' (lits.length + 1) (itsC lits ++ itC ⟨skey, .slice sp sn sc⟩) → Upd V w' (fun k => some k = (Value.slice lp lits.length lc).ownBlock) → (v'.ownBlock = (Value.slice lp lits.length lc).ownBlock ∨ v'.ownBlock = some V.heap.size) →
        w'.cell? ⟨l, 0, none⟩ = some (.slice lp lits.length lc) ∧ w'.frozen? ⟨l, 0, none⟩ = false ∧ Hid (Tri w0 (w'.setCell ⟨l, 0, none⟩ v') F0 b (.slice (some ⟨ng, 0, none⟩) its.length nc) kv its ks l v' lkv (lits ++ [⟨skey, .slice sp sn sc⟩]) [] r (.slice (some ⟨rg, 0, none⟩) (rits.length + 1) rc) rkv (⟨tkey, .slice tp tn tc⟩ :: rits) [])) := fun V w' v' hb q1 q2 q3 => by
      rw [← itsC_one] at q1
      obtain ⟨d0, d1, hN', hS'⟩ := (HT1.out.hl.below hb).appI q1 rfl q2 q3 (by simp [isSl])
      exact ⟨d0, d1, HT1.out.onL hN' (Step.from hb hS' HT1.out.hl.nd HT1.out.hl.foot_lt)⟩
    clear HT1 s01
    go_region_law (refine step_appS _ rfl _ _ 183 183 rfl 0 151 ti _ 2 Tryz.underlying183 hti hz0 hz1 rfl (by rw [hz2]; omega) (.slice lp lits.length lc) lits.length (itsC lits) (by simp [Act.eval]) (HMK.out _ (by first | exact ((Below.refl _ _).drew.alloc (Nat.le_refl _) _) | exact ((Below.refl _ _).alloc (Nat.le_refl _) _).drew)) (.slice (some ⟨W1.heap.size, 0, none⟩) 1 1) (by simp [Act.eval]) 1 (itC ⟨skey, .slice sp sn sc⟩) (HSR.out _ (by first | exact row_alloc _ _ _ | rfl)) (by omega) (Nat.zero_le _) ?_; intro v' w' q1 q2 q3 q4; obtain ⟨d0, d1, hX⟩ := HAP.out _ _ _ (by first | exact ((Below.refl _ _).drew.alloc (Nat.le_refl _) _) | exact ((Below.refl _ _).alloc (Nat.le_refl _) _).drew) q1 q2 q3; obtain ⟨g', c', rfl, _, _⟩ := owns_form1 q1 (by omega))
    all_goals (go_wp2_with fail; go_meet; case rel => exact ⟨_, _, hX⟩)
  case rest =>
  obtain ⟨lg, lc', HT2⟩ := hcut
  clear HT1 s01
  generalize wc = W2 at *
  go_wp2_with fail
  go_cut [] from 37 to 48 (fun wx => Hid (Tri w0 wx F0 b (.slice (some ⟨ng, 0, none⟩) its.length nc) kv (its.set i ⟨tkey, .slice tp tn tc⟩) ks l (.slice (some ⟨lg, 0, none⟩) (lits.length + 1) lc') lkv (lits ++ [⟨skey, .slice sp sn sc⟩]) [] r (.slice (some ⟨rg, 0, none⟩) (rits.length + 1) rc) rkv (⟨tkey, .slice tp tn tc⟩ :: rits) []))
  case first =>
    have n0 := HT2.out.hn.c0
    have r0 := HT2.out.hr.c0
    obtain ⟨t0, t1⟩ := HT2.out.hr.item (g := rg) (c := rc) (j := 0) (it := ⟨tkey, .slice tp tn tc⟩) (by simp) (by simp)
    obtain ⟨s0, s1⟩ := HT2.out.hn.item rfl hs
    have f0 := HT2.out.hn.freeI rfl (i * 2)
    have f1 := HT2.out.hn.freeI rfl (i * 2 + 1)
    simp only [Nat.zero_mul, Nat.zero_add] at t0 t1
    dsimp only at s0 s1
    obtain ⟨hN', hS'⟩ := (HT2.out.hn.below (Below.refl _ W2).drew).setItem rfl hii ⟨tkey, .slice tp tn tc⟩ ⟨tp, tn, tc, rfl⟩
    have HX := Hid.mk'' ((HT2.out.below (Below.refl _ W2).drew).onN hN' hS')
    clear hN' hS'
    dsimp only at HX
    go_region_with (fail)
    all_goals (go_wp2_with fail; go_meet; case rel => exact HX)
  case rest =>
  have HT3 := hcut
  clear hcut
  clear HT2
  generalize wc = W3 at *
  have r0 := HT3.out.hr.c0
  have hdel := delI_node HT3.out.hr 0 1 (by omega) (by simp) (by simp; omega)
  simp only [List.take_zero, List.nil_append, List.drop_succ_cons, List.drop_zero, List.length_cons, Nat.zero_add, Nat.add_sub_cancel, Int.natCast_zero, Int.natCast_one] at hdel
  have HT3' := HT3
  go_upto_region 4 with (go_at_call 116; refine hdel.mono ?_; rintro e w4 ⟨_, rfl, ⟨rp', rc', rfl⟩, d0, d1, hL', hS'⟩)
  have HT4 := Hid.mk'' (HT3'.out.onR hL' hS')
  have hlf := leaf_node hL'
  simp only [List.length_nil] at hlf
  clear HT3 HT3' hL' hS' hdel r0 d0 d1
  generalize (w4.setCell ⟨r, 0, none⟩ (.slice rp' rits.length rc')) = W4 at *
  go_wp2_with (go_at_call 115; refine hlf.mono ?_; rintro e w5 ⟨rfl, rfl⟩)
  first | go_end0 | refine bodyPost_ret (results_none rfl _ _ _) rfl ?_
  exact ⟨rfl, _, _, HT4.out⟩
end Go.Proofs.YtjdmgmnndfhmgaaGreat
/- shiftLeft of inner nodes. -/
namespace Go.Proofs.YtjdmgmnndfhmgaaGreat
open Go Go.RowKit

set_option maxRecDepth 100000 in
set_option maxHeartbeats 4000000 in
theorem shiftL_in {w0 w : World} {F0 : List Nat} {b l r i : Nat} {iv kv liv lkv riv rkv : Value} {its lits rits : List Itm} {ks lks rk : List Nat} {k : Nat} {s t : Itm} (T : Tri w0 w F0 b iv kv its ks l liv lkv lits lks r riv rkv (t :: rits) (k :: rk)) (hl : ks[i]? = some l) (hr : ks[i + 1]? = some r) (hs : its[i]? = some s) (hn : its.length ≤ 100) (hk : ks.length ≤ 100) (hll : lits.length ≤ 100) (hrl : rits.length ≤ 100) (hlk : lks.length ≤ 100) (hrk : rk.length ≤ 100) :
    Calls Tryz.prog 126 #[ptr b, .int .i64 i] w fun e w' => e = .returned (.tuple #[]) ∧ ∃ liv' lkv' riv' rkv', Tri w0 w' F0 b iv kv (its.set i t) ks l liv' lkv' (lits ++ [s]) (lks ++ [k]) r riv' rkv' rits rk := by
  have hik : i + 1 < ks.length := (List.getElem?_eq_some_iff.1 hr).1
  have hii : i < its.length := (List.getElem?_eq_some_iff.1 hs).1
  have HT := Hid.mk'' T
  obtain ⟨kg, kc, hkv, hkc, hkm⟩ := owns_form1 T.hn.kids (by omega)
  have kk := T.hn.kid hkv hl
  have kk1 := T.hn.kid hkv hr
  have c1 := T.hn.c1
  rw [hkv] at c1
  have hw : IntKind.i64.wrap ((i : Int) + 1) = (i : Int) + 1 := by rw [IntKind.wrap_i64]; omega
  clear T
  go_enter Tryz.func126, Tryz.ntmps126
  go_wp2_with fail
  go_cut [4, 5] from 6 to 20 (fun v4 v5 wx => v4 = ptr l ∧ v5 = ptr r ∧ Hid (Tri w0 wx F0 b iv kv its ks l liv lkv lits lks r riv rkv (t :: rits) (k :: rk)))
  case first =>
    go_region_with (fail)
    all_goals (go_wp2_with fail; go_meet; case rel => exact ⟨rfl, rfl, HT.out.below (Below.refl _ _).drew⟩)
  case rest =>
  obtain ⟨rfl, rfl, HT1⟩ := hcut
  clear HT kk kk1 c1
  generalize wc = W1 at *
  go_wp2_with fail
  obtain ⟨lp, lc, hlv, hlc, hlm⟩ := owns_form HT1.out.hl.items
  obtain ⟨ng, nc, hiv, hnc, hnm⟩ := owns_form1 HT1.out.hn.items (by omega)
  obtain ⟨rg, rc, hrv, hrc, hrm⟩ := owns_form1 HT1.out.hr.items (by simp)
  simp only [List.length_cons] at hrv hrc
  have ss : isSl s.mv := HT1.out.hn.mvs s (List.mem_of_getElem? hs)
  have st : isSl t.mv := HT1.out.hr.mvs t (by simp)
  have s01 := fun W (hb : Below W1.heap.size W1 W) => (HT1.out.hn.below hb).item hiv hs
  obtain ⟨skey, smv⟩ := s
  obtain ⟨tkey, tmv⟩ := t
  obtain ⟨sp, sn, sc, hsv⟩ := ss
  obtain ⟨tp, tn, tc, htv⟩ := st
  dsimp only at hsv htv s01
  subst hsv
  subst htv
  subst hlv
  subst hiv
  subst hrv
  go_cut [] from 21 to 36 (fun wx => ∃ g' c', Hid (Tri w0 wx F0 b (.slice (some ⟨ng, 0, none⟩) its.length nc) kv its ks l (.slice (some ⟨g', 0, none⟩) (lits.length + 1) c') lkv (lits ++ [⟨skey, .slice sp sn sc⟩]) lks r (.slice (some ⟨rg, 0, none⟩) (rits.length + 1) rc) rkv (⟨tkey, .slice tp tn tc⟩ :: rits) (k :: rk)))
  case first =>
    have n0 := HT1.out.hn.c0
    have l0 := HT1.out.hl.c0
    obtain ⟨s0, s1⟩ := s01 _ (Below.refl _ _)
    have ca0 : ∀ o, (W1.alloc o).cell? ⟨l, 0, none⟩ = _ := fun o => (HT1.out.below ((Below.refl _ W1).alloc (Nat.le_refl _) o)).hl.c0
    have HMK : Hid (∀ W, Below W1.heap.size W1 W → W.ownsRow 0 151 2 (.slice lp lits.length lc) lits.length (itsC lits)) := fun W hb => (HT1.out.hl.below hb).items
    obtain ⟨ti, hti, hz0, hz1, hz2⟩ := info_parts info66
    have HSR : Hid (∀ W, W.heap[W1.heap.size]? = some (.cells #[.string skey, .slice sp sn sc] 151 (0, 0)) → Src Tryz.prog 2 183 (.slice (some ⟨W1.heap.size, 0, none⟩) 1 1) 1 (itC ⟨skey, .slice sp sn sc⟩) W) := fun W hr => Src.ofSlice W Tryz.underlying183 ⟨W1.heap.size, 0, none⟩ 1 1 (itC ⟨skey, .slice sp sn sc⟩) rfl (fun j u hj => by
      rw [Addr.add_lit, Nat.zero_add, cell_of_row _ _ _ _ _ _ hr]; simpa [itC] using hj) (fun u hu => itsC_mem (its := [⟨skey, .slice sp sn sc⟩]) (by simp [isSl]) u (by rw [itsC_one]; exact hu))
    have HAP : Hid (∀ V w' v', Below W1.heap.size W1 V → w'.ownsRow 0 151 2 v' (lits.length + 1) (itsC lits ++ itC ⟨skey, .slice sp sn sc⟩) → Upd V w' (fun k => some k = (Value.slice lp lits.length lc).ownBlock) → (v'.ownBlock = (Value.slice lp lits.length lc).ownBlock ∨ v'.ownBlock = some V.heap.size) →
        w'.cell? ⟨l, 0, none⟩ = some (.slice lp lits.length lc) ∧ w'.frozen? ⟨l, 0, none⟩ = false ∧ Hid (Tri w0 (w'.setCell ⟨l, 0, none⟩ v') F0 b (.slice (some ⟨ng, 0, none⟩) its.length nc) kv its ks l v' lkv (lits ++ [⟨skey, .slice sp sn sc⟩]) lks r (.slice (some ⟨rg, 0, none⟩) (rits.length + 1) rc) rkv (⟨tkey, .slice tp tn tc⟩ :: rits) (k :: rk))) := fun V w' v' hb q1 q2 q3 => by
      rw [← itsC_one] at q1
      obtain ⟨d0, d1, hN', hS'⟩ := (HT1.out.hl.below hb).appI q1 rfl q2 q3 (by simp [isSl])
      exact ⟨d0, d1, HT1.out.onL hN' (Step.from hb hS' HT1.out.hl.nd HT1.out.hl.foot_lt)⟩
    clear HT1 s01
    go_region_law (refine step_appS _ rfl _ _ 183 183 rfl 0 151 ti _ 2 Tryz.underlying183 hti hz0 hz1 rfl (by rw [hz2]; omega) (.slice lp lits.length lc) lits.length (itsC lits) (by simp [Act.eval]) (HMK.out _ (by first | exact ((Below.refl _ _).drew.alloc (Nat.le_refl _) _) | exact ((Below.refl _ _).alloc (Nat.le_refl _) _).drew)) (.slice (some ⟨W1.heap.size, 0, none⟩) 1 1) (by simp [Act.eval]) 1 (itC ⟨skey, .slice sp sn sc⟩) (HSR.out _ (by first | exact row_alloc _ _ _ | rfl)) (by omega) (Nat.zero_le _) ?_; intro v' w' q1 q2 q3 q4; obtain ⟨d0, d1, hX⟩ := HAP.out _ _ _ (by first | exact ((Below.refl _ _).drew.alloc (Nat.le_refl _) _) | exact ((Below.refl _ _).alloc (Nat.le_refl _) _).drew) q1 q2 q3; obtain ⟨g', c', rfl, _, _⟩ := owns_form1 q1 (by omega))
    all_goals (go_wp2_with fail; go_meet; case rel => exact ⟨_, _, hX⟩)
  case rest =>
  obtain ⟨lg, lc', HT2⟩ := hcut
  clear HT1 s01
  generalize wc = W2 at *
  go_wp2_with fail
  go_cut [] from 37 to 48 (fun wx => Hid (Tri w0 wx F0 b (.slice (some ⟨ng, 0, none⟩) its.length nc) kv (its.set i ⟨tkey, .slice tp tn tc⟩) ks l (.slice (some ⟨lg, 0, none⟩) (lits.length + 1) lc') lkv (lits ++ [⟨skey, .slice sp sn sc⟩]) lks r (.slice (some ⟨rg, 0, none⟩) (rits.length + 1) rc) rkv (⟨tkey, .slice tp tn tc⟩ :: rits) (k :: rk)))
  case first =>
    have n0 := HT2.out.hn.c0
    have r0 := HT2.out.hr.c0
    obtain ⟨t0, t1⟩ := HT2.out.hr.item (g := rg) (c := rc) (j := 0) (it := ⟨tkey, .slice tp tn tc⟩) (by simp) (by simp)
    obtain ⟨s0, s1⟩ := HT2.out.hn.item rfl hs
    have f0 := HT2.out.hn.freeI rfl (i * 2)
    have f1 := HT2.out.hn.freeI rfl (i * 2 + 1)
    simp only [Nat.zero_mul, Nat.zero_add] at t0 t1
    dsimp only at s0 s1
    obtain ⟨hN', hS'⟩ := (HT2.out.hn.below (Below.refl _ W2).drew).setItem rfl hii ⟨tkey, .slice tp tn tc⟩ ⟨tp, tn, tc, rfl⟩
    have HX := Hid.mk'' ((HT2.out.below (Below.refl _ W2).drew).onN hN' hS')
    clear hN' hS'
    dsimp only at HX
    go_region_with (fail)
    all_goals (go_wp2_with fail; go_meet; case rel => exact HX)
  case rest =>
  have HT3 := hcut
  clear hcut
  clear HT2
  generalize wc = W3 at *
  have r0 := HT3.out.hr.c0
  have hdel := delI_node HT3.out.hr 0 1 (by omega) (by simp) (by simp; omega)
  simp only [List.take_zero, List.nil_append, List.drop_succ_cons, List.drop_zero, List.length_cons, Nat.zero_add, Nat.add_sub_cancel, Int.natCast_zero, Int.natCast_one] at hdel
  have HT3' := HT3
  go_upto_region 4 with (go_at_call 116; refine hdel.mono ?_; rintro e w4 ⟨_, rfl, ⟨rp', rc', rfl⟩, d0, d1, hL', hS'⟩)
  have HT4 := Hid.mk'' (HT3'.out.onR hL' hS')
  have hlf := leaf_node hL'
  rw [show decide ((k :: rk).length = 0) = false by simp] at hlf
  clear HT3 HT3' hL' hS' hdel r0 d0 d1
  generalize (w4.setCell ⟨r, 0, none⟩ (.slice rp' rits.length rc')) = W4 at *
  go_wp2_with (go_at_call 115; refine hlf.mono ?_; rintro e w5 ⟨rfl, rfl⟩)
  clear hlf
  obtain ⟨qp, qc, hqv, hqc, hqm⟩ := owns_form HT4.out.hl.kids
  obtain ⟨ug, uc, huv, huc, hum⟩ := owns_form1 HT4.out.hr.kids (by simp)
  have kc0 := HT4.out.hr.kid huv (j := 0) (k := k) (by simp)
  simp only [List.length_cons] at huv huc
  subst hqv
  subst huv
  go_cut [] from 60 to 74 (fun wx => ∃ g' c', Hid (Tri w0 wx F0 b (.slice (some ⟨ng, 0, none⟩) its.length nc) kv (its.set i ⟨tkey, .slice tp tn tc⟩) ks l (.slice (some ⟨lg, 0, none⟩) (lits.length + 1) lc') (.slice (some ⟨g', 0, none⟩) (lks.length + 1) c') (lits ++ [⟨skey, .slice sp sn sc⟩]) (lks ++ [k]) r (.slice rp' rits.length rc') (.slice (some ⟨ug, 0, none⟩) (rk.length + 1) uc) rits (k :: rk)))
  case first =>
    have l1 := HT4.out.hl.c1
    have r1 := HT4.out.hr.c1
    have ca1 : ∀ o, (w5.alloc o).cell? ⟨l, 1, none⟩ = _ := fun o => (HT4.out.below ((Below.refl _ w5).alloc (Nat.le_refl _) o)).hl.c1
    have HMK : Hid (∀ W, Below w5.heap.size w5 W → W.ownsRow 0 123 1 (.slice qp lks.length qc) lks.length (lks.map ptr)) := fun W hb => (HT4.out.hl.below hb).kids
    obtain ⟨ti, hti, hz0, hz1, hz2⟩ := info_parts info57
    have HSR : Hid (∀ W, W.heap[w5.heap.size]? = some (.cells #[ptr k] 123 (0, 0)) → Src Tryz.prog 1 184 (.slice (some ⟨w5.heap.size, 0, none⟩) 1 1) 1 [ptr k] W) := fun W hr => Src.ofSlice W Tryz.underlying184 ⟨w5.heap.size, 0, none⟩ 1 1 [ptr k] rfl (fun j u hj => by
      rw [Addr.add_lit, Nat.zero_add, cell_of_row _ _ _ _ _ _ hr]; simpa using hj) (ptrs_mem [k])
    have HAP : Hid (∀ V w' v', Below w5.heap.size w5 V → w'.ownsRow 0 123 1 v' (lks.length + 1) (lks.map ptr ++ [ptr k]) → Upd V w' (fun j => some j = (Value.slice qp lks.length qc).ownBlock) → (v'.ownBlock = (Value.slice qp lks.length qc).ownBlock ∨ v'.ownBlock = some V.heap.size) →
        w'.cell? ⟨l, 1, none⟩ = some (.slice qp lks.length qc) ∧ w'.frozen? ⟨l, 1, none⟩ = false ∧ Hid (Tri w0 (w'.setCell ⟨l, 1, none⟩ v') F0 b (.slice (some ⟨ng, 0, none⟩) its.length nc) kv (its.set i ⟨tkey, .slice tp tn tc⟩) ks l (.slice (some ⟨lg, 0, none⟩) (lits.length + 1) lc') v' (lits ++ [⟨skey, .slice sp sn sc⟩]) (lks ++ [k]) r (.slice rp' rits.length rc') (.slice (some ⟨ug, 0, none⟩) (rk.length + 1) uc) rits (k :: rk))) := fun V w' v' hb q1 q2 q3 => by
      obtain ⟨d0, d1, hN', hS'⟩ := (HT4.out.hl.below hb).appK (news := [k]) q1 rfl q2 q3
      exact ⟨d0, d1, HT4.out.onL hN' (Step.from hb hS' HT4.out.hl.nd HT4.out.hl.foot_lt)⟩
    clear HT4
    go_region_law (refine step_appS _ rfl _ _ 184 184 rfl 0 123 ti _ 1 Tryz.underlying184 hti hz0 hz1 rfl (by rw [hz2]; omega) (.slice qp lks.length qc) lks.length (lks.map ptr) (by simp [Act.eval]) (HMK.out _ (by first | exact ((Below.refl _ _).drew.alloc (Nat.le_refl _) _) | exact ((Below.refl _ _).alloc (Nat.le_refl _) _).drew)) (.slice (some ⟨w5.heap.size, 0, none⟩) 1 1) (by simp [Act.eval]) 1 [ptr k] (HSR.out _ (by first | exact row_alloc _ _ _ | rfl)) (by omega) (Nat.zero_le _) ?_; intro v' w' q1 q2 q3 q4; obtain ⟨d0, d1, hX⟩ := HAP.out _ _ _ (by first | exact ((Below.refl _ _).drew.alloc (Nat.le_refl _) _) | exact ((Below.refl _ _).alloc (Nat.le_refl _) _).drew) q1 q2 q3; obtain ⟨g', c', rfl, _, _⟩ := owns_form1 q1 (by omega))
    all_goals (go_wp2_with fail; go_meet; case rel => exact ⟨_, _, hX⟩)
  case rest =>
  obtain ⟨vg, vc, HT5⟩ := hcut
  clear HT4 kc0
  generalize wc = W5 at *
  have r1 := HT5.out.hr.c1
  have hdel := delK_node HT5.out.hr 0 1 (by omega) (by simp) (by simp; omega)
  simp only [List.take_zero, List.nil_append, List.drop_succ_cons, List.drop_zero, List.length_cons, Nat.zero_add, Nat.add_sub_cancel, Int.natCast_zero, Int.natCast_one] at hdel
  go_wp2_with (go_at_call 131; refine hdel.mono ?_; rintro e w7 ⟨_, rfl, ⟨lp7, lc7, rfl⟩, d0, d1, hL', hS'⟩)
  first | go_end0 | refine bodyPost_ret (results_none rfl _ _ _) rfl ?_
  exact ⟨rfl, _, _, _, _, HT5.out.onR hL' hS'⟩
end Go.Proofs.YtjdmgmnndfhmgaaGreat
