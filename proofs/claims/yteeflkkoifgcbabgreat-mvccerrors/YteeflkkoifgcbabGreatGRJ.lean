/- Taking away at a leaf. -/
import Derived.Test.YteeflkkoifgcbabGreatEA
namespace Go.Proofs.YteeflkkoifgcbabGreat
open Go Go.RowKit

theorem size_setCell' (w : World) (p : Addr) (v : Value) : (w.setCell p v).heap.size = w.heap.size := by simp [World.setCell]
set_option maxRecDepth 100000 in
set_option maxHeartbeats 1000000 in
theorem drop_leaf {w : World} {b : Nat} {iv kv : Value} {its : List Itm} (hN : Nod w b iv kv its []) (hs : Asc (keysI its)) (hn : its.length ≤ 100) (key : ByteArray) (hp : plc its key < its.length) :
    Calls Tryz.prog 63 #[ptr b, .string key] w fun e w' => e = .returned (.tuple #[]) ∧ ∃ iv', Nod w' b iv' kv (its.take (plc its key) ++ its.drop (plc its key + 1)) [] ∧ Step w w' (nf b iv kv) (nf b iv' kv) := by
  have hpl := place_node hN hs (by omega) key
  have HC : Hid (∀ W, Below w.heap.size w W → W.cell? ⟨b, 0, none⟩ = some iv) := fun W hb => (hN.below hb).c0
  have HL : Hid (∀ W, Below w.heap.size w W → Calls Tryz.prog 75 #[ptr b] W fun e w' => e = .returned (.bool true) ∧ w' = W) := fun W hb => leaf_node (hN.below hb)
  have HD : Hid (∀ W, Below w.heap.size w W → Calls Tryz.prog 76 #[iv, .int .i64 (plc its key), .int .i64 ((plc its key : Int) + 1)] W fun e w' => ∃ p n c, e = .returned (.slice p n c) ∧ w'.cell? ⟨b, 0, none⟩ = some iv ∧ w'.frozen? ⟨b, 0, none⟩ = false ∧ ∃ iv', Nod (w'.setCell ⟨b, 0, none⟩ (.slice p n c)) b iv' kv (its.take (plc its key) ++ its.drop (plc its key + 1)) [] ∧ Step w (w'.setCell ⟨b, 0, none⟩ (.slice p n c)) (nf b iv kv) (nf b iv' kv)) := fun W hb => by
    have := delI_node (hN.below hb) (plc its key) (plc its key + 1) (by omega) (by omega) (by omega)
    refine this.mono ?_
    rintro e w' ⟨iv', rfl, ⟨p, c, rfl⟩, h1, h2, h3, h4⟩
    exact ⟨p, _, c, rfl, h1, h2, _, h3, Step.from hb h4 hN.nd hN.foot_lt⟩
  obtain ⟨p0, c0, hiv, _⟩ := owns_form hN.items
  clear hN hs
  generalize plc its key = p at *
  subst hiv
  go_enter Tryz.func63, Tryz.ntmps63
  go_wp2_with (first | (go_at_call 73; refine hpl.mono ?_; rintro e w1 ⟨rfl, hb⟩; have hc := HC.out _ hb) | (go_at_call 75; refine (HL.out _ hb).mono ?_; rintro e w2 ⟨rfl, rfl⟩) | (go_at_call 76; refine (HD.out _ hb).mono ?_; rintro e w3 ⟨q, n, c, rfl, d0, d1, hX⟩))
  refine bodyPost_ret (results_none rfl _ _ _) rfl ?_
  exact ⟨rfl, hX⟩

set_option maxRecDepth 100000 in
set_option maxHeartbeats 1000000 in
theorem takeLast_leaf {w : World} {b : Nat} {iv kv : Value} {ini : List Itm} {it : Itm} (hN : Nod w b iv kv (ini ++ [it]) []) (hn : ini.length ≤ 100) :
    Calls Tryz.prog 77 #[ptr b] w fun e w' => e = .returned (.agg #[.string it.key, it.mv]) ∧ ∃ iv', Nod w' b iv' kv ini [] ∧ Step w w' (nf b iv kv) (nf b iv' kv) := by
  have hlen : (ini ++ [it]).length = ini.length + 1 := by simp
  have HL : Hid (∀ W, Below w.heap.size w W → Calls Tryz.prog 75 #[ptr b] W fun e w' => e = .returned (.bool true) ∧ w' = W) := fun W hb => leaf_node (hN.below hb)
  have HD : Hid (∀ W, Below w.heap.size w W → ∀ x y : Nat, w.heap.size ≤ x → w.heap.size ≤ y → ∀ o o', W.heap[x]? = some o → W.heap[y]? = some o' → Calls Tryz.prog 76 #[iv, .int .i64 (ini.length), .int .i64 ((ini.length : Int) + 1)] W fun e w' => ∃ p n c, e = .returned (.slice p n c) ∧ w'.cell? ⟨b, 0, none⟩ = some iv ∧ w'.frozen? ⟨b, 0, none⟩ = false ∧ w'.heap[x]? = some o ∧ w'.heap[y]? = some o' ∧ ∃ iv', x ∉ nf b iv' kv ∧ Nod (w'.setCell ⟨b, 0, none⟩ (.slice p n c)) b iv' kv ini [] ∧ Step w (w'.setCell ⟨b, 0, none⟩ (.slice p n c)) (nf b iv kv) (nf b iv' kv)) := fun W hb x y hx hy o o' ho ho' => by
    have := delI_node (hN.below hb) ini.length (ini.length + 1) (by omega) (by rw [hlen]; omega) (by rw [hlen]; omega)
    refine this.mono ?_
    rintro e w' ⟨iv', rfl, ⟨p, c, rfl⟩, h1, h2, h3, h4⟩
    rw [List.take_left, List.drop_eq_nil_of_le (by rw [hlen]; omega), List.append_nil] at h3
    have hout : ∀ z, w.heap.size ≤ z → ∀ u, W.heap[z]? = some u → w'.heap[z]? = some u := fun z hz u hu => by
      have hzn : z ∉ nf b iv kv := fun h => by have := hN.foot_lt z h; omega
      have h5 := h4.upd.block z (Array.getElem?_eq_some_iff.1 hu).1 hzn
      rw [heap_setCell_other _ _ _ _ _ (fun e => by have := hN.lt; omega)] at h5
      exact h5.trans hu
    exact ⟨p, _, c, rfl, h1, h2, hout x hx _ ho, hout y hy _ ho', _, fun hm => by
      rcases h4.sub x hm with h | h
      · have := hN.foot_lt x h; omega
      · have := (Array.getElem?_eq_some_iff.1 ho).1; omega, h3, Step.from hb h4 hN.nd hN.foot_lt⟩
  have HC : Hid (∀ W, Below w.heap.size w W → W.cell? ⟨b, 0, none⟩ = some iv) := fun W hb => (hN.below hb).c0
  have hbl := hN.lt
  obtain ⟨g, c0, hiv, _, _⟩ := owns_form1 hN.items (by rw [hlen]; omega)
  have HI : Hid (∀ W, Below w.heap.size w W → W.cell? ⟨g, ini.length * 2, none⟩ = some (.string it.key) ∧ W.cell? ⟨g, ini.length * 2 + 1, none⟩ = some it.mv) := fun W hb => by
    exact (hN.below hb).item hiv (by simp)
  obtain ⟨mp, mn, mc, hmv⟩ : isSl it.mv := hN.mvs it (by simp)
  obtain ⟨key, mv⟩ := it
  dsimp only at *
  subst hmv
  rw [hlen] at hiv
  clear hN hlen
  subst hiv
  go_enter Tryz.func77, Tryz.ntmps77
  go_upto_region 1 with (fail)
  have hb0 : Below w.heap.size w (w.alloc (.cells #[.string ⟨#[]⟩, .slice none 0 0] 97)) := (Below.refl _ w).alloc (Nat.le_refl _) _
  have hc := HC.out _ hb0
  obtain ⟨i0, i1⟩ := HI.out _ hb0
  go_wp2_with (go_at_call 75; refine (HL.out _ (by first | assumption | exact hb0)).mono ?_; rintro e w2 ⟨rfl, rfl⟩)
  have rx := row_alloc w #[.string ⟨#[]⟩, .slice none 0 0] 97
  have ry := row_alloc (w.alloc (.cells #[.string ⟨#[]⟩, .slice none 0 0] 97)) #[.string key, .slice mp mn mc] 97
  rw [World.size_alloc] at ry
  have rx' := (Below.heap_alloc (w.alloc (.cells #[.string ⟨#[]⟩, .slice none 0 0] 97)) (.cells #[.string key, .slice mp mn mc] 97) w.heap.size (by simp)).trans rx
  refine (HD.out _ (hb0.alloc (by simp) _) w.heap.size (w.heap.size + 1) (Nat.le_refl _) (by omega) _ _ rx' ry).mono ?_
  rintro e w3 ⟨q, n, c, rfl, d0, d1, d2, d3, hX⟩
  have x0 : w3.cell? ⟨w.heap.size, 0, none⟩ = some (.string ⟨#[]⟩) := by simp [World.cell?, d2]
  have x1 : w3.cell? ⟨w.heap.size, 1, none⟩ = some (.slice none 0 0) := by simp [World.cell?, d2]
  have f0 : w3.frozen? ⟨w.heap.size, 0, none⟩ = false := by simp [World.frozen?, d2]
  have f1 : w3.frozen? ⟨w.heap.size, 1, none⟩ = false := by simp [World.frozen?, d2]
  have y0 : w3.cell? ⟨w.heap.size + 1, 0, none⟩ = some (.string key) := by simp [World.cell?, d3]
  have y1 : w3.cell? ⟨w.heap.size + 1, 1, none⟩ = some (.slice mp mn mc) := by simp [World.cell?, d3]
  clear HD HL HC HI rx ry rx' hb0 i0 i1 hc
  go_wp2
  refine bodyPost_ret (v := .agg #[.string key, .slice mp mn mc]) (by simp [results, Tryz.results77, go_sem, x0, x1]) rfl ⟨rfl, ?_⟩
  obtain ⟨iv', hx, h1, h2⟩ := hX
  refine ⟨iv', (h1.agree fun k hk => ?_), (h2.upd.setCell (p := ⟨w.heap.size, 0, none⟩) (.inl (Nat.le_refl _)) _).setCell (p := ⟨w.heap.size, 1, none⟩) (.inl (Nat.le_refl _)) _, h2.nd, h2.sub, fun k hk => by rw [size_setCell', size_setCell']; exact h2.lt k hk⟩
  have hne : k ≠ w.heap.size := fun e => hx (e ▸ hk)
  rw [heap_setCell_other _ _ _ _ _ hne, heap_setCell_other _ _ _ _ _ hne]
end Go.Proofs.YteeflkkoifgcbabGreat
/- A node's item set; append onto a node's items and kids. -/
namespace Go.Proofs.YteeflkkoifgcbabGreat
open Go Go.RowKit

theorem itsC_set2 : ∀ (its : List Itm) (i : Nat) (it : Itm), i < its.length → ((itsC its).set (i * 2) (.string it.key)).set (i * 2 + 1) it.mv = itsC (its.set i it)
  | [], i, it, h => by simp at h
  | a :: l, 0, it, h => by simp [itsC, itC]
  | a :: l, i + 1, it, h => by
    have ih := itsC_set2 l i it (by simpa using h)
    rw [show (i + 1) * 2 + 1 = (i * 2 + 1) + 1 + 1 by omega, show (i + 1) * 2 = i * 2 + 1 + 1 by omega]
    simp only [itsC, List.flatMap_cons, itC, List.cons_append, List.nil_append, List.set_cons_succ] at ih ⊢
    rw [ih]
/-- n.items[i] = it. -/
theorem Nod.setItem {w : World} {b g c i : Nat} {iv kv : Value} {its : List Itm} {ks : List Nat} (h : Nod w b iv kv its ks) (hiv : iv = .slice (some ⟨g, 0, none⟩) its.length c) (hi : i < its.length) (it : Itm) (hm : isSl it.mv) :
    Nod ((w.setCell ⟨g, i * 2, none⟩ (.string it.key)).setCell ⟨g, i * 2 + 1, none⟩ it.mv) b iv kv (its.set i it) ks ∧ Step w ((w.setCell ⟨g, i * 2, none⟩ (.string it.key)).setCell ⟨g, i * 2 + 1, none⟩ it.mv) (nf b iv kv) (nf b iv kv) := by
  have hnd := h.nd
  have hib : iv.ownBlock = some g := by rw [hiv]; rfl
  have hgm : g ∈ nf b iv kv := by simp [nf, hib]
  simp only [nf, hib, List.nodup_cons, List.mem_append, Option.mem_toList, not_or] at hnd
  obtain ⟨⟨n1, n2⟩, n3⟩ := hnd
  have hbg : b ≠ g := fun e => n1 (by rw [e])
  have hkg : ∀ k, kv.ownBlock = some k → k ≠ g := fun k hk e => by rw [hk, e] at n3; simp at n3
  have hoth : ∀ k, k ≠ g → ((w.setCell ⟨g, i * 2, none⟩ (.string it.key)).setCell ⟨g, i * 2 + 1, none⟩ it.mv).heap[k]? = w.heap[k]? := fun k hk => (heap_setCell_other _ g _ k _ hk).trans (heap_setCell_other w g _ k _ hk)
  refine ⟨⟨(hoth b hbg).trans h.blk, ?_, ownsRow_agree h.kids (fun k hk => hoth k (hkg k hk)), fun x hx => ?_, h.nd⟩, ⟨?_, h.nd, fun k hk => .inl hk, fun k hk => ?_⟩⟩
  · rw [List.length_set]
    rcases h.items.2 with ⟨h1, _⟩ | ⟨g', cap, cur, h1, _, hg, hnc, hcm, hcs, ht⟩
    · rw [hiv] at h1; cases h1
    · rw [hiv] at h1
      cases h1
      rw [hiv]
      refine owns_of_row (heap_setCell_row (heap_setCell_row hg (.string it.key)) it.mv) hnc hcm (by simp [hcs]) ?_ (by rw [itsC_len]; simp)
      rw [Array.set!_eq_setIfInBounds, Array.toList_setIfInBounds, List.take_set, Array.set!_eq_setIfInBounds, Array.toList_setIfInBounds, List.take_set, ht, itsC_set2 its i it hi]
  · rcases List.mem_or_eq_of_mem_set hx with hx | rfl
    · exact h.mvs x hx
    · exact hm
  · exact ((Upd.refl w _).setCell (p := ⟨g, i * 2, none⟩) (.inr hgm) _).setCell (p := ⟨g, i * 2 + 1, none⟩) (.inr hgm) _
  · rw [size_setCell', size_setCell']; exact h.foot_lt k hk
/-- What an append onto a node's items leaves. -/
theorem Nod.appI {w w' : World} {b : Nat} {iv kv v' : Value} {its news : List Itm} {ks : List Nat} {m : Nat} (h : Nod w b iv kv its ks) (ho : w'.ownsRow 0 97 2 v' (its.length + m) (itsC its ++ itsC news)) (hm : news.length = m) (hu : Upd w w' (fun k => some k = iv.ownBlock))
    (hb : v'.ownBlock = iv.ownBlock ∨ v'.ownBlock = some w.heap.size) (hmv : ∀ it ∈ news, isSl it.mv) :
    w'.cell? ⟨b, 0, none⟩ = some iv ∧ w'.frozen? ⟨b, 0, none⟩ = false ∧ Nod (w'.setCell ⟨b, 0, none⟩ v') b v' kv (its ++ news) ks ∧ Step w (w'.setCell ⟨b, 0, none⟩ v') (nf b iv kv) (nf b v' kv) := by
  subst hm
  rw [← List.length_append, ← itsC_append] at ho
  have hs := h.setItems ho hu (hb.imp id (fun h => ⟨_, h, Nat.le_refl _⟩)) (fun x hx => (List.mem_append.1 hx).elim (h.mvs x) (hmv x))
  obtain ⟨d0, d1⟩ := cell_upd hu h.blk (fun e => (nf_iv h.nd).1 e.symm) (j := 0) (v := iv) rfl
  exact ⟨d0, d1, hs.1, hs.2⟩
theorem Nod.appK {w w' : World} {b : Nat} {iv kv v' : Value} {its : List Itm} {ks news : List Nat} {m : Nat} (h : Nod w b iv kv its ks) (ho : w'.ownsRow 0 78 1 v' (ks.length + m) (ks.map ptr ++ news.map ptr)) (hm : news.length = m) (hu : Upd w w' (fun k => some k = kv.ownBlock))
    (hb : v'.ownBlock = kv.ownBlock ∨ v'.ownBlock = some w.heap.size) :
    w'.cell? ⟨b, 1, none⟩ = some kv ∧ w'.frozen? ⟨b, 1, none⟩ = false ∧ Nod (w'.setCell ⟨b, 1, none⟩ v') b iv v' its (ks ++ news) ∧ Step w (w'.setCell ⟨b, 1, none⟩ v') (nf b iv kv) (nf b iv v') := by
  subst hm
  rw [← List.length_append, ← List.map_append] at ho
  have hs := h.setKids ho hu (hb.imp id (fun h => ⟨_, h, Nat.le_refl _⟩))
  obtain ⟨d0, d1⟩ := cell_upd hu h.blk (fun e => (nf_iv h.nd).2 e.symm) (j := 1) (v := kv) rfl
  exact ⟨d0, d1, hs.1, hs.2⟩
end Go.Proofs.YteeflkkoifgcbabGreat
/- shiftRight. -/
namespace Go.Proofs.YteeflkkoifgcbabGreat
open Go Go.RowKit

theorem Nod.freeI {w : World} {b g c n : Nat} {iv kv : Value} {its : List Itm} {ks : List Nat} (h : Nod w b iv kv its ks) (hiv : iv = .slice (some ⟨g, 0, none⟩) n c) (j : Nat) : w.frozen? ⟨g, j, none⟩ = false := by
  rcases h.items.2 with ⟨h1, _⟩ | ⟨g', cap, cur, h1, _, hg, _⟩
  · rw [hiv] at h1; cases h1
  · rw [hiv] at h1; cases h1
    simp [World.frozen?, hg]

set_option maxRecDepth 100000 in
set_option maxHeartbeats 4000000 in
theorem shiftR_leaf {w0 w : World} {F0 : List Nat} {b l r i : Nat} {iv kv liv lkv riv rkv : Value} {its lits rits : List Itm} {ks : List Nat} {s t : Itm} (T : Tri w0 w F0 b iv kv its ks l liv lkv (lits ++ [t]) [] r riv rkv rits []) (hl : ks[i]? = some l) (hr : ks[i + 1]? = some r) (hs : its[i]? = some s) (hn : its.length ≤ 100) (hk : ks.length ≤ 100) (hll : lits.length ≤ 100) (hrl : rits.length ≤ 100) :
    Calls Tryz.prog 85 #[ptr b, .int .i64 i] w fun e w' => e = .returned (.tuple #[]) ∧ ∃ liv' riv', Tri w0 w' F0 b iv kv (its.set i t) ks l liv' lkv lits [] r riv' rkv (s :: rits) [] := by
  have hik : i + 1 < ks.length := (List.getElem?_eq_some_iff.1 hr).1
  have hii : i < its.length := (List.getElem?_eq_some_iff.1 hs).1
  have HT := Hid.mk'' T
  obtain ⟨kg, kc, hkv, hkc, hkm⟩ := owns_form1 T.hn.kids (by omega)
  have kk := T.hn.kid hkv hl
  have kk1 := T.hn.kid hkv hr
  have c1 := T.hn.c1
  rw [hkv] at c1
  have hw : IntKind.i64.wrap ((i : Int) + 1) = (i : Int) + 1 := by rw [IntKind.wrap_i64]; omega
  clear T
  go_enter Tryz.func85, Tryz.ntmps85
  go_wp2_with fail
  go_cut [4, 5] from 7 to 21 (fun v4 v5 wx => v4 = ptr l ∧ v5 = ptr r ∧ Hid (Tri w0 wx F0 b iv kv its ks l liv lkv (lits ++ [t]) [] r riv rkv rits []))
  case first =>
    go_region_with (fail)
    all_goals (go_wp2_with fail; go_meet; case rel => exact ⟨rfl, rfl, HT.out.below (Below.refl _ _).drew⟩)
  case rest =>
  obtain ⟨rfl, rfl, HT1⟩ := hcut
  clear HT kk kk1 c1
  generalize wc = W1 at *
  obtain ⟨lg, lc, hlv, hlc, hlm⟩ := owns_form1 HT1.out.hl.items (by simp)
  have l0 := HT1.out.hl.c0
  rw [hlv] at l0
  simp only [List.length_append, List.length_cons, List.length_nil, Nat.zero_add] at l0 hlv hlc
  go_upto_region 2 with (fail)
  obtain ⟨ng, nc, hiv, hnc, hnm⟩ := owns_form1 HT1.out.hn.items (by omega)
  obtain ⟨rp, rc, hrv, hrc, hrm⟩ := owns_form HT1.out.hr.items
  have ss : isSl s.mv := HT1.out.hn.mvs s (List.mem_of_getElem? hs)
  have st : isSl t.mv := HT1.out.hl.mvs t (by simp)
  have s01 := fun W (hb : Below W1.heap.size W1 W) => (HT1.out.hn.below hb).item hiv hs
  obtain ⟨skey, smv⟩ := s
  obtain ⟨tkey, tmv⟩ := t
  obtain ⟨sp, sn, sc, hsv⟩ := ss
  obtain ⟨tp, tn, tc, htv⟩ := st
  dsimp only at hsv htv s01
  subst hsv
  subst htv
  subst hlv
  subst hiv
  subst hrv
  go_cut [] from 28 to 43 (fun wx => ∃ g' c', Hid (Tri w0 wx F0 b (.slice (some ⟨ng, 0, none⟩) its.length nc) kv its ks l (.slice (some ⟨lg, 0, none⟩) (lits.length + 1) lc) lkv (lits ++ [⟨tkey, .slice tp tn tc⟩]) [] r (.slice (some ⟨g', 0, none⟩) (rits.length + 1) c') rkv (⟨skey, .slice sp sn sc⟩ :: rits) []))
  case first =>
    have n0 := HT1.out.hn.c0
    have r0 := HT1.out.hr.c0
    obtain ⟨s0, s1⟩ := s01 _ (Below.refl _ _)
    have ca0 : ∀ o, (W1.alloc o).cell? ⟨r, 0, none⟩ = _ := fun o => (HT1.out.below ((Below.refl _ W1).alloc (Nat.le_refl _) o)).hr.c0
    have cb0 : ∀ o, (W1.alloc o).cell? ⟨b, 0, none⟩ = _ := fun o => (HT1.out.below ((Below.refl _ W1).alloc (Nat.le_refl _) o)).hn.c0
    have hins := fun W (hb : Below W1.heap.size W1 W) (hr : W.heap[W1.heap.size]? = some (.cells #[.string skey, .slice sp sn sc] 97 (0, 0))) => insI_node (HT1.out.hr.below hb) ⟨skey, .slice sp sn sc⟩ ⟨sp, sn, sc, rfl⟩ 0 W1.heap.size (Nat.zero_le _) (by omega) hr (fun e => by have := owns_lt HT1.out.hr.items e; omega)
    simp only [List.take_zero, List.drop_zero, List.nil_append, Int.natCast_zero] at hins
    go_region_with (go_at_call 88; refine (hins _ (by first | exact ((Below.refl _ _).drew.alloc (Nat.le_refl _) _) | exact ((Below.refl _ _).alloc (Nat.le_refl _) _).drew) (by first | exact row_alloc _ _ _ | rfl)).mono ?_; rintro e w3 ⟨_, rfl, ⟨g', c', rfl, _, _⟩, d0, d1, hN', hS'⟩)
    all_goals (go_wp2_with fail; go_meet; case rel => exact ⟨_, _, HT1.out.onR hN' (Step.from (by first | exact ((Below.refl _ _).drew.alloc (Nat.le_refl _) _) | exact ((Below.refl _ _).alloc (Nat.le_refl _) _).drew) hS' HT1.out.hr.nd HT1.out.hr.foot_lt)⟩)
  case rest =>
  obtain ⟨rg, rc', HT2⟩ := hcut
  clear HT1 l0 s01
  generalize wc = W2 at *
  go_wp2_with fail
  go_cut [] from 44 to 56 (fun wx => Hid (Tri w0 wx F0 b (.slice (some ⟨ng, 0, none⟩) its.length nc) kv (its.set i ⟨tkey, .slice tp tn tc⟩) ks l (.slice (some ⟨lg, 0, none⟩) (lits.length + 1) lc) lkv (lits ++ [⟨tkey, .slice tp tn tc⟩]) [] r (.slice (some ⟨rg, 0, none⟩) (rits.length + 1) rc') rkv (⟨skey, .slice sp sn sc⟩ :: rits) []))
  case first =>
    have n0 := HT2.out.hn.c0
    have l0 := HT2.out.hl.c0
    obtain ⟨t0, t1⟩ := HT2.out.hl.item (g := lg) (c := lc) (j := lits.length) (it := ⟨tkey, .slice tp tn tc⟩) (by simp) (by simp)
    obtain ⟨s0, s1⟩ := HT2.out.hn.item rfl hs
    have f0 := HT2.out.hn.freeI rfl (i * 2)
    have f1 := HT2.out.hn.freeI rfl (i * 2 + 1)
    dsimp only at t0 t1 s0 s1
    obtain ⟨hN', hS'⟩ := (HT2.out.hn.below (Below.refl _ W2).drew).setItem rfl hii ⟨tkey, .slice tp tn tc⟩ ⟨tp, tn, tc, rfl⟩
    have HX := Hid.mk'' ((HT2.out.below (Below.refl _ W2).drew).onN hN' hS')
    clear hN' hS'
    dsimp only at HX
    go_region_with (fail)
    all_goals (go_wp2_with fail; go_meet; case rel => exact HX)
  case rest =>
  have HT3 := hcut
  clear hcut
  clear HT2
  generalize wc = W3 at *
  have l0 := HT3.out.hl.c0
  have hdel := delI_node HT3.out.hl lits.length (lits.length + 1) (by omega) (by simp) (by simp; omega)
  rw [List.take_left, List.drop_eq_nil_of_le (by simp), List.append_nil, show ((lits.length + 1 : Nat) : Int) = (lits.length : Int) + 1 by omega, show lits.length + ((lits ++ [(⟨tkey, .slice tp tn tc⟩ : Itm)]).length - (lits.length + 1)) = lits.length by simp] at hdel
  have HT3' := HT3
  go_upto_region 5 with (go_at_call 76; refine hdel.mono ?_; rintro e w4 ⟨_, rfl, ⟨lp, lc', rfl⟩, d0, d1, hL', hS'⟩)
  have HT4 := Hid.mk'' (HT3'.out.onL hL' hS')
  have hlf := leaf_node hL'
  simp only [List.length_nil] at hlf
  clear HT3 HT3' hL' hS' hdel l0 d0 d1
  generalize (w4.setCell ⟨l, 0, none⟩ (.slice lp lits.length lc')) = W4 at *
  go_wp2_with (go_at_call 75; refine hlf.mono ?_; rintro e w5 ⟨rfl, rfl⟩)
  first | go_end0 | refine bodyPost_ret (results_none rfl _ _ _) rfl ?_
  exact ⟨rfl, _, _, HT4.out⟩
end Go.Proofs.YteeflkkoifgcbabGreat
/- shiftRight of inner nodes. -/
namespace Go.Proofs.YteeflkkoifgcbabGreat
open Go Go.RowKit

set_option maxRecDepth 100000 in
set_option maxHeartbeats 4000000 in
theorem shiftR_in {w0 w : World} {F0 : List Nat} {b l r i : Nat} {iv kv liv lkv riv rkv : Value} {its lits rits : List Itm} {ks lk rks : List Nat} {k : Nat} {s t : Itm} (T : Tri w0 w F0 b iv kv its ks l liv lkv (lits ++ [t]) (lk ++ [k]) r riv rkv rits rks) (hl : ks[i]? = some l) (hr : ks[i + 1]? = some r) (hs : its[i]? = some s) (hn : its.length ≤ 100) (hk : ks.length ≤ 100) (hll : lits.length ≤ 100) (hrl : rits.length ≤ 100) (hlk : lk.length = lits.length + 1) (hrk : rks.length ≤ 100) :
    Calls Tryz.prog 85 #[ptr b, .int .i64 i] w fun e w' => e = .returned (.tuple #[]) ∧ ∃ liv' lkv' riv' rkv', Tri w0 w' F0 b iv kv (its.set i t) ks l liv' lkv' lits lk r riv' rkv' (s :: rits) (k :: rks) := by
  have hik : i + 1 < ks.length := (List.getElem?_eq_some_iff.1 hr).1
  have hii : i < its.length := (List.getElem?_eq_some_iff.1 hs).1
  have HT := Hid.mk'' T
  obtain ⟨kg, kc, hkv, hkc, hkm⟩ := owns_form1 T.hn.kids (by omega)
  have kk := T.hn.kid hkv hl
  have kk1 := T.hn.kid hkv hr
  have c1 := T.hn.c1
  rw [hkv] at c1
  have hw : IntKind.i64.wrap ((i : Int) + 1) = (i : Int) + 1 := by rw [IntKind.wrap_i64]; omega
  clear T
  go_enter Tryz.func85, Tryz.ntmps85
  go_wp2_with fail
  go_cut [4, 5] from 7 to 21 (fun v4 v5 wx => v4 = ptr l ∧ v5 = ptr r ∧ Hid (Tri w0 wx F0 b iv kv its ks l liv lkv (lits ++ [t]) (lk ++ [k]) r riv rkv rits rks))
  case first =>
    go_region_with (fail)
    all_goals (go_wp2_with fail; go_meet; case rel => exact ⟨rfl, rfl, HT.out.below (Below.refl _ _).drew⟩)
  case rest =>
  obtain ⟨rfl, rfl, HT1⟩ := hcut
  clear HT kk kk1 c1
  generalize wc = W1 at *
  obtain ⟨lg, lc, hlv, hlc, hlm⟩ := owns_form1 HT1.out.hl.items (by simp)
  have l0 := HT1.out.hl.c0
  rw [hlv] at l0
  simp only [List.length_append, List.length_cons, List.length_nil, Nat.zero_add] at l0 hlv hlc
  go_upto_region 2 with (fail)
  obtain ⟨ng, nc, hiv, hnc, hnm⟩ := owns_form1 HT1.out.hn.items (by omega)
  obtain ⟨rp, rc, hrv, hrc, hrm⟩ := owns_form HT1.out.hr.items
  have ss : isSl s.mv := HT1.out.hn.mvs s (List.mem_of_getElem? hs)
  have st : isSl t.mv := HT1.out.hl.mvs t (by simp)
  have s01 := fun W (hb : Below W1.heap.size W1 W) => (HT1.out.hn.below hb).item hiv hs
  obtain ⟨skey, smv⟩ := s
  obtain ⟨tkey, tmv⟩ := t
  obtain ⟨sp, sn, sc, hsv⟩ := ss
  obtain ⟨tp, tn, tc, htv⟩ := st
  dsimp only at hsv htv s01
  subst hsv
  subst htv
  subst hlv
  subst hiv
  subst hrv
  go_cut [] from 28 to 43 (fun wx => ∃ g' c', Hid (Tri w0 wx F0 b (.slice (some ⟨ng, 0, none⟩) its.length nc) kv its ks l (.slice (some ⟨lg, 0, none⟩) (lits.length + 1) lc) lkv (lits ++ [⟨tkey, .slice tp tn tc⟩]) (lk ++ [k]) r (.slice (some ⟨g', 0, none⟩) (rits.length + 1) c') rkv (⟨skey, .slice sp sn sc⟩ :: rits) rks))
  case first =>
    have n0 := HT1.out.hn.c0
    have r0 := HT1.out.hr.c0
    obtain ⟨s0, s1⟩ := s01 _ (Below.refl _ _)
    have ca0 : ∀ o, (W1.alloc o).cell? ⟨r, 0, none⟩ = _ := fun o => (HT1.out.below ((Below.refl _ W1).alloc (Nat.le_refl _) o)).hr.c0
    have cb0 : ∀ o, (W1.alloc o).cell? ⟨b, 0, none⟩ = _ := fun o => (HT1.out.below ((Below.refl _ W1).alloc (Nat.le_refl _) o)).hn.c0
    have hins := fun W (hb : Below W1.heap.size W1 W) (hr : W.heap[W1.heap.size]? = some (.cells #[.string skey, .slice sp sn sc] 97 (0, 0))) => insI_node (HT1.out.hr.below hb) ⟨skey, .slice sp sn sc⟩ ⟨sp, sn, sc, rfl⟩ 0 W1.heap.size (Nat.zero_le _) (by omega) hr (fun e => by have := owns_lt HT1.out.hr.items e; omega)
    simp only [List.take_zero, List.drop_zero, List.nil_append, Int.natCast_zero] at hins
    go_region_with (go_at_call 88; refine (hins _ (by first | exact ((Below.refl _ _).drew.alloc (Nat.le_refl _) _) | exact ((Below.refl _ _).alloc (Nat.le_refl _) _).drew) (by first | exact row_alloc _ _ _ | rfl)).mono ?_; rintro e w3 ⟨_, rfl, ⟨g', c', rfl, _, _⟩, d0, d1, hN', hS'⟩)
    all_goals (go_wp2_with fail; go_meet; case rel => exact ⟨_, _, HT1.out.onR hN' (Step.from (by first | exact ((Below.refl _ _).drew.alloc (Nat.le_refl _) _) | exact ((Below.refl _ _).alloc (Nat.le_refl _) _).drew) hS' HT1.out.hr.nd HT1.out.hr.foot_lt)⟩)
  case rest =>
  obtain ⟨rg, rc', HT2⟩ := hcut
  clear HT1 l0 s01
  generalize wc = W2 at *
  go_wp2_with fail
  go_cut [] from 44 to 56 (fun wx => Hid (Tri w0 wx F0 b (.slice (some ⟨ng, 0, none⟩) its.length nc) kv (its.set i ⟨tkey, .slice tp tn tc⟩) ks l (.slice (some ⟨lg, 0, none⟩) (lits.length + 1) lc) lkv (lits ++ [⟨tkey, .slice tp tn tc⟩]) (lk ++ [k]) r (.slice (some ⟨rg, 0, none⟩) (rits.length + 1) rc') rkv (⟨skey, .slice sp sn sc⟩ :: rits) rks))
  case first =>
    have n0 := HT2.out.hn.c0
    have l0 := HT2.out.hl.c0
    obtain ⟨t0, t1⟩ := HT2.out.hl.item (g := lg) (c := lc) (j := lits.length) (it := ⟨tkey, .slice tp tn tc⟩) (by simp) (by simp)
    obtain ⟨s0, s1⟩ := HT2.out.hn.item rfl hs
    have f0 := HT2.out.hn.freeI rfl (i * 2)
    have f1 := HT2.out.hn.freeI rfl (i * 2 + 1)
    dsimp only at t0 t1 s0 s1
    obtain ⟨hN', hS'⟩ := (HT2.out.hn.below (Below.refl _ W2).drew).setItem rfl hii ⟨tkey, .slice tp tn tc⟩ ⟨tp, tn, tc, rfl⟩
    have HX := Hid.mk'' ((HT2.out.below (Below.refl _ W2).drew).onN hN' hS')
    clear hN' hS'
    dsimp only at HX
    go_region_with (fail)
    all_goals (go_wp2_with fail; go_meet; case rel => exact HX)
  case rest =>
  have HT3 := hcut
  clear hcut
  clear HT2
  generalize wc = W3 at *
  have l0 := HT3.out.hl.c0
  have hdel := delI_node HT3.out.hl lits.length (lits.length + 1) (by omega) (by simp) (by simp; omega)
  rw [List.take_left, List.drop_eq_nil_of_le (by simp), List.append_nil, show ((lits.length + 1 : Nat) : Int) = (lits.length : Int) + 1 by omega, show lits.length + ((lits ++ [(⟨tkey, .slice tp tn tc⟩ : Itm)]).length - (lits.length + 1)) = lits.length by simp] at hdel
  have HT3' := HT3
  go_upto_region 5 with (go_at_call 76; refine hdel.mono ?_; rintro e w4 ⟨_, rfl, ⟨lp, lc', rfl⟩, d0, d1, hL', hS'⟩)
  have HT4 := Hid.mk'' (HT3'.out.onL hL' hS')
  have hlf := leaf_node hL'
  rw [show decide ((lk ++ [k]).length = 0) = false by simp] at hlf
  clear HT3 HT3' hL' hS' hdel l0 d0 d1
  generalize (w4.setCell ⟨l, 0, none⟩ (.slice lp lits.length lc')) = W4 at *
  go_wp2_with (go_at_call 75; refine hlf.mono ?_; rintro e w5 ⟨rfl, rfl⟩)
  clear hlf
  obtain ⟨qg, qc, hqv, hqc, hqm⟩ := owns_form1 HT4.out.hl.kids (by simp)
  obtain ⟨up, uc, huv, huc, hum⟩ := owns_form HT4.out.hr.kids
  have k01 := fun W (hb : Below w5.heap.size w5 W) => (HT4.out.hl.below hb).kid hqv (j := lits.length + 1) (k := k) (by rw [← hlk]; simp)
  simp only [List.length_append, List.length_cons, List.length_nil, Nat.zero_add, hlk] at hqv hqc
  subst hqv
  subst huv
  have hw2 : IntKind.i64.wrap ((lits.length : Int) + 1) = (lits.length : Int) + 1 := by rw [IntKind.wrap_i64]; omega
  go_cut [] from 71 to 87 (fun wx => ∃ g' c', Hid (Tri w0 wx F0 b (.slice (some ⟨ng, 0, none⟩) its.length nc) kv (its.set i ⟨tkey, .slice tp tn tc⟩) ks l (.slice lp lits.length lc') (.slice (some ⟨qg, 0, none⟩) (lits.length + 1 + 1) qc) lits (lk ++ [k]) r (.slice (some ⟨rg, 0, none⟩) (rits.length + 1) rc') (.slice (some ⟨g', 0, none⟩) (rks.length + 1) c') (⟨skey, .slice sp sn sc⟩ :: rits) (k :: rks)))
  case first =>
    have l1 := HT4.out.hl.c1
    have r1 := HT4.out.hr.c1
    have kc0 := k01 _ (Below.refl _ _)
    have ca1 : ∀ o, (w5.alloc o).cell? ⟨r, 1, none⟩ = _ := fun o => (HT4.out.below ((Below.refl _ w5).alloc (Nat.le_refl _) o)).hr.c1
    have cb1 : ∀ o, (w5.alloc o).cell? ⟨l, 1, none⟩ = _ := fun o => (HT4.out.below ((Below.refl _ w5).alloc (Nat.le_refl _) o)).hl.c1
    have hins := fun W (hb : Below w5.heap.size w5 W) (hr : W.heap[w5.heap.size]? = some (.cells #[ptr k] 78 (0, 0))) => insK_node (HT4.out.hr.below hb) k 0 w5.heap.size (Nat.zero_le _) (by omega) hr (fun e => by have := owns_lt HT4.out.hr.kids e; omega)
    simp only [List.take_zero, List.drop_zero, List.nil_append, Int.natCast_zero] at hins
    go_region_with (go_at_call 92; refine (hins _ (by first | exact ((Below.refl _ _).drew.alloc (Nat.le_refl _) _) | exact ((Below.refl _ _).alloc (Nat.le_refl _) _).drew) (by first | exact row_alloc _ _ _ | rfl)).mono ?_; rintro e w6 ⟨_, rfl, ⟨g', c', rfl, _, _⟩, d0, d1, hN', hS'⟩)
    all_goals (go_wp2_with fail; go_meet; case rel => exact ⟨_, _, HT4.out.onR hN' (Step.from (by first | exact ((Below.refl _ _).drew.alloc (Nat.le_refl _) _) | exact ((Below.refl _ _).alloc (Nat.le_refl _) _).drew) hS' HT4.out.hr.nd HT4.out.hr.foot_lt)⟩)
  case rest =>
  obtain ⟨vg, vc, HT5⟩ := hcut
  clear HT4 k01
  generalize wc = W5 at *
  have l1 := HT5.out.hl.c1
  have hdel := delK_node HT5.out.hl (lits.length + 1) (lits.length + 2) (by omega) (by simp; omega) (by simp; omega)
  rw [← hlk, List.take_left, List.drop_eq_nil_of_le (by simp; omega), List.append_nil, hlk, show ((lits.length + 1 : Nat) : Int) = (lits.length : Int) + 1 by omega, show ((lits.length + 2 : Nat) : Int) = (lits.length : Int) + 2 by omega, show lits.length + 1 + ((lk ++ [k]).length - (lits.length + 2)) = lits.length + 1 by simp; omega] at hdel
  go_wp2_with (go_at_call 91; refine hdel.mono ?_; rintro e w7 ⟨_, rfl, ⟨lp7, lc7, rfl⟩, d0, d1, hL', hS'⟩)
  first | go_end0 | refine bodyPost_ret (results_none rfl _ _ _) rfl ?_
  exact ⟨rfl, _, _, _, _, HT5.out.onL hL' hS'⟩
end Go.Proofs.YteeflkkoifgcbabGreat
