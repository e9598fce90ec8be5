/- The tree as it lies in memory, and its items in order. -/
import Derived.Test.YtjdmgmnndfhmgaaGreatGRB
namespace Go.Proofs.YtjdmgmnndfhmgaaGreat
open Go Go.RowKit

/-- A kid: its block, its own items, all items below it in order, its blocks. -/
structure KidD where
  b : Nat
  its : List Itm
  L : List Itm
  F : List Nat
def suf : List Itm → List KidD → List Itm
  | i :: is, k :: ks => i :: (k.L ++ suf is ks)
  | _, _ => []
def pre : List KidD → List Itm → List Itm
  | k :: ks, i :: is => k.L ++ i :: pre ks is
  | _, _ => []
def weave : List KidD → List Itm → List Itm
  | k :: ks, its => k.L ++ suf its ks
  | [], _ => []
theorem weave_cons (k : KidD) (ks : List KidD) (i : Itm) (is : List Itm) (h : ks ≠ []) : weave (k :: ks) (i :: is) = k.L ++ i :: weave ks is := by
  cases ks with
  | nil => exact absurd rfl h
  | cons a l => simp [weave, suf]
theorem weave_split : ∀ (A : List KidD) (k : KidD) (B : List KidD) (C D : List Itm), A.length = C.length → weave (A ++ k :: B) (C ++ D) = pre A C ++ k.L ++ suf D B
  | [], k, B, [], D, _ => by simp [weave, pre]
  | a :: A, k, B, c :: C, D, h => by
    rw [List.cons_append, List.cons_append, weave_cons _ _ _ _ (by simp), weave_split A k B C D (by simpa using h)]
    simp [pre]
theorem pre_snoc : ∀ (A : List KidD) (k : KidD) (C : List Itm) (c : Itm), A.length = C.length → pre (A ++ [k]) (C ++ [c]) = pre A C ++ k.L ++ [c]
  | [], k, [], c, _ => by simp [pre]
  | a :: A, k, d :: C, c, h => by simp [pre, pre_snoc A k C c (by simpa using h)]

/-- The tree of height h at block b. -/
def Tre (w : World) : Nat → Nat → List Itm → List Itm → List Nat → Prop
  | 0, b, its, L, F => ∃ iv kv, Nod w b iv kv its [] ∧ L = its ∧ F = nf b iv kv
  | h + 1, b, its, L, F => ∃ iv kv, ∃ ks : List KidD, Nod w b iv kv its (ks.map KidD.b) ∧ ks.length = its.length + 1 ∧ (∀ k ∈ ks, Tre w h k.b k.its k.L k.F ∧ 2 ≤ k.its.length ∧ k.its.length ≤ 4) ∧ L = weave ks its ∧ F = nf b iv kv ++ ks.flatMap KidD.F
theorem Tre.nod {w : World} : ∀ {h b : Nat} {its L : List Itm} {F : List Nat}, Tre w h b its L F → ∃ iv kv ks, Nod w b iv kv its ks ∧ (∀ k ∈ nf b iv kv, k ∈ F) ∧ (ks.length = 0 ↔ h = 0)
  | 0, _, _, _, _, ⟨iv, kv, hN, _, hF⟩ => ⟨iv, kv, [], hN, fun k hk => by rw [hF]; exact hk, by simp⟩
  | h + 1, _, _, _, _, ⟨iv, kv, ks, hN, hl, _, _, hF⟩ => ⟨iv, kv, _, hN, fun k hk => by rw [hF]; exact List.mem_append_left _ hk, by simp [hl]⟩
theorem Tre.upd {w w' : World} {S : Nat → Prop} (hu : Upd w w' S) : ∀ {h b : Nat} {its L : List Itm} {F : List Nat}, Tre w h b its L F → (∀ k ∈ F, ¬ S k) → Tre w' h b its L F
  | 0, _, _, _, _, ⟨iv, kv, hN, hL, hF⟩, hS => ⟨iv, kv, hN.upd hu (fun k hk => hS k (by rw [hF]; exact hk)), hL, hF⟩
  | h + 1, _, _, _, _, ⟨iv, kv, ks, hN, hl, hk, hL, hF⟩, hS => ⟨iv, kv, ks, hN.upd hu (fun k hk => hS k (by rw [hF]; exact List.mem_append_left _ hk)), hl, fun k hk' => ⟨(hk k hk').1.upd hu (fun j hj => hS j (by rw [hF]; exact List.mem_append_right _ (List.mem_flatMap.2 ⟨k, hk', hj⟩))), (hk k hk').2⟩, hL, hF⟩
theorem Tre.step {w w' : World} {G G' : List Nat} (hs : Step w w' G G') {h b : Nat} {its L : List Itm} {F : List Nat} (ht : Tre w h b its L F) (hd : ∀ k ∈ F, k ∉ G) : Tre w' h b its L F := ht.upd hs.upd hd
theorem Tre.below {w w' : World} (hb : Below w.heap.size w w') {h b : Nat} {its L : List Itm} {F : List Nat} (ht : Tre w h b its L F) : Tre w' h b its L F := ht.upd (S := fun _ => False) (Upd.ofBelow hb) (fun _ _ h => h)
theorem Tre.lt {w : World} : ∀ {h b : Nat} {its L : List Itm} {F : List Nat}, Tre w h b its L F → ∀ k ∈ F, k < w.heap.size
  | 0, _, _, _, _, ⟨iv, kv, hN, _, hF⟩, k, hk => hN.foot_lt k (by rw [← hF]; exact hk)
  | h + 1, _, _, _, _, ⟨iv, kv, ks, hN, hl, hks, hL, hF⟩, k, hk => by
    rw [hF, List.mem_append] at hk
    rcases hk with hk | hk
    · exact hN.foot_lt k hk
    · obtain ⟨a, ha, hk⟩ := List.mem_flatMap.1 hk
      exact (hks a ha).1.lt k hk
theorem Tre.b_mem {w : World} {h b : Nat} {its L : List Itm} {F : List Nat} (ht : Tre w h b its L F) : b ∈ F := by
  obtain ⟨iv, kv, ks, _, hF, _⟩ := ht.nod
  exact hF b (by simp [nf])
theorem suf_sub : ∀ (its : List Itm) (ks : List KidD) (x : Itm), x ∈ suf its ks → x ∈ its ∨ ∃ k ∈ ks, x ∈ k.L
  | [], _, x, h => by simp [suf] at h
  | _ :: _, [], x, h => by simp [suf] at h
  | i :: is, k :: ks, x, h => by
    simp only [suf, List.mem_cons, List.mem_append] at h ⊢
    rcases h with rfl | h | h
    · exact .inl (.inl rfl)
    · exact .inr ⟨k, .inl rfl, h⟩
    · rcases suf_sub is ks x h with h | ⟨j, hj, h⟩
      · exact .inl (.inr h)
      · exact .inr ⟨j, .inr hj, h⟩
/-- A node's own items stand among all, in their order. -/
theorem suf_sublist : ∀ (its : List Itm) (ks : List KidD), ks.length = its.length → its.Sublist (suf its ks)
  | [], [], _ => by simp [suf]
  | i :: is, k :: ks, h => by
    simp only [suf]
    exact ((suf_sublist is ks (by simpa using h)).trans (List.sublist_append_right _ _)).cons_cons _
theorem weave_sublist (ks : List KidD) (its : List Itm) (h : ks.length = its.length + 1) : its.Sublist (weave ks its) := by
  cases ks with
  | nil => simp at h
  | cons k ks => exact (suf_sublist its ks (by simpa using h)).trans (List.sublist_append_right _ _)
theorem Tre.its_sub {w : World} : ∀ {h b : Nat} {its L : List Itm} {F : List Nat}, Tre w h b its L F → its.Sublist L
  | 0, _, _, _, _, ⟨_, _, _, hL, _⟩ => by rw [hL]; exact List.Sublist.refl _
  | _ + 1, _, _, _, _, ⟨_, _, ks, _, hl, _, hL, _⟩ => by rw [hL]; exact weave_sublist ks _ hl
theorem asc_sublist : ∀ {a b : List ByteArray}, a.Sublist b → Asc b → Asc a
  | _, _, .slnil, h => h
  | _, _, .cons _ s, h => asc_sublist s h.2
  | _, _, .cons_cons _ s, h => ⟨fun j hj => h.1 j (s.subset hj), asc_sublist s h.2⟩
theorem Tre.asc {w : World} {h b : Nat} {its L : List Itm} {F : List Nat} (ht : Tre w h b its L F) (ha : Asc (keysI L)) : Asc (keysI its) := asc_sublist (ht.its_sub.map _) ha

/-! ### An item put in its place -/
def insI (L : List Itm) (it : Itm) : List Itm := L.takeWhile (fun x => klt x.key it.key) ++ it :: L.dropWhile (fun x => klt x.key it.key)
theorem take_while_len {α : Type} (p : α → Bool) : ∀ l : List α, l.take (l.takeWhile p).length = l.takeWhile p ∧ l.drop (l.takeWhile p).length = l.dropWhile p
  | [] => by simp
  | a :: l => by
    have ih := take_while_len p l
    by_cases h : p a = true
    · simp [h, ih.1, ih.2]
    · simp [h]
theorem insI_plc (L : List Itm) (it : Itm) : L.take (plc L it.key) ++ it :: L.drop (plc L it.key) = insI L it := by
  obtain ⟨h1, h2⟩ := take_while_len (fun x : Itm => klt x.key it.key) L
  unfold plc insI
  rw [h1, h2]
theorem insI_mid (X Y Z : List Itm) (it : Itm) (hX : ∀ x ∈ X, klt x.key it.key = true) (hZ : ∀ z ∈ Z, klt z.key it.key = false) : insI (X ++ Y ++ Z) it = X ++ insI Y it ++ Z := by
  have h1 : ∀ V : List Itm, insI (X ++ V) it = X ++ insI V it := fun V => by
    unfold insI
    rw [List.takeWhile_append_of_pos hX, List.dropWhile_append_of_pos hX, List.append_assoc]
  have h2 : ∀ V : List Itm, insI (V ++ Z) it = insI V it ++ Z := fun V => by
    induction V with
    | nil =>
      cases Z with
      | nil => simp [insI]
      | cons z Z => simp [insI, hZ z (by simp)]
    | cons v V ih =>
      by_cases hv : klt v.key it.key = true
      · simp only [insI, List.cons_append, List.takeWhile_cons, List.dropWhile_cons, hv, if_true] at ih ⊢
        rw [ih]
      · simp [insI, hv]
  rw [List.append_assoc, h1, h2, List.append_assoc]
theorem insI_mem {L : List Itm} {it x : Itm} : x ∈ insI L it ↔ x = it ∨ x ∈ L := by
  unfold insI
  rw [List.mem_append, List.mem_cons]
  have : x ∈ L ↔ x ∈ L.takeWhile (fun x => klt x.key it.key) ∨ x ∈ L.dropWhile (fun x => klt x.key it.key) := by
    rw [← List.mem_append, List.takeWhile_append_dropWhile]
  rw [this]
  constructor
  · rintro (h | h | h)
    · exact .inr (.inl h)
    · exact .inl h
    · exact .inr (.inr h)
  · rintro (h | h | h)
    · exact .inr (.inl h)
    · exact .inl h
    · exact .inr (.inr h)
theorem insI_len (L : List Itm) (it : Itm) : (insI L it).length = L.length + 1 := by
  have := congrArg List.length (List.takeWhile_append_dropWhile (p := fun x : Itm => klt x.key it.key) (l := L))
  simp only [List.length_append] at this
  simp [insI]; omega
end Go.Proofs.YtjdmgmnndfhmgaaGreat
/- add, within a node that has kids: its walk. -/
namespace Go.Proofs.YtjdmgmnndfhmgaaGreat
open Go Go.RowKit

set_option maxRecDepth 100000 in
set_option maxHeartbeats 2000000 in
theorem add_walk {w : World} {b : Nat} {iv kv : Value} {its : List Itm} {kb : List Nat} {k : Nat} (hN : Nod w b iv kv its kb) (hs : Asc (keysI its)) (hn : its.length ≤ 100) (hkb : kb.length ≤ 101) (it : Itm) (hit : isSl it.mv) (hk : kb[plc its it.key]? = some k) (R : World → Prop)
    (hrec : ∀ W, Below w.heap.size w W → Calls Tryz.prog 119 #[ptr k, .agg #[.string it.key, it.mv]] W fun e W1 => e = .returned (.tuple #[]) ∧ ∃ civ ckv cits cks, Nod W1 b iv kv its kb ∧ Nod W1 k civ ckv cits cks ∧
      ((cits.length ≤ 4 ∧ R W1) ∨ (4 < cits.length ∧ Calls Tryz.prog 120 #[ptr b, .int .i64 (plc its it.key)] W1 fun e W2 => e = .returned (.tuple #[]) ∧ R W2))) :
    Calls Tryz.prog 119 #[ptr b, .agg #[.string it.key, it.mv]] w fun e w' => e = .returned (.tuple #[]) ∧ R w' := by
  have hpk : plc its it.key < kb.length := (List.getElem?_eq_some_iff.1 hk).1
  obtain ⟨W0, hW0⟩ : ∃ W0, W0 = w.alloc (.cells #[.string it.key, it.mv] 151) := ⟨_, rfl⟩
  have hb0 : Below w.heap.size w W0 := by rw [hW0]; exact (Below.refl _ w).alloc (Nat.le_refl _) _
  have hr0 : W0.heap[w.heap.size]? = some (.cells #[.string it.key, it.mv] 151 (0, 0)) := by rw [hW0]; exact row_alloc w _ _
  have hpl := (place_node (hN.below hb0) hs (by omega) it.key).mono (R' := fun e w' => e = .returned (.tuple #[.int .i64 (plc its it.key), .bool (hre its it.key)]) ∧ Below w.heap.size w w' ∧ w'.heap[w.heap.size]? = some (.cells #[.string it.key, it.mv] 151 (0, 0)))
    fun e w' h => ⟨h.1, hb0.trans (h.2.mono hb0.size), (h.2.block _ (Array.getElem?_eq_some_iff.1 hr0).1).trans hr0⟩
  have k0 : W0.cell? ⟨w.heap.size, 0, none⟩ = some (.string it.key) := by simp [World.cell?, hr0]
  clear hr0
  obtain ⟨kg, kc, hkv, hkc, hkm⟩ := owns_form1 hN.kids (by omega)
  have HN := Hid.mk'' hN
  have HREC := Hid.mk'' hrec
  clear hrec hN hs
  go_enter Tryz.func119, Tryz.ntmps119
  go_upto_region 1 with (fail)
  rw [← hW0]
  clear hW0
  go_wp2_with (go_at_call 113; refine hpl.mono ?_; rintro e W1 ⟨rfl, hb1, hr1⟩)
  have hlf := leaf_node (HN.out.below hb1)
  rw [decide_eq_false (show ¬ kb.length = 0 by omega)] at hlf
  have e0 : W1.cell? ⟨w.heap.size, 0, none⟩ = some (.string it.key) := by simp [World.cell?, hr1]
  have e1 : W1.cell? ⟨w.heap.size, 1, none⟩ = some it.mv := by simp [World.cell?, hr1]
  have c1 := (HN.out.below hb1).c1
  have kk := (HN.out.below hb1).kid hkv hk
  rw [hkv] at c1
  obtain ⟨key, mv⟩ := it
  obtain ⟨mp, mn, mc, hmv⟩ := hit
  dsimp only at hmv hlf e0 e1 hpk HREC k0
  subst hmv
  clear hpl k0 hb0 hr1
  refine hlf.mono ?_
  rintro e w2 ⟨rfl, rfl⟩
  have hcall := HREC.out
  go_wp2_with fail
  go_cut [] from 26 to 34 (fun wx => Hid (∃ civ ckv cits cks, Nod wx b iv kv its kb ∧ Nod wx k civ ckv cits cks ∧
      ((cits.length ≤ 4 ∧ R wx) ∨ (4 < cits.length ∧ Calls Tryz.prog 120 #[ptr b, .int .i64 (plc its key)] wx fun e W2 => e = .returned (.tuple #[]) ∧ R W2))))
  case first =>
    go_region_with (go_at_call 119; refine (hcall _ hb1.drew).mono ?_; rintro e w3 ⟨rfl, hR⟩)
    all_goals (go_wp2_with fail; go_meet; case rel => exact hR)
  case rest =>
  obtain ⟨civ, ckv, cits, cks, hN2, hC2, hR⟩ := hcut
  have c1' := hN2.c1
  have kk' := hN2.kid hkv hk
  have ci := hC2.c0
  obtain ⟨cp, cc, hciv, _, _⟩ := owns_form hC2.items
  rw [hkv] at c1'
  rw [hciv] at ci
  clear hcall HREC c1 kk hlf e0 e1 hb1 hN2 hC2
  rcases hR with ⟨h4, hR⟩ | ⟨h4, hR⟩
  · have h4' : ¬ (4 < (cits.length : Int)) := by omega
    go_wp2
    go_end0
    exact ⟨rfl, hR⟩
  · have h4' : (4 : Int) < (cits.length : Int) := by omega
    go_wp2_with (go_at_call 120; refine hR.mono ?_; rintro e w5 ⟨rfl, hR5⟩)
    go_end0
    exact ⟨rfl, hR5⟩
end Go.Proofs.YtjdmgmnndfhmgaaGreat
/- split: two kids of one. -/
namespace Go.Proofs.YtjdmgmnndfhmgaaGreat
open Go Go.RowKit

set_option maxRecDepth 100000 in
set_option maxHeartbeats 4000000 in
/-- split of a kid that has five items. -/
theorem split_leaf (b l i : Nat) (iv kv liv lkv : Value) (its : List Itm) (ks : List Nat) (t0 t1 t2 t3 t4 : Itm) (w : World) (hN : Nod w b iv kv its ks) (hL : Nod w l liv lkv [t0, t1, t2, t3, t4] []) (hi : ks[i]? = some l) (hil : i ≤ its.length) (hn : its.length ≤ 100) (hk : ks.length ≤ 100)
    (hnd : (nf b iv kv ++ nf l liv lkv).Nodup) :
    Calls Tryz.prog 120 #[ptr b, .int .i64 i] w fun e w' => e = .returned (.tuple #[]) ∧ ∃ iv' kv' liv' lkv' r riv rkv, Tri w w' (nf b iv kv ++ nf l liv lkv) b iv' kv' (its.take i ++ t2 :: its.drop i) (ks.take (i + 1) ++ r :: ks.drop (i + 1)) l liv' lkv' [t0, t1] [] r riv rkv [t3, t4] [] := by
  have hik : i < ks.length := (List.getElem?_eq_some_iff.1 hi).1
  have hlt : ∀ k ∈ nf b iv kv ++ nf l liv lkv, k < w.heap.size := fun k hk => (List.mem_append.1 hk).elim (hN.foot_lt k) (hL.foot_lt k)
  have T0 : Tri w (w.alloc (.cells #[.slice none 0 0, .slice none 0 0] 186)) (nf b iv kv ++ nf l liv lkv) b iv kv its ks l liv lkv [t0, t1, t2, t3, t4] [] w.heap.size (.slice none 0 0) (.slice none 0 0) [] [] :=
    ⟨hN.below ((Below.refl _ w).alloc (Nat.le_refl _) _), hL.below ((Below.refl _ w).alloc (Nat.le_refl _) _), Nod.fresh w, by rw [nf_fresh]; exact Step.new _ hnd hlt⟩
  obtain ⟨kg, kc, hkv, hkc, hkm⟩ := owns_form1 hN.kids (by omega)
  have kk := hN.kid hkv hi
  have c1 := hN.c1
  rw [hkv] at c1
  have s2 : isSl t2.mv := hL.mvs t2 (by simp)
  have HT0 := Hid.mk'' T0
  generalize nf b iv kv ++ nf l liv lkv = F0 at *
  clear T0 hN hL hlt hnd
  go_enter Tryz.func120, Tryz.ntmps120
  go_upto_region 1 with (fail)
  obtain ⟨W0, hW0⟩ : ∃ W0, W0 = w.alloc (.cells #[.slice none 0 0, .slice none 0 0] 186) := ⟨_, rfl⟩
  rw [← hW0] at HT0 ⊢
  clear hW0 c1 kk
  generalize w.heap.size = r at *
  obtain ⟨lg, lc, hlv, hlc, hlm⟩ := owns_form1 HT0.out.hl.items (by simp)
  have l0 := HT0.out.hl.c0
  obtain ⟨i2a, i2b⟩ := HT0.out.hl.item hlv (j := 2) (it := t2) rfl
  rw [hlv] at l0
  simp only [List.length_cons, List.length_nil, Nat.zero_add, Nat.reduceAdd, Nat.reduceMul] at l0 hlc i2a i2b hlv
  obtain ⟨key2, mv2⟩ := t2
  obtain ⟨mp, mn, mc, hmv⟩ := s2
  dsimp only at hmv i2a i2b
  subst hmv
  go_upto_region 3 with (fail)
  have HT1 : Hid (TriU w (W0.alloc (.cells #[.string key2, .slice mp mn mc] 151)) F0 b iv kv its ks l liv lkv [t0, t1, ⟨key2, .slice mp mn mc⟩, t3, t4] [] r (.slice none 0 0) (.slice none 0 0) [] [] W0.heap.size key2 (.slice mp mn mc)) :=
    ⟨HT0.out.below ((Below.refl _ W0).alloc (Nat.le_refl _) _), row_alloc W0 _ _, fun h => by have := HT0.out.s.lt _ h; omega⟩
  obtain ⟨W1, hW1⟩ : ∃ W1, W1 = W0.alloc (.cells #[.string key2, .slice mp mn mc] 151) := ⟨_, rfl⟩
  rw [← hW1] at HT1 ⊢
  clear hW1 HT0 l0 i2a i2b
  generalize W0.heap.size = u at *
  subst hlv
  have l0 := HT1.out.t.hl.c0
  have f3 := freshI_node HT1.out.t.hl HT1.out.t.hr 3 lc lg rfl (by simp) (by simp) (lc - 3)
  simp only [List.length_cons, List.length_nil, Nat.zero_add, Nat.reduceAdd, Nat.reduceMul, Nat.reduceSub, List.drop_succ_cons, List.drop_zero] at f3
  have hlc3 : ¬ (lc = 3) := by omega
  go_wp2_with (go_at_call 129; refine f3.mono ?_; rintro e w' ⟨_, rfl, ⟨rg, rc, rfl, _, _⟩, d0, d1, hR', hS'⟩)
  have HT2 := Hid.mk'' (HT1.out.onR hR' hS')
  obtain ⟨W2, hW2⟩ : ∃ W2, W2 = w'.setCell ⟨r, 0, none⟩ (.slice (some ⟨rg, 0, none⟩) 2 rc) := ⟨_, rfl⟩
  rw [← hW2] at HT2 ⊢
  clear hW2 hR' hS' d0 d1 f3 HT1 l0
  go_cut [] from 41 to 54 (fun wx => ∃ lp lc', Hid (TriU w wx F0 b iv kv its ks l (.slice lp 2 lc') lkv [t0, t1] [] r (.slice (some ⟨rg, 0, none⟩) 2 rc) (.slice none 0 0) [t3, t4] [] u key2 (.slice mp mn mc)))
  case first =>
    have l0 := HT2.out.t.hl.c0
    have hdel := fun W (hb : Below W2.heap.size W2 W) => delI_node (HT2.out.t.hl.below hb) 2 5 (by omega) (by simp) (by simp)
    simp only [List.length_cons, List.length_nil, Nat.zero_add, Nat.reduceAdd, Nat.reduceSub, List.drop_succ_cons, List.take_succ_cons, List.take_zero, List.append_nil, List.drop_nil] at hdel
    go_region_with (go_at_call 116; refine (hdel _ (Below.refl _ _).drew).mono ?_; rintro e w3 ⟨_, rfl, ⟨lp, lc', rfl⟩, d0, d1, hL', hS'⟩)
    all_goals (go_wp2_with fail; go_meet; case rel => exact ⟨_, _, HT2.out.onL hL' (Step.from (Below.refl _ _).drew hS' HT2.out.t.hl.nd HT2.out.t.hl.foot_lt)⟩)
  case rest =>
  obtain ⟨lp, lc', HT3⟩ := hcut
  clear HT2
  generalize wc = W3 at *
  have hlf := leaf_node HT3.out.t.hl
  simp only [List.length_nil] at hlf
  go_wp2_with (go_at_call 115; refine hlf.mono ?_; rintro e w4 ⟨rfl, rfl⟩)
  have HT5 := HT3
  clear HT3 hlf
  generalize w4 = W5 at *
  subst hkv
  go_cut [] from 84 to 94 (fun wx => ∃ g' c', Hid (Tri w wx F0 b (.slice (some ⟨g', 0, none⟩) (its.length + 1) c') (.slice (some ⟨kg, 0, none⟩) ks.length kc) (its.take i ++ ⟨key2, .slice mp mn mc⟩ :: its.drop i) ks l (.slice lp 2 lc') lkv [t0, t1] [] r (.slice (some ⟨rg, 0, none⟩) 2 rc) (.slice none 0 0) [t3, t4] []))
  case first =>
    obtain ⟨ip, ic, hiv, _, _⟩ := owns_form HT5.out.t.hn.items
    subst hiv
    have c0 := HT5.out.t.hn.c0
    have ca0 : ∀ o, (W5.alloc o).cell? ⟨b, 0, none⟩ = _ := fun o => (HT5.out.below ((Below.refl _ W5).alloc (Nat.le_refl _) o)).t.hn.c0
    have u0 := HT5.out.u0
    have u1 := HT5.out.u1
    have hins := fun W (hb : Below W5.heap.size W5 W) (hr : W.heap[W5.heap.size]? = some (.cells #[.string key2, .slice mp mn mc] 151 (0, 0))) => insI_node (HT5.out.t.hn.below hb) ⟨key2, .slice mp mn mc⟩ ⟨mp, mn, mc, rfl⟩ i W5.heap.size hil (by omega) hr (fun e => by have := owns_lt HT5.out.t.hn.items e; omega)
    go_region_with (go_at_call 128; refine (hins _ (by first | exact ((Below.refl _ _).drew.alloc (Nat.le_refl _) _) | exact ((Below.refl _ _).alloc (Nat.le_refl _) _).drew) (by first | exact row_alloc _ _ _ | rfl)).mono ?_; rintro e w3 ⟨_, rfl, ⟨g', c', rfl, _, _⟩, d0, d1, hN', hS'⟩)
    all_goals (go_wp2_with fail; go_meet; case rel => exact ⟨_, _, HT5.out.t.onN hN' (Step.from (by first | exact ((Below.refl _ _).drew.alloc (Nat.le_refl _) _) | exact ((Below.refl _ _).alloc (Nat.le_refl _) _).drew) hS' HT5.out.t.hn.nd HT5.out.t.hn.foot_lt)⟩)
  case rest =>
  obtain ⟨g', c', HT6⟩ := hcut
  clear HT5
  generalize wc = W6 at *
  have c1 := HT6.out.hn.c1
  have hins := insK_node (HT6.out.below (W' := W6.alloc (.cells #[ptr r] 123)) ((Below.refl _ W6).alloc (Nat.le_refl _) _)).hn r (i + 1) W6.heap.size (by omega) (by omega) (row_alloc _ _ _) (fun e => by have := owns_lt HT6.out.hn.kids e; omega)
  rw [show ((i + 1 : Nat) : Int) = (i : Int) + 1 by omega] at hins
  have ca1 : ∀ o, (W6.alloc o).cell? ⟨b, 1, none⟩ = _ := fun o => (HT6.out.below ((Below.refl _ W6).alloc (Nat.le_refl _) o)).hn.c1
  go_wp2_with (go_at_call 132; refine hins.mono ?_; rintro e w7 ⟨_, rfl, ⟨g7, c7, rfl, _, _⟩, d0, d1, hN', hS'⟩)
  first | go_end0 | refine bodyPost_ret (results_none rfl _ _ _) rfl ?_
  exact ⟨rfl, _, _, _, _, _, _, _, (HT6.out.below ((Below.refl _ W6).alloc (Nat.le_refl _) _)).onN hN' hS'⟩
end Go.Proofs.YtjdmgmnndfhmgaaGreat
/- split: two kids of one. -/
namespace Go.Proofs.YtjdmgmnndfhmgaaGreat
open Go Go.RowKit

set_option maxRecDepth 100000 in
set_option maxHeartbeats 4000000 in
/-- split of a kid that has five items and six kids. -/
theorem split_in (b l i : Nat) (iv kv liv lkv : Value) (its : List Itm) (ks : List Nat) (t0 t1 t2 t3 t4 : Itm) (k0 k1 k2 k3 k4 k5 : Nat) (w : World) (hN : Nod w b iv kv its ks) (hL : Nod w l liv lkv [t0, t1, t2, t3, t4] [k0, k1, k2, k3, k4, k5]) (hi : ks[i]? = some l) (hil : i ≤ its.length) (hn : its.length ≤ 100) (hk : ks.length ≤ 100)
    (hnd : (nf b iv kv ++ nf l liv lkv).Nodup) :
    Calls Tryz.prog 120 #[ptr b, .int .i64 i] w fun e w' => e = .returned (.tuple #[]) ∧ ∃ iv' kv' liv' lkv' r riv rkv, Tri w w' (nf b iv kv ++ nf l liv lkv) b iv' kv' (its.take i ++ t2 :: its.drop i) (ks.take (i + 1) ++ r :: ks.drop (i + 1)) l liv' lkv' [t0, t1] [k0, k1, k2] r riv rkv [t3, t4] [k3, k4, k5] := by
  have hik : i < ks.length := (List.getElem?_eq_some_iff.1 hi).1
  have hlt : ∀ k ∈ nf b iv kv ++ nf l liv lkv, k < w.heap.size := fun k hk => (List.mem_append.1 hk).elim (hN.foot_lt k) (hL.foot_lt k)
  have T0 : Tri w (w.alloc (.cells #[.slice none 0 0, .slice none 0 0] 186)) (nf b iv kv ++ nf l liv lkv) b iv kv its ks l liv lkv [t0, t1, t2, t3, t4] [k0, k1, k2, k3, k4, k5] w.heap.size (.slice none 0 0) (.slice none 0 0) [] [] :=
    ⟨hN.below ((Below.refl _ w).alloc (Nat.le_refl _) _), hL.below ((Below.refl _ w).alloc (Nat.le_refl _) _), Nod.fresh w, by rw [nf_fresh]; exact Step.new _ hnd hlt⟩
  obtain ⟨kg, kc, hkv, hkc, hkm⟩ := owns_form1 hN.kids (by omega)
  have kk := hN.kid hkv hi
  have c1 := hN.c1
  rw [hkv] at c1
  have s2 : isSl t2.mv := hL.mvs t2 (by simp)
  have HT0 := Hid.mk'' T0
  generalize nf b iv kv ++ nf l liv lkv = F0 at *
  clear T0 hN hL hlt hnd
  go_enter Tryz.func120, Tryz.ntmps120
  go_upto_region 1 with (fail)
  obtain ⟨W0, hW0⟩ : ∃ W0, W0 = w.alloc (.cells #[.slice none 0 0, .slice none 0 0] 186) := ⟨_, rfl⟩
  rw [← hW0] at HT0 ⊢
  clear hW0 c1 kk
  generalize w.heap.size = r at *
  obtain ⟨lg, lc, hlv, hlc, hlm⟩ := owns_form1 HT0.out.hl.items (by simp)
  have l0 := HT0.out.hl.c0
  obtain ⟨i2a, i2b⟩ := HT0.out.hl.item hlv (j := 2) (it := t2) rfl
  rw [hlv] at l0
  simp only [List.length_cons, List.length_nil, Nat.zero_add, Nat.reduceAdd, Nat.reduceMul] at l0 hlc i2a i2b hlv
  obtain ⟨key2, mv2⟩ := t2
  obtain ⟨mp, mn, mc, hmv⟩ := s2
  dsimp only at hmv i2a i2b
  subst hmv
  go_upto_region 3 with (fail)
  have HT1 : Hid (TriU w (W0.alloc (.cells #[.string key2, .slice mp mn mc] 151)) F0 b iv kv its ks l liv lkv [t0, t1, ⟨key2, .slice mp mn mc⟩, t3, t4] [k0, k1, k2, k3, k4, k5] r (.slice none 0 0) (.slice none 0 0) [] [] W0.heap.size key2 (.slice mp mn mc)) :=
    ⟨HT0.out.below ((Below.refl _ W0).alloc (Nat.le_refl _) _), row_alloc W0 _ _, fun h => by have := HT0.out.s.lt _ h; omega⟩
  obtain ⟨W1, hW1⟩ : ∃ W1, W1 = W0.alloc (.cells #[.string key2, .slice mp mn mc] 151) := ⟨_, rfl⟩
  rw [← hW1] at HT1 ⊢
  clear hW1 HT0 l0 i2a i2b
  generalize W0.heap.size = u at *
  subst hlv
  have l0 := HT1.out.t.hl.c0
  have f3 := freshI_node HT1.out.t.hl HT1.out.t.hr 3 lc lg rfl (by simp) (by simp) (lc - 3)
  simp only [List.length_cons, List.length_nil, Nat.zero_add, Nat.reduceAdd, Nat.reduceMul, Nat.reduceSub, List.drop_succ_cons, List.drop_zero] at f3
  have hlc3 : ¬ (lc = 3) := by omega
  go_wp2_with (go_at_call 129; refine f3.mono ?_; rintro e w' ⟨_, rfl, ⟨rg, rc, rfl, _, _⟩, d0, d1, hR', hS'⟩)
  have HT2 := Hid.mk'' (HT1.out.onR hR' hS')
  obtain ⟨W2, hW2⟩ : ∃ W2, W2 = w'.setCell ⟨r, 0, none⟩ (.slice (some ⟨rg, 0, none⟩) 2 rc) := ⟨_, rfl⟩
  rw [← hW2] at HT2 ⊢
  clear hW2 hR' hS' d0 d1 f3 HT1 l0
  go_cut [] from 41 to 54 (fun wx => ∃ lp lc', Hid (TriU w wx F0 b iv kv its ks l (.slice lp 2 lc') lkv [t0, t1] [k0, k1, k2, k3, k4, k5] r (.slice (some ⟨rg, 0, none⟩) 2 rc) (.slice none 0 0) [t3, t4] [] u key2 (.slice mp mn mc)))
  case first =>
    have l0 := HT2.out.t.hl.c0
    have hdel := fun W (hb : Below W2.heap.size W2 W) => delI_node (HT2.out.t.hl.below hb) 2 5 (by omega) (by simp) (by simp)
    simp only [List.length_cons, List.length_nil, Nat.zero_add, Nat.reduceAdd, Nat.reduceSub, List.drop_succ_cons, List.take_succ_cons, List.take_zero, List.append_nil, List.drop_nil] at hdel
    go_region_with (go_at_call 116; refine (hdel _ (Below.refl _ _).drew).mono ?_; rintro e w3 ⟨_, rfl, ⟨lp, lc', rfl⟩, d0, d1, hL', hS'⟩)
    all_goals (go_wp2_with fail; go_meet; case rel => exact ⟨_, _, HT2.out.onL hL' (Step.from (Below.refl _ _).drew hS' HT2.out.t.hl.nd HT2.out.t.hl.foot_lt)⟩)
  case rest =>
  obtain ⟨lp, lc', HT3⟩ := hcut
  clear HT2
  generalize wc = W3 at *
  have hlf := leaf_node HT3.out.t.hl
  simp only [List.length_nil, List.length_cons] at hlf
  obtain ⟨kg3, kc3, hkv3, hkc3, hkm3⟩ := owns_form1 HT3.out.t.hl.kids (by simp)
  simp only [List.length_cons, List.length_nil, Nat.zero_add, Nat.reduceAdd] at hkv3 hkc3
  subst hkv3
  have k1' := HT3.out.t.hl.c1
  have f6 := freshK_node HT3.out.t.hl HT3.out.t.hr 3 kc3 kg3 rfl (by simp) (by simp) (kc3 - 3)
  simp only [List.length_cons, List.length_nil, Nat.zero_add, Nat.reduceAdd, Nat.reduceSub, List.drop_succ_cons, List.drop_zero] at f6
  have hkc4 : ¬ (kc3 = 3) := by omega
  go_wp2_with (first | (go_at_call 115; refine hlf.mono ?_; rintro e w4 ⟨rfl, rfl⟩) | (go_at_call 130; refine f6.mono ?_; rintro e w5 ⟨_, rfl, ⟨rg2, rc2, rfl, _, _⟩, d0, d1, hR', hS'⟩))
  have HT4 := Hid.mk'' (HT3.out.onR hR' hS')
  obtain ⟨W4, hW4⟩ : ∃ W4, W4 = w5.setCell ⟨r, 1, none⟩ (.slice (some ⟨rg2, 0, none⟩) 3 rc2) := ⟨_, rfl⟩
  rw [← hW4] at HT4 ⊢
  clear hW4 hR' hS' d0 d1 f6 HT3 k1' hlf
  go_cut [] from 69 to 83 (fun wx => ∃ lp2 lc2, Hid (TriU w wx F0 b iv kv its ks l (.slice lp 2 lc') (.slice lp2 3 lc2) [t0, t1] [k0, k1, k2] r (.slice (some ⟨rg, 0, none⟩) 2 rc) (.slice (some ⟨rg2, 0, none⟩) 3 rc2) [t3, t4] [k3, k4, k5] u key2 (.slice mp mn mc)))
  case first =>
    have l1 := HT4.out.t.hl.c1
    have hdel := fun W (hb : Below W4.heap.size W4 W) => delK_node (HT4.out.t.hl.below hb) 3 6 (by omega) (by simp) (by simp)
    simp only [List.length_cons, List.length_nil, Nat.zero_add, Nat.reduceAdd, Nat.reduceSub, List.drop_succ_cons, List.take_succ_cons, List.take_zero, List.append_nil, List.drop_nil] at hdel
    go_region_with (go_at_call 131; refine (hdel _ (Below.refl _ _).drew).mono ?_; rintro e w3 ⟨_, rfl, ⟨lp2, lc2, rfl⟩, d0, d1, hL', hS'⟩)
    all_goals (go_wp2_with fail; go_meet; case rel => exact ⟨_, _, HT4.out.onL hL' (Step.from (Below.refl _ _).drew hS' HT4.out.t.hl.nd HT4.out.t.hl.foot_lt)⟩)
  case rest =>
  obtain ⟨lp2, lc2, HT5⟩ := hcut
  clear HT4
  generalize wc = W5 at *
  go_wp2_with fail
  subst hkv
  go_cut [] from 84 to 94 (fun wx => ∃ g' c', Hid (Tri w wx F0 b (.slice (some ⟨g', 0, none⟩) (its.length + 1) c') (.slice (some ⟨kg, 0, none⟩) ks.length kc) (its.take i ++ ⟨key2, .slice mp mn mc⟩ :: its.drop i) ks l (.slice lp 2 lc') (.slice lp2 3 lc2) [t0, t1] [k0, k1, k2] r (.slice (some ⟨rg, 0, none⟩) 2 rc) (.slice (some ⟨rg2, 0, none⟩) 3 rc2) [t3, t4] [k3, k4, k5]))
  case first =>
    obtain ⟨ip, ic, hiv, _, _⟩ := owns_form HT5.out.t.hn.items
    subst hiv
    have c0 := HT5.out.t.hn.c0
    have ca0 : ∀ o, (W5.alloc o).cell? ⟨b, 0, none⟩ = _ := fun o => (HT5.out.below ((Below.refl _ W5).alloc (Nat.le_refl _) o)).t.hn.c0
    have u0 := HT5.out.u0
    have u1 := HT5.out.u1
    have hins := fun W (hb : Below W5.heap.size W5 W) (hr : W.heap[W5.heap.size]? = some (.cells #[.string key2, .slice mp mn mc] 151 (0, 0))) => insI_node (HT5.out.t.hn.below hb) ⟨key2, .slice mp mn mc⟩ ⟨mp, mn, mc, rfl⟩ i W5.heap.size hil (by omega) hr (fun e => by have := owns_lt HT5.out.t.hn.items e; omega)
    go_region_with (go_at_call 128; refine (hins _ (by first | exact ((Below.refl _ _).drew.alloc (Nat.le_refl _) _) | exact ((Below.refl _ _).alloc (Nat.le_refl _) _).drew) (by first | exact row_alloc _ _ _ | rfl)).mono ?_; rintro e w3 ⟨_, rfl, ⟨g', c', rfl, _, _⟩, d0, d1, hN', hS'⟩)
    all_goals (go_wp2_with fail; go_meet; case rel => exact ⟨_, _, HT5.out.t.onN hN' (Step.from (by first | exact ((Below.refl _ _).drew.alloc (Nat.le_refl _) _) | exact ((Below.refl _ _).alloc (Nat.le_refl _) _).drew) hS' HT5.out.t.hn.nd HT5.out.t.hn.foot_lt)⟩)
  case rest =>
  obtain ⟨g', c', HT6⟩ := hcut
  clear HT5
  generalize wc = W6 at *
  have c1 := HT6.out.hn.c1
  have hins := insK_node (HT6.out.below (W' := W6.alloc (.cells #[ptr r] 123)) ((Below.refl _ W6).alloc (Nat.le_refl _) _)).hn r (i + 1) W6.heap.size (by omega) (by omega) (row_alloc _ _ _) (fun e => by have := owns_lt HT6.out.hn.kids e; omega)
  rw [show ((i + 1 : Nat) : Int) = (i : Int) + 1 by omega] at hins
  have ca1 : ∀ o, (W6.alloc o).cell? ⟨b, 1, none⟩ = _ := fun o => (HT6.out.below ((Below.refl _ W6).alloc (Nat.le_refl _) o)).hn.c1
  go_wp2_with (go_at_call 132; refine hins.mono ?_; rintro e w7 ⟨_, rfl, ⟨g7, c7, rfl, _, _⟩, d0, d1, hN', hS'⟩)
  first | go_end0 | refine bodyPost_ret (results_none rfl _ _ _) rfl ?_
  exact ⟨rfl, _, _, _, _, _, _, _, (HT6.out.below ((Below.refl _ W6).alloc (Nat.le_refl _) _)).onN hN' hS'⟩
end Go.Proofs.YtjdmgmnndfhmgaaGreat
/- A tree by its topmost node; split in a tree. -/
namespace Go.Proofs.YtjdmgmnndfhmgaaGreat
open Go Go.RowKit

/-- Kids that may stand below a node of height h with n items. -/
def Good (w : World) : Nat → Nat → List KidD → Prop
  | 0, _, g => g = []
  | h + 1, n, g => g.length = n + 1 ∧ ∀ k ∈ g, Tre w h k.b k.its k.L k.F ∧ 2 ≤ k.its.length ∧ k.its.length ≤ 4
/-- All items of such a node, in order. -/
def lv : Nat → List KidD → List Itm → List Itm
  | 0, _, its => its
  | _ + 1, g, its => weave g its
abbrev ff (b : Nat) (iv kv : Value) (g : List KidD) : List Nat := nf b iv kv ++ g.flatMap KidD.F
theorem Tre.open_ {w : World} : ∀ {h b : Nat} {its L : List Itm} {F : List Nat}, Tre w h b its L F → ∃ iv kv g, Nod w b iv kv its (g.map KidD.b) ∧ Good w h its.length g ∧ L = lv h g its ∧ F = ff b iv kv g
  | 0, _, _, _, _, ⟨iv, kv, hN, hL, hF⟩ => ⟨iv, kv, [], hN, rfl, hL, by simpa [ff] using hF⟩
  | _ + 1, _, _, _, _, ⟨iv, kv, ks, hN, hl, hk, hL, hF⟩ => ⟨iv, kv, ks, hN, ⟨hl, hk⟩, hL, hF⟩
theorem Tre.close {w : World} : ∀ {h b : Nat} {its : List Itm} {iv kv : Value} {g : List KidD}, Nod w b iv kv its (g.map KidD.b) → Good w h its.length g → Tre w h b its (lv h g its) (ff b iv kv g)
  | 0, _, _, iv, kv, g, hN, hg => by
    obtain rfl : g = [] := hg
    exact ⟨iv, kv, hN, rfl, by simp [ff]⟩
  | _ + 1, _, _, iv, kv, g, hN, hg => ⟨iv, kv, g, hN, hg.1, hg.2, rfl, rfl⟩
theorem Good.zero {w : World} {h n : Nat} {g : List KidD} (hg : Good w h n g) : g = [] ∨ g.length = n + 1 := by
  cases h with
  | zero => exact .inl hg
  | succ h => exact .inr hg.1
theorem Good.upd {w w' : World} {S : Nat → Prop} (hu : Upd w w' S) {h n : Nat} {g : List KidD} (hg : Good w h n g) (hS : ∀ k ∈ g.flatMap KidD.F, ¬ S k) : Good w' h n g := by
  cases h with
  | zero => exact hg
  | succ h => exact ⟨hg.1, fun k hk => ⟨(hg.2 k hk).1.upd hu (fun j hj => hS j (List.mem_flatMap.2 ⟨k, hk, hj⟩)), (hg.2 k hk).2⟩⟩
theorem Good.take {w : World} {h n : Nat} {g : List KidD} (hg : Good w h n g) {i : Nat} (hi : i ≤ n) : Good w h i (g.take (i + 1)) := by
  cases h with
  | zero => obtain rfl : g = [] := hg; exact rfl
  | succ h => exact ⟨by rw [List.length_take, hg.1]; omega, fun k hk => hg.2 k (List.mem_of_mem_take hk)⟩
theorem Good.drop {w : World} {h n : Nat} {g : List KidD} (hg : Good w h n g) {i : Nat} (hi : i ≤ n) : Good w h (n - i) (g.drop i) := by
  cases h with
  | zero => obtain rfl : g = [] := hg; exact List.drop_nil
  | succ h => exact ⟨by rw [List.length_drop, hg.1]; omega, fun k hk => hg.2 k (List.mem_of_mem_drop hk)⟩

theorem split_any (b l i : Nat) (iv kv liv lkv : Value) (its : List Itm) (ks : List Nat) (t0 t1 t2 t3 t4 : Itm) (lks : List Nat) (w : World) (hN : Nod w b iv kv its ks) (hL : Nod w l liv lkv [t0, t1, t2, t3, t4] lks) (hlk : lks = [] ∨ lks.length = 6) (hi : ks[i]? = some l) (hil : i ≤ its.length) (hn : its.length ≤ 100) (hk : ks.length ≤ 100)
    (hnd : (nf b iv kv ++ nf l liv lkv).Nodup) :
    Calls Tryz.prog 120 #[ptr b, .int .i64 i] w fun e w' => e = .returned (.tuple #[]) ∧ ∃ iv' kv' liv' lkv' r riv rkv, Tri w w' (nf b iv kv ++ nf l liv lkv) b iv' kv' (its.take i ++ t2 :: its.drop i) (ks.take (i + 1) ++ r :: ks.drop (i + 1)) l liv' lkv' [t0, t1] (lks.take 3) r riv rkv [t3, t4] (lks.drop 3) := by
  rcases hlk with rfl | hlk
  · exact split_leaf b l i iv kv liv lkv its ks t0 t1 t2 t3 t4 w hN hL hi hil hn hk hnd
  · match lks, hlk, hL with
    | [k0, k1, k2, k3, k4, k5], _, hL => exact split_in b l i iv kv liv lkv its ks t0 t1 t2 t3 t4 k0 k1 k2 k3 k4 k5 w hN hL hi hil hn hk hnd

theorem lv_split5 {w : World} {h : Nat} {g : List KidD} {t0 t1 t2 t3 t4 : Itm} (hg : Good w h 5 g) : lv h g [t0, t1, t2, t3, t4] = lv h (g.take 3) [t0, t1] ++ t2 :: lv h (g.drop 3) [t3, t4] := by
  cases h with
  | zero => rfl
  | succ h =>
    match g, hg.1 with
    | [g0, g1, g2, g3, g4, g5], _ => simp [lv, weave, suf]
theorem perm_mid {α : Type} (X A K B : List α) : (X ++ (A ++ K ++ B)).Perm ((X ++ K) ++ (A ++ B)) := by
  have h1 : (A ++ K ++ B).Perm (K ++ (A ++ B)) := by
    rw [← List.append_assoc]
    exact List.Perm.append_right _ List.perm_append_comm
  have h2 : (X ++ (A ++ K ++ B)).Perm (X ++ (K ++ (A ++ B))) := List.Perm.append_left _ h1
  rwa [← List.append_assoc X K] at h2
/-- split within a tree: the kid in the middle of A and B has five items. -/
theorem split_tre {W : World} {h b : Nat} {iv kv : Value} {A B : List KidD} {k : KidD} {C D : List Itm} (hN : Nod W b iv kv (C ++ D) ((A ++ k :: B).map KidD.b)) (hAC : A.length = C.length) (hBD : B.length = D.length)
    (hA : ∀ x ∈ A ++ B, Tre W h x.b x.its x.L x.F ∧ 2 ≤ x.its.length ∧ x.its.length ≤ 4) (hk : Tre W h k.b k.its k.L k.F) (h5 : k.its.length = 5) (hnd : (ff b iv kv (A ++ k :: B)).Nodup) (hn : (C ++ D).length ≤ 78) :
    Calls Tryz.prog 120 #[ptr b, .int .i64 C.length] W fun e W2 => e = .returned (.tuple #[]) ∧ ∃ t F', Tre W2 (h + 1) b (C ++ t :: D) (weave (A ++ k :: B) (C ++ D)) F' ∧ Step W W2 (ff b iv kv (A ++ k :: B)) F' := by
  obtain ⟨liv, lkv, g, hL, hg, hkL, hkF⟩ := hk.open_
  obtain ⟨kb, kits, kL, kF⟩ := k
  dsimp only at hL hg hkL hkF h5 hk
  match kits, h5, hL, hg, hkL, hk with
  | [t0, t1, t2, t3, t4], _, hL, hg, hkL, hk =>
  have hp : (ff b iv kv (A ++ ⟨kb, [t0, t1, t2, t3, t4], kL, kF⟩ :: B)).Perm ((nf b iv kv ++ nf kb liv lkv) ++ (g.flatMap KidD.F ++ (A.flatMap KidD.F ++ B.flatMap KidD.F))) := by
    have h1 := perm_mid (nf b iv kv) (A.flatMap KidD.F) kF (B.flatMap KidD.F)
    rw [hkF] at h1
    simp only [ff, List.flatMap_append, List.flatMap_cons, hkF]
    refine List.Perm.trans ?_ (h1.trans ?_)
    · simp only [ff, List.append_assoc]; exact List.Perm.refl _
    · simp only [ff, List.append_assoc]; exact List.Perm.refl _
  have hnd2 := hp.nodup_iff.1 hnd
  have hlt : ∀ j ∈ g.flatMap KidD.F ++ (A.flatMap KidD.F ++ B.flatMap KidD.F), j < W.heap.size := fun j hj => by
    simp only [List.mem_append, List.mem_flatMap] at hj
    rcases hj with ⟨x, hx, hj⟩ | ⟨x, hx, hj⟩ | ⟨x, hx, hj⟩
    · exact hk.lt j (by rw [hkF]; exact List.mem_append_right _ (List.mem_flatMap.2 ⟨x, hx, hj⟩))
    · exact (hA x (List.mem_append_left _ hx)).1.lt j hj
    · exact (hA x (List.mem_append_right _ hx)).1.lt j hj
  have hi : ((A ++ ⟨kb, [t0, t1, t2, t3, t4], kL, kF⟩ :: B).map KidD.b)[C.length]? = some kb := by
    rw [List.map_append, List.getElem?_append_right (by simp; omega)]; simp [hAC]
  have hgl : (g.map KidD.b) = [] ∨ (g.map KidD.b).length = 6 := by
    rcases hg.zero with rfl | h
    · exact .inl rfl
    · right; simpa using h
  refine (split_any b kb C.length iv kv liv lkv (C ++ D) _ t0 t1 t2 t3 t4 (g.map KidD.b) W hN hL hgl hi (by simp) (by omega) (by simp at hn ⊢; omega) (List.nodup_append.1 hnd2).1).mono ?_
  rintro e W2 ⟨rfl, iv', kv', liv', lkv', r, riv, rkv, T⟩
  refine ⟨rfl, t2, ?_⟩
  have hd : ∀ j ∈ g.flatMap KidD.F ++ (A.flatMap KidD.F ++ B.flatMap KidD.F), j ∉ nf b iv kv ++ nf kb liv lkv := fun j hj hj' => (List.nodup_append.1 hnd2).2.2 j hj' j hj rfl
  have hg2 : Good W2 h 5 g := hg.upd T.s.upd (fun j hj => hd j (List.mem_append_left _ hj))
  have gl := hg2.take (i := 2) (by omega)
  have gr := hg2.drop (i := 3) (by omega)
  have hN2 := T.hn
  rw [List.take_left, List.drop_left] at hN2
  have TL := Tre.close (h := h) (w := W2) (b := kb) (its := [t0, t1]) (g := g.take 3) (by rw [List.map_take]; exact T.hl) gl
  have TR := Tre.close (h := h) (w := W2) (b := r) (its := [t3, t4]) (g := g.drop 3) (by rw [List.map_drop]; exact T.hr) gr
  have hks : ((A ++ ⟨kb, [t0, t1, t2, t3, t4], kL, kF⟩ :: B).map KidD.b).take (C.length + 1) ++ r :: ((A ++ ⟨kb, [t0, t1, t2, t3, t4], kL, kF⟩ :: B).map KidD.b).drop (C.length + 1) = (A ++ ⟨kb, [t0, t1], lv h (g.take 3) [t0, t1], ff kb liv' lkv' (g.take 3)⟩ :: ⟨r, [t3, t4], lv h (g.drop 3) [t3, t4], ff r riv rkv (g.drop 3)⟩ :: B).map KidD.b := by
    rw [← hAC, List.map_append, List.map_cons, show A.length + 1 = (A.map KidD.b).length + 1 by simp, List.take_length_add_append, List.drop_length_add_append]
    simp
  rw [hks] at hN2
  have TT := Tre.close (h := h + 1) (w := W2) (b := b) hN2 (by
    refine ⟨by simp; omega, fun x hx => ?_⟩
    simp only [List.mem_append, List.mem_cons] at hx
    have hold : ∀ x ∈ A ++ B, Tre W2 h x.b x.its x.L x.F ∧ 2 ≤ x.its.length ∧ x.its.length ≤ 4 := fun x hx => ⟨(hA x hx).1.upd T.s.upd (fun j hj => hd j (List.mem_append_right _ (by
      rw [← List.flatMap_append]; exact List.mem_flatMap.2 ⟨x, hx, hj⟩))), (hA x hx).2⟩
    rcases hx with hx | rfl | rfl | hx
    · exact hold x (List.mem_append_left _ hx)
    · exact ⟨TL, by simp, by simp⟩
    · exact ⟨TR, by simp, by simp⟩
    · exact hold x (List.mem_append_right _ hx))
  have hLw : weave (A ++ ⟨kb, [t0, t1, t2, t3, t4], kL, kF⟩ :: B) (C ++ D) = lv (h + 1) (A ++ ⟨kb, [t0, t1], lv h (g.take 3) [t0, t1], ff kb liv' lkv' (g.take 3)⟩ :: ⟨r, [t3, t4], lv h (g.drop 3) [t3, t4], ff r riv rkv (g.drop 3)⟩ :: B) (C ++ t2 :: D) := by
    show _ = weave _ _
    rw [weave_split A _ B C D hAC, weave_split A _ _ C (t2 :: D) hAC]
    simp only [hkL, lv_split5 hg, suf, List.append_assoc, List.cons_append]
  rw [hLw]
  refine ⟨_, TT, (T.s.frame _ hnd2 hlt).perm hp.symm ?_⟩
  have hgF : g.flatMap KidD.F = (g.take 3).flatMap KidD.F ++ (g.drop 3).flatMap KidD.F := by rw [← List.flatMap_append, List.take_append_drop]
  rw [hgF]
  simp only [ff, List.flatMap_append, List.flatMap_cons]
  rw [List.perm_iff_count]
  intro a
  simp only [List.count_append]
  omega
end Go.Proofs.YtjdmgmnndfhmgaaGreat
