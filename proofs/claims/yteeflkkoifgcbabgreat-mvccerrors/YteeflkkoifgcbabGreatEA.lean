/- One item's marks changed in their place, in a tree. -/
import Derived.Test.YteeflkkoifgcbabGreatGRB
import Derived.Deep.LoopGhost
import Derived.Test.YteeflkkoifgcbabGreatBB
namespace Go.Proofs.YteeflkkoifgcbabGreat
open Go Go.RowKit

theorem ownsRow_agree {w w' : World} {base e size n : Nat} {v : Value} {xs : List Value} (h : w.ownsRow base e size v n xs) (hu : ∀ k, v.ownBlock = some k → w'.heap[k]? = w.heap[k]?) : w'.ownsRow base e size v n xs := by
  obtain ⟨h1, h2⟩ := h
  refine ⟨h1, ?_⟩
  rcases h2 with h2 | ⟨g, cap, cur, rfl, hg, hh, r⟩
  · exact .inl h2
  · exact .inr ⟨g, cap, cur, rfl, hg, by rw [hu g rfl]; exact hh, r⟩
theorem Nod.agree {w w' : World} {b : Nat} {iv kv : Value} {its : List Itm} {ks : List Nat} (h : Nod w b iv kv its ks) (hu : ∀ k ∈ nf b iv kv, w'.heap[k]? = w.heap[k]?) : Nod w' b iv kv its ks :=
  ⟨(hu b (by simp [nf])).trans h.blk, ownsRow_agree h.items (fun k hk => hu k (by simp [nf, hk])), ownsRow_agree h.kids (fun k hk => hu k (by simp [nf, hk])), h.mvs, h.nd⟩
theorem Tre.agree {w w' : World} : ∀ {h b : Nat} {its L : List Itm} {F : List Nat}, Tre w h b its L F → (∀ k ∈ F, w'.heap[k]? = w.heap[k]?) → Tre w' h b its L F
  | 0, _, _, _, _, ⟨iv, kv, hN, hL, hF⟩, hS => ⟨iv, kv, hN.agree (fun k hk => hS k (by rw [hF]; exact hk)), hL, hF⟩
  | h + 1, _, _, _, _, ⟨iv, kv, ks, hN, hl, hk, hL, hF⟩, hS => ⟨iv, kv, ks, hN.agree (fun k hk => hS k (by rw [hF]; exact List.mem_append_left _ hk)), hl, fun k hk' => ⟨(hk k hk').1.agree (fun j hj => hS j (by rw [hF]; exact List.mem_append_right _ (List.mem_flatMap.2 ⟨k, hk', hj⟩))), (hk k hk').2⟩, hL, hF⟩
theorem heap_setCell_other (w : World) (b j k : Nat) (v : Value) (h : k ≠ b) : (w.setCell ⟨b, j, none⟩ v).heap[k]? = w.heap[k]? := Below.heap_setCell _ _ _ _ h

theorem itsC_set : ∀ (its : List Itm) (i : Nat) (it : Itm) (mv : Value), its[i]? = some it → (itsC its).set (i * 2 + 1) mv = itsC (its.set i ⟨it.key, mv⟩)
  | [], i, it, mv, h => by simp at h
  | a :: l, 0, it, mv, h => by simp at h; subst h; simp [itsC, itC]
  | a :: l, i + 1, it, mv, h => by
    have ih := itsC_set l i it mv (by simpa using h)
    rw [show (i + 1) * 2 + 1 = (i * 2 + 1) + 1 + 1 by omega]
    simp only [itsC, List.flatMap_cons, itC, List.cons_append, List.nil_append, List.set_cons_succ] at ih ⊢
    rw [ih]
theorem Nod.setMark {w : World} {b g c i : Nat} {iv kv : Value} {its : List Itm} {ks : List Nat} {it : Itm} (h : Nod w b iv kv its ks) (hiv : iv = .slice (some ⟨g, 0, none⟩) its.length c) (hi : its[i]? = some it) (mv : Value) (hm : isSl mv) :
    Nod (w.setCell ⟨g, i * 2 + 1, none⟩ mv) b iv kv (its.set i ⟨it.key, mv⟩) ks := by
  have hnd := h.nd
  have hib : iv.ownBlock = some g := by rw [hiv]; rfl
  simp only [nf, hib, List.nodup_cons, List.mem_append, Option.mem_toList, not_or] at hnd
  obtain ⟨⟨n1, n2⟩, n3⟩ := hnd
  have hbg : b ≠ g := fun e => n1 (by rw [e])
  have hkg : ∀ k, kv.ownBlock = some k → k ≠ g := fun k hk e => by rw [hk, e] at n3; simp at n3
  refine ⟨(heap_setCell_other w g _ b mv hbg).trans h.blk, ?_, ownsRow_agree h.kids (fun k hk => heap_setCell_other w g _ k mv (hkg k hk)), fun x hx => ?_, h.nd⟩
  · rw [List.length_set]
    rcases h.items.2 with ⟨h1, _⟩ | ⟨g', cap, cur, h1, _, hg, hnc, hcm, hcs, ht⟩
    · rw [hiv] at h1; cases h1
    · rw [hiv] at h1
      cases h1
      have hil := (List.getElem?_eq_some_iff.1 hi).1
      rw [hiv]
      refine owns_of_row (heap_setCell_row hg mv) hnc hcm (by simp [hcs]) ?_ (by rw [itsC_len]; simp)
      rw [Array.set!_eq_setIfInBounds, Array.toList_setIfInBounds, List.take_set, ht, itsC_set its i it mv hi]
  · rcases List.mem_or_eq_of_mem_set hx with hx | rfl
    · exact h.mvs x hx
    · exact hm

/-- An item's place in a tree: its marks can be set there. -/
structure Slot (w : World) (h b : Nat) (n : Nat) (L : List Itm) (F : List Nat) (g i : Nat) (it : Itm) : Prop where
  mem : g ∈ F
  key : w.cell? ⟨g, i * 2, none⟩ = some (.string it.key)
  mv : w.cell? ⟨g, i * 2 + 1, none⟩ = some it.mv
  free : w.frozen? ⟨g, i * 2 + 1, none⟩ = false
  put : ∃ X Z, L = X ++ it :: Z ∧ ∀ w' : World, (∀ k ∈ F, w'.heap[k]? = w.heap[k]?) → ∀ mv', isSl mv' → ∃ its', its'.length = n ∧ Tre (w'.setCell ⟨g, i * 2 + 1, none⟩ mv') h b its' (X ++ ⟨it.key, mv'⟩ :: Z) F
theorem getElem_part {α : Type} {l : List α} {i : Nat} {x : α} (h : l[i]? = some x) : l = l.take i ++ x :: l.drop (i + 1) ∧ ∀ y, l.set i y = l.take i ++ y :: l.drop (i + 1) := by
  obtain ⟨hi, rfl⟩ := List.getElem?_eq_some_iff.1 h
  refine ⟨by rw [List.getElem_cons_drop, List.take_append_drop], fun y => ?_⟩
  rw [List.set_eq_take_append_cons_drop, if_pos hi]
/-- A node's own item. -/
theorem Slot.own {w : World} {h b : Nat} {its L : List Itm} {F : List Nat} (ht : Tre w h b its L F) (hnd : F.Nodup) {i : Nat} {it : Itm} (hi : its[i]? = some it) : ∃ g c, (∃ n, w.cell? ⟨b, 0, none⟩ = some (.slice (some ⟨g, 0, none⟩) n c) ∧ n = its.length) ∧ Slot w h b its.length L F g i it := by
  have hil := (List.getElem?_eq_some_iff.1 hi).1
  obtain ⟨iv, kv, gk, hN, hg, rfl, rfl⟩ := ht.open_
  obtain ⟨g, c, hiv, _, _⟩ := owns_form1 hN.items (by omega)
  obtain ⟨e0, e1⟩ := hN.item hiv hi
  have hib : iv.ownBlock = some g := by rw [hiv]; rfl
  have hgF : g ∈ ff b iv kv gk := List.mem_append_left _ (by simp [nf, hib])
  have hc0 := hN.c0
  rw [hiv] at hc0
  refine ⟨g, c, ⟨_, hc0, rfl⟩, hgF, e0, e1, ?_, ?_⟩
  · rcases hN.items.2 with ⟨h1, _⟩ | ⟨g', cap, cur, h1, _, hg, _⟩
    · rw [hiv] at h1; cases h1
    · rw [hiv] at h1; cases h1
      simp [World.frozen?, hg]
  · obtain ⟨hp1, hp2⟩ := getElem_part hi
    have key : ∃ X Z, lv h gk its = X ++ it :: Z ∧ ∀ y, lv h gk (its.set i y) = X ++ y :: Z := by
      cases h with
      | zero => exact ⟨_, _, hp1, hp2⟩
      | succ h =>
        obtain ⟨A, k, B, rfl, hA, hB⟩ := part_at gk i (by have := hg.1; omega)
        have hAC : A.length = (its.take i).length := by rw [hA, List.length_take]; omega
        have hBl : B.length = its.length - i := by rw [hB, hg.1]; omega
        cases B with
        | nil => simp at hBl; omega
        | cons b0 B =>
          refine ⟨pre A (its.take i) ++ k.L, b0.L ++ suf (its.drop (i + 1)) B, ?_, fun y => ?_⟩
          · show weave _ _ = _
            have := weave_split A k (b0 :: B) (its.take i) (it :: its.drop (i + 1)) hAC
            rw [← hp1] at this
            rw [this]; simp [suf]
          · show weave _ _ = _
            rw [hp2 y, weave_split A k (b0 :: B) (its.take i) (y :: its.drop (i + 1)) hAC]; simp [suf]
    obtain ⟨X, Z, h1, h2⟩ := key
    refine ⟨X, Z, h1, fun w' hw mv' hm => ⟨its.set i ⟨it.key, mv'⟩, by simp, ?_⟩⟩
    rw [← h2]
    have hN' : Nod w' b iv kv its (gk.map KidD.b) := hN.agree (fun k hk => hw k (List.mem_append_left _ hk))
    refine Tre.close (hN'.setMark hiv hi mv' hm) ?_
    rw [List.length_set]
    cases h with
    | zero => exact hg
    | succ h =>
      refine ⟨hg.1, fun k hk => ⟨(hg.2 k hk).1.agree (fun j hj => ?_), (hg.2 k hk).2⟩⟩
      have hjF : j ∈ gk.flatMap KidD.F := List.mem_flatMap.2 ⟨k, hk, hj⟩
      have hjg : j ≠ g := fun e => (List.nodup_append.1 hnd).2.2 g (by simp [nf, hib]) j hjF e.symm
      rw [heap_setCell_other w' g _ j mv' hjg]
      exact hw j (List.mem_append_right _ hjF)
/-- An item of a kid. -/
theorem Slot.kid {w : World} {h b : Nat} {iv kv : Value} {its : List Itm} {A B : List KidD} {k : KidD} {C D : List Itm} (hits : its = C ++ D) (hAC : A.length = C.length) (hN : Nod w b iv kv its ((A ++ k :: B).map KidD.b)) (hg : Good w (h + 1) its.length (A ++ k :: B)) (hnd : (ff b iv kv (A ++ k :: B)).Nodup) {g i : Nat} {it : Itm} (hs : Slot w h k.b k.its.length k.L k.F g i it) :
    Slot w (h + 1) b its.length (weave (A ++ k :: B) its) (ff b iv kv (A ++ k :: B)) g i it := by
  have hkm : k ∈ A ++ k :: B := by simp
  have hsub : ∀ j ∈ k.F, j ∈ ff b iv kv (A ++ k :: B) := fun j hj => List.mem_append_right _ (List.mem_flatMap.2 ⟨k, hkm, hj⟩)
  have hdis : g ∉ nf b iv kv ∧ ∀ x ∈ A ++ B, g ∉ x.F := by
    have hnd' := hnd
    simp only [ff, List.flatMap_append, List.flatMap_cons, List.nodup_append, List.mem_append, List.mem_flatMap] at hnd'
    obtain ⟨_, ⟨_, ⟨d1, _, d3⟩, d4⟩, d5⟩ := hnd'
    refine ⟨fun hj' => d5 g hj' g (.inr (.inl hs.mem)) rfl, fun x hx hj' => ?_⟩
    rcases List.mem_append.1 hx with hx | hx
    · exact d4 g ⟨x, hx, hj'⟩ g (.inl hs.mem) rfl
    · exact d3 g hs.mem g ⟨x, hx, hj'⟩ rfl
  refine ⟨hsub g hs.mem, hs.key, hs.mv, hs.free, ?_⟩
  obtain ⟨X, Z, h1, h2⟩ := hs.put
  subst hits
  refine ⟨pre A C ++ X, Z ++ suf D B, by rw [weave_split A k B C D hAC, h1]; simp, fun w' hw mv' hm => ?_⟩
  obtain ⟨its', hl', T'⟩ := h2 w' (fun j hj => hw j (hsub j hj)) mv' hm
  refine ⟨C ++ D, rfl, ?_⟩
  have hN' : Nod (w'.setCell ⟨g, i * 2 + 1, none⟩ mv') b iv kv (C ++ D) ((A ++ (⟨k.b, its', X ++ ⟨it.key, mv'⟩ :: Z, k.F⟩ : KidD) :: B).map KidD.b) := by
    have := hN.agree (w' := w'.setCell ⟨g, i * 2 + 1, none⟩ mv') (fun j hj => by
      rw [heap_setCell_other w' g _ j mv' (fun e => hdis.1 (e ▸ hj))]; exact hw j (List.mem_append_left _ hj))
    simpa using this
  have TT := Tre.close (h := h + 1) hN' ⟨by have := hg.1; simp at this ⊢; omega, fun x hx => by
    simp only [List.mem_append, List.mem_cons] at hx
    have hold : ∀ x ∈ A ++ B, Tre (w'.setCell ⟨g, i * 2 + 1, none⟩ mv') h x.b x.its x.L x.F ∧ 2 ≤ x.its.length ∧ x.its.length ≤ 4 := fun x hx => by
      have hxm : x ∈ A ++ k :: B := by simp only [List.mem_append, List.mem_cons] at hx ⊢; exact hx.elim .inl (fun h => .inr (.inr h))
      refine ⟨(hg.2 x hxm).1.agree (fun j hj => ?_), (hg.2 x hxm).2⟩
      rw [heap_setCell_other w' g _ j mv' (fun e => hdis.2 x hx (e ▸ hj))]
      exact hw j (List.mem_append_right _ (List.mem_flatMap.2 ⟨x, hxm, hj⟩))
    rcases hx with hx | rfl | hx
    · exact hold x (by simp [hx])
    · have := (hg.2 k hkm).2
      exact ⟨T', by show 2 ≤ its'.length; omega, by show its'.length ≤ 4; omega⟩
    · exact hold x (by simp [hx])⟩
  have e1 : lv (h + 1) (A ++ (⟨k.b, its', X ++ ⟨it.key, mv'⟩ :: Z, k.F⟩ : KidD) :: B) (C ++ D) = pre A C ++ X ++ ⟨it.key, mv'⟩ :: (Z ++ suf D B) := by
    show weave _ _ = _
    rw [weave_split A _ B C D hAC]; simp
  have e2 : ff b iv kv (A ++ (⟨k.b, its', X ++ ⟨it.key, mv'⟩ :: Z, k.F⟩ : KidD) :: B) = ff b iv kv (A ++ k :: B) := by simp [ff]
  rw [e1, e2] at TT
  exact TT
end Go.Proofs.YteeflkkoifgcbabGreat
/- find. -/
namespace Go.Proofs.YteeflkkoifgcbabGreat
open Go Go.RowKit

theorem kid_none {w : World} {b : Nat} {iv kv : Value} {its : List Itm} (hN : Nod w b iv kv its []) (i : Int) : Calls Tryz.prog 64 #[ptr b, .int .i64 i] w fun e w' => e = .returned (.pointer none) ∧ w' = w := by
  obtain ⟨p, c, h, _⟩ := owns_form hN.kids
  have h1 := hN.c1
  rw [h] at h1
  exact kid_leaf b c i p w h1
theorem kid_some {w : World} {b : Nat} {iv kv : Value} {its : List Itm} {ks : List Nat} (hN : Nod w b iv kv its ks) {i k : Nat} (hi : ks[i]? = some k) : Calls Tryz.prog 64 #[ptr b, .int .i64 i] w fun e w' => e = .returned (ptr k) ∧ w' = w := by
  have hl := (List.getElem?_eq_some_iff.1 hi).1
  obtain ⟨g, c, h, _⟩ := owns_form1 hN.kids (by omega)
  have h1 := hN.c1
  have h2 := hN.kid h hi
  rw [h] at h1
  exact kid_in b g _ c i k w h1 hl h2
theorem hre_true {its : List Itm} {key : ByteArray} (h : hre its key = true) : ∃ it, its[plc its key]? = some it ∧ it.key = key := by
  unfold hre at h
  split at h
  · exact ⟨_, ‹_›, by simpa using h⟩
  · cases h
/-- Where the key is not among a node's own items, it can stand in the kid at its place alone. -/
theorem in_kid {its : List Itm} {key : ByteArray} {A B : List KidD} {k : KidD} (hAC : A.length = (its.take (plc its key)).length) (ha : Asc (keysI (weave (A ++ k :: B) its))) (hf : hre its key = false) (hX : ∀ x ∈ pre A (its.take (plc its key)), klt x.key key = true) (hm : key ∈ keysI (weave (A ++ k :: B) its)) : key ∈ keysI k.L := by
  have hw := weave_split A k B (its.take (plc its key)) (its.drop (plc its key)) hAC
  rw [List.take_append_drop] at hw
  rw [hw] at hm ha
  simp only [keysI, List.map_append, List.mem_append] at hm
  rcases hm with (hm | hm) | hm
  · obtain ⟨x, hx, rfl⟩ := List.mem_map.1 hm
    have := hX x hx
    rw [klt_irrefl] at this; cases this
  · exact hm
  · exfalso
    obtain ⟨x, hx, hxk⟩ := List.mem_map.1 hm
    cases hD : its.drop (plc its key) with
    | nil => rw [hD] at hx; simp [suf] at hx
    | cons d D =>
      have hd : its[plc its key]? = some d := by
        have := congrArg (fun l => l[0]?) hD
        simpa using this
      rw [hD] at hx ha
      have h1 : klt d.key key = false := plc_not hd
      have h2 : d.key ≠ key := fun e => by unfold hre at hf; rw [hd] at hf; simp [e] at hf
      have h3 : klt key d.key = true := by
        cases hk : klt key d.key
        · exact absurd (klt_tri h1 hk) h2
        · rfl
      cases B with
      | nil => simp [suf] at hx
      | cons b0 B =>
        simp only [suf, List.mem_cons, List.mem_append] at hx
        simp only [keysI, List.map_append, suf, List.map_cons, asc_append] at ha
        have hdx : x = d ∨ klt d.key x.key = true := by
          rcases hx with hx | hx
          · exact .inl hx
          · right
            refine ha.2.1.1 x.key ?_
            rw [← List.map_append]
            exact List.mem_map_of_mem (List.mem_append.2 hx)
        rcases hdx with rfl | hdx
        · exact h2 hxk
        · have := klt_trans h3 hdx
          rw [hxk, klt_irrefl] at this; cases this

structure FindI (w : World) (h b n : Nat) (L : List Itm) (F : List Nat) (key : ByteArray) (h' b' : Nat) (its' L' : List Itm) (F' : List Nat) : Prop where
  t : Tre w h' b' its' L' F'
  nd : F'.Nodup
  asc : Asc (keysI L')
  len : its'.length ≤ 5
  sub : key ∈ keysI L → key ∈ keysI L'
  slot : ∀ g i it, Slot w h' b' its'.length L' F' g i it → Slot w h b n L F g i it

/-- What a node says of a key: it is there, or there is no kid, or the kid to go to. -/
theorem FindI.next {w : World} {h b n : Nat} {L : List Itm} {F : List Nat} {key : ByteArray} {h' b' : Nat} {its' L' : List Itm} {F' : List Nat} (H : FindI w h b n L F key h' b' its' L' F') (hf : hre its' key = false) :
    (∃ iv kv, Nod w b' iv kv its' [] ∧ key ∉ keysI L) ∨ ∃ iv kv ks k h2 its2 L2 F2, Nod w b' iv kv its' ks ∧ ks[plc its' key]? = some k ∧ h' = h2 + 1 ∧ FindI w h b n L F key h2 k its2 L2 F2 := by
  obtain ⟨iv, kv, g, hN, hg, hL, hF⟩ := H.t.open_
  cases h' with
  | zero =>
    obtain rfl : g = [] := hg
    change L' = its' at hL
    refine .inl ⟨iv, kv, hN, fun hm => ?_⟩
    have hm' := H.sub hm
    rw [hL] at hm'
    obtain ⟨x, hx, hxk⟩ := List.mem_map.1 hm'
    have hai := H.asc
    rw [hL] at hai
    obtain ⟨j, hj⟩ := List.getElem?_of_mem hx
    rcases Nat.lt_trichotomy j (plc its' key) with hlt | heq | hgt
    · have := plc_lt hlt hj
      rw [hxk, klt_irrefl] at this; cases this
    · subst heq
      unfold hre at hf; rw [hj] at hf; simp [hxk] at hf
    · have hpl : plc its' key < its'.length := by have := (List.getElem?_eq_some_iff.1 hj).1; omega
      have h1 := plc_not (key := key) (List.getElem?_eq_getElem hpl)
      have h2 := asc_get hai hgt (show (keysI its')[plc its' key]? = some (its'[plc its' key]).key by simp [List.getElem?_eq_getElem hpl]) (show (keysI its')[j]? = some x.key by simp [hj])
      rw [hxk] at h2
      rw [h2] at h1; cases h1
  | succ h2 =>
    have ha := H.asc
    rw [hL] at ha
    obtain ⟨A, k, B, rfl, hAC, hBD, hAp, hw, hX, hZ⟩ := parted (key := key) hg.1 ha
    have hkm : k ∈ A ++ k :: B := by simp
    have hik : ((A ++ k :: B).map KidD.b)[plc its' key]? = some k.b := by
      rw [List.map_append, List.getElem?_append_right (by simp; omega)]; simp [hAp]
    have hnd := H.nd
    rw [hF] at hnd
    refine .inr ⟨iv, kv, _, k.b, h2, k.its, k.L, k.F, hN, hik, rfl, (hg.2 k hkm).1, ?_, ?_, by have := (hg.2 k hkm).2; omega, fun hm => ?_, fun g' i it hs => ?_⟩
    · simp only [ff, List.flatMap_append, List.flatMap_cons, List.nodup_append] at hnd
      exact hnd.2.1.2.1.1
    · have ha' := ha
      change Asc (keysI (weave _ _)) at ha'
      rw [hw] at ha'
      simp only [keysI, List.map_append, asc_append] at ha'
      exact ha'.1.2.1
    · have hm' := H.sub hm
      rw [hL] at hm'
      exact in_kid hAC ha hf hX hm'
    · refine H.slot g' i it ?_
      rw [hL, hF]
      exact Slot.kid (C := its'.take (plc its' key)) (D := its'.drop (plc its' key)) (by rw [List.take_append_drop]) hAC hN hg hnd hs

set_option maxRecDepth 100000 in
set_option maxHeartbeats 2000000 in
theorem find_tre {w : World} {h b : Nat} {its L : List Itm} {F : List Nat} (ht : Tre w h b its L F) (hnd : F.Nodup) (ha : Asc (keysI L)) (h4 : its.length ≤ 5) (key : ByteArray) :
    Calls Tryz.prog 56 #[ptr b, .string key] w fun e w' => Below w.heap.size w w' ∧ ((e = .returned (.pointer none) ∧ key ∉ keysI L) ∨ ∃ g i it, e = .returned (.pointer (some ⟨g, i * 2, none⟩)) ∧ it.key = key ∧ Slot w h b its.length L F g i it) := by
  have H0 : FindI w h b its.length L F key h b its L F := ⟨ht, hnd, ha, h4, id, fun _ _ _ h => h⟩
  clear ht hnd ha h4
  go_enter Tryz.func56, Tryz.ntmps56
  go_wp2
  go_loopg [0] (h + 1) (fun kx s0 wr => Hid (Below w.heap.size w wr) ∧ ((s0 = .pointer none ∧ Hid (key ∉ keysI L)) ∨ ∃ h' b' its' L' F', s0 = ptr b' ∧ h' + 1 ≤ kx ∧ Hid (FindI w h b its.length L F key h' b' its' L' F')))
  case atStart => exact ⟨Below.refl _ _, .inr ⟨h, b, its, L, F, rfl, Nat.le_refl _, H0⟩⟩
  case round =>
    clear H0
    obtain ⟨hb, hst⟩ := hrel
    rcases hst with ⟨rfl, hno⟩ | ⟨h', b', its', L', F', rfl, hkx, H⟩
    · go_wp2
      go_ret
      exact ⟨hb, .inl ⟨rfl, hno⟩⟩
    · obtain ⟨niv, nkv, nks, hN, _, _⟩ := H.out.t.nod
      have hpl := (place_node (hN.below hb) (H.out.t.asc H.out.asc) (by have := H.out.len; omega) key).mono (R' := fun e w' => e = .returned (.tuple #[.int .i64 (plc its' key), .bool (hre its' key)]) ∧ Below w.heap.size w w') fun e w' h => ⟨h.1, hb.out.trans (h.2.mono hb.out.size)⟩
      clear hN
      cases hf : hre its' key
      · rw [hf] at hpl
        rcases H.out.next hf with ⟨iv, kv, hN, hno⟩ | ⟨iv, kv, ks, k, h2, its2, L2, F2, hN, hik, rfl, H2⟩
        · have HN := Hid.mk'' hN
          have HNO := Hid.mk'' hno
          clear hN hno hf
          go_wp2_with (first | (go_at_call 73; refine hpl.mono ?_; rintro e w1 ⟨rfl, hb1⟩) | (go_at_call 64; refine (kid_none (HN.out.below hb1) _).mono ?_; rintro e w2 ⟨rfl, rfl⟩))
          go_roundg 0
          case measure => omega
          case rel => exact ⟨hb1, .inl ⟨rfl, HNO⟩⟩
        · have HN := Hid.mk'' hN
          have HH := Hid.mk'' H2
          have HIK := Hid.mk'' hik
          clear hN H2 hf hik
          go_wp2_with (first | (go_at_call 73; refine hpl.mono ?_; rintro e w1 ⟨rfl, hb1⟩) | (go_at_call 64; refine (kid_some (HN.out.below hb1) HIK.out).mono ?_; rintro e w2 ⟨rfl, rfl⟩))
          go_roundg (h2 + 1)
          case measure => omega
          case rel => exact ⟨hb1, .inr ⟨h2, k, its2, L2, F2, rfl, Nat.le_refl _, HH⟩⟩
      · rw [hf] at hpl
        obtain ⟨it, hit, hkey⟩ := hre_true hf
        obtain ⟨g, c, ⟨n, hc0, hn⟩, hs⟩ := Slot.own H.out.t H.out.nd hit
        have hpl' : plc its' key < its'.length := (List.getElem?_eq_some_iff.1 hit).1
        have HS := Hid.mk'' (H.out.slot _ _ _ hs)
        have HK := Hid.mk'' hkey
        have hlt : b' < w.heap.size := World.block_lt_of_cell? _ _ hc0
        have hlen := H.out.len
        clear hf hit hs hkey
        go_wp2_with (go_at_call 73; refine hpl.mono ?_; rintro e w1 ⟨rfl, hb1⟩; have hc1 := (hb1.cell (p := ⟨b', 0, none⟩) hlt).trans hc0)
        go_ret
        exact ⟨hb1, .inr ⟨g, plc its' key, it, rfl, HK, HS⟩⟩
end Go.Proofs.YteeflkkoifgcbabGreat
/- Marks in memory; an item's last mark. -/
namespace Go.Proofs.YteeflkkoifgcbabGreat
open Go Go.RowKit

abbrev Mk := Int × Bool
def mkC (m : Mk) : List Value := [.int .i64 m.1, .bool m.2]
def mksC (ms : List Mk) : List Value := ms.flatMap mkC
theorem mksC_len (ms : List Mk) : (mksC ms).length = ms.length * 2 := by
  induction ms with
  | nil => rfl
  | cons a l ih => simp only [mksC, List.flatMap_cons, List.length_append, List.length_cons] at ih ⊢; simp [mkC] at ih ⊢; omega
theorem mksC_append (a b : List Mk) : mksC (a ++ b) = mksC a ++ mksC b := by simp [mksC]
theorem mksC_get : ∀ (ms : List Mk) (j : Nat) (m : Mk), ms[j]? = some m → (mksC ms)[j * 2]? = some (.int .i64 m.1) ∧ (mksC ms)[j * 2 + 1]? = some (.bool m.2)
  | [], j, it, h => by simp at h
  | a :: l, 0, it, h => by simp at h; subst h; simp [mksC, mkC]
  | a :: l, j + 1, it, h => by
    have ih := mksC_get l j it (by simpa using h)
    rw [show (j + 1) * 2 = j * 2 + 1 + 1 by omega]
    simp only [mksC, List.flatMap_cons, mkC, List.cons_append, List.nil_append, List.getElem?_cons_succ] at ih ⊢
    exact ih
theorem mksC_drop : ∀ (ms : List Mk) (i : Nat), (mksC ms).drop (i * 2) = mksC (ms.drop i)
  | ms, 0 => by simp
  | [], i + 1 => by simp [mksC]
  | a :: l, i + 1 => by
    have ih := mksC_drop l i
    rw [show (i + 1) * 2 = i * 2 + 1 + 1 by omega]
    simp only [mksC, List.flatMap_cons, mkC, List.cons_append, List.nil_append, List.drop_succ_cons] at ih ⊢
    rw [ih]
theorem mksC_mem (ms : List Mk) : ∀ u ∈ mksC ms, u.oneCell' = true := by
  intro u hu
  simp only [mksC, List.mem_flatMap] at hu
  obtain ⟨m, _, hu⟩ := hu
  simp only [mkC, List.mem_cons, List.not_mem_nil, or_false] at hu
  rcases hu with rfl | rfl <;> rfl
/-- Marks that lie in memory. -/
abbrev Mks (w : World) (v : Value) (ms : List Mk) : Prop := w.ownsRow 0 90 2 v ms.length (mksC ms)
theorem Mks.cell {w : World} {g c : Nat} {ms : List Mk} (h : Mks w (.slice (some ⟨g, 0, none⟩) ms.length c) ms) {j : Nat} {m : Mk} (hj : ms[j]? = some m) : w.cell? ⟨g, j * 2, none⟩ = some (.int .i64 m.1) ∧ w.cell? ⟨g, j * 2 + 1, none⟩ = some (.bool m.2) := by
  obtain ⟨h1, h2⟩ := mksC_get ms j m hj
  have hc := h.cells (g := g) rfl
  have a1 := hc _ _ h1
  have a2 := hc _ _ h2
  simp only [Addr.add_lit, Nat.zero_add] at a1 a2
  exact ⟨a1, a2⟩

set_option maxRecDepth 100000 in
set_option maxHeartbeats 1000000 in
theorem last_nil (w : World) : Calls Tryz.prog 65 #[.pointer none] w fun e w' => e = .returned (.agg #[.int .i64 0, .bool true]) ∧ Below w.heap.size w w' := by
  go_enter Tryz.func65, Tryz.ntmps65
  go_wp2
  refine bodyPost_ret (v := .agg #[.int .i64 0, .bool true]) (by simp [results, Tryz.results65, go_sem]) rfl ⟨rfl, ?_⟩
  exact (Below.refl _ _).alloc (Nat.le_refl _) _
set_option maxRecDepth 100000 in
set_option maxHeartbeats 1000000 in
theorem last_any (w : World) (g i mg c : Nat) (ms : List Mk) (m : Mk) (hc : w.cell? ⟨g, i * 2 + 1, none⟩ = some (.slice (some ⟨mg, 0, none⟩) ms.length c)) (hM : Mks w (.slice (some ⟨mg, 0, none⟩) ms.length c) ms) (hm : ms[ms.length - 1]? = some m) (hn : ms.length ≤ 1000000) :
    Calls Tryz.prog 65 #[.pointer (some ⟨g, i * 2, none⟩)] w fun e w' => e = .returned (.agg #[.int .i64 m.1, .bool m.2]) ∧ Below w.heap.size w w' := by
  have hl := (List.getElem?_eq_some_iff.1 hm).1
  obtain ⟨c1, c2⟩ := Mks.cell hM hm
  have hgl : g < w.heap.size := World.block_lt_of_cell? _ _ hc
  have hml : mg < w.heap.size := World.block_lt_of_cell? _ _ c1
  clear hM hm
  obtain ⟨r, d⟩ := m
  dsimp only at c1 c2
  have hba : ∀ o, Below w.heap.size w (w.alloc o) := fun o => (Below.refl _ w).alloc (Nat.le_refl _) o
  have hc' : ∀ o, (w.alloc o).cell? ⟨g, i * 2 + 1, none⟩ = some (.slice (some ⟨mg, 0, none⟩) ms.length c) := fun o => ((hba o).cell (p := ⟨g, i * 2 + 1, none⟩) hgl).trans hc
  have c1' : ∀ o, (w.alloc o).cell? ⟨mg, (ms.length - 1) * 2, none⟩ = some (.int .i64 r) := fun o => ((hba o).cell (p := ⟨mg, (ms.length - 1) * 2, none⟩) hml).trans c1
  have c2' : ∀ o, (w.alloc o).cell? ⟨mg, (ms.length - 1) * 2 + 1, none⟩ = some (.bool d) := fun o => ((hba o).cell (p := ⟨mg, (ms.length - 1) * 2 + 1, none⟩) hml).trans c2
  have hx1 : IntKind.i64.wrap ((ms.length : Int) - 1) = ((ms.length - 1 : Nat) : Int) := by rw [IntKind.wrap_i64]; omega
  have hx2 : (0 : Int) ≤ ((ms.length - 1 : Nat) : Int) := by omega
  have hx3 : ((ms.length - 1 : Nat) : Int) < (ms.length : Int) := by omega
  go_enter Tryz.func65, Tryz.ntmps65
  go_wp2
  go_region
  all_goals
    go_wp2
    refine bodyPost_ret (v := .agg #[.int .i64 r, .bool d]) (by simp [results, Tryz.results65, go_sem]) rfl ⟨rfl, ?_⟩
    first | exact ((Below.refl _ _).alloc (Nat.le_refl _) _).drew | trace_state
end Go.Proofs.YteeflkkoifgcbabGreat
