/- One item's marks changed in their place, in a tree. -/
import Derived.Test.YtilginghgigiiaaT4
namespace Go.Proofs.Ytilginghgigiiaa
open Go Go.RowKit

theorem ownsRow_agree {w w' : World} {base e size n : Nat} {v : Value} {xs : List Value} (h : w.ownsRow base e size v n xs) (hu : ∀ k, v.ownBlock = some k → w'.heap[k]? = w.heap[k]?) : w'.ownsRow base e size v n xs := by
  obtain ⟨h1, h2⟩ := h
  refine ⟨h1, ?_⟩
  rcases h2 with h2 | ⟨g, cap, cur, rfl, hg, hh, r⟩
  · exact .inl h2
  · exact .inr ⟨g, cap, cur, rfl, hg, by rw [hu g rfl]; exact hh, r⟩
theorem Nod.agree {w w' : World} {b : Nat} {iv kv : Value} {its : List Itm} {ks : List Nat} (h : Nod w b iv kv its ks) (hu : ∀ k ∈ nf b iv kv, w'.heap[k]? = w.heap[k]?) : Nod w' b iv kv its ks :=
  ⟨(hu b (by simp [nf])).trans h.blk, ownsRow_agree h.items (fun k hk => hu k (by simp [nf, hk])), ownsRow_agree h.kids (fun k hk => hu k (by simp [nf, hk])), h.mvs, h.nd⟩
theorem Tre.agree {w w' : World} : ∀ {h b : Nat} {its L : List Itm} {F : List Nat}, Tre w h b its L F → (∀ k ∈ F, w'.heap[k]? = w.heap[k]?) → Tre w' h b its L F
  | 0, _, _, _, _, ⟨iv, kv, hN, hL, hF⟩, hS => ⟨iv, kv, hN.agree (fun k hk => hS k (by rw [hF]; exact hk)), hL, hF⟩
  | h + 1, _, _, _, _, ⟨iv, kv, ks, hN, hl, hk, hL, hF⟩, hS => ⟨iv, kv, ks, hN.agree (fun k hk => hS k (by rw [hF]; exact List.mem_append_left _ hk)), hl, fun k hk' => ⟨(hk k hk').1.agree (fun j hj => hS j (by rw [hF]; exact List.mem_append_right _ (List.mem_flatMap.2 ⟨k, hk', hj⟩))), (hk k hk').2⟩, hL, hF⟩
theorem heap_setCell_other (w : World) (b j k : Nat) (v : Value) (h : k ≠ b) : (w.setCell ⟨b, j, none⟩ v).heap[k]? = w.heap[k]? := Below.heap_setCell _ _ _ _ h

theorem itsC_set : ∀ (its : List Itm) (i : Nat) (it : Itm) (mv : Value), its[i]? = some it → (itsC its).set (i * 2 + 1) mv = itsC (its.set i ⟨it.key, mv⟩)
  | [], i, it, mv, h => by simp at h
  | a :: l, 0, it, mv, h => by simp at h; subst h; simp [itsC, itC]
  | a :: l, i + 1, it, mv, h => by
    have ih := itsC_set l i it mv (by simpa using h)
    rw [show (i + 1) * 2 + 1 = (i * 2 + 1) + 1 + 1 by omega]
    simp only [itsC, List.flatMap_cons, itC, List.cons_append, List.nil_append, List.set_cons_succ] at ih ⊢
    rw [ih]
theorem Nod.setMark {w : World} {b g c i : Nat} {iv kv : Value} {its : List Itm} {ks : List Nat} {it : Itm} (h : Nod w b iv kv its ks) (hiv : iv = .slice (some ⟨g, 0, none⟩) its.length c) (hi : its[i]? = some it) (mv : Value) (hm : isSl mv) :
    Nod (w.setCell ⟨g, i * 2 + 1, none⟩ mv) b iv kv (its.set i ⟨it.key, mv⟩) ks := by
  have hnd := h.nd
  have hib : iv.ownBlock = some g := by rw [hiv]; rfl
  simp only [nf, hib, List.nodup_cons, List.mem_append, Option.mem_toList, not_or] at hnd
  obtain ⟨⟨n1, n2⟩, n3⟩ := hnd
  have hbg : b ≠ g := fun e => n1 (by rw [e])
  have hkg : ∀ k, kv.ownBlock = some k → k ≠ g := fun k hk e => by rw [hk, e] at n3; simp at n3
  refine ⟨(heap_setCell_other w g _ b mv hbg).trans h.blk, ?_, ownsRow_agree h.kids (fun k hk => heap_setCell_other w g _ k mv (hkg k hk)), fun x hx => ?_, h.nd⟩
  · rw [List.length_set]
    rcases h.items.2 with ⟨h1, _⟩ | ⟨g', cap, cur, h1, _, hg, hnc, hcm, hcs, ht⟩
    · rw [hiv] at h1; cases h1
    · rw [hiv] at h1
      cases h1
      have hil := (List.getElem?_eq_some_iff.1 hi).1
      rw [hiv]
      refine owns_of_row (heap_setCell_row hg mv) hnc hcm (by simp [hcs]) ?_ (by rw [itsC_len]; simp)
      rw [Array.set!_eq_setIfInBounds, Array.toList_setIfInBounds, List.take_set, ht, itsC_set its i it mv hi]
  · rcases List.mem_or_eq_of_mem_set hx with hx | rfl
    · exact h.mvs x hx
    · exact hm

/-- An item's place in a tree: its marks can be set there. -/
structure Slot (w : World) (h b : Nat) (n : Nat) (L : List Itm) (F : List Nat) (g i : Nat) (it : Itm) : Prop where
  mem : g ∈ F
  key : w.cell? ⟨g, i * 2, none⟩ = some (.string it.key)
  mv : w.cell? ⟨g, i * 2 + 1, none⟩ = some it.mv
  free : w.frozen? ⟨g, i * 2 + 1, none⟩ = false
  put : ∃ X Z, L = X ++ it :: Z ∧ ∀ w' : World, (∀ k ∈ F, w'.heap[k]? = w.heap[k]?) → ∀ mv', isSl mv' → ∃ its', its'.length = n ∧ Tre (w'.setCell ⟨g, i * 2 + 1, none⟩ mv') h b its' (X ++ ⟨it.key, mv'⟩ :: Z) F
theorem getElem_part {α : Type} {l : List α} {i : Nat} {x : α} (h : l[i]? = some x) : l = l.take i ++ x :: l.drop (i + 1) ∧ ∀ y, l.set i y = l.take i ++ y :: l.drop (i + 1) := by
  obtain ⟨hi, rfl⟩ := List.getElem?_eq_some_iff.1 h
  refine ⟨by rw [List.getElem_cons_drop, List.take_append_drop], fun y => ?_⟩
  rw [List.set_eq_take_append_cons_drop, if_pos hi]
/-- A node's own item. -/
theorem Slot.own {w : World} {h b : Nat} {its L : List Itm} {F : List Nat} (ht : Tre w h b its L F) (hnd : F.Nodup) {i : Nat} {it : Itm} (hi : its[i]? = some it) : ∃ g c, (∃ n, w.cell? ⟨b, 0, none⟩ = some (.slice (some ⟨g, 0, none⟩) n c) ∧ n = its.length) ∧ Slot w h b its.length L F g i it := by
  have hil := (List.getElem?_eq_some_iff.1 hi).1
  obtain ⟨iv, kv, gk, hN, hg, rfl, rfl⟩ := ht.open_
  obtain ⟨g, c, hiv, _, _⟩ := owns_form1 hN.items (by omega)
  obtain ⟨e0, e1⟩ := hN.item hiv hi
  have hib : iv.ownBlock = some g := by rw [hiv]; rfl
  have hgF : g ∈ ff b iv kv gk := List.mem_append_left _ (by simp [nf, hib])
  have hc0 := hN.c0
  rw [hiv] at hc0
  refine ⟨g, c, ⟨_, hc0, rfl⟩, hgF, e0, e1, ?_, ?_⟩
  · rcases hN.items.2 with ⟨h1, _⟩ | ⟨g', cap, cur, h1, _, hg, _⟩
    · rw [hiv] at h1; cases h1
    · rw [hiv] at h1; cases h1
      simp [World.frozen?, hg]
  · obtain ⟨hp1, hp2⟩ := getElem_part hi
    have key : ∃ X Z, lv h gk its = X ++ it :: Z ∧ ∀ y, lv h gk (its.set i y) = X ++ y :: Z := by
      cases h with
      | zero => exact ⟨_, _, hp1, hp2⟩
      | succ h =>
        obtain ⟨A, k, B, rfl, hA, hB⟩ := part_at gk i (by have := hg.1; omega)
        have hAC : A.length = (its.take i).length := by rw [hA, List.length_take]; omega
        have hBl : B.length = its.length - i := by rw [hB, hg.1]; omega
        cases B with
        | nil => simp at hBl; omega
        | cons b0 B =>
          refine ⟨pre A (its.take i) ++ k.L, b0.L ++ suf (its.drop (i + 1)) B, ?_, fun y => ?_⟩
          · show weave _ _ = _
            have := weave_split A k (b0 :: B) (its.take i) (it :: its.drop (i + 1)) hAC
            rw [← hp1] at this
            rw [this]; simp [suf]
          · show weave _ _ = _
            rw [hp2 y, weave_split A k (b0 :: B) (its.take i) (y :: its.drop (i + 1)) hAC]; simp [suf]
    obtain ⟨X, Z, h1, h2⟩ := key
    refine ⟨X, Z, h1, fun w' hw mv' hm => ⟨its.set i ⟨it.key, mv'⟩, by simp, ?_⟩⟩
    rw [← h2]
    have hN' : Nod w' b iv kv its (gk.map KidD.b) := hN.agree (fun k hk => hw k (List.mem_append_left _ hk))
    refine Tre.close (hN'.setMark hiv hi mv' hm) ?_
    rw [List.length_set]
    cases h with
    | zero => exact hg
    | succ h =>
      refine ⟨hg.1, fun k hk => ⟨(hg.2 k hk).1.agree (fun j hj => ?_), (hg.2 k hk).2⟩⟩
      have hjF : j ∈ gk.flatMap KidD.F := List.mem_flatMap.2 ⟨k, hk, hj⟩
      have hjg : j ≠ g := fun e => (List.nodup_append.1 hnd).2.2 g (by simp [nf, hib]) j hjF e.symm
      rw [heap_setCell_other w' g _ j mv' hjg]
      exact hw j (List.mem_append_right _ hjF)
/-- An item of a kid. -/
theorem Slot.kid {w : World} {h b : Nat} {iv kv : Value} {its : List Itm} {A B : List KidD} {k : KidD} {C D : List Itm} (hits : its = C ++ D) (hAC : A.length = C.length) (hN : Nod w b iv kv its ((A ++ k :: B).map KidD.b)) (hg : Good w (h + 1) its.length (A ++ k :: B)) (hnd : (ff b iv kv (A ++ k :: B)).Nodup) {g i : Nat} {it : Itm} (hs : Slot w h k.b k.its.length k.L k.F g i it) :
    Slot w (h + 1) b its.length (weave (A ++ k :: B) its) (ff b iv kv (A ++ k :: B)) g i it := by
  have hkm : k ∈ A ++ k :: B := by simp
  have hsub : ∀ j ∈ k.F, j ∈ ff b iv kv (A ++ k :: B) := fun j hj => List.mem_append_right _ (List.mem_flatMap.2 ⟨k, hkm, hj⟩)
  have hdis : g ∉ nf b iv kv ∧ ∀ x ∈ A ++ B, g ∉ x.F := by
    have hnd' := hnd
    simp only [ff, List.flatMap_append, List.flatMap_cons, List.nodup_append, List.mem_append, List.mem_flatMap] at hnd'
    obtain ⟨_, ⟨_, ⟨d1, _, d3⟩, d4⟩, d5⟩ := hnd'
    refine ⟨fun hj' => d5 g hj' g (.inr (.inl hs.mem)) rfl, fun x hx hj' => ?_⟩
    rcases List.mem_append.1 hx with hx | hx
    · exact d4 g ⟨x, hx, hj'⟩ g (.inl hs.mem) rfl
    · exact d3 g hs.mem g ⟨x, hx, hj'⟩ rfl
  refine ⟨hsub g hs.mem, hs.key, hs.mv, hs.free, ?_⟩
  obtain ⟨X, Z, h1, h2⟩ := hs.put
  subst hits
  refine ⟨pre A C ++ X, Z ++ suf D B, by rw [weave_split A k B C D hAC, h1]; simp, fun w' hw mv' hm => ?_⟩
  obtain ⟨its', hl', T'⟩ := h2 w' (fun j hj => hw j (hsub j hj)) mv' hm
  refine ⟨C ++ D, rfl, ?_⟩
  have hN' : Nod (w'.setCell ⟨g, i * 2 + 1, none⟩ mv') b iv kv (C ++ D) ((A ++ (⟨k.b, its', X ++ ⟨it.key, mv'⟩ :: Z, k.F⟩ : KidD) :: B).map KidD.b) := by
    have := hN.agree (w' := w'.setCell ⟨g, i * 2 + 1, none⟩ mv') (fun j hj => by
      rw [heap_setCell_other w' g _ j mv' (fun e => hdis.1 (e ▸ hj))]; exact hw j (List.mem_append_left _ hj))
    simpa using this
  have TT := Tre.close (h := h + 1) hN' ⟨by have := hg.1; simp at this ⊢; omega, fun x hx => by
    simp only [List.mem_append, List.mem_cons] at hx
    have hold : ∀ x ∈ A ++ B, Tre (w'.setCell ⟨g, i * 2 + 1, none⟩ mv') h x.b x.its x.L x.F ∧ 2 ≤ x.its.length ∧ x.its.length ≤ 4 := fun x hx => by
      have hxm : x ∈ A ++ k :: B := by simp only [List.mem_append, List.mem_cons] at hx ⊢; exact hx.elim .inl (fun h => .inr (.inr h))
      refine ⟨(hg.2 x hxm).1.agree (fun j hj => ?_), (hg.2 x hxm).2⟩
      rw [heap_setCell_other w' g _ j mv' (fun e => hdis.2 x hx (e ▸ hj))]
      exact hw j (List.mem_append_right _ (List.mem_flatMap.2 ⟨x, hxm, hj⟩))
    rcases hx with hx | rfl | hx
    · exact hold x (by simp [hx])
    · have := (hg.2 k hkm).2
      exact ⟨T', by show 2 ≤ its'.length; omega, by show its'.length ≤ 4; omega⟩
    · exact hold x (by simp [hx])⟩
  have e1 : lv (h + 1) (A ++ (⟨k.b, its', X ++ ⟨it.key, mv'⟩ :: Z, k.F⟩ : KidD) :: B) (C ++ D) = pre A C ++ X ++ ⟨it.key, mv'⟩ :: (Z ++ suf D B) := by
    show weave _ _ = _
    rw [weave_split A _ B C D hAC]; simp
  have e2 : ff b iv kv (A ++ (⟨k.b, its', X ++ ⟨it.key, mv'⟩ :: Z, k.F⟩ : KidD) :: B) = ff b iv kv (A ++ k :: B) := by simp [ff]
  rw [e1, e2] at TT
  exact TT
end Go.Proofs.Ytilginghgigiiaa
