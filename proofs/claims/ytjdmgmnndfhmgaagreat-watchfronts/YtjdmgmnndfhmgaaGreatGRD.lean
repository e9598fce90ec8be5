/- add, in a tree. -/
import Derived.Test.YtjdmgmnndfhmgaaGreatGRC
import Derived.Deep.LoopGhost
import Derived.Test.YtjdmgmnndfhmgaaGreatGRB
namespace Go.Proofs.YtjdmgmnndfhmgaaGreat
open Go Go.RowKit

theorem pre_lt {key : ByteArray} : ∀ (A : List KidD) (C : List Itm), Asc (keysI (pre A C)) → (∀ c ∈ C, klt c.key key = true) → ∀ x ∈ pre A C, klt x.key key = true
  | [], _, _, _, x, hx => by simp [pre] at hx
  | _ :: _, [], _, _, x, hx => by simp [pre] at hx
  | a :: A, c :: C, ha, hc, x, hx => by
    simp only [pre, keysI, List.map_append, List.map_cons, asc_append] at ha
    obtain ⟨h1, ⟨h2, h3⟩, h4⟩ := ha
    simp only [pre, List.mem_append, List.mem_cons] at hx
    rcases hx with hx | rfl | hx
    · exact klt_trans (h4 x.key (List.mem_map_of_mem hx) c.key (by simp)) (hc c (by simp))
    · exact hc x (by simp)
    · exact pre_lt A C h3 (fun d hd => hc d (by simp [hd])) x hx
theorem suf_ge {key : ByteArray} : ∀ (D : List Itm) (B : List KidD), Asc (keysI (suf D B)) → (∀ d ∈ D, klt d.key key = false) → ∀ x ∈ suf D B, klt x.key key = false
  | [], _, _, _, x, hx => by simp [suf] at hx
  | _ :: _, [], _, _, x, hx => by simp [suf] at hx
  | d :: D, b :: B, ha, hd, x, hx => by
    simp only [suf, keysI, List.map_append, List.map_cons] at ha
    obtain ⟨h1, h2⟩ := ha
    simp only [asc_append] at h2
    simp only [suf, List.mem_append, List.mem_cons] at hx
    rcases hx with rfl | hx | hx
    · exact hd x (by simp)
    · have := h1 x.key (List.mem_append_left _ (List.mem_map_of_mem hx))
      cases hk : klt x.key key
      · rfl
      · have h := klt_trans this hk
        rw [hd d (by simp)] at h; cases h
    · exact suf_ge D B h2.2.1 (fun e he => hd e (by simp [he])) x hx
/-- A list parted at a place. -/
theorem part_at {α : Type} (l : List α) (p : Nat) (h : p < l.length) : ∃ A k B, l = A ++ k :: B ∧ A.length = p ∧ B.length = l.length - p - 1 :=
  ⟨l.take p, l[p], l.drop (p + 1), by rw [List.getElem_cons_drop, List.take_append_drop], by simp; omega, by simp; omega⟩
/-- What a node's place says of a tree: what lies ahead of the kid there, what behind. -/
theorem parted {its : List Itm} {key : ByteArray} {ks : List KidD} (hl : ks.length = its.length + 1) (ha : Asc (keysI (weave ks its))) :
    ∃ A k B, ks = A ++ k :: B ∧ A.length = (its.take (plc its key)).length ∧ B.length = (its.drop (plc its key)).length ∧ A.length = plc its key ∧ weave ks its = pre A (its.take (plc its key)) ++ k.L ++ suf (its.drop (plc its key)) B ∧
      (∀ x ∈ pre A (its.take (plc its key)), klt x.key key = true) ∧ (∀ x ∈ suf (its.drop (plc its key)) B, klt x.key key = false) := by
  have hp := plc_le its key
  have hai : Asc (keysI its) := asc_sublist ((weave_sublist ks its hl).map _) ha
  obtain ⟨A, k, B, rfl, hA, hB⟩ := part_at ks (plc its key) (by omega)
  have hAC : A.length = (its.take (plc its key)).length := by rw [hA, List.length_take]; omega
  have hw := weave_split A k B (its.take (plc its key)) (its.drop (plc its key)) hAC
  rw [List.take_append_drop] at hw
  rw [hw] at ha
  simp only [keysI, List.map_append, asc_append] at ha
  refine ⟨A, k, B, rfl, hAC, by rw [hB, List.length_drop, hl]; omega, hA, hw, pre_lt A _ ha.1.1 (fun c hc => ?_), suf_ge _ B ha.2.1 (fun d hd => ?_)⟩
  · obtain ⟨j, hj⟩ := List.getElem?_of_mem hc
    rw [List.getElem?_take] at hj
    split at hj
    · exact plc_lt ‹_› hj
    · cases hj
  · obtain ⟨j, hj⟩ := List.getElem?_of_mem hd
    rw [List.getElem?_drop] at hj
    exact plc_ge hai (Nat.le_add_right _ _) hj

theorem add_tre (it : Itm) (hit : isSl it.mv) : ∀ (h : Nat) (w : World) (b : Nat) (its L : List Itm) (F : List Nat), Tre w h b its L F → F.Nodup → Asc (keysI L) → its.length ≤ 4 →
    Calls Tryz.prog 119 #[ptr b, .agg #[.string it.key, it.mv]] w fun e w' => e = .returned (.tuple #[]) ∧ ∃ its' F', Tre w' h b its' (insI L it) F' ∧ its.length ≤ its'.length ∧ its'.length ≤ its.length + 1 ∧ Step w w' F F' := by
  intro h
  induction h with
  | zero =>
    rintro w b its L F ⟨iv, kv, hN, rfl, rfl⟩ hnd ha h4
    refine (add_leaf hN ha (by omega) it hit).mono ?_
    rintro e w' ⟨rfl, iv', hN', hs⟩
    rw [insI_plc] at hN'
    exact ⟨rfl, _, _, ⟨iv', kv, hN', rfl, rfl⟩, by rw [insI_len]; omega, by rw [insI_len]; omega, hs⟩
  | succ h ih =>
    rintro w b its L F ⟨iv, kv, ks, hN, hl, hks, rfl, rfl⟩ hnd ha h4
    have hai : Asc (keysI its) := asc_sublist ((weave_sublist ks its hl).map _) ha
    obtain ⟨A, k, B, rfl, hAC, hBD, hAp, hw, hX, hZ⟩ := parted (key := it.key) hl ha
    have hkm : k ∈ A ++ k :: B := by simp
    have hik : ((A ++ k :: B).map KidD.b)[plc its it.key]? = some k.b := by
      rw [List.map_append, List.getElem?_append_right (by simp; omega)]; simp [hAp]
    have hak : Asc (keysI k.L) := by
      rw [hw] at ha
      simp only [keysI, List.map_append, asc_append] at ha
      exact ha.1.2.1
    have hndk : k.F.Nodup ∧ (∀ j ∈ k.F, j ∉ nf b iv kv) ∧ (∀ j ∈ k.F, ∀ x ∈ A ++ B, j ∉ x.F) := by
      simp only [List.flatMap_append, List.flatMap_cons, List.nodup_append, List.mem_append, List.mem_flatMap] at hnd
      obtain ⟨_, ⟨_, ⟨d1, _, d3⟩, d4⟩, d5⟩ := hnd
      refine ⟨d1, fun j hj hj' => d5 j hj' j (.inr (.inl hj)) rfl, fun j hj x hx hj' => ?_⟩
      rcases List.mem_append.1 hx with hx | hx
      · exact d4 j ⟨x, hx, hj'⟩ j (.inl hj) rfl
      · exact d3 j hj j ⟨x, hx, hj'⟩ rfl
    have hp : ∀ (K : List Nat), (nf b iv kv ++ (A.flatMap KidD.F ++ K ++ B.flatMap KidD.F)).Perm (K ++ (nf b iv kv ++ (A.flatMap KidD.F ++ B.flatMap KidD.F))) := fun K => by
      rw [List.perm_iff_count]; intro a; simp only [List.count_append]; omega
    have hfm : ∀ (x : KidD), (A ++ x :: B).flatMap KidD.F = A.flatMap KidD.F ++ x.F ++ B.flatMap KidD.F := fun x => by simp
    refine add_walk hN hai (by omega) (by simp at hl ⊢; omega) it hit hik (fun w' => ∃ its' F', Tre w' (h + 1) b its' (insI (weave (A ++ k :: B) its) it) F' ∧ its.length ≤ its'.length ∧ its'.length ≤ its.length + 1 ∧ Step w w' (nf b iv kv ++ (A ++ k :: B).flatMap KidD.F) F') ?_
    intro W hb
    refine (ih W k.b k.its k.L k.F ((hks k hkm).1.below hb) hndk.1 hak (hks k hkm).2.2).mono ?_
    rintro e W1 ⟨rfl, its1, F1, T1, q1, q2, s1⟩
    have s1' : Step w W1 k.F F1 := Step.from hb s1 hndk.1 (hks k hkm).1.lt
    have hN1 : Nod W1 b iv kv its ((A ++ k :: B).map KidD.b) := s1'.keep hN (fun j hj hj' => hndk.2.1 j hj' hj)
    have hold : ∀ x ∈ A ++ B, Tre W1 h x.b x.its x.L x.F ∧ 2 ≤ x.its.length ∧ x.its.length ≤ 4 := fun x hx => by
      have hxm : x ∈ A ++ k :: B := by simp only [List.mem_append, List.mem_cons] at hx ⊢; exact hx.elim .inl (fun h => .inr (.inr h))
      exact ⟨(hks x hxm).1.step s1' (fun j hj hj' => hndk.2.2 j hj' x hx hj), (hks x hxm).2⟩
    have hltR : ∀ j ∈ nf b iv kv ++ (A.flatMap KidD.F ++ B.flatMap KidD.F), j < w.heap.size := fun j hj => by
      simp only [List.mem_append, List.mem_flatMap] at hj
      rcases hj with hj | ⟨x, hx, hj⟩ | ⟨x, hx, hj⟩
      · exact hN.foot_lt j hj
      · exact (hks x (by simp [hx])).1.lt j hj
      · exact (hks x (by simp [hx])).1.lt j hj
    have S1 : Step w W1 (nf b iv kv ++ (A ++ k :: B).flatMap KidD.F) (ff b iv kv (A ++ ⟨k.b, its1, insI k.L it, F1⟩ :: B)) := by
      rw [ff, hfm, hfm]
      exact (s1'.frame _ ((hp k.F).nodup_iff.1 (by rw [← hfm]; exact hnd)) hltR).perm (hp k.F).symm (hp F1).symm
    have hLL : weave (A ++ ⟨k.b, its1, insI k.L it, F1⟩ :: B) its = insI (weave (A ++ k :: B) its) it := by
      have := weave_split A ⟨k.b, its1, insI k.L it, F1⟩ B (its.take (plc its it.key)) (its.drop (plc its it.key)) hAC
      rw [List.take_append_drop] at this
      rw [this, hw, insI_mid _ _ _ _ hX hZ]
    obtain ⟨civ, ckv, cks, hC1, _, _⟩ := T1.nod
    have hmap : (A ++ k :: B).map KidD.b = (A ++ (⟨k.b, its1, insI k.L it, F1⟩ : KidD) :: B).map KidD.b := by simp
    refine ⟨rfl, civ, ckv, its1, cks, hN1, hC1, ?_⟩
    have hk2 := (hks k hkm).2
    by_cases h5 : its1.length ≤ 4
    · refine .inl ⟨h5, its, _, ?_, Nat.le_refl _, by omega, S1⟩
      rw [← hLL]
      refine Tre.close (h := h + 1) (by rw [← hmap]; exact hN1) ⟨by simp at hl ⊢; omega, fun x hx => ?_⟩
      simp only [List.mem_append, List.mem_cons] at hx
      rcases hx with hx | rfl | hx
      · exact hold x (by simp [hx])
      · exact ⟨T1, by show 2 ≤ its1.length; omega, h5⟩
      · exact hold x (by simp [hx])
    · refine .inr ⟨by omega, ?_⟩
      have hN1' : Nod W1 b iv kv (its.take (plc its it.key) ++ its.drop (plc its it.key)) ((A ++ (⟨k.b, its1, insI k.L it, F1⟩ : KidD) :: B).map KidD.b) := by
        rw [List.take_append_drop, ← hmap]; exact hN1
      have := split_tre (h := h) hN1' hAC hBD hold T1 (by show its1.length = 5; omega) S1.nd (by rw [List.take_append_drop]; omega)
      rw [show ((its.take (plc its it.key)).length) = plc its it.key by rw [← hAC, hAp], List.take_append_drop, hLL] at this
      refine this.mono ?_
      rintro e W2 ⟨rfl, t, F', T2, s2⟩
      refine ⟨rfl, _, F', T2, ?_, ?_, S1.trans s2⟩
      · simp; omega
      · simp; omega
end Go.Proofs.YtjdmgmnndfhmgaaGreat
/- One item's marks changed in their place, in a tree. -/
namespace Go.Proofs.YtjdmgmnndfhmgaaGreat
open Go Go.RowKit

theorem ownsRow_agree {w w' : World} {base e size n : Nat} {v : Value} {xs : List Value} (h : w.ownsRow base e size v n xs) (hu : ∀ k, v.ownBlock = some k → w'.heap[k]? = w.heap[k]?) : w'.ownsRow base e size v n xs := by
  obtain ⟨h1, h2⟩ := h
  refine ⟨h1, ?_⟩
  rcases h2 with h2 | ⟨g, cap, cur, rfl, hg, hh, r⟩
  · exact .inl h2
  · exact .inr ⟨g, cap, cur, rfl, hg, by rw [hu g rfl]; exact hh, r⟩
theorem Nod.agree {w w' : World} {b : Nat} {iv kv : Value} {its : List Itm} {ks : List Nat} (h : Nod w b iv kv its ks) (hu : ∀ k ∈ nf b iv kv, w'.heap[k]? = w.heap[k]?) : Nod w' b iv kv its ks :=
  ⟨(hu b (by simp [nf])).trans h.blk, ownsRow_agree h.items (fun k hk => hu k (by simp [nf, hk])), ownsRow_agree h.kids (fun k hk => hu k (by simp [nf, hk])), h.mvs, h.nd⟩
theorem Tre.agree {w w' : World} : ∀ {h b : Nat} {its L : List Itm} {F : List Nat}, Tre w h b its L F → (∀ k ∈ F, w'.heap[k]? = w.heap[k]?) → Tre w' h b its L F
  | 0, _, _, _, _, ⟨iv, kv, hN, hL, hF⟩, hS => ⟨iv, kv, hN.agree (fun k hk => hS k (by rw [hF]; exact hk)), hL, hF⟩
  | h + 1, _, _, _, _, ⟨iv, kv, ks, hN, hl, hk, hL, hF⟩, hS => ⟨iv, kv, ks, hN.agree (fun k hk => hS k (by rw [hF]; exact List.mem_append_left _ hk)), hl, fun k hk' => ⟨(hk k hk').1.agree (fun j hj => hS j (by rw [hF]; exact List.mem_append_right _ (List.mem_flatMap.2 ⟨k, hk', hj⟩))), (hk k hk').2⟩, hL, hF⟩
theorem heap_setCell_other (w : World) (b j k : Nat) (v : Value) (h : k ≠ b) : (w.setCell ⟨b, j, none⟩ v).heap[k]? = w.heap[k]? := Below.heap_setCell _ _ _ _ h

theorem itsC_set : ∀ (its : List Itm) (i : Nat) (it : Itm) (mv : Value), its[i]? = some it → (itsC its).set (i * 2 + 1) mv = itsC (its.set i ⟨it.key, mv⟩)
  | [], i, it, mv, h => by simp at h
  | a :: l, 0, it, mv, h => by simp at h; subst h; simp [itsC, itC]
  | a :: l, i + 1, it, mv, h => by
    have ih := itsC_set l i it mv (by simpa using h)
    rw [show (i + 1) * 2 + 1 = (i * 2 + 1) + 1 + 1 by omega]
    simp only [itsC, List.flatMap_cons, itC, List.cons_append, List.nil_append, List.set_cons_succ] at ih ⊢
    rw [ih]
theorem Nod.setMark {w : World} {b g c i : Nat} {iv kv : Value} {its : List Itm} {ks : List Nat} {it : Itm} (h : Nod w b iv kv its ks) (hiv : iv = .slice (some ⟨g, 0, none⟩) its.length c) (hi : its[i]? = some it) (mv : Value) (hm : isSl mv) :
    Nod (w.setCell ⟨g, i * 2 + 1, none⟩ mv) b iv kv (its.set i ⟨it.key, mv⟩) ks := by
  have hnd := h.nd
  have hib : iv.ownBlock = some g := by rw [hiv]; rfl
  simp only [nf, hib, List.nodup_cons, List.mem_append, Option.mem_toList, not_or] at hnd
  obtain ⟨⟨n1, n2⟩, n3⟩ := hnd
  have hbg : b ≠ g := fun e => n1 (by rw [e])
  have hkg : ∀ k, kv.ownBlock = some k → k ≠ g := fun k hk e => by rw [hk, e] at n3; simp at n3
  refine ⟨(heap_setCell_other w g _ b mv hbg).trans h.blk, ?_, ownsRow_agree h.kids (fun k hk => heap_setCell_other w g _ k mv (hkg k hk)), fun x hx => ?_, h.nd⟩
  · rw [List.length_set]
    rcases h.items.2 with ⟨h1, _⟩ | ⟨g', cap, cur, h1, _, hg, hnc, hcm, hcs, ht⟩
    · rw [hiv] at h1; cases h1
    · rw [hiv] at h1
      cases h1
      have hil := (List.getElem?_eq_some_iff.1 hi).1
      rw [hiv]
      refine owns_of_row (heap_setCell_row hg mv) hnc hcm (by simp [hcs]) ?_ (by rw [itsC_len]; simp)
      rw [Array.set!_eq_setIfInBounds, Array.toList_setIfInBounds, List.take_set, ht, itsC_set its i it mv hi]
  · rcases List.mem_or_eq_of_mem_set hx with hx | rfl
    · exact h.mvs x hx
    · exact hm

/-- An item's place in a tree: its marks can be set there. -/
structure Slot (w : World) (h b : Nat) (n : Nat) (L : List Itm) (F : List Nat) (g i : Nat) (it : Itm) : Prop where
  mem : g ∈ F
  key : w.cell? ⟨g, i * 2, none⟩ = some (.string it.key)
  mv : w.cell? ⟨g, i * 2 + 1, none⟩ = some it.mv
  free : w.frozen? ⟨g, i * 2 + 1, none⟩ = false
  put : ∃ X Z, L = X ++ it :: Z ∧ ∀ w' : World, (∀ k ∈ F, w'.heap[k]? = w.heap[k]?) → ∀ mv', isSl mv' → ∃ its', its'.length = n ∧ Tre (w'.setCell ⟨g, i * 2 + 1, none⟩ mv') h b its' (X ++ ⟨it.key, mv'⟩ :: Z) F
theorem getElem_part {α : Type} {l : List α} {i : Nat} {x : α} (h : l[i]? = some x) : l = l.take i ++ x :: l.drop (i + 1) ∧ ∀ y, l.set i y = l.take i ++ y :: l.drop (i + 1) := by
  obtain ⟨hi, rfl⟩ := List.getElem?_eq_some_iff.1 h
  refine ⟨by rw [List.getElem_cons_drop, List.take_append_drop], fun y => ?_⟩
  rw [List.set_eq_take_append_cons_drop, if_pos hi]
/-- A node's own item. -/
theorem Slot.own {w : World} {h b : Nat} {its L : List Itm} {F : List Nat} (ht : Tre w h b its L F) (hnd : F.Nodup) {i : Nat} {it : Itm} (hi : its[i]? = some it) : ∃ g c, (∃ n, w.cell? ⟨b, 0, none⟩ = some (.slice (some ⟨g, 0, none⟩) n c) ∧ n = its.length) ∧ Slot w h b its.length L F g i it := by
  have hil := (List.getElem?_eq_some_iff.1 hi).1
  obtain ⟨iv, kv, gk, hN, hg, rfl, rfl⟩ := ht.open_
  obtain ⟨g, c, hiv, _, _⟩ := owns_form1 hN.items (by omega)
  obtain ⟨e0, e1⟩ := hN.item hiv hi
  have hib : iv.ownBlock = some g := by rw [hiv]; rfl
  have hgF : g ∈ ff b iv kv gk := List.mem_append_left _ (by simp [nf, hib])
  have hc0 := hN.c0
  rw [hiv] at hc0
  refine ⟨g, c, ⟨_, hc0, rfl⟩, hgF, e0, e1, ?_, ?_⟩
  · rcases hN.items.2 with ⟨h1, _⟩ | ⟨g', cap, cur, h1, _, hg, _⟩
    · rw [hiv] at h1; cases h1
    · rw [hiv] at h1; cases h1
      simp [World.frozen?, hg]
  · obtain ⟨hp1, hp2⟩ := getElem_part hi
    have key : ∃ X Z, lv h gk its = X ++ it :: Z ∧ ∀ y, lv h gk (its.set i y) = X ++ y :: Z := by
      cases h with
      | zero => exact ⟨_, _, hp1, hp2⟩
      | succ h =>
        obtain ⟨A, k, B, rfl, hA, hB⟩ := part_at gk i (by have := hg.1; omega)
        have hAC : A.length = (its.take i).length := by rw [hA, List.length_take]; omega
        have hBl : B.length = its.length - i := by rw [hB, hg.1]; omega
        cases B with
        | nil => simp at hBl; omega
        | cons b0 B =>
          refine ⟨pre A (its.take i) ++ k.L, b0.L ++ suf (its.drop (i + 1)) B, ?_, fun y => ?_⟩
          · show weave _ _ = _
            have := weave_split A k (b0 :: B) (its.take i) (it :: its.drop (i + 1)) hAC
            rw [← hp1] at this
            rw [this]; simp [suf]
          · show weave _ _ = _
            rw [hp2 y, weave_split A k (b0 :: B) (its.take i) (y :: its.drop (i + 1)) hAC]; simp [suf]
    obtain ⟨X, Z, h1, h2⟩ := key
    refine ⟨X, Z, h1, fun w' hw mv' hm => ⟨its.set i ⟨it.key, mv'⟩, by simp, ?_⟩⟩
    rw [← h2]
    have hN' : Nod w' b iv kv its (gk.map KidD.b) := hN.agree (fun k hk => hw k (List.mem_append_left _ hk))
    refine Tre.close (hN'.setMark hiv hi mv' hm) ?_
    rw [List.length_set]
    cases h with
    | zero => exact hg
    | succ h =>
      refine ⟨hg.1, fun k hk => ⟨(hg.2 k hk).1.agree (fun j hj => ?_), (hg.2 k hk).2⟩⟩
      have hjF : j ∈ gk.flatMap KidD.F := List.mem_flatMap.2 ⟨k, hk, hj⟩
      have hjg : j ≠ g := fun e => (List.nodup_append.1 hnd).2.2 g (by simp [nf, hib]) j hjF e.symm
      rw [heap_setCell_other w' g _ j mv' hjg]
      exact hw j (List.mem_append_right _ hjF)
/-- An item of a kid. -/
theorem Slot.kid {w : World} {h b : Nat} {iv kv : Value} {its : List Itm} {A B : List KidD} {k : KidD} {C D : List Itm} (hits : its = C ++ D) (hAC : A.length = C.length) (hN : Nod w b iv kv its ((A ++ k :: B).map KidD.b)) (hg : Good w (h + 1) its.length (A ++ k :: B)) (hnd : (ff b iv kv (A ++ k :: B)).Nodup) {g i : Nat} {it : Itm} (hs : Slot w h k.b k.its.length k.L k.F g i it) :
    Slot w (h + 1) b its.length (weave (A ++ k :: B) its) (ff b iv kv (A ++ k :: B)) g i it := by
  have hkm : k ∈ A ++ k :: B := by simp
  have hsub : ∀ j ∈ k.F, j ∈ ff b iv kv (A ++ k :: B) := fun j hj => List.mem_append_right _ (List.mem_flatMap.2 ⟨k, hkm, hj⟩)
  have hdis : g ∉ nf b iv kv ∧ ∀ x ∈ A ++ B, g ∉ x.F := by
    have hnd' := hnd
    simp only [ff, List.flatMap_append, List.flatMap_cons, List.nodup_append, List.mem_append, List.mem_flatMap] at hnd'
    obtain ⟨_, ⟨_, ⟨d1, _, d3⟩, d4⟩, d5⟩ := hnd'
    refine ⟨fun hj' => d5 g hj' g (.inr (.inl hs.mem)) rfl, fun x hx hj' => ?_⟩
    rcases List.mem_append.1 hx with hx | hx
    · exact d4 g ⟨x, hx, hj'⟩ g (.inl hs.mem) rfl
    · exact d3 g hs.mem g ⟨x, hx, hj'⟩ rfl
  refine ⟨hsub g hs.mem, hs.key, hs.mv, hs.free, ?_⟩
  obtain ⟨X, Z, h1, h2⟩ := hs.put
  subst hits
  refine ⟨pre A C ++ X, Z ++ suf D B, by rw [weave_split A k B C D hAC, h1]; simp, fun w' hw mv' hm => ?_⟩
  obtain ⟨its', hl', T'⟩ := h2 w' (fun j hj => hw j (hsub j hj)) mv' hm
  refine ⟨C ++ D, rfl, ?_⟩
  have hN' : Nod (w'.setCell ⟨g, i * 2 + 1, none⟩ mv') b iv kv (C ++ D) ((A ++ (⟨k.b, its', X ++ ⟨it.key, mv'⟩ :: Z, k.F⟩ : KidD) :: B).map KidD.b) := by
    have := hN.agree (w' := w'.setCell ⟨g, i * 2 + 1, none⟩ mv') (fun j hj => by
      rw [heap_setCell_other w' g _ j mv' (fun e => hdis.1 (e ▸ hj))]; exact hw j (List.mem_append_left _ hj))
    simpa using this
  have TT := Tre.close (h := h + 1) hN' ⟨by have := hg.1; simp at this ⊢; omega, fun x hx => by
    simp only [List.mem_append, List.mem_cons] at hx
    have hold : ∀ x ∈ A ++ B, Tre (w'.setCell ⟨g, i * 2 + 1, none⟩ mv') h x.b x.its x.L x.F ∧ 2 ≤ x.its.length ∧ x.its.length ≤ 4 := fun x hx => by
      have hxm : x ∈ A ++ k :: B := by simp only [List.mem_append, List.mem_cons] at hx ⊢; exact hx.elim .inl (fun h => .inr (.inr h))
      refine ⟨(hg.2 x hxm).1.agree (fun j hj => ?_), (hg.2 x hxm).2⟩
      rw [heap_setCell_other w' g _ j mv' (fun e => hdis.2 x hx (e ▸ hj))]
      exact hw j (List.mem_append_right _ (List.mem_flatMap.2 ⟨x, hxm, hj⟩))
    rcases hx with hx | rfl | hx
    · exact hold x (by simp [hx])
    · have := (hg.2 k hkm).2
      exact ⟨T', by show 2 ≤ its'.length; omega, by show its'.length ≤ 4; omega⟩
    · exact hold x (by simp [hx])⟩
  have e1 : lv (h + 1) (A ++ (⟨k.b, its', X ++ ⟨it.key, mv'⟩ :: Z, k.F⟩ : KidD) :: B) (C ++ D) = pre A C ++ X ++ ⟨it.key, mv'⟩ :: (Z ++ suf D B) := by
    show weave _ _ = _
    rw [weave_split A _ B C D hAC]; simp
  have e2 : ff b iv kv (A ++ (⟨k.b, its', X ++ ⟨it.key, mv'⟩ :: Z, k.F⟩ : KidD) :: B) = ff b iv kv (A ++ k :: B) := by simp [ff]
  rw [e1, e2] at TT
  exact TT
end Go.Proofs.YtjdmgmnndfhmgaaGreat
/- find. -/
namespace Go.Proofs.YtjdmgmnndfhmgaaGreat
open Go Go.RowKit

theorem kid_none {w : World} {b : Nat} {iv kv : Value} {its : List Itm} (hN : Nod w b iv kv its []) (i : Int) : Calls Tryz.prog 103 #[ptr b, .int .i64 i] w fun e w' => e = .returned (.pointer none) ∧ w' = w := by
  obtain ⟨p, c, h, _⟩ := owns_form hN.kids
  have h1 := hN.c1
  rw [h] at h1
  exact kid_leaf b c i p w h1
theorem kid_some {w : World} {b : Nat} {iv kv : Value} {its : List Itm} {ks : List Nat} (hN : Nod w b iv kv its ks) {i k : Nat} (hi : ks[i]? = some k) : Calls Tryz.prog 103 #[ptr b, .int .i64 i] w fun e w' => e = .returned (ptr k) ∧ w' = w := by
  have hl := (List.getElem?_eq_some_iff.1 hi).1
  obtain ⟨g, c, h, _⟩ := owns_form1 hN.kids (by omega)
  have h1 := hN.c1
  have h2 := hN.kid h hi
  rw [h] at h1
  exact kid_in b g _ c i k w h1 hl h2
theorem hre_true {its : List Itm} {key : ByteArray} (h : hre its key = true) : ∃ it, its[plc its key]? = some it ∧ it.key = key := by
  unfold hre at h
  split at h
  · exact ⟨_, ‹_›, by simpa using h⟩
  · cases h
/-- Where the key is not among a node's own items, it can stand in the kid at its place alone. -/
theorem in_kid {its : List Itm} {key : ByteArray} {A B : List KidD} {k : KidD} (hAC : A.length = (its.take (plc its key)).length) (ha : Asc (keysI (weave (A ++ k :: B) its))) (hf : hre its key = false) (hX : ∀ x ∈ pre A (its.take (plc its key)), klt x.key key = true) (hm : key ∈ keysI (weave (A ++ k :: B) its)) : key ∈ keysI k.L := by
  have hw := weave_split A k B (its.take (plc its key)) (its.drop (plc its key)) hAC
  rw [List.take_append_drop] at hw
  rw [hw] at hm ha
  simp only [keysI, List.map_append, List.mem_append] at hm
  rcases hm with (hm | hm) | hm
  · obtain ⟨x, hx, rfl⟩ := List.mem_map.1 hm
    have := hX x hx
    rw [klt_irrefl] at this; cases this
  · exact hm
  · exfalso
    obtain ⟨x, hx, hxk⟩ := List.mem_map.1 hm
    cases hD : its.drop (plc its key) with
    | nil => rw [hD] at hx; simp [suf] at hx
    | cons d D =>
      have hd : its[plc its key]? = some d := by
        have := congrArg (fun l => l[0]?) hD
        simpa using this
      rw [hD] at hx ha
      have h1 : klt d.key key = false := plc_not hd
      have h2 : d.key ≠ key := fun e => by unfold hre at hf; rw [hd] at hf; simp [e] at hf
      have h3 : klt key d.key = true := by
        cases hk : klt key d.key
        · exact absurd (klt_tri h1 hk) h2
        · rfl
      cases B with
      | nil => simp [suf] at hx
      | cons b0 B =>
        simp only [suf, List.mem_cons, List.mem_append] at hx
        simp only [keysI, List.map_append, suf, List.map_cons, asc_append] at ha
        have hdx : x = d ∨ klt d.key x.key = true := by
          rcases hx with hx | hx
          · exact .inl hx
          · right
            refine ha.2.1.1 x.key ?_
            rw [← List.map_append]
            exact List.mem_map_of_mem (List.mem_append.2 hx)
        rcases hdx with rfl | hdx
        · exact h2 hxk
        · have := klt_trans h3 hdx
          rw [hxk, klt_irrefl] at this; cases this

structure FindI (w : World) (h b n : Nat) (L : List Itm) (F : List Nat) (key : ByteArray) (h' b' : Nat) (its' L' : List Itm) (F' : List Nat) : Prop where
  t : Tre w h' b' its' L' F'
  nd : F'.Nodup
  asc : Asc (keysI L')
  len : its'.length ≤ 5
  sub : key ∈ keysI L → key ∈ keysI L'
  slot : ∀ g i it, Slot w h' b' its'.length L' F' g i it → Slot w h b n L F g i it

/-- What a node says of a key: it is there, or there is no kid, or the kid to go to. -/
theorem FindI.next {w : World} {h b n : Nat} {L : List Itm} {F : List Nat} {key : ByteArray} {h' b' : Nat} {its' L' : List Itm} {F' : List Nat} (H : FindI w h b n L F key h' b' its' L' F') (hf : hre its' key = false) :
    (∃ iv kv, Nod w b' iv kv its' [] ∧ key ∉ keysI L) ∨ ∃ iv kv ks k h2 its2 L2 F2, Nod w b' iv kv its' ks ∧ ks[plc its' key]? = some k ∧ h' = h2 + 1 ∧ FindI w h b n L F key h2 k its2 L2 F2 := by
  obtain ⟨iv, kv, g, hN, hg, hL, hF⟩ := H.t.open_
  cases h' with
  | zero =>
    obtain rfl : g = [] := hg
    change L' = its' at hL
    refine .inl ⟨iv, kv, hN, fun hm => ?_⟩
    have hm' := H.sub hm
    rw [hL] at hm'
    obtain ⟨x, hx, hxk⟩ := List.mem_map.1 hm'
    have hai := H.asc
    rw [hL] at hai
    obtain ⟨j, hj⟩ := List.getElem?_of_mem hx
    rcases Nat.lt_trichotomy j (plc its' key) with hlt | heq | hgt
    · have := plc_lt hlt hj
      rw [hxk, klt_irrefl] at this; cases this
    · subst heq
      unfold hre at hf; rw [hj] at hf; simp [hxk] at hf
    · have hpl : plc its' key < its'.length := by have := (List.getElem?_eq_some_iff.1 hj).1; omega
      have h1 := plc_not (key := key) (List.getElem?_eq_getElem hpl)
      have h2 := asc_get hai hgt (show (keysI its')[plc its' key]? = some (its'[plc its' key]).key by simp [List.getElem?_eq_getElem hpl]) (show (keysI its')[j]? = some x.key by simp [hj])
      rw [hxk] at h2
      rw [h2] at h1; cases h1
  | succ h2 =>
    have ha := H.asc
    rw [hL] at ha
    obtain ⟨A, k, B, rfl, hAC, hBD, hAp, hw, hX, hZ⟩ := parted (key := key) hg.1 ha
    have hkm : k ∈ A ++ k :: B := by simp
    have hik : ((A ++ k :: B).map KidD.b)[plc its' key]? = some k.b := by
      rw [List.map_append, List.getElem?_append_right (by simp; omega)]; simp [hAp]
    have hnd := H.nd
    rw [hF] at hnd
    refine .inr ⟨iv, kv, _, k.b, h2, k.its, k.L, k.F, hN, hik, rfl, (hg.2 k hkm).1, ?_, ?_, by have := (hg.2 k hkm).2; omega, fun hm => ?_, fun g' i it hs => ?_⟩
    · simp only [ff, List.flatMap_append, List.flatMap_cons, List.nodup_append] at hnd
      exact hnd.2.1.2.1.1
    · have ha' := ha
      change Asc (keysI (weave _ _)) at ha'
      rw [hw] at ha'
      simp only [keysI, List.map_append, asc_append] at ha'
      exact ha'.1.2.1
    · have hm' := H.sub hm
      rw [hL] at hm'
      exact in_kid hAC ha hf hX hm'
    · refine H.slot g' i it ?_
      rw [hL, hF]
      exact Slot.kid (C := its'.take (plc its' key)) (D := its'.drop (plc its' key)) (by rw [List.take_append_drop]) hAC hN hg hnd hs

set_option maxRecDepth 100000 in
set_option maxHeartbeats 2000000 in
theorem find_tre {w : World} {h b : Nat} {its L : List Itm} {F : List Nat} (ht : Tre w h b its L F) (hnd : F.Nodup) (ha : Asc (keysI L)) (h4 : its.length ≤ 5) (key : ByteArray) :
    Calls Tryz.prog 95 #[ptr b, .string key] w fun e w' => Below w.heap.size w w' ∧ ((e = .returned (.pointer none) ∧ key ∉ keysI L) ∨ ∃ g i it, e = .returned (.pointer (some ⟨g, i * 2, none⟩)) ∧ it.key = key ∧ Slot w h b its.length L F g i it) := by
  have H0 : FindI w h b its.length L F key h b its L F := ⟨ht, hnd, ha, h4, id, fun _ _ _ h => h⟩
  clear ht hnd ha h4
  go_enter Tryz.func95, Tryz.ntmps95
  go_wp2
  go_loopg [0] (h + 1) (fun kx s0 wr => Hid (Below w.heap.size w wr) ∧ ((s0 = .pointer none ∧ Hid (key ∉ keysI L)) ∨ ∃ h' b' its' L' F', s0 = ptr b' ∧ h' + 1 ≤ kx ∧ Hid (FindI w h b its.length L F key h' b' its' L' F')))
  case atStart => exact ⟨Below.refl _ _, .inr ⟨h, b, its, L, F, rfl, Nat.le_refl _, H0⟩⟩
  case round =>
    clear H0
    obtain ⟨hb, hst⟩ := hrel
    rcases hst with ⟨rfl, hno⟩ | ⟨h', b', its', L', F', rfl, hkx, H⟩
    · go_wp2
      go_ret
      exact ⟨hb, .inl ⟨rfl, hno⟩⟩
    · obtain ⟨niv, nkv, nks, hN, _, _⟩ := H.out.t.nod
      have hpl := (place_node (hN.below hb) (H.out.t.asc H.out.asc) (by have := H.out.len; omega) key).mono (R' := fun e w' => e = .returned (.tuple #[.int .i64 (plc its' key), .bool (hre its' key)]) ∧ Below w.heap.size w w') fun e w' h => ⟨h.1, hb.out.trans (h.2.mono hb.out.size)⟩
      clear hN
      cases hf : hre its' key
      · rw [hf] at hpl
        rcases H.out.next hf with ⟨iv, kv, hN, hno⟩ | ⟨iv, kv, ks, k, h2, its2, L2, F2, hN, hik, rfl, H2⟩
        · have HN := Hid.mk'' hN
          have HNO := Hid.mk'' hno
          clear hN hno hf
          go_wp2_with (first | (go_at_call 113; refine hpl.mono ?_; rintro e w1 ⟨rfl, hb1⟩) | (go_at_call 103; refine (kid_none (HN.out.below hb1) _).mono ?_; rintro e w2 ⟨rfl, rfl⟩))
          go_roundg 0
          case measure => omega
          case rel => exact ⟨hb1, .inl ⟨rfl, HNO⟩⟩
        · have HN := Hid.mk'' hN
          have HH := Hid.mk'' H2
          have HIK := Hid.mk'' hik
          clear hN H2 hf hik
          go_wp2_with (first | (go_at_call 113; refine hpl.mono ?_; rintro e w1 ⟨rfl, hb1⟩) | (go_at_call 103; refine (kid_some (HN.out.below hb1) HIK.out).mono ?_; rintro e w2 ⟨rfl, rfl⟩))
          go_roundg (h2 + 1)
          case measure => omega
          case rel => exact ⟨hb1, .inr ⟨h2, k, its2, L2, F2, rfl, Nat.le_refl _, HH⟩⟩
      · rw [hf] at hpl
        obtain ⟨it, hit, hkey⟩ := hre_true hf
        obtain ⟨g, c, ⟨n, hc0, hn⟩, hs⟩ := Slot.own H.out.t H.out.nd hit
        have hpl' : plc its' key < its'.length := (List.getElem?_eq_some_iff.1 hit).1
        have HS := Hid.mk'' (H.out.slot _ _ _ hs)
        have HK := Hid.mk'' hkey
        have hlt : b' < w.heap.size := World.block_lt_of_cell? _ _ hc0
        have hlen := H.out.len
        clear hf hit hs hkey
        go_wp2_with (go_at_call 113; refine hpl.mono ?_; rintro e w1 ⟨rfl, hb1⟩; have hc1 := (hb1.cell (p := ⟨b', 0, none⟩) hlt).trans hc0)
        go_ret
        exact ⟨hb1, .inr ⟨g, plc its' key, it, rfl, HK, HS⟩⟩
end Go.Proofs.YtjdmgmnndfhmgaaGreat
/- Marks in memory; an item's last mark. -/
namespace Go.Proofs.YtjdmgmnndfhmgaaGreat
open Go Go.RowKit

abbrev Mk := Int × Bool
def mkC (m : Mk) : List Value := [.int .i64 m.1, .bool m.2]
def mksC (ms : List Mk) : List Value := ms.flatMap mkC
theorem mksC_len (ms : List Mk) : (mksC ms).length = ms.length * 2 := by
  induction ms with
  | nil => rfl
  | cons a l ih => simp only [mksC, List.flatMap_cons, List.length_append, List.length_cons] at ih ⊢; simp [mkC] at ih ⊢; omega
theorem mksC_append (a b : List Mk) : mksC (a ++ b) = mksC a ++ mksC b := by simp [mksC]
theorem mksC_get : ∀ (ms : List Mk) (j : Nat) (m : Mk), ms[j]? = some m → (mksC ms)[j * 2]? = some (.int .i64 m.1) ∧ (mksC ms)[j * 2 + 1]? = some (.bool m.2)
  | [], j, it, h => by simp at h
  | a :: l, 0, it, h => by simp at h; subst h; simp [mksC, mkC]
  | a :: l, j + 1, it, h => by
    have ih := mksC_get l j it (by simpa using h)
    rw [show (j + 1) * 2 = j * 2 + 1 + 1 by omega]
    simp only [mksC, List.flatMap_cons, mkC, List.cons_append, List.nil_append, List.getElem?_cons_succ] at ih ⊢
    exact ih
theorem mksC_drop : ∀ (ms : List Mk) (i : Nat), (mksC ms).drop (i * 2) = mksC (ms.drop i)
  | ms, 0 => by simp
  | [], i + 1 => by simp [mksC]
  | a :: l, i + 1 => by
    have ih := mksC_drop l i
    rw [show (i + 1) * 2 = i * 2 + 1 + 1 by omega]
    simp only [mksC, List.flatMap_cons, mkC, List.cons_append, List.nil_append, List.drop_succ_cons] at ih ⊢
    rw [ih]
theorem mksC_mem (ms : List Mk) : ∀ u ∈ mksC ms, u.oneCell' = true := by
  intro u hu
  simp only [mksC, List.mem_flatMap] at hu
  obtain ⟨m, _, hu⟩ := hu
  simp only [mkC, List.mem_cons, List.not_mem_nil, or_false] at hu
  rcases hu with rfl | rfl <;> rfl
/-- Marks that lie in memory. -/
abbrev Mks (w : World) (v : Value) (ms : List Mk) : Prop := w.ownsRow 0 144 2 v ms.length (mksC ms)
theorem Mks.cell {w : World} {g c : Nat} {ms : List Mk} (h : Mks w (.slice (some ⟨g, 0, none⟩) ms.length c) ms) {j : Nat} {m : Mk} (hj : ms[j]? = some m) : w.cell? ⟨g, j * 2, none⟩ = some (.int .i64 m.1) ∧ w.cell? ⟨g, j * 2 + 1, none⟩ = some (.bool m.2) := by
  obtain ⟨h1, h2⟩ := mksC_get ms j m hj
  have hc := h.cells (g := g) rfl
  have a1 := hc _ _ h1
  have a2 := hc _ _ h2
  simp only [Addr.add_lit, Nat.zero_add] at a1 a2
  exact ⟨a1, a2⟩

set_option maxRecDepth 100000 in
set_option maxHeartbeats 1000000 in
theorem last_nil (w : World) : Calls Tryz.prog 104 #[.pointer none] w fun e w' => e = .returned (.agg #[.int .i64 0, .bool true]) ∧ Below w.heap.size w w' := by
  go_enter Tryz.func104, Tryz.ntmps104
  go_wp2
  refine bodyPost_ret (v := .agg #[.int .i64 0, .bool true]) (by simp [results, Tryz.results104, go_sem]) rfl ⟨rfl, ?_⟩
  exact (Below.refl _ _).alloc (Nat.le_refl _) _
set_option maxRecDepth 100000 in
set_option maxHeartbeats 1000000 in
theorem last_any (w : World) (g i mg c : Nat) (ms : List Mk) (m : Mk) (hc : w.cell? ⟨g, i * 2 + 1, none⟩ = some (.slice (some ⟨mg, 0, none⟩) ms.length c)) (hM : Mks w (.slice (some ⟨mg, 0, none⟩) ms.length c) ms) (hm : ms[ms.length - 1]? = some m) (hn : ms.length ≤ 1000000) :
    Calls Tryz.prog 104 #[.pointer (some ⟨g, i * 2, none⟩)] w fun e w' => e = .returned (.agg #[.int .i64 m.1, .bool m.2]) ∧ Below w.heap.size w w' := by
  have hl := (List.getElem?_eq_some_iff.1 hm).1
  obtain ⟨c1, c2⟩ := Mks.cell hM hm
  have hgl : g < w.heap.size := World.block_lt_of_cell? _ _ hc
  have hml : mg < w.heap.size := World.block_lt_of_cell? _ _ c1
  clear hM hm
  obtain ⟨r, d⟩ := m
  dsimp only at c1 c2
  have hba : ∀ o, Below w.heap.size w (w.alloc o) := fun o => (Below.refl _ w).alloc (Nat.le_refl _) o
  have hc' : ∀ o, (w.alloc o).cell? ⟨g, i * 2 + 1, none⟩ = some (.slice (some ⟨mg, 0, none⟩) ms.length c) := fun o => ((hba o).cell (p := ⟨g, i * 2 + 1, none⟩) hgl).trans hc
  have c1' : ∀ o, (w.alloc o).cell? ⟨mg, (ms.length - 1) * 2, none⟩ = some (.int .i64 r) := fun o => ((hba o).cell (p := ⟨mg, (ms.length - 1) * 2, none⟩) hml).trans c1
  have c2' : ∀ o, (w.alloc o).cell? ⟨mg, (ms.length - 1) * 2 + 1, none⟩ = some (.bool d) := fun o => ((hba o).cell (p := ⟨mg, (ms.length - 1) * 2 + 1, none⟩) hml).trans c2
  have hx1 : IntKind.i64.wrap ((ms.length : Int) - 1) = ((ms.length - 1 : Nat) : Int) := by rw [IntKind.wrap_i64]; omega
  have hx2 : (0 : Int) ≤ ((ms.length - 1 : Nat) : Int) := by omega
  have hx3 : ((ms.length - 1 : Nat) : Int) < (ms.length : Int) := by omega
  go_enter Tryz.func104, Tryz.ntmps104
  go_wp2
  go_region
  all_goals
    go_wp2
    refine bodyPost_ret (v := .agg #[.int .i64 r, .bool d]) (by simp [results, Tryz.results104, go_sem]) rfl ⟨rfl, ?_⟩
    first | exact ((Below.refl _ _).alloc (Nat.le_refl _) _).drew | trace_state
end Go.Proofs.YtjdmgmnndfhmgaaGreat
/- The index's own block: its root and its size; add. -/
namespace Go.Proofs.YtjdmgmnndfhmgaaGreat
open Go Go.RowKit

def Root (w : World) (rp : Option Addr) (L : List Itm) (F : List Nat) : Prop :=
  (rp = none ∧ L = [] ∧ F = []) ∨ ∃ h b its, rp = some ⟨b, 0, none⟩ ∧ Tre w h b its L F ∧ 1 ≤ its.length ∧ its.length ≤ 4
theorem Root.upd {w w' : World} {S : Nat → Prop} (hu : Upd w w' S) {rp : Option Addr} {L : List Itm} {F : List Nat} (h : Root w rp L F) (hS : ∀ k ∈ F, ¬ S k) : Root w' rp L F := by
  rcases h with h | ⟨h, b, its, h1, h2, h3⟩
  · exact .inl h
  · exact .inr ⟨h, b, its, h1, h2.upd hu hS, h3⟩
theorem Root.lt {w : World} {rp : Option Addr} {L : List Itm} {F : List Nat} (h : Root w rp L F) : ∀ k ∈ F, k < w.heap.size := by
  rcases h with ⟨_, _, rfl⟩ | ⟨h, b, its, h1, h2, h3⟩
  · simp
  · exact h2.lt
/-- The index's block. -/
abbrev xrow (w : World) (x : Nat) (rp : Option Addr) (n : Int) : Prop := w.heap[x]? = some (.cells #[.pointer rp, .int .i64 n] 125 (0, 0))
theorem xrow.c0 {w : World} {x : Nat} {rp : Option Addr} {n : Int} (h : xrow w x rp n) : w.cell? ⟨x, 0, none⟩ = some (.pointer rp) := by simp [World.cell?, h]
theorem xrow.c1 {w : World} {x : Nat} {rp : Option Addr} {n : Int} (h : xrow w x rp n) : w.cell? ⟨x, 1, none⟩ = some (.int .i64 n) := by simp [World.cell?, h]
theorem xrow.free {w : World} {x : Nat} {rp : Option Addr} {n : Int} (h : xrow w x rp n) (j : Nat) : w.frozen? ⟨x, j, none⟩ = false := by simp [World.frozen?, h]
theorem xrow.lt {w : World} {x : Nat} {rp : Option Addr} {n : Int} (h : xrow w x rp n) : x < w.heap.size := (Array.getElem?_eq_some_iff.1 h).1
theorem xrow.below {w w' : World} {x : Nat} {rp : Option Addr} {n : Int} (h : xrow w x rp n) (hb : Below w.heap.size w w') : xrow w' x rp n := (hb.block x h.lt).trans h
theorem xrow.setRoot {w : World} {x : Nat} {rp : Option Addr} {n : Int} (h : xrow w x rp n) (q : Option Addr) : xrow (w.setCell ⟨x, 0, none⟩ (.pointer q)) x q n := heap_setCell_row h _
theorem xrow.setSize {w : World} {x : Nat} {rp : Option Addr} {n : Int} (h : xrow w x rp n) (m : Int) : xrow (w.setCell ⟨x, 1, none⟩ (.int .i64 m)) x rp m := heap_setCell_row h _
/-- The index's block is stored into: nothing else turns. -/
theorem Step.x {w : World} {x j : Nat} {v : Value} {F : List Nat} (hl : x < w.heap.size) (hn : (x :: F).Nodup) (hF : ∀ k ∈ F, k < w.heap.size) : Step w (w.setCell ⟨x, j, none⟩ v) (x :: F) (x :: F) := by
  refine ⟨((Upd.refl w (fun k => k ∈ x :: F)).setCell (.inr (by simp)) _), hn, fun k hk => .inl hk, fun k hk => ?_⟩
  have hz : (w.setCell ⟨x, j, none⟩ v).heap.size = w.heap.size := by simp [World.setCell]
  rw [hz]
  rcases List.mem_cons.1 hk with rfl | hk
  · exact hl
  · exact hF k hk
theorem Step.cons {w w' : World} {x : Nat} {F F' : List Nat} (h : Step w w' F F') (hn : (x :: F).Nodup) (hl : x < w.heap.size) : Step w w' (x :: F) (x :: F') := by
  have p : ∀ X : List Nat, (X ++ [x]).Perm (x :: X) := fun X => List.perm_append_comm
  exact (h.frame [x] ((p F).nodup_iff.2 hn) (by simpa using hl)).perm (p F) (p F')
theorem Nod.root (w : World) (b : Nat) : Nod ((w.alloc (.cells #[ptr b] 123)).alloc (.cells #[.slice none 0 0, .slice (some ⟨w.heap.size, 0, none⟩) 1 1] 186)) (w.heap.size + 1) (.slice none 0 0) (.slice (some ⟨w.heap.size, 0, none⟩) 1 1) [] [b] := by
  refine ⟨?_, World.ownsRow_nil _ _ _ _, ?_, by simp, by simp [nf, Value.ownBlock]⟩
  · have := row_alloc (w.alloc (.cells #[ptr b] 123)) #[.slice none 0 0, .slice (some ⟨w.heap.size, 0, none⟩) 1 1] 186
    rwa [World.size_alloc] at this
  · refine owns_of_row (cur := #[ptr b]) ?_ (Nat.le_refl _) (by unfold maxLen; omega) rfl rfl rfl
    exact (Below.heap_alloc _ _ w.heap.size (by simp)).trans (row_alloc w _ _)
theorem nf_root (b g : Nat) : nf b (.slice none 0 0) (.slice (some ⟨g, 0, none⟩) 1 1) = [b, g] := by simp [nf, Value.ownBlock]
theorem Tre.ne {w : World} {h b : Nat} {its L : List Itm} {F : List Nat} (ht : Tre w h b its L F) (hL : L ≠ []) (hi : 0 < h → 1 ≤ its.length) : 1 ≤ its.length := by
  cases h with
  | zero =>
    obtain ⟨_, _, _, rfl, _⟩ := ht
    cases L with
    | nil => exact absurd rfl hL
    | cons a l => simp
  | succ h => exact hi (by omega)

/-- A root that has one item too many is split beneath a new one. -/
theorem grow_root {W : World} {h b : Nat} {its L : List Itm} {F : List Nat} (ht : Tre W h b its L F) (hnd : F.Nodup) (h5 : its.length = 5) :
    Calls Tryz.prog 120 #[ptr (W.heap.size + 1), .int .i64 0] ((W.alloc (.cells #[ptr b] 123)).alloc (.cells #[.slice none 0 0, .slice (some ⟨W.heap.size, 0, none⟩) 1 1] 186)) fun e W2 => e = .returned (.tuple #[]) ∧ ∃ t F', Tre W2 (h + 1) (W.heap.size + 1) [t] L F' ∧ Step W W2 F F' := by
  have hb : Below W.heap.size W ((W.alloc (.cells #[ptr b] 123)).alloc (.cells #[.slice none 0 0, .slice (some ⟨W.heap.size, 0, none⟩) 1 1] 186)) := ((Below.refl _ W).alloc (Nat.le_refl _) _).alloc (by simp) _
  have hlt := ht.lt
  have hnd2 : (ff (W.heap.size + 1) (.slice none 0 0) (.slice (some ⟨W.heap.size, 0, none⟩) 1 1) ([] ++ (⟨b, its, L, F⟩ : KidD) :: [])).Nodup := by
    simp only [ff, nf_root, List.nil_append, List.flatMap_cons, List.flatMap_nil, List.append_nil]
    rw [List.nodup_append]
    refine ⟨by simp, hnd, fun a ha c hc e => ?_⟩
    have := hlt c hc
    simp at ha
    omega
  have := split_tre (W := (W.alloc (.cells #[ptr b] 123)).alloc (.cells #[.slice none 0 0, .slice (some ⟨W.heap.size, 0, none⟩) 1 1] 186)) (h := h) (A := []) (B := []) (k := ⟨b, its, L, F⟩) (C := []) (D := []) (Nod.root W b) rfl rfl (by simp) (ht.below hb) h5 hnd2 (by simp)
  refine this.mono ?_
  rintro e W2 ⟨rfl, t, F', T, hs⟩
  have hw : weave ([] ++ (⟨b, its, L, F⟩ : KidD) :: []) ([] ++ []) = L := by simp [weave, suf]
  rw [hw] at T
  refine ⟨rfl, t, F', T, (Upd.ofBelow hb).trans hs.upd (fun j hj hk => ?_), hs.nd, fun k hk => ?_, hs.lt⟩
  · simp only [ff, nf_root, List.nil_append, List.flatMap_cons, List.flatMap_nil, List.append_nil, List.mem_append, List.mem_cons, List.not_mem_nil, or_false] at hk
    rcases hk with (hk | hk) | hk
    · omega
    · omega
    · exact hk
  · rcases hs.sub k hk with hk | hk
    · simp only [ff, nf_root, List.nil_append, List.flatMap_cons, List.flatMap_nil, List.append_nil, List.mem_append, List.mem_cons, List.not_mem_nil, or_false] at hk
      rcases hk with (hk | hk) | hk
      · exact .inr (by omega)
      · exact .inr (by omega)
      · exact .inl hk
    · simp at hk
      exact .inr (by omega)
end Go.Proofs.YtjdmgmnndfhmgaaGreat
/- The index's add. -/
namespace Go.Proofs.YtjdmgmnndfhmgaaGreat
open Go Go.RowKit

/-- Ahead of the root's own add: there is a root, and the item's box lies beside. -/
structure AddM (w W : World) (x : Nat) (n : Int) (L : List Itm) (Ft : List Nat) (it : Itm) (u h b : Nat) (its : List Itm) (F : List Nat) : Prop where
  xr : xrow W x (some ⟨b, 0, none⟩) n
  t : Tre W h b its L F
  len : its.length ≤ 4
  pos : 0 < h → 1 ≤ its.length
  s : Step w W (x :: Ft) (x :: F)
  bx : W.heap[u]? = some (.cells #[.string it.key, it.mv] 151 (0, 0))
/-- Behind it. -/
structure AddN (w W : World) (x : Nat) (n : Int) (L' : List Itm) (Ft : List Nat) (h b : Nat) (its : List Itm) (F : List Nat) : Prop where
  xr : xrow W x (some ⟨b, 0, none⟩) n
  t : Tre W h b its L' F
  len : its.length ≤ 5
  pos : 1 ≤ its.length
  s : Step w W (x :: Ft) (x :: F)
theorem AddM.next {w W : World} {x : Nat} {n : Int} {L : List Itm} {Ft : List Nat} {it : Itm} {u h b : Nat} {its : List Itm} {F : List Nat} (H : AddM w W x n L Ft it u h b its F) (hit : isSl it.mv) (ha : Asc (keysI L)) (V : World) (hb : Below W.heap.size W V) :
    Calls Tryz.prog 119 #[ptr b, .agg #[.string it.key, it.mv]] V fun e w' => e = .returned (.tuple #[]) ∧ ∃ its' F', AddN w w' x n (insI L it) Ft h b its' F' := by
  have hnd := List.nodup_cons.1 H.s.nd
  refine (add_tre it hit h V b its L F (H.t.below hb) hnd.2 ha H.len).mono ?_
  rintro e w' ⟨rfl, its', F', T, q1, q2, s⟩
  have s' : Step W w' F F' := Step.from hb s hnd.2 H.t.lt
  refine ⟨rfl, its', F', (s'.upd.block x H.xr.lt hnd.1).trans H.xr, T, by have := H.len; omega, ?_, H.s.trans (s'.cons H.s.nd H.xr.lt)⟩
  exact T.ne (by intro e; have := congrArg List.length e; rw [insI_len] at this; simp at this) (fun h => by have := H.pos h; omega)
theorem AddM.old {w : World} {x : Nat} {n : Int} {L : List Itm} {Ft : List Nat} {h b : Nat} {its : List Itm} (it : Itm) (hx : xrow w x (some ⟨b, 0, none⟩) n) (ht : Tre w h b its L Ft) (h1 : 1 ≤ its.length) (h4 : its.length ≤ 4) (hnd : (x :: Ft).Nodup) : AddM w (w.alloc (.cells #[.string it.key, it.mv] 151)) x n L Ft it w.heap.size h b its Ft := by
  have hb : Below w.heap.size w (w.alloc (.cells #[.string it.key, it.mv] 151)) := (Below.refl _ w).alloc (Nat.le_refl _) _
  exact ⟨hx.below hb, ht.below hb, h4, fun _ => h1, Step.below hb hnd (fun k hk => by rcases List.mem_cons.1 hk with rfl | hk; exact hx.lt; exact ht.lt k hk), row_alloc w _ _⟩
theorem size_setCell (w : World) (p : Addr) (v : Value) : (w.setCell p v).heap.size = w.heap.size := by simp [World.setCell]
theorem AddM.new {w : World} {x : Nat} {n : Int} (it : Itm) (hx : xrow w x none n) : AddM w (((w.setCell ⟨x, 0, none⟩ (.pointer (some ⟨w.heap.size + 1, 0, none⟩))).alloc (.cells #[.string it.key, it.mv] 151)).alloc (.cells #[.slice none 0 0, .slice none 0 0] 186)) x n [] [] it w.heap.size 0 (w.heap.size + 1) [] [w.heap.size + 1] := by
  have hxl := hx.lt
  obtain ⟨V, hV⟩ : ∃ V, V = w.setCell ⟨x, 0, none⟩ (.pointer (some ⟨w.heap.size + 1, 0, none⟩)) := ⟨_, rfl⟩
  have hxV : xrow V x (some ⟨w.heap.size + 1, 0, none⟩) n := by rw [hV]; exact hx.setRoot _
  have hVz : V.heap.size = w.heap.size := by rw [hV]; exact size_setCell _ _ _
  have sV : Step w V [x] [x] := by rw [hV]; exact Step.x hxl (by simp) (by simp)
  rw [← hV]
  clear hV
  obtain ⟨W0, hW0⟩ : ∃ W0, W0 = V.alloc (.cells #[.string it.key, it.mv] 151) := ⟨_, rfl⟩
  have hb0 : Below V.heap.size V W0 := by rw [hW0]; exact (Below.refl _ V).alloc (Nat.le_refl _) _
  have hz : W0.heap.size = w.heap.size + 1 := by rw [hW0]; simp [hVz]
  have hr0 : W0.heap[w.heap.size]? = some (.cells #[.string it.key, it.mv] 151 (0, 0)) := by rw [hW0, ← hVz]; exact row_alloc V _ _
  rw [← hW0]
  clear hW0
  have hb1 : Below W0.heap.size W0 (W0.alloc (.cells #[.slice none 0 0, .slice none 0 0] 186)) := (Below.refl _ W0).alloc (Nat.le_refl _) _
  have hN := Nod.fresh W0
  rw [hz] at hN
  refine ⟨(hxV.below hb0).below hb1, ⟨_, _, hN, rfl, (nf_fresh _).symm⟩, by simp, by omega, ?_, (hb1.block _ (by omega)).trans hr0⟩
  have s0 : Step V W0 [x] [x] := Step.below hb0 (by simp) (by simp; omega)
  have s1 : Step W0 (W0.alloc (.cells #[.slice none 0 0, .slice none 0 0] 186)) [x] ([x] ++ [W0.heap.size]) := Step.new _ (by simp) (by simp; omega)
  rw [hz] at s1
  exact (sV.trans s0).trans s1
/-- What the index's add leaves. -/
def IAdd (w w' : World) (x : Nat) (n : Int) (L' : List Itm) (Ft : List Nat) : Prop := ∃ rp' F', xrow w' x rp' (n + 1) ∧ Root w' rp' L' F' ∧ Step w w' (x :: Ft) (x :: F')

set_option maxRecDepth 100000 in
set_option maxHeartbeats 4000000 in
theorem iadd_any {w : World} {x : Nat} {rp : Option Addr} {n : Int} {L : List Itm} {Ft : List Nat} (hx : xrow w x rp n) (hR : Root w rp L Ft) (hnd : (x :: Ft).Nodup) (ha : Asc (keysI L)) (it : Itm) (hit : isSl it.mv) (hn0 : 0 ≤ n) (hn1 : n ≤ 1000000000) :
    Calls Tryz.prog 105 #[ptr x, .agg #[.string it.key, it.mv]] w fun e w' => e = .returned (.tuple #[]) ∧ IAdd w w' x n (insI L it) Ft := by
  obtain ⟨key, mv⟩ := it
  obtain ⟨mp, mn, mc, hmv⟩ := hit
  dsimp only at hmv
  subst hmv
  dsimp only
  have c0 := hx.c0
  have f0 := hx.free 0
  have hxl := hx.lt
  have hb0 : Below w.heap.size w (w.alloc (.cells #[.string key, .slice mp mn mc] 151)) := (Below.refl _ w).alloc (Nat.le_refl _) _
  have c0' := (hx.below hb0).c0
  have c0'' : ∀ o, ((w.alloc (.cells #[.string key, .slice mp mn mc] 151)).alloc o).cell? ⟨x, 0, none⟩ = some (.pointer rp) := fun o => ((hx.below hb0).below ((Below.refl _ _).alloc (Nat.le_refl _) o)).c0
  have f0'' : ∀ o, ((w.alloc (.cells #[.string key, .slice mp mn mc] 151)).alloc o).frozen? ⟨x, 0, none⟩ = false := fun o => ((hx.below hb0).below ((Below.refl _ _).alloc (Nat.le_refl _) o)).free 0
  have hst : (rp = none ∧ L = [] ∧ Ft = []) ∨ ∃ h b its, rp = some ⟨b, 0, none⟩ ∧ AddM w (w.alloc (.cells #[.string key, .slice mp mn mc] 151)) x n L Ft ⟨key, .slice mp mn mc⟩ w.heap.size h b its Ft := by
    rcases hR with h | ⟨h, b, its, rfl, ht, h1, h4⟩
    · exact .inl h
    · exact .inr ⟨h, b, its, rfl, AddM.old ⟨key, .slice mp mn mc⟩ hx ht h1 h4 hnd⟩
  have HA := Hid.mk'' ha
  have HIT : Hid (isSl (.slice mp mn mc)) := ⟨mp, mn, mc, rfl⟩
  go_enter Tryz.func105, Tryz.ntmps105
  rcases hst with ⟨rfl, rfl, rfl⟩ | ⟨h, b, its, rfl, HM⟩
  · have HM := AddM.new ⟨key, .slice mp mn mc⟩ hx
    clear hR hx ha hnd
    go_upto_region 3 with (fail)
    obtain ⟨W1, hW1⟩ : ∃ W1, W1 = ((w.setCell ⟨x, 0, none⟩ (.pointer (some ⟨w.heap.size + 1, 0, none⟩))).alloc (.cells #[.string key, .slice mp mn mc] 151)).alloc (.cells #[.slice none 0 0, .slice none 0 0] 186) := ⟨_, rfl⟩
    rw [← hW1] at HM ⊢
    clear hW1
    clear c0 f0 c0' c0'' f0'' hb0
    have r0 := HM.xr.c0
    have e0 : W1.cell? ⟨w.heap.size, 0, none⟩ = some (.string key) := by simp [World.cell?, HM.bx]
    have e1 : W1.cell? ⟨w.heap.size, 1, none⟩ = some (.slice mp mn mc) := by simp [World.cell?, HM.bx]
    have hnx := fun V hb => HM.next HIT.out HA.out V hb
    dsimp only at hnx
    clear HM
    go_cut [] from 14 to 19 (fun wx => Hid (∃ its' F', AddN w wx x n (insI [] ⟨key, .slice mp mn mc⟩) [] 0 (w.heap.size + 1) its' F'))
    case first =>
      go_region_with (go_at_call 119; refine (hnx _ (Below.refl _ _).drew).mono ?_; rintro e w3 ⟨rfl, hR⟩)
      all_goals (go_wp2_with fail; go_meet; case rel => exact hR)
    case rest =>
    obtain ⟨its2, F2, HQ⟩ := hcut
    clear hnx r0 e0 e1
    generalize wc = W2 at *
    have q0 := HQ.xr.c0
    have q1 := HQ.xr.c1
    have qf := HQ.xr.free 1
    have qf0 := HQ.xr.free 0
    obtain ⟨niv, nkv, nks, hN, _, _⟩ := HQ.t.nod
    have n0 := hN.c0
    obtain ⟨np, nc, hniv, _, _⟩ := owns_form hN.items
    rw [hniv] at n0
    clear hN
    have hsz : IntKind.i64.wrap (n + 1) = n + 1 := by rw [IntKind.wrap_i64]; omega
    have hndF := List.nodup_cons.1 HQ.s.nd
    have hx2 := HQ.xr.lt
    by_cases h5 : its2.length ≤ 4
    · have h5' : ¬ (4 < (its2.length : Int)) := by omega
      have HQ' := Hid.mk'' HQ
      clear HQ
      go_wp2
      go_end0
      refine ⟨rfl, _, F2, HQ'.out.xr.setSize _, .inr ⟨_, _, its2, rfl, HQ'.out.t.agree (fun k hk => heap_setCell_other _ _ _ k _ (fun e => hndF.1 (by rw [← e]; exact hk))), HQ'.out.pos, h5⟩, HQ'.out.s.trans (Step.x HQ'.out.xr.lt HQ'.out.s.nd HQ'.out.t.lt)⟩
    · have h5' : (4 : Int) < (its2.length : Int) := by omega
      have HS : Hid (Tre (W2.setCell ⟨x, 0, none⟩ (.pointer (some ⟨W2.heap.size + 1, 0, none⟩))) 0 (w.heap.size + 1) its2 (insI [] ⟨key, .slice mp mn mc⟩) F2) := HQ.t.agree (fun k hk => heap_setCell_other _ _ _ k _ (fun e => hndF.1 (by rw [← e]; exact hk)))
      have hgr := grow_root HS.out hndF.2 (by have := HQ.len; omega)
      rw [size_setCell] at hgr
      have HX : Hid (xrow (W2.setCell ⟨x, 0, none⟩ (.pointer (some ⟨W2.heap.size + 1, 0, none⟩))) x (some ⟨W2.heap.size + 1, 0, none⟩) n) := HQ.xr.setRoot _
      have HX2 : Hid (Step W2 (W2.setCell ⟨x, 0, none⟩ (.pointer (some ⟨W2.heap.size + 1, 0, none⟩))) (x :: F2) (x :: F2)) := Step.x HQ.xr.lt HQ.s.nd HQ.t.lt
      obtain ⟨V, hV⟩ : ∃ V, V = W2.setCell ⟨x, 0, none⟩ (.pointer (some ⟨W2.heap.size + 1, 0, none⟩)) := ⟨_, rfl⟩
      have HQ' := Hid.mk'' HQ
      clear HQ
      go_upto_region 6 with (fail)
      have v0 : (((W2.setCell ⟨x, 0, none⟩ (.pointer (some ⟨W2.heap.size + 1, 0, none⟩))).alloc (.cells #[.pointer (some ⟨w.heap.size + 1, 0, none⟩)] 123)).alloc (.cells #[.slice none 0 0, .slice (some ⟨W2.heap.size, 0, none⟩) 1 1] 186)).cell? ⟨x, 0, none⟩ = some (.pointer (some ⟨W2.heap.size + 1, 0, none⟩)) := (HX.out.below (((Below.refl _ _).alloc (Nat.le_refl _) _).alloc (by simp) _)).c0
      rw [← hV] at HS hgr HX HX2 v0 ⊢
      clear hV q0 q1 qf qf0 n0
      go_wp2_with (go_at_call 120; refine hgr.mono ?_; rintro e w5 ⟨rfl, t, F5, T5, s5⟩; have hx5 : xrow w5 x (some ⟨W2.heap.size + 1, 0, none⟩) n := (s5.upd.block x HX.out.lt hndF.1).trans HX.out; have x5a := hx5.c1; have x5f := hx5.free 1)
      have sc := s5.cons HX2.out.nd HX.out.lt
      have hx5 : xrow w5 x (some ⟨W2.heap.size + 1, 0, none⟩) n := (s5.upd.block x HX.out.lt hndF.1).trans HX.out
      go_end0
      exact ⟨rfl, _, F5, hx5.setSize _, .inr ⟨_, _, [t], rfl, T5.agree (fun k hk => heap_setCell_other _ _ _ k _ (fun e => (List.nodup_cons.1 sc.nd).1 (by rw [← e]; exact hk))), by simp, by simp⟩, ((HQ'.out.s.trans HX2.out).trans sc).trans (Step.x hx5.lt sc.nd T5.lt)⟩
  · clear hR hx ha hnd
    go_upto_region 3 with (fail)
    obtain ⟨W1, hW1⟩ : ∃ W1, W1 = w.alloc (.cells #[.string key, .slice mp mn mc] 151) := ⟨_, rfl⟩
    rw [← hW1] at HM ⊢
    clear hW1
    clear c0 f0 c0' c0'' f0'' hb0
    have r0 := HM.xr.c0
    have e0 : W1.cell? ⟨w.heap.size, 0, none⟩ = some (.string key) := by simp [World.cell?, HM.bx]
    have e1 : W1.cell? ⟨w.heap.size, 1, none⟩ = some (.slice mp mn mc) := by simp [World.cell?, HM.bx]
    have hnx := fun V hb => HM.next HIT.out HA.out V hb
    dsimp only at hnx
    clear HM
    go_cut [] from 14 to 19 (fun wx => Hid (∃ its' F', AddN w wx x n (insI L ⟨key, .slice mp mn mc⟩) Ft h b its' F'))
    case first =>
      go_region_with (go_at_call 119; refine (hnx _ (Below.refl _ _).drew).mono ?_; rintro e w3 ⟨rfl, hR⟩)
      all_goals (go_wp2_with fail; go_meet; case rel => exact hR)
    case rest =>
    obtain ⟨its2, F2, HQ⟩ := hcut
    clear hnx r0 e0 e1
    generalize wc = W2 at *
    have q0 := HQ.xr.c0
    have q1 := HQ.xr.c1
    have qf := HQ.xr.free 1
    have qf0 := HQ.xr.free 0
    obtain ⟨niv, nkv, nks, hN, _, _⟩ := HQ.t.nod
    have n0 := hN.c0
    obtain ⟨np, nc, hniv, _, _⟩ := owns_form hN.items
    rw [hniv] at n0
    clear hN
    have hsz : IntKind.i64.wrap (n + 1) = n + 1 := by rw [IntKind.wrap_i64]; omega
    have hndF := List.nodup_cons.1 HQ.s.nd
    have hx2 := HQ.xr.lt
    by_cases h5 : its2.length ≤ 4
    · have h5' : ¬ (4 < (its2.length : Int)) := by omega
      have HQ' := Hid.mk'' HQ
      clear HQ
      go_wp2
      go_end0
      refine ⟨rfl, _, F2, HQ'.out.xr.setSize _, .inr ⟨_, _, its2, rfl, HQ'.out.t.agree (fun k hk => heap_setCell_other _ _ _ k _ (fun e => hndF.1 (by rw [← e]; exact hk))), HQ'.out.pos, h5⟩, HQ'.out.s.trans (Step.x HQ'.out.xr.lt HQ'.out.s.nd HQ'.out.t.lt)⟩
    · have h5' : (4 : Int) < (its2.length : Int) := by omega
      have HS : Hid (Tre (W2.setCell ⟨x, 0, none⟩ (.pointer (some ⟨W2.heap.size + 1, 0, none⟩))) h b its2 (insI L ⟨key, .slice mp mn mc⟩) F2) := HQ.t.agree (fun k hk => heap_setCell_other _ _ _ k _ (fun e => hndF.1 (by rw [← e]; exact hk)))
      have hgr := grow_root HS.out hndF.2 (by have := HQ.len; omega)
      rw [size_setCell] at hgr
      have HX : Hid (xrow (W2.setCell ⟨x, 0, none⟩ (.pointer (some ⟨W2.heap.size + 1, 0, none⟩))) x (some ⟨W2.heap.size + 1, 0, none⟩) n) := HQ.xr.setRoot _
      have HX2 : Hid (Step W2 (W2.setCell ⟨x, 0, none⟩ (.pointer (some ⟨W2.heap.size + 1, 0, none⟩))) (x :: F2) (x :: F2)) := Step.x HQ.xr.lt HQ.s.nd HQ.t.lt
      obtain ⟨V, hV⟩ : ∃ V, V = W2.setCell ⟨x, 0, none⟩ (.pointer (some ⟨W2.heap.size + 1, 0, none⟩)) := ⟨_, rfl⟩
      have HQ' := Hid.mk'' HQ
      clear HQ
      go_upto_region 6 with (fail)
      have v0 : (((W2.setCell ⟨x, 0, none⟩ (.pointer (some ⟨W2.heap.size + 1, 0, none⟩))).alloc (.cells #[.pointer (some ⟨b, 0, none⟩)] 123)).alloc (.cells #[.slice none 0 0, .slice (some ⟨W2.heap.size, 0, none⟩) 1 1] 186)).cell? ⟨x, 0, none⟩ = some (.pointer (some ⟨W2.heap.size + 1, 0, none⟩)) := (HX.out.below (((Below.refl _ _).alloc (Nat.le_refl _) _).alloc (by simp) _)).c0
      rw [← hV] at HS hgr HX HX2 v0 ⊢
      clear hV q0 q1 qf qf0 n0
      go_wp2_with (go_at_call 120; refine hgr.mono ?_; rintro e w5 ⟨rfl, t, F5, T5, s5⟩; have hx5 : xrow w5 x (some ⟨W2.heap.size + 1, 0, none⟩) n := (s5.upd.block x HX.out.lt hndF.1).trans HX.out; have x5a := hx5.c1; have x5f := hx5.free 1)
      have sc := s5.cons HX2.out.nd HX.out.lt
      have hx5 : xrow w5 x (some ⟨W2.heap.size + 1, 0, none⟩) n := (s5.upd.block x HX.out.lt hndF.1).trans HX.out
      go_end0
      exact ⟨rfl, _, F5, hx5.setSize _, .inr ⟨_, _, [t], rfl, T5.agree (fun k hk => heap_setCell_other _ _ _ k _ (fun e => (List.nodup_cons.1 sc.nd).1 (by rw [← e]; exact hk))), by simp, by simp⟩, ((HQ'.out.s.trans HX2.out).trans sc).trans (Step.x hx5.lt sc.nd T5.lt)⟩
end Go.Proofs.YtjdmgmnndfhmgaaGreat
/- An index in memory. -/
namespace Go.Proofs.YtjdmgmnndfhmgaaGreat
open Go Go.RowKit

/-- An item, and its marks. -/
structure IM where
  it : Itm
  ms : List Mk
def ownM (r : IM) : List Nat := r.it.mv.ownBlock.toList
abbrev keysR (R : List IM) : List ByteArray := R.map (fun r => r.it.key)
structure Ix (w : World) (x : Nat) (R : List IM) (F : List Nat) : Prop where
  ex : ∃ rp Ft, xrow w x rp R.length ∧ Root w rp (R.map IM.it) Ft ∧ F = x :: (Ft ++ R.flatMap ownM)
  asc : Asc (keysR R)
  mks : ∀ r ∈ R, Mks w r.it.mv r.ms ∧ 0 < r.ms.length
  nd : F.Nodup
/-- What an index says: its keys, rising, and the marks of each. -/
abbrev Dat := List (ByteArray × List Mk)
def dat (R : List IM) : Dat := R.map fun r => (r.it.key, r.ms)
theorem dat_len (R : List IM) : (dat R).length = R.length := by simp [dat]
theorem keysI_map (R : List IM) : keysI (R.map IM.it) = keysR R := by simp [keysI, keysR]
theorem Ix.upd {w w' : World} {S : Nat → Prop} (hu : Upd w w' S) {x : Nat} {R : List IM} {F : List Nat} (h : Ix w x R F) (hS : ∀ k ∈ F, ¬ S k) : Ix w' x R F := by
  obtain ⟨rp, Ft, h1, h2, h3⟩ := h.ex
  refine ⟨⟨rp, Ft, (hu.block x h1.lt (hS x (by rw [h3]; simp))).trans h1, h2.upd hu (fun k hk => hS k (by rw [h3]; simp [hk])), h3⟩, h.asc, fun r hr => ⟨ownsRow_upd (h.mks r hr).1 hu (fun k hk => hS k ?_), (h.mks r hr).2⟩, h.nd⟩
  rw [h3]
  refine List.mem_cons_of_mem _ (List.mem_append_right _ (List.mem_flatMap.2 ⟨r, hr, ?_⟩))
  simp [ownM, hk]
theorem Ix.below {w w' : World} (hb : Below w.heap.size w w') {x : Nat} {R : List IM} {F : List Nat} (h : Ix w x R F) : Ix w' x R F := h.upd (S := fun _ => False) (Upd.ofBelow hb) (fun _ _ h => h)
theorem Ix.lt {w : World} {x : Nat} {R : List IM} {F : List Nat} (h : Ix w x R F) : ∀ k ∈ F, k < w.heap.size := by
  obtain ⟨rp, Ft, h1, h2, h3⟩ := h.ex
  intro k hk
  rw [h3] at hk
  rcases List.mem_cons.1 hk with rfl | hk
  · exact h1.lt
  · rcases List.mem_append.1 hk with hk | hk
    · exact h2.lt k hk
    · obtain ⟨r, hr, hk⟩ := List.mem_flatMap.1 hk
      simp only [ownM, Option.mem_toList] at hk
      exact owns_lt (h.mks r hr).1 hk
theorem Ix.step {w w' : World} {G G' : List Nat} (hs : Step w w' G G') {x : Nat} {R : List IM} {F : List Nat} (h : Ix w x R F) (hd : ∀ k ∈ F, k ∉ G) : Ix w' x R F := h.upd hs.upd hd

set_option maxRecDepth 100000 in
set_option maxHeartbeats 1000000 in
theorem find_nil (key : ByteArray) (w : World) : Calls Tryz.prog 95 #[.pointer none, .string key] w fun e w' => e = .returned (.pointer none) ∧ w' = w := by
  go_enter Tryz.func95, Tryz.ntmps95
  go_wp2
  go_loop [0] (fun s => s = .pointer none) (fun _ => 0)
  case atStart => rfl
  case round =>
    subst hrel
    go_wp2
    go_ret
    exact ⟨rfl, rfl⟩
/-- Where an item stands in an index. -/
structure At (w : World) (x : Nat) (R : List IM) (F : List Nat) (key : ByteArray) (g i mg c : Nat) (X Z : List IM) (ms : List Mk) : Prop where
  parts : R = X ++ ⟨⟨key, .slice (some ⟨mg, 0, none⟩) ms.length c⟩, ms⟩ :: Z
  mv : w.cell? ⟨g, i * 2 + 1, none⟩ = some (.slice (some ⟨mg, 0, none⟩) ms.length c)
  free : w.frozen? ⟨g, i * 2 + 1, none⟩ = false
  inF : g ∈ F
  ne : g ≠ mg
  put : ∀ w' : World, (∀ k ∈ F, k ≠ mg → w'.heap[k]? = w.heap[k]?) → w.heap.size ≤ w'.heap.size → ∀ v' ms', Mks w' v' ms' → 0 < ms'.length → (v'.ownBlock = some mg ∨ ∃ j, v'.ownBlock = some j ∧ w.heap.size ≤ j) →
    ∃ F', Ix (w'.setCell ⟨g, i * 2 + 1, none⟩ v') x (X ++ ⟨⟨key, v'⟩, ms'⟩ :: Z) F' ∧ F'.Nodup ∧ (∀ k ∈ F', k ∈ F ∨ w.heap.size ≤ k)
theorem split_map {α β : Type} (f : α → β) : ∀ {l : List α} {a : List β} {b : β} {c : List β}, l.map f = a ++ b :: c → ∃ X r Z, l = X ++ r :: Z ∧ X.map f = a ∧ f r = b ∧ Z.map f = c := by
  intro l a b c h
  obtain ⟨X, Y, rfl, h1, h2⟩ := List.map_eq_append_iff.1 h
  cases Y with
  | nil => simp at h2
  | cons r Z => simp only [List.map_cons, List.cons.injEq] at h2; exact ⟨X, r, Z, rfl, h1, h2.1, h2.2⟩
theorem At.of {w : World} {x : Nat} {R : List IM} {F : List Nat} (H : Ix w x R F) {rp : Option Addr} {Ft : List Nat} (hx : xrow w x rp R.length) (hF : F = x :: (Ft ++ R.flatMap ownM)) {h b n g i : Nat} {it : Itm} (hrp : rp = some ⟨b, 0, none⟩) (hn1 : 1 ≤ n) (hn4 : n ≤ 4) (hs : Slot w h b n (R.map IM.it) Ft g i it) :
    ∃ mg c X Z ms, At w x R F it.key g i mg c X Z ms ∧ Mks w (.slice (some ⟨mg, 0, none⟩) ms.length c) ms ∧ 0 < ms.length := by
  obtain ⟨LX, LZ, hL, hput⟩ := hs.put
  obtain ⟨X, r, Z, rfl, hX, hr, hZ⟩ := split_map IM.it hL
  have hrm : r ∈ X ++ r :: Z := by simp
  obtain ⟨hM, hpos⟩ := H.mks r hrm
  obtain ⟨rit, rms⟩ := r
  dsimp only at hr hM hpos
  subst hr
  obtain ⟨mg, c, hmv, _, _⟩ := owns_form1 hM hpos
  obtain ⟨key, mv⟩ := rit
  dsimp only at hmv hput
  subst hmv
  have hnd := H.nd
  rw [hF] at hnd
  have hgF : g ∈ F := by rw [hF]; exact List.mem_cons_of_mem _ (List.mem_append_left _ hs.mem)
  have gm0 : g ≠ mg := fun e => by
    have h2 := (List.nodup_append.1 (List.nodup_cons.1 hnd).2).2.2 g hs.mem mg (List.mem_flatMap.2 ⟨_, hrm, by simp [ownM, Value.ownBlock]⟩)
    exact h2 e
  refine ⟨mg, c, X, Z, rms, ⟨rfl, hs.mv, hs.free, hgF, gm0, ?_⟩, hM, hpos⟩
  intro w' hw hz v' ms' hM' hp' hb'
  -- what the Nodup says
  have hfl : (X ++ (⟨⟨key, .slice (some ⟨mg, 0, none⟩) rms.length c⟩, rms⟩ : IM) :: Z).flatMap ownM = X.flatMap ownM ++ mg :: Z.flatMap ownM := by simp [ownM, Value.ownBlock]
  rw [hfl] at hnd hF
  have hall : ∀ k ∈ x :: (Ft ++ (X.flatMap ownM ++ mg :: Z.flatMap ownM)), k ∈ F := fun k hk => by rw [hF]; exact hk
  simp only [List.nodup_cons, List.nodup_append, List.mem_append, List.mem_cons, not_or] at hnd
  obtain ⟨⟨x1, x2, x3, x4⟩, ft, ⟨xo, ⟨mz, zo⟩, xz⟩, ftd⟩ := hnd
  have mgFt : mg ∉ Ft := fun hm => ftd mg hm mg (.inr (.inl rfl)) rfl
  have mgX : mg ∉ X.flatMap ownM := fun hm => xz mg hm mg (.inl rfl) rfl
  have gFt := hs.mem
  have gx : g ≠ x := fun e => x1 (by rw [← e]; exact gFt)
  have gX : g ∉ X.flatMap ownM := fun hm => ftd g gFt g (.inl hm) rfl
  have gZ : g ∉ Z.flatMap ownM := fun hm => ftd g gFt g (.inr (.inr hm)) rfl
  have gm : g ≠ mg := fun e => mgFt (by rw [← e]; exact gFt)
  have hlt : ∀ k ∈ F, k < w.heap.size := H.lt
  obtain ⟨its', hl', T'⟩ := hput w' (fun k hk => hw k (hall k (by simp [hk])) (fun e => mgFt (by rw [← e]; exact hk))) v' (by obtain ⟨p, c, h, _⟩ := owns_form hM'; exact ⟨p, _, c, h⟩)
  have hother : ∀ k, k ≠ g → (w'.setCell ⟨g, i * 2 + 1, none⟩ v').heap[k]? = w'.heap[k]? := fun k hk => heap_setCell_other w' g _ k v' hk
  obtain ⟨m', hm'⟩ : ∃ m', v'.ownBlock = some m' := by rcases hb' with h | ⟨j, h, _⟩ <;> exact ⟨_, h⟩
  have hm'2 : m' = mg ∨ w.heap.size ≤ m' := by
    rcases hb' with h | ⟨j, h, hj⟩
    · left; rw [hm'] at h; exact Option.some.inj h
    · right; rw [hm'] at h; rw [Option.some.inj h]; exact hj
  have m'F : ∀ k, k ∈ F → k ≠ mg → k ≠ m' := fun k hk hkm e => by
    rcases hm'2 with h | h
    · exact hkm (e.trans h)
    · have := hlt k hk; omega
  have hmg : m' ≠ g := fun e => (m'F g hgF gm) e.symm
  have hfl' : (X ++ (⟨⟨key, v'⟩, ms'⟩ : IM) :: Z).flatMap ownM = X.flatMap ownM ++ m' :: Z.flatMap ownM := by simp [ownM, hm']
  have hnd' : (x :: (Ft ++ (X.flatMap ownM ++ m' :: Z.flatMap ownM))).Nodup := by
    simp only [List.nodup_cons, List.nodup_append, List.mem_append, List.mem_cons, not_or]
    have q1 : ∀ k ∈ X.flatMap ownM, k ≠ m' := fun k hk => m'F k (hall k (by simp [hk])) (fun e => mgX (by rw [← e]; exact hk))
    have q2 : ∀ k ∈ Z.flatMap ownM, k ≠ m' := fun k hk => m'F k (hall k (by simp [hk])) (fun e => mz (by rw [← e]; exact hk))
    have q3 : ∀ k ∈ Ft, k ≠ m' := fun k hk => m'F k (hall k (by simp [hk])) (fun e => mgFt (by rw [← e]; exact hk))
    have q4 : x ≠ m' := m'F x (hall x (by simp)) x3
    refine ⟨⟨x1, x2, q4, x4⟩, ft, ⟨xo, ⟨fun hm => q2 m' hm rfl, zo⟩, fun a ha b hb => ?_⟩, fun a ha b hb => ?_⟩
    · rcases hb with rfl | hb
      · exact q1 a ha
      · exact xz a ha b (.inr hb)
    · rcases hb with hb | rfl | hb
      · exact ftd a ha b (.inl hb)
      · exact q3 a ha
      · exact ftd a ha b (.inr (.inr hb))
  refine ⟨x :: (Ft ++ (X.flatMap ownM ++ m' :: Z.flatMap ownM)), ⟨⟨rp, Ft, ?_, .inr ⟨h, b, its', hrp, ?_, by omega, by omega⟩, by rw [hfl']⟩, ?_, ?_, hnd'⟩, hnd', ?_⟩
  · have := (hother x gx.symm).trans ((hw x (hall x (by simp)) x3).trans hx)
    simpa using this
  · rw [List.map_append, List.map_cons, hX, hZ]; exact T'
  · have := H.asc
    simpa [keysR] using this
  · intro s hs'
    simp only [List.mem_append, List.mem_cons] at hs'
    have hold : ∀ s ∈ X ++ Z, Mks (w'.setCell ⟨g, i * 2 + 1, none⟩ v') s.it.mv s.ms ∧ 0 < s.ms.length := fun s hs' => by
      have hsm : s ∈ X ++ (⟨⟨key, .slice (some ⟨mg, 0, none⟩) rms.length c⟩, rms⟩ : IM) :: Z := by simp only [List.mem_append, List.mem_cons] at hs' ⊢; exact hs'.elim .inl (fun h => .inr (.inr h))
      refine ⟨ownsRow_agree (H.mks s hsm).1 (fun k hk => ?_), (H.mks s hsm).2⟩
      have hks : k ∈ X.flatMap ownM ∨ k ∈ Z.flatMap ownM := by
        rcases List.mem_append.1 hs' with h | h
        · exact .inl (List.mem_flatMap.2 ⟨s, h, by simp [ownM, hk]⟩)
        · exact .inr (List.mem_flatMap.2 ⟨s, h, by simp [ownM, hk]⟩)
      have hkg : k ≠ g := fun e => hks.elim (fun h => gX (by rw [← e]; exact h)) (fun h => gZ (by rw [← e]; exact h))
      have hkm : k ≠ mg := fun e => hks.elim (fun h => mgX (by rw [← e]; exact h)) (fun h => mz (by rw [← e]; exact h))
      rw [hother k hkg]
      exact hw k (hall k (by simp only [List.mem_cons, List.mem_append]; exact .inr (.inr (hks.elim .inl (fun h => .inr (.inr h)))))) hkm
    rcases hs' with hs' | rfl | hs'
    · exact hold s (by simp [hs'])
    · exact ⟨ownsRow_agree hM' (fun k hk => hother k (by rw [hm'] at hk; cases hk; exact hmg)), hp'⟩
    · exact hold s (by simp [hs'])
  · intro k hk
    simp only [List.mem_cons, List.mem_append] at hk
    rcases hk with rfl | hk | hk | rfl | hk
    · exact .inl (hall _ (by simp))
    · exact .inl (hall _ (by simp [hk]))
    · exact .inl (hall _ (by simp [hk]))
    · rcases hm'2 with rfl | h
      · exact .inl (hall _ (by simp))
      · exact .inr h
    · exact .inl (hall _ (by simp [hk]))
/-- find, of an index. -/
theorem find_ix {w : World} {x : Nat} {R : List IM} {F : List Nat} (H : Ix w x R F) (key : ByteArray) {rp : Option Addr} (hrp : w.cell? ⟨x, 0, none⟩ = some (.pointer rp)) (W : World) (hb : Below w.heap.size w W) :
    Calls Tryz.prog 95 #[.pointer rp, .string key] W fun e w' => Below w.heap.size w w' ∧ ((e = .returned (.pointer none) ∧ key ∉ keysR R) ∨ ∃ g i mg c X Z ms, e = .returned (.pointer (some ⟨g, i * 2, none⟩)) ∧ At w x R F key g i mg c X Z ms ∧ Mks w (.slice (some ⟨mg, 0, none⟩) ms.length c) ms ∧ 0 < ms.length) := by
  obtain ⟨rp', Ft, hx, hR, hF⟩ := H.ex
  obtain rfl : rp = rp' := by have := hx.c0; rw [hrp] at this; simpa using this
  have hnd : Ft.Nodup := by have := H.nd; rw [hF] at this; exact (List.nodup_append.1 (List.nodup_cons.1 this).2).1
  rcases hR with ⟨rfl, hL, _⟩ | ⟨h, b, its, rfl, ht, h1, h4⟩
  · refine (find_nil key W).mono ?_
    rintro e w' ⟨rfl, rfl⟩
    refine ⟨hb, .inl ⟨rfl, ?_⟩⟩
    rw [← keysI_map, hL]; simp
  · refine (find_tre (ht.below hb) hnd (by rw [keysI_map]; exact H.asc) (by omega) key).mono ?_
    rintro e w' ⟨hb', ⟨rfl, hno⟩ | ⟨g, i, it, rfl, rfl, hs⟩⟩
    · exact ⟨hb.trans (hb'.mono hb.size), .inl ⟨rfl, by rw [← keysI_map]; exact hno⟩⟩
    · refine ⟨hb.trans (hb'.mono hb.size), .inr ?_⟩
      have hlF : ∀ k ∈ Ft, W.heap[k]? = w.heap[k]? := fun k hk => hb.block k (ht.lt k hk)
      have hgl : g < w.heap.size := ht.lt g hs.mem
      have hs' : Slot w h b its.length (R.map IM.it) Ft g i it := by
        refine ⟨hs.mem, ?_, ?_, ?_, ?_⟩
        · rw [← hs.key]; exact (hb.cell (p := ⟨g, i * 2, none⟩) hgl).symm
        · rw [← hs.mv]; exact (hb.cell (p := ⟨g, i * 2 + 1, none⟩) hgl).symm
        · rw [← hs.free]; exact (hb.frozen (p := ⟨g, i * 2 + 1, none⟩) hgl).symm
        · obtain ⟨X, Z, q1, q2⟩ := hs.put
          exact ⟨X, Z, q1, fun w2 hw2 => q2 w2 (fun k hk => (hw2 k hk).trans (hlF k hk).symm)⟩
      obtain ⟨mg, c, X, Z, ms, hA, hM, hp⟩ := At.of H hx hF rfl h1 h4 hs'
      exact ⟨g, i, mg, c, X, Z, ms, rfl, hA, hM, hp⟩
end Go.Proofs.YtjdmgmnndfhmgaaGreat
/- What Put answers, and leaves, as data. -/
namespace Go.Proofs.YtjdmgmnndfhmgaaGreat
open Go Go.RowKit

def lookD : Dat → ByteArray → Option (List Mk)
  | [], _ => none
  | (k, ms) :: D, key => if k = key then some ms else lookD D key
def setD : Dat → ByteArray → List Mk → Dat
  | [], key, ms => [(key, ms)]
  | (k, m) :: D, key, ms => if klt k key then (k, m) :: setD D key ms else if k = key then (key, ms) :: D else (key, ms) :: (k, m) :: D
def lastM (ms : List Mk) : Mk := ms.getLastD (0, true)
/-- What Put answers. -/
def putE (D : Dat) (key : ByteArray) (rev : Int) (del : Bool) : Int :=
  if key.size = 0 ∨ 100 < key.size ∨ rev < 1 then 1
  else match lookD D key with
    | none => if del then 2 else 0
    | some ms => if rev ≤ (lastM ms).1 then 15 else if del && (lastM ms).2 then 2 else 0
def putD (D : Dat) (key : ByteArray) (rev : Int) (del : Bool) : Dat :=
  if putE D key rev del = 0 then setD D key ((lookD D key).getD [] ++ [(rev, del)]) else D
theorem lookD_none : ∀ {D : Dat} {key : ByteArray}, key ∉ D.map Prod.fst → lookD D key = none
  | [], _, _ => rfl
  | (k, ms) :: D, key, h => by
    simp only [List.map_cons, List.mem_cons, not_or] at h
    simp only [lookD, if_neg (Ne.symm h.1)]
    exact lookD_none h.2
theorem lookD_at : ∀ {X Z : Dat} {key : ByteArray} {ms : List Mk}, Asc ((X ++ (key, ms) :: Z).map Prod.fst) → lookD (X ++ (key, ms) :: Z) key = some ms
  | [], _, _, _, _ => by simp [lookD]
  | (k, m) :: X, Z, key, ms, h => by
    simp only [List.cons_append, List.map_cons, Asc] at h
    have hk : klt k key = true := h.1 key (by simp)
    simp only [List.cons_append, lookD, if_neg (klt_ne hk)]
    exact lookD_at h.2
theorem setD_at : ∀ {X Z : Dat} {key : ByteArray} {ms ms' : List Mk}, Asc ((X ++ (key, ms) :: Z).map Prod.fst) → setD (X ++ (key, ms) :: Z) key ms' = X ++ (key, ms') :: Z
  | [], _, key, _, _, _ => by simp [setD, klt_irrefl]
  | (k, m) :: X, Z, key, ms, ms', h => by
    simp only [List.cons_append, List.map_cons, Asc] at h
    have hk : klt k key = true := h.1 key (by simp)
    simp only [List.cons_append, setD, hk, if_true]
    rw [setD_at h.2]
theorem setD_new : ∀ {D : Dat} {key : ByteArray} {ms : List Mk}, key ∉ D.map Prod.fst → setD D key ms = D.takeWhile (fun p => klt p.1 key) ++ (key, ms) :: D.dropWhile (fun p => klt p.1 key)
  | [], _, _, _ => rfl
  | (k, m) :: D, key, ms, h => by
    simp only [List.map_cons, List.mem_cons, not_or] at h
    by_cases hk : klt k key = true
    · simp only [setD, hk, if_true, List.takeWhile_cons, List.dropWhile_cons]
      rw [setD_new h.2]; rfl
    · simp [setD, hk, if_neg (Ne.symm h.1)]
theorem dat_keys (R : List IM) : (dat R).map Prod.fst = keysR R := by simp [dat, keysR]
/-- An item put among the others. -/
def insR (R : List IM) (r : IM) : List IM := R.takeWhile (fun s => klt s.it.key r.it.key) ++ r :: R.dropWhile (fun s => klt s.it.key r.it.key)
theorem map_takeWhile' {α β : Type} (f : α → β) (p : β → Bool) : ∀ l : List α, (l.map f).takeWhile p = (l.takeWhile (fun a => p (f a))).map f ∧ (l.map f).dropWhile p = (l.dropWhile (fun a => p (f a))).map f
  | [] => by simp
  | a :: l => by
    have ih := map_takeWhile' f p l
    by_cases h : p (f a) = true
    · simp [h, ih.1, ih.2]
    · simp [h]
theorem insR_it (R : List IM) (r : IM) : (insR R r).map IM.it = insI (R.map IM.it) r.it := by
  obtain ⟨h1, h2⟩ := map_takeWhile' IM.it (fun x : Itm => klt x.key r.it.key) R
  simp only [insR, insI, List.map_append, List.map_cons, h1, h2]
theorem insR_dat (R : List IM) (r : IM) (h : r.it.key ∉ keysR R) : dat (insR R r) = setD (dat R) r.it.key r.ms := by
  obtain ⟨h1, h2⟩ := map_takeWhile' (fun s : IM => (s.it.key, s.ms)) (fun p : ByteArray × List Mk => klt p.1 r.it.key) R
  rw [setD_new (by rw [dat_keys]; exact h)]
  simp only [dat, h1, h2, insR, List.map_append, List.map_cons]
theorem insR_mem {R : List IM} {r s : IM} : s ∈ insR R r ↔ s = r ∨ s ∈ R := by
  unfold insR
  rw [List.mem_append, List.mem_cons]
  have : s ∈ R ↔ s ∈ R.takeWhile (fun s => klt s.it.key r.it.key) ∨ s ∈ R.dropWhile (fun s => klt s.it.key r.it.key) := by
    rw [← List.mem_append, List.takeWhile_append_dropWhile]
  rw [this]
  constructor
  · rintro (h | h | h)
    · exact .inr (.inl h)
    · exact .inl h
    · exact .inr (.inr h)
  · rintro (h | h | h)
    · exact .inr (.inl h)
    · exact .inl h
    · exact .inr (.inr h)
theorem insR_len (R : List IM) (r : IM) : (insR R r).length = R.length + 1 := by
  have := congrArg List.length (List.takeWhile_append_dropWhile (p := fun s : IM => klt s.it.key r.it.key) (l := R))
  simp only [List.length_append] at this
  simp [insR]; omega
theorem insR_perm (R : List IM) (r : IM) : (insR R r).Perm (r :: R) := by
  have h := List.takeWhile_append_dropWhile (p := fun s : IM => klt s.it.key r.it.key) (l := R)
  unfold insR
  refine List.perm_middle.trans ?_
  rw [h]
theorem asc_ins : ∀ (R : List IM) (r : IM), Asc (keysR R) → r.it.key ∉ keysR R → Asc (keysR (insR R r))
  | [], r, _, _ => by simp [insR, keysR, Asc]
  | s :: R, r, h, hn => by
    simp only [keysR, List.map_cons, List.mem_cons, not_or] at hn
    by_cases hs : klt s.it.key r.it.key = true
    · have e : insR (s :: R) r = s :: insR R r := by simp [insR, hs]
      rw [e]
      refine ⟨fun j hj => ?_, asc_ins R r h.2 hn.2⟩
      obtain ⟨t, ht, rfl⟩ := List.mem_map.1 hj
      rcases insR_mem.1 ht with rfl | ht
      · exact hs
      · exact h.1 _ (List.mem_map_of_mem ht)
    · have e : insR (s :: R) r = r :: s :: R := by simp [insR, hs]
      have hrs : klt r.it.key s.it.key = true := by
        cases hk : klt r.it.key s.it.key
        · exact absurd (klt_tri hk (by simpa using hs)) hn.1
        · rfl
      rw [e]
      refine ⟨fun j hj => ?_, h⟩
      rcases List.mem_cons.1 hj with rfl | hj
      · exact hrs
      · exact klt_trans hrs (h.1 j hj)
/-- The index with one item more. -/
theorem Ix.added {w W w' : World} {x : Nat} {R : List IM} {F : List Nat} (H : Ix w x R F) (hb : Below w.heap.size w W) {rp : Option Addr} {Ft : List Nat} (hF : F = x :: (Ft ++ R.flatMap ownM)) (r : IM) {mb : Nat} (hmb : r.it.mv.ownBlock = some mb) (hmw : w.heap.size ≤ mb) (hml : mb < W.heap.size) (hM : Mks W r.it.mv r.ms) (hp : 0 < r.ms.length) (hk : r.it.key ∉ keysR R)
    {F' : List Nat} (hx' : xrow w' x rp (R.length + 1)) (hR' : Root w' rp (insI (R.map IM.it) r.it) F') (hs : Step W w' (x :: Ft) (x :: F')) :
    ∃ F2, Ix w' x (insR R r) F2 ∧ Step w w' F F2 := by
  have hnd := H.nd
  have hlt := H.lt
  rw [hF] at hnd hlt
  have hndm : (x :: (Ft ++ (mb :: R.flatMap ownM))).Nodup := by
    have hp : (x :: (Ft ++ (mb :: R.flatMap ownM))).Perm (mb :: (x :: (Ft ++ R.flatMap ownM))) := (List.Perm.cons _ List.perm_middle).trans (List.Perm.swap _ _ _)
    rw [hp.nodup_iff, List.nodup_cons]
    exact ⟨fun h => by have := hlt mb h; omega, hnd⟩
  have hltW : ∀ k ∈ mb :: R.flatMap ownM, k < W.heap.size := fun k hk => by
    rcases List.mem_cons.1 hk with rfl | hk
    · exact hml
    · exact Nat.lt_of_lt_of_le (hlt k (by simp [hk])) hb.size
  have hfr := hs.frame (mb :: R.flatMap ownM) (by simpa using hndm) hltW
  have hpm : ((x :: F') ++ (mb :: R.flatMap ownM)).Perm (x :: (F' ++ (insR R r).flatMap ownM)) := by
    have h1 : ((insR R r).flatMap ownM).Perm (mb :: R.flatMap ownM) := by
      refine ((insR_perm R r).flatMap_right ownM).trans ?_
      simp [ownM, hmb]
    simp only [List.cons_append]
    exact List.Perm.cons _ (List.Perm.append_left _ h1.symm)
  have hdis : ∀ k ∈ mb :: R.flatMap ownM, k ∉ x :: Ft := fun k hk hk' => by
    have h2 : ((x :: Ft) ++ (mb :: R.flatMap ownM)).Nodup := by simpa using hndm
    exact (List.nodup_append.1 h2).2.2 k hk' k hk rfl
  refine ⟨x :: (F' ++ (insR R r).flatMap ownM), ⟨⟨rp, F', ?_, ?_, rfl⟩, asc_ins R r H.asc hk, fun s hs' => ?_, hpm.nodup_iff.1 hfr.nd⟩, ?_⟩
  · rw [insR_len]; simpa using hx'
  · rw [insR_it]; exact hR'
  · rcases insR_mem.1 hs' with rfl | hs'
    · exact ⟨ownsRow_upd hM hs.upd (fun k hk' => by rw [hmb] at hk'; cases hk'; exact hdis mb (by simp)), hp⟩
    · obtain ⟨m1, m2⟩ := H.mks s hs'
      have m1' : Mks W s.it.mv s.ms := ownsRow_upd m1 (Upd.ofBelow (S := fun _ => False) hb) (fun _ _ h => h)
      exact ⟨ownsRow_upd m1' hs.upd (fun k hk' => hdis k (List.mem_cons_of_mem _ (List.mem_flatMap.2 ⟨s, hs', by simp [ownM, hk']⟩))), m2⟩
  · have hup : Upd w w' (fun k => k ∈ F) := (Upd.ofBelow hb).trans hs.upd (fun j hj hj' => by
      rw [hF]
      rcases List.mem_cons.1 hj' with rfl | hj'
      · simp
      · simp [hj'])
    refine ⟨hup, hpm.nodup_iff.1 hfr.nd, fun k hk' => ?_, fun k hk' => hfr.lt k (hpm.mem_iff.2 hk')⟩
    have := hpm.mem_iff.2 hk'
    rcases List.mem_append.1 this with h | h
    · rcases hs.sub k h with h | h
      · left; rw [hF]
        rcases List.mem_cons.1 h with rfl | h
        · simp
        · simp [h]
      · exact .inr (Nat.le_trans hb.size h)
    · rcases List.mem_cons.1 h with rfl | h
      · exact .inr hmw
      · left; rw [hF]; simp [h]
end Go.Proofs.YtjdmgmnndfhmgaaGreat
