/- A node's item set; append onto a node's items and kids. -/
import Derived.Test.YtilginghgigiiaaJ1
namespace Go.Proofs.Ytilginghgigiiaa
open Go Go.RowKit

theorem itsC_set2 : ∀ (its : List Itm) (i : Nat) (it : Itm), i < its.length → ((itsC its).set (i * 2) (.string it.key)).set (i * 2 + 1) it.mv = itsC (its.set i it)
  | [], i, it, h => by simp at h
  | a :: l, 0, it, h => by simp [itsC, itC]
  | a :: l, i + 1, it, h => by
    have ih := itsC_set2 l i it (by simpa using h)
    rw [show (i + 1) * 2 + 1 = (i * 2 + 1) + 1 + 1 by omega, show (i + 1) * 2 = i * 2 + 1 + 1 by omega]
    simp only [itsC, List.flatMap_cons, itC, List.cons_append, List.nil_append, List.set_cons_succ] at ih ⊢
    rw [ih]
/-- n.items[i] = it. -/
theorem Nod.setItem {w : World} {b g c i : Nat} {iv kv : Value} {its : List Itm} {ks : List Nat} (h : Nod w b iv kv its ks) (hiv : iv = .slice (some ⟨g, 0, none⟩) its.length c) (hi : i < its.length) (it : Itm) (hm : isSl it.mv) :
    Nod ((w.setCell ⟨g, i * 2, none⟩ (.string it.key)).setCell ⟨g, i * 2 + 1, none⟩ it.mv) b iv kv (its.set i it) ks ∧ Step w ((w.setCell ⟨g, i * 2, none⟩ (.string it.key)).setCell ⟨g, i * 2 + 1, none⟩ it.mv) (nf b iv kv) (nf b iv kv) := by
  have hnd := h.nd
  have hib : iv.ownBlock = some g := by rw [hiv]; rfl
  have hgm : g ∈ nf b iv kv := by simp [nf, hib]
  simp only [nf, hib, List.nodup_cons, List.mem_append, Option.mem_toList, not_or] at hnd
  obtain ⟨⟨n1, n2⟩, n3⟩ := hnd
  have hbg : b ≠ g := fun e => n1 (by rw [e])
  have hkg : ∀ k, kv.ownBlock = some k → k ≠ g := fun k hk e => by rw [hk, e] at n3; simp at n3
  have hoth : ∀ k, k ≠ g → ((w.setCell ⟨g, i * 2, none⟩ (.string it.key)).setCell ⟨g, i * 2 + 1, none⟩ it.mv).heap[k]? = w.heap[k]? := fun k hk => (heap_setCell_other _ g _ k _ hk).trans (heap_setCell_other w g _ k _ hk)
  refine ⟨⟨(hoth b hbg).trans h.blk, ?_, ownsRow_agree h.kids (fun k hk => hoth k (hkg k hk)), fun x hx => ?_, h.nd⟩, ⟨?_, h.nd, fun k hk => .inl hk, fun k hk => ?_⟩⟩
  · rw [List.length_set]
    rcases h.items.2 with ⟨h1, _⟩ | ⟨g', cap, cur, h1, _, hg, hnc, hcm, hcs, ht⟩
    · rw [hiv] at h1; cases h1
    · rw [hiv] at h1
      cases h1
      rw [hiv]
      refine owns_of_row (heap_setCell_row (heap_setCell_row hg (.string it.key)) it.mv) hnc hcm (by simp [hcs]) ?_ (by rw [itsC_len]; simp)
      rw [Array.set!_eq_setIfInBounds, Array.toList_setIfInBounds, List.take_set, Array.set!_eq_setIfInBounds, Array.toList_setIfInBounds, List.take_set, ht, itsC_set2 its i it hi]
  · rcases List.mem_or_eq_of_mem_set hx with hx | rfl
    · exact h.mvs x hx
    · exact hm
  · exact ((Upd.refl w _).setCell (p := ⟨g, i * 2, none⟩) (.inr hgm) _).setCell (p := ⟨g, i * 2 + 1, none⟩) (.inr hgm) _
  · rw [size_setCell', size_setCell']; exact h.foot_lt k hk
/-- What an append onto a node's items leaves. -/
theorem Nod.appI {w w' : World} {b : Nat} {iv kv v' : Value} {its news : List Itm} {ks : List Nat} {m : Nat} (h : Nod w b iv kv its ks) (ho : w'.ownsRow 0 66 2 v' (its.length + m) (itsC its ++ itsC news)) (hm : news.length = m) (hu : Upd w w' (fun k => some k = iv.ownBlock))
    (hb : v'.ownBlock = iv.ownBlock ∨ v'.ownBlock = some w.heap.size) (hmv : ∀ it ∈ news, isSl it.mv) :
    w'.cell? ⟨b, 0, none⟩ = some iv ∧ w'.frozen? ⟨b, 0, none⟩ = false ∧ Nod (w'.setCell ⟨b, 0, none⟩ v') b v' kv (its ++ news) ks ∧ Step w (w'.setCell ⟨b, 0, none⟩ v') (nf b iv kv) (nf b v' kv) := by
  subst hm
  rw [← List.length_append, ← itsC_append] at ho
  have hs := h.setItems ho hu (hb.imp id (fun h => ⟨_, h, Nat.le_refl _⟩)) (fun x hx => (List.mem_append.1 hx).elim (h.mvs x) (hmv x))
  obtain ⟨d0, d1⟩ := cell_upd hu h.blk (fun e => (nf_iv h.nd).1 e.symm) (j := 0) (v := iv) rfl
  exact ⟨d0, d1, hs.1, hs.2⟩
theorem Nod.appK {w w' : World} {b : Nat} {iv kv v' : Value} {its : List Itm} {ks news : List Nat} {m : Nat} (h : Nod w b iv kv its ks) (ho : w'.ownsRow 0 57 1 v' (ks.length + m) (ks.map ptr ++ news.map ptr)) (hm : news.length = m) (hu : Upd w w' (fun k => some k = kv.ownBlock))
    (hb : v'.ownBlock = kv.ownBlock ∨ v'.ownBlock = some w.heap.size) :
    w'.cell? ⟨b, 1, none⟩ = some kv ∧ w'.frozen? ⟨b, 1, none⟩ = false ∧ Nod (w'.setCell ⟨b, 1, none⟩ v') b iv v' its (ks ++ news) ∧ Step w (w'.setCell ⟨b, 1, none⟩ v') (nf b iv kv) (nf b iv v') := by
  subst hm
  rw [← List.length_append, ← List.map_append] at ho
  have hs := h.setKids ho hu (hb.imp id (fun h => ⟨_, h, Nat.le_refl _⟩))
  obtain ⟨d0, d1⟩ := cell_upd hu h.blk (fun e => (nf_iv h.nd).2 e.symm) (j := 1) (v := kv) rfl
  exact ⟨d0, d1, hs.1, hs.2⟩
end Go.Proofs.Ytilginghgigiiaa
