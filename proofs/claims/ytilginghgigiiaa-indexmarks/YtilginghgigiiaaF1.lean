/- Where an item lies, by the way to it. -/
import Derived.Test.YtilginghgigiiaaG2
namespace Go.Proofs.Ytilginghgigiiaa
open Go Go.RowKit

/-- The i-th item of the row at g lies below the node b. -/
def Loc (w : World) : Nat → Nat → Nat → Nat → Prop
  | 0, b, g, i => ∃ n c, w.cell? ⟨b, 0, none⟩ = some (.slice (some ⟨g, 0, none⟩) n c) ∧ i < n
  | h + 1, b, g, i => (∃ n c, w.cell? ⟨b, 0, none⟩ = some (.slice (some ⟨g, 0, none⟩) n c) ∧ i < n) ∨ ∃ kg n c j k, w.cell? ⟨b, 1, none⟩ = some (.slice (some ⟨kg, 0, none⟩) n c) ∧ j < n ∧ w.cell? ⟨kg, j, none⟩ = some (ptr k) ∧ Loc w h k g i
theorem Loc.own {w : World} {h b g i n c : Nat} (h0 : w.cell? ⟨b, 0, none⟩ = some (.slice (some ⟨g, 0, none⟩) n c)) (hi : i < n) : Loc w h b g i := by
  cases h with
  | zero => exact ⟨n, c, h0, hi⟩
  | succ h => exact .inl ⟨n, c, h0, hi⟩
theorem Loc.kid {w : World} {h b : Nat} {iv kv : Value} {its : List Itm} {gk : List KidD} (hN : Nod w b iv kv its (gk.map KidD.b)) {k : KidD} (hk : k ∈ gk) {g i : Nat} (hl : Loc w h k.b g i) : Loc w (h + 1) b g i := by
  obtain ⟨j, hj, rfl⟩ := List.getElem_of_mem hk
  obtain ⟨kg, kc, hkv, _, _⟩ := owns_form1 hN.kids (by simp; omega)
  have h1 := hN.c1
  rw [hkv] at h1
  exact .inr ⟨kg, _, kc, j, _, h1, by simpa using hj, hN.kid hkv (j := j) (k := gk[j].b) (by simp [List.getElem?_eq_getElem hj]), hl⟩
/-- The way stays where marks alone may have changed. -/
theorem Loc.keep {w W : World} : ∀ {h b : Nat} {its L : List Itm} {F F' : List Nat}, Tre w h b its L F' → (∀ k ∈ F', k ∈ F) → KpT w F w W → ∀ {g i : Nat}, Loc w h b g i → Loc W h b g i
  | 0, b, its, L, F, F', ht, hF, hK, g, i, ⟨n, c, h0, hi⟩ => by
    obtain ⟨iv, kv, ks, hN, hsub, _⟩ := ht.nod
    have h2 := (hN.skel (fun k hk => hF k (hsub k hk)) hK).1
    rw [hN.c0] at h0
    exact ⟨n, c, h2.trans h0, hi⟩
  | h + 1, b, its, L, F, F', ht, hF, hK, g, i, hl => by
    obtain ⟨iv, kv, gk, hN, hg, rfl, rfl⟩ := ht.open_
    obtain ⟨h2, h3, h4, _⟩ := hN.skel (fun k hk => hF k (List.mem_append_left _ hk)) hK
    rcases hl with ⟨n, c, h0, hi⟩ | ⟨kg, n, c, j, k, h1, hj, hk, hl⟩
    · rw [hN.c0] at h0
      exact .inl ⟨n, c, h2.trans h0, hi⟩
    · rw [hN.c1] at h1
      have e : kv = .slice (some ⟨kg, 0, none⟩) n c := by simpa using h1
      obtain ⟨p, c', hkv, _, _⟩ := owns_form hN.kids
      have hn : n = gk.length := by rw [e] at hkv; simp at hkv; exact hkv.2.1
      have hjl : j < gk.length := by omega
      have e' : kv = .slice (some ⟨kg, 0, none⟩) (gk.map KidD.b).length c := by rw [e, hn]; simp
      have hkk := hN.kid e' (j := j) (k := gk[j].b) (by simp [List.getElem?_eq_getElem hjl])
      rw [hkk] at hk
      have ek : gk[j].b = k := by simpa using hk
      subst ek
      refine .inr ⟨kg, n, c, j, gk[j].b, h3.trans h1, hj, h4 kg c e' j gk[j].b (by simp [List.getElem?_eq_getElem hjl]), ?_⟩
      exact Loc.keep (hg.2 gk[j] (List.getElem_mem hjl)).1 (fun x hx => hF x (List.mem_append_right _ (List.mem_flatMap.2 ⟨_, List.getElem_mem hjl, hx⟩))) hK hl
theorem slot_own {w : World} {h b : Nat} {its L : List Itm} {F : List Nat} (ht : Tre w h b its L F) (hnd : F.Nodup) {g i n c : Nat} (h0 : w.cell? ⟨b, 0, none⟩ = some (.slice (some ⟨g, 0, none⟩) n c)) (hi : i < n) : ∃ it, Slot w h b its.length L F g i it := by
  obtain ⟨iv, kv, ks, hN, _, _⟩ := ht.nod
  obtain ⟨p, c', hiv, _, _⟩ := owns_form hN.items
  have e : iv = .slice (some ⟨g, 0, none⟩) n c := by have := hN.c0; rw [this] at h0; simpa using h0
  have hn : n = its.length := by rw [e] at hiv; cases hiv; rfl
  obtain ⟨g', c2, ⟨n', h1, _⟩, hs⟩ := Slot.own ht hnd (i := i) (it := its[i]'(by omega)) (by simp)
  rw [h1] at h0
  have e2 : g' = g := by simp at h0; exact h0.1
  subst e2
  exact ⟨_, hs⟩
theorem Slot.of_loc {w : World} : ∀ {h b : Nat} {its L : List Itm} {F : List Nat}, Tre w h b its L F → F.Nodup → ∀ {g i : Nat}, Loc w h b g i → ∃ it, Slot w h b its.length L F g i it
  | 0, _, _, _, _, ht, hnd, _, _, ⟨_, _, h0, hi⟩ => slot_own ht hnd h0 hi
  | h + 1, b, its, L, F, ht, hnd, g, i, hl => by
    rcases hl with ⟨n, c, h0, hi⟩ | ⟨kg, n, c, j, k, h1, hj, hk, hl⟩
    · exact slot_own ht hnd h0 hi
    · obtain ⟨iv, kv, gk, hN, hg, rfl, rfl⟩ := ht.open_
      have e : kv = .slice (some ⟨kg, 0, none⟩) n c := by have := hN.c1; rw [this] at h1; simpa using h1
      obtain ⟨p, c', hkv, _, _⟩ := owns_form hN.kids
      have hn : n = gk.length := by rw [e] at hkv; simp at hkv; exact hkv.2.1
      have hjl : j < gk.length := by omega
      have hgk : gk[j]? = some gk[j] := List.getElem?_eq_getElem hjl
      have hkk := hN.kid (g := kg) (c := c) (by rw [e, hn]; simp) (j := j) (k := gk[j].b) (by simp [hgk])
      rw [hkk] at hk
      have ek : gk[j].b = k := by simpa using hk
      subst ek
      obtain ⟨hp1, _⟩ := getElem_part hgk
      have hgl := hg.1
      have hkt := (hg.2 gk[j] (List.getElem_mem hjl)).1
      have hkF : (gk[j]).F.Nodup := by
        have h2 := (List.nodup_append.1 hnd).2.1
        rw [hp1, List.flatMap_append, List.flatMap_cons] at h2
        exact (List.nodup_append.1 (List.nodup_append.1 h2).2.1).1
      obtain ⟨it, hs⟩ := Slot.of_loc hkt hkF hl
      generalize gk[j] = x at *
      rw [hp1] at hN hg hnd ⊢
      exact ⟨it, Slot.kid (C := its.take j) (D := its.drop j) (List.take_append_drop _ _).symm (by simp; omega) hN hg hnd hs⟩
end Go.Proofs.Ytilginghgigiiaa
