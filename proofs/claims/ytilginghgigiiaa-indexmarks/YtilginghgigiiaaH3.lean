/- A slot of the tree as it was, in the tree as it is. -/
import Derived.Test.YtilginghgigiiaaG4
import Derived.Test.YtilginghgigiiaaH2
namespace Go.Proofs.Ytilginghgigiiaa
open Go Go.RowKit

theorem SlotA.now {w W : World} {h b n : Nat} {its its' L L' : List Itm} {F : List Nat} (ht : Tre w h b its L F) (ht' : Tre W h b its' L' F) (hnd : F.Nodup) (hK : KpT w F w W) (a : SlotA w h b n L F) : ∃ it', it'.key = a.it.key ∧ Slot W h b its'.length L' F a.g a.i it' := by
  obtain ⟨it', hs⟩ := Slot.of_loc ht' hnd (a.loc.keep ht (fun _ h => h) hK)
  refine ⟨it', ?_, hs⟩
  have h1 := hs.key
  have h2 := ((hK ⟨a.g, a.i * 2, none⟩ a.ok.mem).1 (fun _ => by show a.i * 2 % 2 = 0; omega)).trans a.ok.key
  rw [h2] at h1
  simpa using h1.symm
/-- Of lists with the same rising keys: the item of a key stands at one place. -/
theorem asc_place {X Z : List Itm} {it : Itm} {L : List Itm} {j : Nat} (ha : Asc (keysI L)) (hk : keysI (X ++ it :: Z) = keysI L) (hj : (keysI L)[j]? = some it.key) : X.length = j := by
  have h1 : (keysI L)[X.length]? = some it.key := by rw [← hk]; simp [keysI]
  rcases Nat.lt_trichotomy X.length j with h | h | h
  · have := asc_get ha h h1 hj
    rw [klt_irrefl] at this; cases this
  · exact h
  · have := asc_get ha h hj h1
    rw [klt_irrefl] at this; cases this
/-- One item's marks are set: the tree as it is then. -/
theorem SlotA.turn {w W : World} {h b n : Nat} {its its' L L' : List Itm} {F : List Nat} (ht : Tre w h b its L F) (ht' : Tre W h b its' L' F) (hnd : F.Nodup) (ha : Asc (keysI L)) (hKL : keysI L' = keysI L) (hK : KpT w F w W) (a : SlotA w h b n L F) {j : Nat} (hj : L[j]? = some a.it) :
    (∃ it', L'[j]? = some it' ∧ it'.key = a.it.key ∧ W.cell? ⟨a.g, a.i * 2 + 1, none⟩ = some it'.mv) ∧ W.frozen? ⟨a.g, a.i * 2 + 1, none⟩ = false ∧
    ∀ W' : World, (∀ k ∈ F, W'.heap[k]? = W.heap[k]?) → ∀ mv', isSl mv' → ∃ its2, its2.length = its'.length ∧ Tre (W'.setCell ⟨a.g, a.i * 2 + 1, none⟩ mv') h b its2 (L'.set j ⟨a.it.key, mv'⟩) F := by
  obtain ⟨it', hke, hs⟩ := a.now ht ht' hnd hK
  obtain ⟨X, Z, rfl, hput⟩ := hs.put
  have hX : X.length = j := asc_place ha hKL (by rw [hke]; simp [keysI, hj])
  subst hX
  refine ⟨⟨it', by simp, hke, hs.mv⟩, hs.free, fun W' hW mv' hm => ?_⟩
  obtain ⟨its2, hl, hT⟩ := hput W' hW mv' hm
  exact ⟨its2, hl, by rw [hke] at hT; simpa using hT⟩
end Go.Proofs.Ytilginghgigiiaa
