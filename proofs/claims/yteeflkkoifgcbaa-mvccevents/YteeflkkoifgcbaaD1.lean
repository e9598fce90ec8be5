/- add to a leaf. -/
import Derived.Test.YteeflkkoifgcbaaCC
import Derived.Deep.CutRange
import Derived.Deep.RegionWith
import Derived.Deep.RegionHeldLaw
namespace Go.Proofs.Yteeflkkoifgcbaa
open Go Go.RowKit

theorem place_node {w : World} {b : Nat} {iv kv : Value} {its : List Itm} {ks : List Nat} (hN : Nod w b iv kv its ks) (hs : Asc (keysI its)) (hn : its.length ≤ 1000) (key : ByteArray) :
    Calls Try.prog 50 #[ptr b, .string key] w fun e w' => e = .returned (.tuple #[.int .i64 (plc its key), .bool (hre its key)]) ∧ Below w.heap.size w w' := by
  rcases hN.items.2 with ⟨h1, h2⟩ | ⟨g, cap, cur, h1, _⟩
  · obtain rfl : its = [] := List.eq_nil_of_length_eq_zero h2
    subst h1
    exact (place_nil b key w hN.c0).mono fun e w' h => ⟨h.1, by rw [h.2]; exact Below.refl _ _⟩
  · have h0 := hN.c0
    rw [h1] at h0
    exact place_any b g cap its key w h0 (fun j it hj => hN.item h1 hj) hs hn
theorem leaf_node {w : World} {b : Nat} {iv kv : Value} {its : List Itm} {ks : List Nat} (hN : Nod w b iv kv its ks) : Calls Try.prog 57 #[ptr b] w fun e w' => e = .returned (.bool (decide (ks.length = 0))) ∧ w' = w := by
  obtain ⟨p, c, h, _⟩ := owns_form hN.kids
  have h1 := hN.c1
  rw [h] at h1
  exact leaf_any b _ c p w h1
theorem row_alloc (w : World) (r : Array Value) (t : TypeId) : (w.alloc (.cells r t)).heap[w.heap.size]? = some (.cells r t (0, 0)) := heap_alloc_new w _

set_option maxRecDepth 100000 in
set_option maxHeartbeats 1000000 in
theorem add_leaf {w : World} {b : Nat} {iv kv : Value} {its : List Itm} (hN : Nod w b iv kv its []) (hs : Asc (keysI its)) (hn : its.length ≤ 100) (it : Itm) (hit : isSl it.mv) :
    Calls Try.prog 52 #[ptr b, .agg #[.string it.key, it.mv]] w fun e w' => e = .returned (.tuple #[]) ∧ ∃ iv', Nod w' b iv' kv (its.take (plc its it.key) ++ it :: its.drop (plc its it.key)) [] ∧ Step w w' (nf b iv kv) (nf b iv' kv) := by
  have hple := plc_le its it.key
  obtain ⟨W0, hW0⟩ : ∃ W0, W0 = w.alloc (.cells #[.string it.key, it.mv] 104) := ⟨_, rfl⟩
  have hb0 : Below w.heap.size w W0 := by rw [hW0]; exact (Below.refl _ w).alloc (Nat.le_refl _) _
  have hr0 : W0.heap[w.heap.size]? = some (.cells #[.string it.key, it.mv] 104 (0, 0)) := by rw [hW0]; exact row_alloc w _ _
  have hN0 := hN.below hb0
  have hpl := (place_node hN0 hs (by omega) it.key).mono (R' := fun e w' => e = .returned (.tuple #[.int .i64 (plc its it.key), .bool (hre its it.key)]) ∧ Below w.heap.size w w' ∧ w'.heap[w.heap.size]? = some (.cells #[.string it.key, it.mv] 104 (0, 0)))
    fun e w' h => ⟨h.1, hb0.trans (h.2.mono hb0.size), (h.2.block _ (Array.getElem?_eq_some_iff.1 hr0).1).trans hr0⟩
  have k0 : W0.cell? ⟨w.heap.size, 0, none⟩ = some (.string it.key) := by simp [World.cell?, hr0]
  clear hr0
  go_enter Try.func52, Try.ntmps52
  go_upto_region 1 with (fail)
  rw [← hW0]
  clear hW0
  go_wp2_with (go_at_call 50; refine hpl.mono ?_; rintro e W1 ⟨rfl, hb1, hr1⟩)
  have hN1 := hN.below hb1
  refine (leaf_node hN1).mono ?_
  rintro e w2 ⟨rfl, rfl⟩
  obtain ⟨ip, ic, hiv, _, _⟩ := owns_form hN1.items
  have c0 := hN1.c0
  have e0 : w2.cell? ⟨w.heap.size, 0, none⟩ = some (.string it.key) := by simp [World.cell?, hr1]
  have e1 : w2.cell? ⟨w.heap.size, 1, none⟩ = some it.mv := by simp [World.cell?, hr1]
  have hins : ∀ W, Below w2.heap.size w2 W → W.heap[w2.heap.size]? = some (.cells #[.string it.key, it.mv] 104 (0, 0)) → Calls Try.prog 58 #[iv, .int .i64 (plc its it.key), .slice (some ⟨w2.heap.size, 0, none⟩) 1 1] W fun e w' => ∃ iv', e = .returned iv' ∧ slAt iv' (its.length + 1) ∧ w'.cell? ⟨b, 0, none⟩ = some iv ∧ w'.frozen? ⟨b, 0, none⟩ = false ∧
      Nod (w'.setCell ⟨b, 0, none⟩ iv') b iv' kv (its.take (plc its it.key) ++ it :: its.drop (plc its it.key)) [] ∧ Step w (w'.setCell ⟨b, 0, none⟩ iv') (nf b iv kv) (nf b iv' kv) := fun W hb hr => by
    refine (insI_node (hN1.below hb) it hit (plc its it.key) w2.heap.size hple (by omega) hr (fun e => by have := owns_lt hN1.items e; omega)).mono ?_
    rintro e w' ⟨iv', h1, h2, h3, h4, h5, h6⟩
    exact ⟨iv', h1, h2, h3, h4, h5, (Step.below (hb1.trans (hb.mono hb1.size)) hN.nd hN.foot_lt).trans h6⟩
  have ca0 : ∀ o, (w2.alloc o).cell? ⟨b, 0, none⟩ = some iv := fun o => (hN1.below ((Below.refl _ w2).alloc (Nat.le_refl _) o)).c0
  clear hN hN0 hpl k0 hN1 hb0 hs
  subst hiv
  obtain ⟨key, mv⟩ := it
  obtain ⟨mp, mn, mc, rfl⟩ := hit
  dsimp only at *
  go_wp2_with fail
  go_region_with (go_at_call 58; refine (hins _ (by first | exact ((Below.refl _ _).drew.alloc (Nat.le_refl _) _) | exact ((Below.refl _ _).alloc (Nat.le_refl _) _).drew) (by first | exact row_alloc _ _ _ | rfl)).mono ?_; rintro e w' ⟨iv', rfl, ⟨g', c', rfl, _, _⟩, d0, d1, hN', hS⟩)
  all_goals
    go_wp2
    refine bodyPost_ret (results_none rfl _ _ _) rfl ?_
    exact ⟨rfl, _, hN', hS⟩
end Go.Proofs.Yteeflkkoifgcbaa
