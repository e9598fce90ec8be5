/- Taking away at a leaf. -/
import Derived.Test.YtilginghgigiiaaEA
namespace Go.Proofs.Ytilginghgigiiaa
open Go Go.RowKit

theorem size_setCell' (w : World) (p : Addr) (v : Value) : (w.setCell p v).heap.size = w.heap.size := by simp [World.setCell]
set_option maxHeartbeats 1000000 in
theorem drop_leaf {w : World} {b : Nat} {iv kv : Value} {its : List Itm} (hN : Nod w b iv kv its []) (hs : Asc (keysI its)) (hn : its.length ≤ 100) (key : ByteArray) (hp : plc its key < its.length) :
    Calls Try.prog 43 #[ptr b, .string key] w fun e w' => e = .returned (.tuple #[]) ∧ ∃ iv', Nod w' b iv' kv (its.take (plc its key) ++ its.drop (plc its key + 1)) [] ∧ Step w w' (nf b iv kv) (nf b iv' kv) := by
  have hpl := place_node hN hs (by omega) key
  have HC : Hid (∀ W, Below w.heap.size w W → W.cell? ⟨b, 0, none⟩ = some iv) := fun W hb => (hN.below hb).c0
  have HL : Hid (∀ W, Below w.heap.size w W → Calls Try.prog 47 #[ptr b] W fun e w' => e = .returned (.bool true) ∧ w' = W) := fun W hb => leaf_node (hN.below hb)
  have HD : Hid (∀ W, Below w.heap.size w W → Calls Try.prog 50 #[iv, .int .i64 (plc its key), .int .i64 ((plc its key : Int) + 1)] W fun e w' => ∃ p n c, e = .returned (.slice p n c) ∧ w'.cell? ⟨b, 0, none⟩ = some iv ∧ w'.frozen? ⟨b, 0, none⟩ = false ∧ ∃ iv', Nod (w'.setCell ⟨b, 0, none⟩ (.slice p n c)) b iv' kv (its.take (plc its key) ++ its.drop (plc its key + 1)) [] ∧ Step w (w'.setCell ⟨b, 0, none⟩ (.slice p n c)) (nf b iv kv) (nf b iv' kv)) := fun W hb => by
    have := delI_node (hN.below hb) (plc its key) (plc its key + 1) (by omega) (by omega) (by omega)
    refine this.mono ?_
    rintro e w' ⟨iv', rfl, ⟨p, c, rfl⟩, h1, h2, h3, h4⟩
    exact ⟨p, _, c, rfl, h1, h2, _, h3, Step.from hb h4 hN.nd hN.foot_lt⟩
  obtain ⟨p0, c0, hiv, _⟩ := owns_form hN.items
  clear hN hs
  generalize plc its key = p at *
  subst hiv
  go_enter Try.func43, Try.ntmps43
  go_wp2_with (first | (go_at_call 33; refine hpl.mono ?_; rintro e w1 ⟨rfl, hb⟩; have hc := HC.out _ hb) | (go_at_call 47; refine (HL.out _ hb).mono ?_; rintro e w2 ⟨rfl, rfl⟩) | (go_at_call 50; refine (HD.out _ hb).mono ?_; rintro e w3 ⟨q, n, c, rfl, d0, d1, hX⟩))
  refine bodyPost_ret (results_none rfl _ _ _) rfl ?_
  exact ⟨rfl, hX⟩

set_option maxHeartbeats 1000000 in
theorem takeLast_leaf {w : World} {b : Nat} {iv kv : Value} {ini : List Itm} {it : Itm} (hN : Nod w b iv kv (ini ++ [it]) []) (hn : ini.length ≤ 100) :
    Calls Try.prog 55 #[ptr b] w fun e w' => e = .returned (.agg #[.string it.key, it.mv]) ∧ ∃ iv', Nod w' b iv' kv ini [] ∧ Step w w' (nf b iv kv) (nf b iv' kv) := by
  have hlen : (ini ++ [it]).length = ini.length + 1 := by simp
  have HL : Hid (∀ W, Below w.heap.size w W → Calls Try.prog 47 #[ptr b] W fun e w' => e = .returned (.bool true) ∧ w' = W) := fun W hb => leaf_node (hN.below hb)
  have HD : Hid (∀ W, Below w.heap.size w W → ∀ x y : Nat, w.heap.size ≤ x → w.heap.size ≤ y → ∀ o o', W.heap[x]? = some o → W.heap[y]? = some o' → Calls Try.prog 50 #[iv, .int .i64 (ini.length), .int .i64 ((ini.length : Int) + 1)] W fun e w' => ∃ p n c, e = .returned (.slice p n c) ∧ w'.cell? ⟨b, 0, none⟩ = some iv ∧ w'.frozen? ⟨b, 0, none⟩ = false ∧ w'.heap[x]? = some o ∧ w'.heap[y]? = some o' ∧ ∃ iv', x ∉ nf b iv' kv ∧ Nod (w'.setCell ⟨b, 0, none⟩ (.slice p n c)) b iv' kv ini [] ∧ Step w (w'.setCell ⟨b, 0, none⟩ (.slice p n c)) (nf b iv kv) (nf b iv' kv)) := fun W hb x y hx hy o o' ho ho' => by
    have := delI_node (hN.below hb) ini.length (ini.length + 1) (by omega) (by rw [hlen]; omega) (by rw [hlen]; omega)
    refine this.mono ?_
    rintro e w' ⟨iv', rfl, ⟨p, c, rfl⟩, h1, h2, h3, h4⟩
    rw [List.take_left, List.drop_eq_nil_of_le (by rw [hlen]; omega), List.append_nil] at h3
    have hout : ∀ z, w.heap.size ≤ z → ∀ u, W.heap[z]? = some u → w'.heap[z]? = some u := fun z hz u hu => by
      have hzn : z ∉ nf b iv kv := fun h => by have := hN.foot_lt z h; omega
      have h5 := h4.upd.block z (Array.getElem?_eq_some_iff.1 hu).1 hzn
      rw [heap_setCell_other _ _ _ _ _ (fun e => by have := hN.lt; omega)] at h5
      exact h5.trans hu
    exact ⟨p, _, c, rfl, h1, h2, hout x hx _ ho, hout y hy _ ho', _, fun hm => by
      rcases h4.sub x hm with h | h
      · have := hN.foot_lt x h; omega
      · have := (Array.getElem?_eq_some_iff.1 ho).1; omega, h3, Step.from hb h4 hN.nd hN.foot_lt⟩
  have HC : Hid (∀ W, Below w.heap.size w W → W.cell? ⟨b, 0, none⟩ = some iv) := fun W hb => (hN.below hb).c0
  have hbl := hN.lt
  obtain ⟨g, c0, hiv, _, _⟩ := owns_form1 hN.items (by rw [hlen]; omega)
  have HI : Hid (∀ W, Below w.heap.size w W → W.cell? ⟨g, ini.length * 2, none⟩ = some (.string it.key) ∧ W.cell? ⟨g, ini.length * 2 + 1, none⟩ = some it.mv) := fun W hb => by
    exact (hN.below hb).item hiv (by simp)
  obtain ⟨mp, mn, mc, hmv⟩ : isSl it.mv := hN.mvs it (by simp)
  obtain ⟨key, mv⟩ := it
  dsimp only at *
  subst hmv
  rw [hlen] at hiv
  clear hN hlen
  subst hiv
  go_enter Try.func55, Try.ntmps55
  go_upto_region 1 with (fail)
  have hb0 : Below w.heap.size w (w.alloc (.cells #[.string ⟨#[]⟩, .slice none 0 0] 66)) := (Below.refl _ w).alloc (Nat.le_refl _) _
  have hc := HC.out _ hb0
  obtain ⟨i0, i1⟩ := HI.out _ hb0
  go_wp2_with (go_at_call 47; refine (HL.out _ (by first | assumption | exact hb0)).mono ?_; rintro e w2 ⟨rfl, rfl⟩)
  have rx := row_alloc w #[.string ⟨#[]⟩, .slice none 0 0] 66
  have ry := row_alloc (w.alloc (.cells #[.string ⟨#[]⟩, .slice none 0 0] 66)) #[.string key, .slice mp mn mc] 66
  rw [World.size_alloc] at ry
  have rx' := (Below.heap_alloc (w.alloc (.cells #[.string ⟨#[]⟩, .slice none 0 0] 66)) (.cells #[.string key, .slice mp mn mc] 66) w.heap.size (by simp)).trans rx
  refine (HD.out _ (hb0.alloc (by simp) _) w.heap.size (w.heap.size + 1) (Nat.le_refl _) (by omega) _ _ rx' ry).mono ?_
  rintro e w3 ⟨q, n, c, rfl, d0, d1, d2, d3, hX⟩
  have x0 : w3.cell? ⟨w.heap.size, 0, none⟩ = some (.string ⟨#[]⟩) := by simp [World.cell?, d2]
  have x1 : w3.cell? ⟨w.heap.size, 1, none⟩ = some (.slice none 0 0) := by simp [World.cell?, d2]
  have f0 : w3.frozen? ⟨w.heap.size, 0, none⟩ = false := by simp [World.frozen?, d2]
  have f1 : w3.frozen? ⟨w.heap.size, 1, none⟩ = false := by simp [World.frozen?, d2]
  have y0 : w3.cell? ⟨w.heap.size + 1, 0, none⟩ = some (.string key) := by simp [World.cell?, d3]
  have y1 : w3.cell? ⟨w.heap.size + 1, 1, none⟩ = some (.slice mp mn mc) := by simp [World.cell?, d3]
  clear HD HL HC HI rx ry rx' hb0 i0 i1 hc
  go_wp2
  refine bodyPost_ret (v := .agg #[.string key, .slice mp mn mc]) (by simp [results, Try.results55, go_sem, x0, x1]) rfl ⟨rfl, ?_⟩
  obtain ⟨iv', hx, h1, h2⟩ := hX
  refine ⟨iv', (h1.agree fun k hk => ?_), (h2.upd.setCell (p := ⟨w.heap.size, 0, none⟩) (.inl (Nat.le_refl _)) _).setCell (p := ⟨w.heap.size, 1, none⟩) (.inl (Nat.le_refl _)) _, h2.nd, h2.sub, fun k hk => by rw [size_setCell', size_setCell']; exact h2.lt k hk⟩
  have hne : k ≠ w.heap.size := fun e => hx (e ▸ hk)
  rw [heap_setCell_other _ _ _ _ _ hne, heap_setCell_other _ _ _ _ _ hne]
end Go.Proofs.Ytilginghgigiiaa
