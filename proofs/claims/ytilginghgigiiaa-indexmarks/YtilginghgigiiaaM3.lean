/- takeLast and drop, within a node that has kids: their walks. -/
import Derived.Test.YtilginghgigiiaaMM
import Derived.Test.YtilginghgigiiaaJ2
import Derived.Test.YtilginghgigiiaaE2
namespace Go.Proofs.Ytilginghgigiiaa
open Go Go.RowKit

set_option maxRecDepth 100000 in
set_option maxHeartbeats 2000000 in
theorem takeLast_walk {w : World} {b : Nat} {iv kv : Value} {its : List Itm} {kb : List Nat} {k : Nat} (hN : Nod w b iv kv its kb) (hn : its.length ≤ 100) (h1 : 1 ≤ its.length) (hkl : kb.length = its.length + 1) (hk : kb[its.length]? = some k) (Q : Itm → World → Prop)
    (hrec : ∀ W, Below w.heap.size w W → w.heap.size < W.heap.size → Calls Try.prog 55 #[ptr k] W fun e W1 => ∃ it : Itm, e = .returned (.agg #[.string it.key, it.mv]) ∧ isSl it.mv ∧ (∀ x o, w.heap.size ≤ x → W.heap[x]? = some o → W1.heap[x]? = some o) ∧
      ∀ W2, Below W1.heap.size W1 W2 → Calls Try.prog 56 #[ptr b, .int .i64 its.length] W2 fun e W3 => e = .returned (.tuple #[]) ∧ (∀ y o, (w.heap.size ≤ y ∧ y < W.heap.size ∨ W1.heap.size ≤ y) → W2.heap[y]? = some o → W3.heap[y]? = some o) ∧ ∀ v0 v1, Q it ((W3.setCell ⟨w.heap.size, 0, none⟩ v0).setCell ⟨w.heap.size, 1, none⟩ v1)) :
    Calls Try.prog 55 #[ptr b] w fun e w' => ∃ it : Itm, e = .returned (.agg #[.string it.key, it.mv]) ∧ isSl it.mv ∧ Q it w' := by
  obtain ⟨W0, hW0⟩ : ∃ W0, W0 = w.alloc (.cells #[.string ⟨#[]⟩, .slice none 0 0] 66) := ⟨_, rfl⟩
  have hb0 : Below w.heap.size w W0 := by rw [hW0]; exact (Below.refl _ w).alloc (Nat.le_refl _) _
  have hz0 : W0.heap.size = w.heap.size + 1 := by rw [hW0]; simp
  have hr0 : W0.heap[w.heap.size]? = some (.cells #[.string ⟨#[]⟩, .slice none 0 0] 66 (0, 0)) := by rw [hW0]; exact row_alloc w _ _
  obtain ⟨kg, kc, hkv, hkc, hkm⟩ := owns_form1 hN.kids (by omega)
  obtain ⟨ip, ic, hiv, hic, him⟩ := owns_form hN.items
  have hlf := leaf_node (hN.below hb0)
  rw [decide_eq_false (show ¬ kb.length = 0 by omega)] at hlf
  have c0 := (hN.below hb0).c0
  have c1 := (hN.below hb0).c1
  have kk := (hN.below hb0).kid hkv hk
  rw [hiv] at c0
  rw [hkv, hkl] at c1
  have hcall := hrec W0 hb0 (by omega)
  have hx1 : IntKind.i64.wrap ((its.length : Int) - 1) = ((its.length - 1 : Nat) : Int) := by rw [IntKind.wrap_i64]; omega
  have hx2 : IntKind.i64.wrap (((its.length - 1 : Nat) : Int) + 1) = (its.length : Int) := by rw [IntKind.wrap_i64]; omega
  clear hrec hN hk
  go_enter Try.func55, Try.ntmps55
  go_upto_region 1 with (fail)
  rw [← hW0]
  clear hW0
  go_upto_region 7 with (first | (go_at_call 47; refine hlf.mono ?_; rintro e w2 ⟨rfl, rfl⟩) | (go_at_call 55; refine hcall.mono ?_; rintro e W1 ⟨it, rfl, hsl, hkeep, hnext⟩; obtain ⟨key, mv⟩ := it; obtain ⟨mp, mn, mc, hmv⟩ := hsl; dsimp only at hmv hnext; subst hmv))
  have hx := hkeep _ _ (Nat.le_refl _) hr0
  have hxl := (Array.getElem?_eq_some_iff.1 hx).1
  have hx' := (Below.heap_alloc W1 (.cells #[.string key, .slice mp mn mc] 66) w.heap.size hxl).trans hx
  have hy := row_alloc W1 #[.string key, .slice mp mn mc] 66
  have hmd := hnext _ ((Below.refl _ W1).alloc (Nat.le_refl _) (.cells #[.string key, .slice mp mn mc] 66))
  have hmd2 := hmd.mono (R' := fun e W3 => e = .returned (.tuple #[]) ∧ W3.heap[w.heap.size]? = some (.cells #[.string ⟨#[]⟩, .slice none 0 0] 66 (0, 0)) ∧ W3.heap[W1.heap.size]? = some (.cells #[.string key, .slice mp mn mc] 66 (0, 0)) ∧ Hid (∀ v0 v1, Q ⟨key, .slice mp mn mc⟩ ((W3.setCell ⟨w.heap.size, 0, none⟩ v0).setCell ⟨w.heap.size, 1, none⟩ v1)))
    fun e W3 h => ⟨h.1, h.2.1 _ _ (.inl ⟨Nat.le_refl _, by omega⟩) hx', h.2.1 _ _ (.inr (Nat.le_refl _)) hy, h.2.2⟩
  clear hmd hnext hkeep hcall hlf c0 c1 kk hx hx' hy hr0 hb0
  go_upto_region 8 with (go_at_call 56; refine hmd2.mono ?_; rintro e W3 ⟨rfl, d2, d3, hQ⟩)
  have x0 : W3.cell? ⟨w.heap.size, 0, none⟩ = some (.string ⟨#[]⟩) := by simp [World.cell?, d2]
  have x1 : W3.cell? ⟨w.heap.size, 1, none⟩ = some (.slice none 0 0) := by simp [World.cell?, d2]
  have f0 : W3.frozen? ⟨w.heap.size, 0, none⟩ = false := by simp [World.frozen?, d2]
  have f1 : W3.frozen? ⟨w.heap.size, 1, none⟩ = false := by simp [World.frozen?, d2]
  have y0 : W3.cell? ⟨W1.heap.size, 0, none⟩ = some (.string key) := by simp [World.cell?, d3]
  have y1 : W3.cell? ⟨W1.heap.size, 1, none⟩ = some (.slice mp mn mc) := by simp [World.cell?, d3]
  clear hmd2 d2 d3
  go_wp2
  refine bodyPost_ret (v := .agg #[.string key, .slice mp mn mc]) (by simp [results, Try.results55, go_sem, x0, x1]) rfl ⟨⟨key, .slice mp mn mc⟩, rfl, ⟨mp, mn, mc, rfl⟩, hQ.out _ _⟩

set_option maxRecDepth 100000 in
set_option maxHeartbeats 2000000 in
/-- drop, of a key in a kid. -/
theorem drop_down {w : World} {b : Nat} {iv kv : Value} {its : List Itm} {kb : List Nat} {k : Nat} (hN : Nod w b iv kv its kb) (hs : Asc (keysI its)) (hn : its.length ≤ 100) (hkl : kb.length = its.length + 1) (key : ByteArray) (hk : kb[plc its key]? = some k) (hf : hre its key = false) (Q : World → Prop)
    (hrec : ∀ W, Below w.heap.size w W → Calls Try.prog 43 #[ptr k, .string key] W fun e W1 => e = .returned (.tuple #[]) ∧ Calls Try.prog 56 #[ptr b, .int .i64 (plc its key)] W1 fun e W3 => e = .returned (.tuple #[]) ∧ Q W3) :
    Calls Try.prog 43 #[ptr b, .string key] w fun e w' => e = .returned (.tuple #[]) ∧ Q w' := by
  have hpl := place_node hN hs (by omega) key
  rw [hf] at hpl
  have hpk := plc_le its key
  obtain ⟨kg, kc, hkv, hkc, hkm⟩ := owns_form1 hN.kids (by omega)
  have HN := Hid.mk'' hN
  have HREC := Hid.mk'' hrec
  clear hrec hN hs hf
  go_enter Try.func43, Try.ntmps43
  go_wp2_with (first | (go_at_call 33; refine hpl.mono ?_; rintro e w1 ⟨rfl, hb⟩; have hlf := leaf_node (HN.out.below hb); rw [decide_eq_false (show ¬ kb.length = 0 by omega)] at hlf; have c1 := (HN.out.below hb).c1; rw [hkv, hkl] at c1; have kk := (HN.out.below hb).kid hkv hk; have hcall := HREC.out _ hb) | (go_at_call 47; refine hlf.mono ?_; rintro e w2 ⟨rfl, rfl⟩) | (go_at_call 43; refine hcall.mono ?_; rintro e w3 ⟨rfl, hm⟩) | (go_at_call 56; refine hm.mono ?_; rintro e w4 ⟨rfl, hq⟩))
  first | go_end0 | refine bodyPost_ret (results_none rfl _ _ _) rfl ?_
  exact ⟨rfl, hq⟩

set_option maxRecDepth 100000 in
set_option maxHeartbeats 2000000 in
/-- drop, of a key that is the node's own. -/
theorem drop_here {w : World} {b : Nat} {iv kv : Value} {its : List Itm} {kb : List Nat} {k g c : Nat} (hN : Nod w b iv kv its kb) (hs : Asc (keysI its)) (hn : its.length ≤ 100) (hkl : kb.length = its.length + 1) (key : ByteArray) (hk : kb[plc its key]? = some k) (hf : hre its key = true) (hiv : iv = .slice (some ⟨g, 0, none⟩) its.length c) (Q : World → Prop)
    (hrec : ∀ W, Below w.heap.size w W → Calls Try.prog 55 #[ptr k] W fun e W1 => ∃ it : Itm, e = .returned (.agg #[.string it.key, it.mv]) ∧ isSl it.mv ∧ Nod W1 b iv kv its kb ∧
      ∀ W2, Below W1.heap.size W1 W2 → Calls Try.prog 56 #[ptr b, .int .i64 (plc its key)] ((W2.setCell ⟨g, plc its key * 2, none⟩ (.string it.key)).setCell ⟨g, plc its key * 2 + 1, none⟩ it.mv) fun e W3 => e = .returned (.tuple #[]) ∧ Q W3) :
    Calls Try.prog 43 #[ptr b, .string key] w fun e w' => e = .returned (.tuple #[]) ∧ Q w' := by
  have hpl := place_node hN hs (by omega) key
  rw [hf] at hpl
  obtain ⟨s, hsi, _⟩ := hre_true hf
  have hpk : plc its key < its.length := (List.getElem?_eq_some_iff.1 hsi).1
  obtain ⟨kg, kc, hkv, hkc, hkm⟩ := owns_form1 hN.kids (by omega)
  have HN := Hid.mk'' hN
  have HREC := Hid.mk'' hrec
  clear hrec hN hs hf
  go_enter Try.func43, Try.ntmps43
  go_upto_region 5 with (first | (go_at_call 33; refine hpl.mono ?_; rintro e w1 ⟨rfl, hb⟩; have hlf := leaf_node (HN.out.below hb); rw [decide_eq_false (show ¬ kb.length = 0 by omega)] at hlf) | (go_at_call 47; refine hlf.mono ?_; rintro e w2 ⟨rfl, rfl⟩))
  have HSI := Hid.mk'' hsi
  clear hsi hpl hlf
  have c0 := (HN.out.below hb).c0
  rw [hiv] at c0
  have c1 := (HN.out.below hb).c1
  rw [hkv, hkl] at c1
  have kk := (HN.out.below hb).kid hkv hk
  have hcall : Calls Try.prog 55 #[ptr k] w2.drew fun e W1 => ∃ key' mp mn mc, e = .returned (.agg #[.string key', .slice mp mn mc]) ∧ W1.cell? ⟨b, 0, none⟩ = some (.slice (some ⟨g, 0, none⟩) its.length c) ∧ W1.cell? ⟨g, plc its key * 2, none⟩ = some (.string s.key) ∧ W1.cell? ⟨g, plc its key * 2 + 1, none⟩ = some s.mv ∧ W1.frozen? ⟨g, plc its key * 2, none⟩ = false ∧ W1.frozen? ⟨g, plc its key * 2 + 1, none⟩ = false ∧ Hid (Calls Try.prog 56 #[ptr b, .int .i64 (plc its key)] ((W1.setCell ⟨g, plc its key * 2, none⟩ (.string key')).setCell ⟨g, plc its key * 2 + 1, none⟩ (.slice mp mn mc)) fun e W3 => e = .returned (.tuple #[]) ∧ Q W3) := by
    refine (HREC.out _ hb.drew).mono ?_
    rintro e W1 ⟨⟨key', mv⟩, rfl, ⟨mp, mn, mc, hmv⟩, hN1, hnx⟩
    dsimp only at hmv hnx
    subst hmv
    have h0 := hN1.c0
    rw [hiv] at h0
    obtain ⟨i0, i1⟩ := hN1.item hiv HSI.out
    have hfr : ∀ j, W1.frozen? ⟨g, j, none⟩ = false := fun j => by
      rcases hN1.items.2 with ⟨h1, _⟩ | ⟨g', cap, cur, h1, _, hg, _⟩
      · rw [hiv] at h1; cases h1
      · rw [hiv] at h1; cases h1
        simp [World.frozen?, hg]
    exact ⟨key', mp, mn, mc, rfl, h0, i0, i1, hfr _, hfr _, hnx _ (Below.refl _ _)⟩
  clear HREC
  go_region_with (go_at_call 55; refine hcall.mono ?_; rintro e w3 ⟨key', mp, mn, mc, rfl, h0, i0, i1, f0, f1, hR⟩)
  all_goals
    clear hcall
    have hm := hR.out
    go_wp2_with (go_at_call 56; refine hm.mono ?_; rintro e w4 ⟨rfl, hq⟩)
    first | go_end0 | refine bodyPost_ret (results_none rfl _ _ _) rfl ?_
    exact ⟨rfl, hq⟩
end Go.Proofs.Ytilginghgigiiaa
