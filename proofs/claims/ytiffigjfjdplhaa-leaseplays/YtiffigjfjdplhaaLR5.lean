/- The document's Renew. -/
import Derived.Test.YtiffigjfjdplhaaLR4
namespace Go.Proofs.Ytiffigjfjdplhaa
open Go Go.RowKit
theorem heap_setCell_row {w : World} {b j : Nat} {r : Array Value} {t : TypeId} {fz : Nat × Nat} (h : w.heap[b]? = some (.cells r t fz)) (v : Value) : (w.setCell ⟨b, j, none⟩ v).heap[b]? = some (.cells (r.set! j v) t fz) := by
  have hlt : b < w.heap.size := (Array.getElem?_eq_some_iff.1 h).1
  have hv : w.heap[b] = .cells r t fz := (Array.getElem?_eq_some_iff.1 h).2
  unfold World.setCell
  rw [Array.getElem?_eq_getElem (by simpa using hlt), Array.getElem_modify]
  simp [hv]
/-- A node gets new items. -/
theorem row_set {w : World} {B e s g c n : Nat} {xs : List Value} (h : w.ownsRow B e s (.slice (some ⟨g, 0, none⟩) n c) n xs) (j : Nat) (u : Value) : (w.setCell ⟨g, j, none⟩ u).ownsRow B e s (.slice (some ⟨g, 0, none⟩) n c) n (xs.set j u) := by
  refine ⟨by rw [List.length_set]; exact h.1, .inr ?_⟩
  rcases h.2 with ⟨e, _⟩ | ⟨g', cap, cur, e, hbg, hh, h1, h2, h3, h4⟩
  · cases e
  · cases e
    refine ⟨g, c, _, rfl, hbg, heap_setCell_row hh u, h1, h2, by simpa using h3, ?_⟩
    rw [Array.set!_eq_setIfInBounds, Array.toList_setIfInBounds, List.take_set, h4]
theorem lsC_set {L : List Ls} {i : Nat} {l : Ls} (hl : L[i]? = some l) (u : Int) : (lsC L).set (i * 3 + 2) (.int .i64 u) = lsC (L.set i ⟨l.id, l.ttl, u⟩) := by
  induction L generalizing i with
  | nil => cases hl
  | cons a r ih =>
    cases i with
    | zero =>
      cases hl
      rfl
    | succ i =>
      have := ih (i := i) (by simpa using hl)
      show (lsL a ++ lsC r).set _ _ = lsL a ++ lsC (r.set i _)
      rw [List.set_append_right _ _ (by simp [lsL]; omega), ← this]
      congr 2
      simp [lsL]
      omega
theorem set_at {L : List Ls} (hu : upL L) {i : Nat} {l f : Ls} (hl : L[i]? = some l) (hf : f.id = l.id) : insL f (delL l.id L) = L.set i f := by
  have hi := (List.getElem?_eq_some_iff.1 hl).1
  have e : L = L.take i ++ l :: L.drop (i + 1) := by
    have h1 : L.drop i = l :: L.drop (i + 1) := by rw [List.drop_eq_getElem_cons hi, (List.getElem?_eq_some_iff.1 hl).2]
    rw [← h1, List.take_append_drop]
  have hu' : upL (L.take i ++ l :: L.drop (i + 1)) := by rw [← e]; exact hu
  have h1 := List.pairwise_append.1 hu'
  have h2 := List.pairwise_cons.1 h1.2.1
  have htl : (L.take i).length = i := by rw [List.length_take]; omega
  rw [del_at hu hl, ins_at (k := i) (by rw [List.length_append, htl]; omega)]
  · rw [List.take_append_of_le_length (by omega), List.take_of_length_le (by omega), List.drop_append_of_le_length (by omega), List.drop_of_length_le (by omega), List.nil_append]
    rw [List.set_eq_take_append_cons_drop, if_pos hi, List.append_assoc]
    rfl
  · intro j l' hj hl'
    rw [List.getElem?_append_left (by omega)] at hl'
    have := h1.2.2 l' (List.mem_of_getElem? hl') l (by simp)
    omega
  · intro l' hl'
    rw [List.getElem?_append_right (by omega), htl, Nat.sub_self] at hl'
    have := h2.1 l' (List.mem_of_getElem? hl')
    omega
theorem own_empty (w : World) : (w.alloc (.cells #[] 46)).ownsRow w.heap.size 46 3 (.slice (some ⟨w.heap.size, 0, none⟩) 0 0) 0 [] := ⟨rfl, .inr ⟨w.heap.size, 0, #[], rfl, Nat.le_refl _, heap_alloc_new w _, Nat.le_refl _, by unfold maxLen; omega, rfl, rfl⟩⟩
set_option maxRecDepth 20000 in
set_option maxHeartbeats 1000000 in
theorem rrenew_any (B x : Nat) (v : Value) (L : List Ls) (id now : Int) (w : World) (h : Rb B w x v L) (few : L.length ≤ 1024) (hu : upL L) (hok : ∀ l ∈ L, l.Ok) (n1 : 0 ≤ now) (n2 : now ≤ 1099511627776) :
    Calls Try.prog 13 #[ptr x, .int .i64 id, .int .i64 now] w fun e w' => e = .returned (.int .i64 (renewE L id now)) ∧ ((renewL L id now = L ∧ w' = w) ∨ RbPost B w w' x (renewL L id now)) := by
  have hnow : nowB now = true := by simp [nowB, n1, n2]
  have hat := rat_any B x v L id w h few
  cases hl : lookL id L with
  | none =>
    have e1 : renewE L id now = 2 := by simp [renewE, hl, hnow]
    have e2 : renewL L id now = L := by simp [renewL, hl]
    rw [e1, e2]
    go_enter Try.func13, Try.ntmps13
    go_wp2_with (go_at_call 23; refine hat.mono ?_; rintro e w1 ⟨k, rfl, hk, hw1⟩; obtain rfl := hw1.symm; obtain rfl := hk.none hl)
    go_ret
    exact ⟨rfl, .inl ⟨by simp, rfl⟩⟩
  | some l0 =>
    have e1 : renewE L id now = 0 := by simp [renewE, hl, hnow]
    rw [e1]
    obtain ⟨p, c, rfl, hc⟩ := h.form
    have c0 := h.c0
    have f0 := h.f0
    have hxl := h.lt
    obtain ⟨t3, hti, hz0, hz1, hz2⟩ := info_of info46
    have H := Hid.mk'' h
    have HU := Hid.mk'' hu
    have hid0 := (look_parts hl).1
    have hmem0 := List.mem_of_find?_eq_some hl
    clear h
    go_enter Try.func13, Try.ntmps13
    go_upto_region 4 with (go_at_call 23; refine hat.mono ?_; rintro e w1 ⟨k, rfl, hk, hw1⟩; obtain rfl := hw1.symm; obtain ⟨i, l, rfl, hli, hid⟩ := hk.some (by rw [hl]; rfl))
    obtain rfl : l0 = l := up_inj hu hmem0 (List.mem_of_getElem? hli) (by rw [hid0, hid])
    have hil := (List.getElem?_eq_some_iff.1 hli).1
    obtain ⟨o1, o2, o3, o4, o5, o6⟩ := hok l0 hmem0
    have HREN : Hid (renewL L id now = L.set i ⟨l0.id, l0.ttl, now + l0.ttl⟩) := Hid.mk'' (by
      unfold renewL
      rw [hnow, hl]
      simp only [Bool.true_eq_false, if_false]
      rw [← hid]
      exact set_at hu hli rfl)
    have hba : Below w.heap.size w (w.alloc (.cells #[] 46)) := (Below.refl _ _).alloc (Nat.le_refl _) _
    have hsrcT := cut_take H.out.row (k := L.length) (Nat.le_refl _) (w.alloc (.cells #[] 46)) hba
    rw [List.take_length] at hsrcT
    have hown0 := own_empty w
    have HLI := Hid.mk'' hli
    have c1 := (hba.cell (p := ⟨x, 0, none⟩) hxl).trans c0
    have f1 := (hba.frozen (p := ⟨x, 0, none⟩) hxl).trans f0
    have HBA := Hid.mk'' hba
    clear hk hat hli hid hl e1 hnow hid0 hmem0 hu hok hba
    go_upto_region 5 with (at_builtin; refine wpList_appS _ rfl (.tmp 14) (.tmp 18) 27 27 rfl w.heap.size 46 t3 _ 3 Try.underlying27 hti hz0 hz1 rfl (by rw [hz2]; decide) (.slice (some ⟨w.heap.size, 0, none⟩) 0 0) 0 [] rfl hown0 _ rfl L.length (lsC L) hsrcT (by omega) (by simp) ?_; intro v5 w5 s1 s2 s3 s4; clear s4; have c5 := (s2.cell (p := ⟨x, 0, none⟩) (by simp; omega) (fun e => by have : x = w.heap.size := Option.some.inj e; omega)).trans c1; have f5 := (s2.frozen (p := ⟨x, 0, none⟩) (by simp; omega) (fun e => by have : x = w.heap.size := Option.some.inj e; omega)).trans f1; obtain ⟨p5, c5', hv5⟩ := owns_form s1; subst hv5)
    have s1 : w5.ownsRow w.heap.size 46 3 (.slice p5 L.length c5') L.length (lsC L) := by
      have e0 : 0 + L.length = L.length := Nat.zero_add _
      rw [e0, List.nil_append] at s1
      exact s1
    have hu5 : Upd w w5 (fun k => k = x) := (Upd.ofBelow HBA.out).trans s2 (fun k hk e => by have : k = w.heap.size := Option.some.inj e; omega)
    have hno : (Value.slice p5 L.length c5').ownBlock ≠ some x := fun e => by have := (s1.lt x e).1; omega
    obtain ⟨W1, hW1⟩ : ∃ W1, W1 = w5.setCell ⟨x, 0, none⟩ (.slice p5 L.length c5') := ⟨_, rfl⟩
    have hu2 : Upd w5 W1 (fun k => k = x) := by rw [hW1]; exact (Upd.refl w5 (fun k => k = x)).setCell (p := ⟨x, 0, none⟩) (.inr rfl) _
    have d0 : W1.cell? ⟨x, 0, none⟩ = some (.slice p5 L.length c5') := by rw [hW1]; exact World.cell?_setCell_same _ _ _ c5
    have d1 : W1.frozen? ⟨x, 0, none⟩ = false := by rw [hW1, World.frozen?_setCell]; exact f5
    have r1 : W1.ownsRow w.heap.size 46 3 (.slice p5 L.length c5') L.length (lsC L) := ownsRow_upd s1 hu2 (fun k hk e => hno (by rw [hk, e]))
    obtain ⟨g, hg, _, a1, a2, hgl, hn5⟩ := row_rs r1 HLI.out
    subst hg
    have a3 : W1.frozen? ⟨g, i * 3 + 2, none⟩ = false := by
      rcases r1.2 with ⟨e, _⟩ | ⟨g', cap, cur, e, _, hh, _⟩
      · cases e
      · cases e
        exact frozen_of_row W1 g _ cur 46 hh
    have hgx : g ≠ x := fun e => hno (by rw [e]; rfl)
    have HR1 := Hid.mk'' r1
    have HUU := Hid.mk'' (hu5.trans hu2 (fun _ _ e => e))
    have hgw := (r1.lt g rfl).1
    rw [← hW1]
    clear hW1 s1 s2 s3 hu5 hu2 c5 f5 hsrcT hown0 hno r1 HBA c1 f1
    go_region
    go_wp2
    go_ret
    have r2 := row_set HR1.out (i * 3 + 2) (.int .i64 (now + l0.ttl))
    rw [lsC_set HLI.out] at r2
    have hu3 : Upd W1 (W1.setCell ⟨g, i * 3 + 2, none⟩ (.int .i64 (now + l0.ttl))) (fun k => k = g) := (Upd.refl W1 (fun k => k = g)).setCell (p := ⟨g, i * 3 + 2, none⟩) (.inr rfl) _
    have hu4 : Upd w (W1.setCell ⟨g, i * 3 + 2, none⟩ (.int .i64 (now + l0.ttl))) (fun k => k = x) := HUU.out.trans hu3 (fun k hk e => by omega)
    refine ⟨rfl, .inr ?_⟩
    rw [HREN.out]
    have hxl1 : x < W1.heap.size := Nat.lt_of_lt_of_le hxl HUU.out.size
    refine ⟨.slice (some ⟨g, 0, none⟩) L.length c5', ⟨(hu3.cell (p := ⟨x, 0, none⟩) hxl1 (Ne.symm hgx)).trans d0, (hu3.frozen (p := ⟨x, 0, none⟩) hxl1 (Ne.symm hgx)).trans d1, ?_, fun e => hgx (Option.some.inj e), H.out.lo⟩, hu4.drew, fun k hk => by have : g = k := Option.some.inj hk; omega⟩
    rw [List.length_set]
    exact own_lower r2 (by have := H.out.lo; omega)
end Go.Proofs.Ytiffigjfjdplhaa
