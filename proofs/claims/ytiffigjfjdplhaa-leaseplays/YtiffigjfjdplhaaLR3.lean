/- Cutting the document's row of leases; Revoke. -/
import Derived.Test.YtiffigjfjdplhaaLR2
namespace Go.Proofs.Ytiffigjfjdplhaa
open Go Go.RowKit
theorem lsC_cells {l : List Ls} {u : Value} (hu : u ∈ lsC l) : u.oneCell' = true := by
  obtain ⟨x, _, h⟩ := List.mem_flatMap.1 hu
  simp [lsL] at h
  rcases h with rfl | rfl | rfl <;> rfl
theorem lsC_take (l : List Ls) {k : Nat} (hk : k ≤ l.length) : lsC l = lsC (l.take k) ++ lsC (l.drop k) ∧ (lsC (l.take k)).length = k * 3 := by
  refine ⟨by rw [← lsC_append, List.take_append_drop], ?_⟩
  rw [lsC_len, List.length_take]
  congr 1
  omega
theorem size46 (W : World) : (sizeOf 46).run Try.prog W = .ok 3 W := by kernel_rfl
/-- The first k leases of a row. -/
theorem cut_take {W0 : World} {B : Nat} {p : Option Addr} {c k : Nat} {L : List Ls} (h : W0.ownsRow B 46 3 (.slice p L.length c) L.length (lsC L)) (hk : k ≤ L.length) :
    ∀ W, Below W0.heap.size W0 W → Src Try.prog 3 27 (.slice p k c) k (lsC (L.take k)) W := by
  intro W hb
  obtain ⟨e1, e2⟩ := lsC_take L hk
  rcases h.2 with ⟨e, h0⟩ | ⟨g, cap, cur, e, hbg, hh, h1, h2, h3, h4⟩
  · simp only [Value.slice.injEq] at e
    obtain ⟨rfl, _, rfl⟩ := e
    have : k = 0 := by omega
    subst this
    exact Src.ofNil _ Try.underlying27 0
  · cases e
    refine Src.ofSlice _ Try.underlying27 ⟨g, 0, none⟩ k c _ e2 (fun j u hj => ?_) (fun u hu => lsC_cells hu)
    have hlt := (List.getElem?_eq_some_iff.1 hj).1
    have := h.cells (g := g) rfl j u (by rw [e1, List.getElem?_append_left hlt]; exact hj)
    rw [Addr.add_lit, Nat.zero_add] at this ⊢
    exact (hb.cell (p := ⟨g, j, none⟩) (World.block_lt_of_cell? _ _ this)).trans this
/-- A row from its k-th lease on. -/
theorem cut_drop {W0 : World} {B : Nat} {p : Option Addr} {c k : Nat} {L : List Ls} (h : W0.ownsRow B 46 3 (.slice p L.length c) L.length (lsC L)) (hk : k ≤ L.length) (hc : L.length ≤ c) :
    ∃ p', (∀ W, (Instr.sliceAt 27 (.slice p L.length c) (some (.int .i64 k)) none none).run Try.prog W = .ok (.slice p' (L.length - k) (c - k)) W) ∧ ∀ W, Below W0.heap.size W0 W → Src Try.prog 3 27 (.slice p' (L.length - k) (c - k)) (L.length - k) (lsC (L.drop k)) W := by
  obtain ⟨e1, e2⟩ := lsC_take L hk
  refine ⟨if c = k then p else p.map (·.add (k * 3)), fun W => ?_, fun W hb => ?_⟩
  · simp [Instr.sliceAt, Instr.slice, Instr.sliceBounds, Instr.sliceBound, run_underlying Try.underlying27, asIntOf, hk]
  · rcases h.2 with ⟨e, h0⟩ | ⟨g, cap, cur, e, hbg, hh, h1, h2, h3, h4⟩
    · simp only [Value.slice.injEq] at e
      obtain ⟨rfl, _, rfl⟩ := e
      have hk0 : k = 0 := by omega
      have hL : L = [] := List.eq_nil_of_length_eq_zero h0
      subst hk0 hL
      exact Src.ofNil _ Try.underlying27 0
    · cases e
      by_cases hck : c = k
      · rw [if_pos hck]
        have e0 : L.length - k = 0 := by omega
        rw [e0, List.drop_eq_nil_of_le (by omega)]
        exact Src.ofSlice _ Try.underlying27 ⟨g, 0, none⟩ 0 _ [] rfl (fun j u hj => by simp at hj) (fun u hu => by cases hu)
      · rw [if_neg hck]
        show Src Try.prog 3 27 (.slice (some ((⟨g, 0, none⟩ : Addr).add (k * 3))) (L.length - k) (c - k)) _ _ _
        rw [Addr.add_lit, Nat.zero_add]
        refine Src.ofSlice _ Try.underlying27 ⟨g, k * 3, none⟩ _ _ _ (by rw [lsC_len, List.length_drop]) (fun j u hj => ?_) (fun u hu => lsC_cells hu)
        have := h.cells (g := g) rfl (k * 3 + j) u (by rw [e1, List.getElem?_append_right (by omega), e2, Nat.add_sub_cancel_left]; exact hj)
        rw [Addr.add_lit, Nat.zero_add] at this
        rw [Addr.add_lit]
        exact (hb.cell (p := ⟨g, k * 3 + j, none⟩) (World.block_lt_of_cell? _ _ this)).trans this
theorem info46 : (Try.prog.info? 46).map (fun i => (i.zero, i.size, i.bytes)) = some (some (.agg #[.int .i64 0, .int .i64 0, .int .i64 0]), 3, 24) := by kernel_rfl
/-- What a call on the document's book leaves. -/
def RbPost (B : Nat) (w w' : World) (x : Nat) (L' : List Ls) : Prop := ∃ v', Rb B w' x v' L' ∧ Upd w w' (fun k => k = x) ∧ ∀ k, v'.ownBlock = some k → w.heap.size ≤ k
theorem del_at {L : List Ls} (hu : upL L) {i : Nat} {l : Ls} (hl : L[i]? = some l) : delL l.id L = L.take i ++ L.drop (i + 1) := by
  have hi := (List.getElem?_eq_some_iff.1 hl).1
  have e : L = L.take i ++ l :: L.drop (i + 1) := by
    have h1 : L.drop i = l :: L.drop (i + 1) := by rw [List.drop_eq_getElem_cons hi, (List.getElem?_eq_some_iff.1 hl).2]
    rw [← h1, List.take_append_drop]
  have hu' : upL (L.take i ++ l :: L.drop (i + 1)) := by rw [← e]; exact hu
  have h1 := List.pairwise_append.1 hu'
  have h2 := List.pairwise_cons.1 h1.2.1
  conv => lhs; rw [e]
  unfold delL
  rw [List.filter_append, List.filter_cons_of_neg (by simp), List.filter_eq_self.2, List.filter_eq_self.2]
  · intro x hx
    have := h2.1 x hx
    simp; omega
  · intro x hx
    have := h1.2.2 x hx l (by simp)
    simp; omega
/-- A new row is laid into the book. -/
theorem rb_stored {B x n c : Nat} {w w5 : World} {v0 : Value} {p : Option Addr} {cs : List Value} {L' : List Ls} (lo : B ≤ x) (hxl : x < w.heap.size) (c5 : w5.cell? ⟨x, 0, none⟩ = some v0) (f5 : w5.frozen? ⟨x, 0, none⟩ = false)
    (s1 : w5.ownsRow w.heap.size 46 3 (.slice p n c) n cs) (hn : n = L'.length) (hcs : cs = lsC L') (hu : Upd w w5 (fun k => k = x)) : RbPost B w (w5.setCell ⟨x, 0, none⟩ (.slice p n c)) x L' := by
  subst hn hcs
  have hno : (Value.slice p L'.length c).ownBlock ≠ some x := fun e => by have := (s1.lt x e).1; omega
  have hu2 : Upd w5 (w5.setCell ⟨x, 0, none⟩ (.slice p L'.length c)) (fun k => k = x) := (Upd.refl w5 (fun k => k = x)).setCell (p := ⟨x, 0, none⟩) (.inr rfl) _
  refine ⟨_, ⟨World.cell?_setCell_same _ _ _ c5, by rw [World.frozen?_setCell]; exact f5, own_lower (ownsRow_upd s1 hu2 (fun k hk e => hno (by rw [hk, e]))) (by omega), hno, lo⟩, hu.trans hu2 (fun _ _ e => e), fun k hk => (s1.lt k hk).1⟩
set_option maxRecDepth 20000 in
set_option maxHeartbeats 1000000 in
theorem rrevoke_any (B x : Nat) (v : Value) (L : List Ls) (id : Int) (w : World) (h : Rb B w x v L) (few : L.length ≤ 1024) (hu : upL L) :
    Calls Try.prog 15 #[ptr x, .int .i64 id] w fun e w' => e = .returned (.int .i64 (revokeE L id)) ∧ (((lookL id L).isSome = false ∧ w' = w) ∨ RbPost B w w' x (revokeL L id)) := by
  have hat := rat_any B x v L id w h few
  cases hl : lookL id L with
  | none =>
    have e1 : revokeE L id = 2 := by simp [revokeE, hl]
    rw [e1]
    go_enter Try.func15, Try.ntmps15
    go_wp2_with (go_at_call 23; refine hat.mono ?_; rintro e w1 ⟨k, rfl, hk, hw1⟩; obtain rfl := hw1.symm; obtain rfl := hk.none hl)
    go_ret
    exact ⟨rfl, .inl ⟨rfl, rfl⟩⟩
  | some l =>
    have e1 : revokeE L id = 0 := by simp [revokeE, hl]
    rw [e1]
    obtain ⟨p, c, rfl, hc⟩ := h.form
    have c0 := h.c0
    have f0 := h.f0
    have hxl := h.lt
    obtain ⟨t3, hti, hz0, hz1, hz2⟩ := info_of info46
    have H := Hid.mk'' h
    have HU := Hid.mk'' hu
    clear h hu
    go_enter Try.func15, Try.ntmps15
    go_upto_region 5 with (go_at_call 23; refine hat.mono ?_; rintro e w1 ⟨k, rfl, hk, hw1⟩; obtain rfl := hw1.symm; obtain ⟨i, l', rfl, hli, hid⟩ := hk.some (by rw [hl]; rfl))
    have hil := (List.getElem?_eq_some_iff.1 hli).1
    have hsrcT := cut_take H.out.row (k := i) (by omega) w (Below.refl _ _)
    obtain ⟨p', hcut, hsrcD⟩ := cut_drop H.out.row (k := i + 1) (by omega) hc
    have HSD := Hid.mk'' hsrcD
    have HLI := Hid.mk'' hli
    have HID := Hid.mk'' hid
    have hic : (i : Int) ≤ c := by omega
    clear hk hat hsrcD hli hid hl e1
    go_upto_region 6 with (at_builtin; refine wpList_appS _ rfl (.tmp 12) (.tmp 18) 27 27 rfl w.heap.size 46 t3 _ 3 Try.underlying27 hti hz0 hz1 rfl (by rw [hz2]; decide) (.slice none 0 0) 0 [] rfl (World.ownsRow_nil _ _ _ _) _ rfl i (lsC (L.take i)) hsrcT (by omega) (Nat.le_refl _) ?_; intro v1 w3 q1 q2 q3 q4; obtain ⟨p1, c1, hv1⟩ := owns_form q1; subst hv1; clear q3 q4)
    have hb3 : Below w.heap.size w w3 := q2.below (Nat.le_refl _) (fun j _ e => by cases e)
    have q1 : w3.ownsRow w.heap.size 46 3 (.slice p1 i c1) i (lsC (L.take i)) := by rw [Nat.zero_add, List.nil_append] at q1; exact q1
    have hsd := HSD.out w3 hb3
    have c3 := (hb3.cell (p := ⟨x, 0, none⟩) hxl).trans c0
    have f3 := (hb3.frozen (p := ⟨x, 0, none⟩) hxl).trans f0
    have hsz := hb3.size
    have HB3 := Hid.mk'' hb3
    have HQ1 := Hid.mk'' q1
    have hcut' : ∀ W, (Instr.sliceAt 27 (.slice p L.length c) (some (.int .i64 ((i : Int) + 1))) none none).run Try.prog W = .ok (.slice p' (L.length - (i + 1)) (c - (i + 1))) W := fun W => by have := hcut W; rwa [show (((i + 1 : Nat)) : Int) = (i : Int) + 1 by omega] at this
    have hxo : (Value.slice p1 i c1).ownBlock ≠ some x := fun e => by have := (q1.lt x e).1; omega
    clear hcut q2 hb3 hsrcT
    go_upto_region 7 with (at_builtin; refine wpList_appS _ rfl (.tmp 21) (.tmp 28) 27 27 rfl w.heap.size 46 t3 _ 3 Try.underlying27 hti hz0 hz1 rfl (by rw [hz2]; decide) (.slice p1 i c1) i (lsC (L.take i)) rfl HQ1.out _ rfl (L.length - (i + 1)) (lsC (L.drop (i + 1))) hsd (by omega) hsz ?_; intro v5 w5 s1 s2 s3 s4; clear s4; have c5 := (s2.cell (p := ⟨x, 0, none⟩) (Nat.lt_of_lt_of_le hxl hsz) (fun e => hxo e.symm)).trans c3; have f5 := (s2.frozen (p := ⟨x, 0, none⟩) (Nat.lt_of_lt_of_le hxl hsz) (fun e => hxo e.symm)).trans f3; obtain ⟨p5, c5', hv5⟩ := owns_form s1; subst hv5)
    go_wp2
    go_ret
    have hdel : revokeL L id = L.take i ++ L.drop (i + 1) := by
      unfold revokeL
      rw [← HID.out]
      exact del_at HU.out HLI.out
    refine ⟨rfl, .inr (rb_stored H.out.lo hxl c5 f5 s1 ?_ ?_ ?_)⟩
    · rw [hdel, List.length_append, List.length_take, List.length_drop]
      omega
    · rw [hdel, lsC_append]
    · exact (Upd.ofBelow HB3.out).trans s2 (fun k hk e => by have := (HQ1.out.lt k e.symm).1; omega)
end Go.Proofs.Ytiffigjfjdplhaa
