/- The only voter stands; the tenth tick. -/
import Derived.Test.YtfhdenobldkaiaaRQ
namespace Go.Proofs.Ytfhdenobldkaiaa
open Go Go.RowKit
set_option maxRecDepth 100000 in
set_option maxHeartbeats 1000000 in
theorem stand_one {w : World} {d n : Nat} {a : Nd} {xs : List Value} (h : Nod w d a) (hv : w.ownsRow 0 3 1 a.voters 1 [iv a.id]) (he : w.ownsRow 0 43 4 a.ents n xs) (hid : 0 ≤ a.id ∧ a.id < 1073741824) (hd : 0 ≤ a.draw ∧ a.draw ≤ 9) (ht : 0 ≤ a.term ∧ a.term ≤ 1000) (hxs : xs.length = n * 4) (hn : n ≤ 900) (hc : a.commit = n) (ho : a.old ≤ n) :
    Calls Try.prog 105 #[ptr d] w fun e w' => e = .returned (.tuple #[]) ∧ Led w w' d n { a with term := a.term + 1, vote := a.id } xs (fun z => z = d ∨ a.ents.ownBlock = some z) := by
  have hmm := @run_makeMap Try.prog
  obtain ⟨W1, hW1⟩ : ∃ W1, W1 = (w.setCell ⟨d, 1, none⟩ (iv (a.term + 1))).setCell ⟨d, 2, none⟩ (iv a.id) := ⟨_, rfl⟩
  have n1 : Nod W1 d { a with term := a.term + 1, vote := a.id } := by
    rw [hW1]
    exact (h.set 1 (iv (a.term + 1)) (b := { a with term := a.term + 1 }) rfl).set 2 _ rfl
  have u1 : Upd w W1 (fun z => z = d) := by rw [hW1]; exact ((Upd.refl w (fun z => z = d)).setCell (p := ⟨d, 1, none⟩) (.inr rfl) _).setCell (p := ⟨d, 2, none⟩) (.inr rfl) _
  have c1 : w.cell? ⟨d, 1, none⟩ = some (iv a.term) := h.cell 1 rfl
  have c2 : w.cell? ⟨d, 2, none⟩ = some (iv a.vote) := h.cell 2 rfl
  have c0 : w.cell? ⟨d, 0, none⟩ = some (iv a.id) := h.cell 0 rfl
  have f1 := h.free 1
  have f2 := h.free 2
  have hw : IntKind.i64.wrap (a.term + 1) = a.term + 1 := by rw [IntKind.wrap_i64]; omega
  have v1 := ownsRow_upd hv u1 (fun k hk e => own_block hv h (by decide) (e ▸ hk))
  have e1 := ownsRow_upd he u1 (fun k hk e => own_block he h (by decide) (e ▸ hk))
  have han := anew_any n1 hd
  have H1 := Hid.mkW (And.intro n1 (And.intro v1 (And.intro e1 u1)))
  have HC := Hid.mkW (And.intro hid (And.intro hc ho))
  clear h hv he n1 v1 e1 u1 hid hc ho hd ht
  go_enter Try.func105, Try.ntmps105
  go_upto_region 2 with fail
  rw [← hW1]
  clear hW1 c1 c2 c0 f1 f2 hw
  go_upto_region 3 with (go_at_call 36; refine han.mono ?_; rintro e w2 ⟨rfl, hb2⟩; have c17 : w2.cell? ⟨d, 17, none⟩ = some a.role := (H1.out.1.below hb2 H1.out.1.lt).cell 17 rfl; have f17 := (H1.out.1.below hb2 H1.out.1.lt).free 17; have hlt : d < w2.heap.size := (H1.out.1.below hb2 H1.out.1.lt).lt)
  obtain ⟨n1, v1, e1, U1⟩ := H1.out
  have n2 := n1.below hb2 n1.lt
  have v2 := ownsRow_upd v1 (Upd.ofBelow (S := fun _ => False) hb2) (fun _ _ h => h)
  have e2 := ownsRow_upd e1 (Upd.ofBelow (S := fun _ => False) hb2) (fun _ _ h => h)
  obtain ⟨W3, hW3⟩ : ∃ W3, W3 = w2.setCell ⟨d, 17, none⟩ (.iface 157 (ptr (w2.heap.size + 1))) := ⟨_, rfl⟩
  have n3 : Nod W3 d { a with term := a.term + 1, vote := a.id, role := .iface 157 (ptr (w2.heap.size + 1)) } := by rw [hW3]; exact n2.set 17 _ rfl
  have u3 : Upd w2 W3 (fun z => z = d) := by rw [hW3]; exact (Upd.refl w2 (fun z => z = d)).setCell (p := ⟨d, 17, none⟩) (.inr rfl) _
  have s3 : W3.heap.size = w2.heap.size := by rw [hW3]; simp
  have v3 := ownsRow_upd v2 u3 (fun k hk e => own_block v2 n2 (by decide) (e ▸ hk))
  have e3 := ownsRow_upd e2 u3 (fun k hk e => own_block e2 n2 (by decide) (e ▸ hk))
  obtain ⟨W4, hW4⟩ : ∃ W4, W4 = W3.alloc (.map #[] 0) := ⟨_, rfl⟩
  have b4 : Below W3.heap.size W3 W4 := by rw [hW4]; exact (Below.refl _ _).alloc (Nat.le_refl _) _
  have s4 : W4.heap.size = w2.heap.size + 1 := by rw [hW4]; simp [s3]
  obtain ⟨W5, hW5⟩ : ∃ W5, W5 = W4.alloc (.cells #[iv 0, iv (10 + a.draw), .map (some w2.heap.size)] 160) := ⟨_, rfl⟩
  have b5 : Below W3.heap.size W3 W5 := by rw [hW5]; exact b4.alloc b4.size _
  have r5 : W5.heap[w2.heap.size + 1]? = some (.cells #[iv 0, iv (10 + a.draw), .map (some w2.heap.size)] 160 (0, 0)) := by rw [hW5, ← s4]; exact row_alloc W4 _ _
  have m5 : W5.ownsMap Try.prog 3 RS w2.heap.size 0 (.map []) := by
    have := (World.ownsMap_made W3 Try.prog 3 RS).alloc (.cells #[iv 0, iv (10 + a.draw), .map (some w2.heap.size)] 160)
    rw [hW5, hW4]
    rw [s3] at this
    exact this
  rw [← hW3, ← hW4, ← hW5]
  have n5 := n3.below b5 n3.lt
  have v5 := ownsRow_upd v3 (Upd.ofBelow (S := fun _ => False) b5) (fun _ _ h => h)
  have e5 := ownsRow_upd e3 (Upd.ofBelow (S := fun _ => False) b5) (fun _ _ h => h)
  have U5 : Upd w W5 (fun z => z = d) := ((U1.trans (Upd.ofBelow (S := fun _ => False) hb2) (fun _ _ e => e.elim)).trans u3 (fun _ _ e => e)).trans (Upd.ofBelow (S := fun _ => False) b5) (fun _ _ e => e.elim)
  have hz : w.heap.size ≤ w2.heap.size := Nat.le_trans U1.size hb2.size
  have hoth := others_none n5 (One.of v5)
  have H5 := Hid.mkW (And.intro n5 (And.intro v5 (And.intro e5 (And.intro r5 (And.intro m5 (And.intro U5 hz))))))
  obtain ⟨s, hs⟩ : ∃ s, s = w2.heap.size + 1 := ⟨_, rfl⟩
  obtain ⟨mb, hmb⟩ : ∃ mb, mb = w2.heap.size := ⟨_, rfl⟩
  rw [← hs, ← hmb] at H5
  rw [← hs, ← hmb]
  clear H1 n1 v1 e1 U1 n2 v2 e2 hW3 n3 u3 s3 v3 e3 hW4 b4 s4 hW5 b5 r5 m5 n5 v5 e5 U5 hz c17 f17 hlt hb2 han
  go_wp2_with (go_at_call 39; refine hoth.mono ?_; rintro e w6 ⟨g, c, rfl, hb6⟩)
  obtain ⟨n5, v5, e5, r5, m5, U5, hz⟩ := H5.out
  have n6 := n5.below hb6 n5.lt
  have v6 := ownsRow_upd v5 (Upd.ofBelow (S := fun _ => False) hb6) (fun _ _ h => h)
  have e6 := ownsRow_upd e5 (Upd.ofBelow (S := fun _ => False) hb6) (fun _ _ h => h)
  have r6 := (hb6.block s (Array.getElem?_eq_some_iff.1 r5).1).trans r5
  have m6 : w6.ownsMap Try.prog 3 RS mb 0 (.map []) := by
    have hlt := m5.lt
    obtain ⟨es, clock, hb, F, hs, hD⟩ := m5
    exact ⟨es, clock, (hb6.block mb hlt).trans hb, F, hs, hD⟩
  have hcnt := count_one n6 v6 e6 rfl r6 m6 HC.out.1 hxs hn HC.out.2.1 HC.out.2.2
  have c0 : w6.cell? ⟨d, 0, none⟩ = some (iv a.id) := n6.cell 0 rfl
  have HB6 := Hid.mkW (And.intro U5 (And.intro hb6 hz))
  clear n5 v5 e5 r5 m5 U5 n6 v6 e6 r6 m6 H5 hoth hb6 hz
  go_loopg [3, 33] 1 (fun kx s3 s33 wq => s33 = iv 0 ∧ kx = 1 ∧ wq = w6)
  case atStart => exact ⟨rfl, rfl, rfl⟩
  case round =>
    obtain ⟨rfl, rfl, hwr⟩ := hrel
    obtain rfl := hwr.symm
    go_wp2_with (go_at_call 106; refine hcnt.mono ?_; rintro e w7 ⟨rfl, HL⟩; have HLL := Hid.mkW HL; clear HL)
    first | go_end0 | refine bodyPost_ret (results_none rfl _ _ _) rfl ?_
    obtain ⟨l, pm, v', a1, a2, a3, a4⟩ := HLL.out.ex
    obtain ⟨U5, hb6, hz⟩ := HB6.out
    have hz5 := U5.size
    have hz6 := hb6.size
    refine ⟨rfl, ⟨l, pm, v', a1, a2, by omega, a4.imp id (fun ⟨z, e, hz'⟩ => ⟨z, e, by omega⟩)⟩, ?_⟩
    refine ((U5.mono (fun _ _ e => .inl e)).trans (Upd.ofBelow (S := fun _ => False) hb6) (fun _ _ e => e.elim)).trans HLL.out.upd (fun z hzl e => ?_)
    rcases e with e | e | e
    · exact .inl e
    · exact absurd e (by omega)
    · exact .inr e
end Go.Proofs.Ytfhdenobldkaiaa
