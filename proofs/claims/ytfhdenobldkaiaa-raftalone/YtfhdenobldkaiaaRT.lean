/- The tenth tick; New. -/
import Derived.Test.YtfhdenobldkaiaaRR
namespace Go.Proofs.Ytfhdenobldkaiaa
open Go Go.RowKit
set_option maxRecDepth 100000 in
set_option maxHeartbeats 1000000 in
theorem ptick_lead {w : World} {d f n : Nat} {a : Nd} {xs : List Value} (h : Nod w d a) (hv : w.ownsRow 0 3 1 a.voters 1 [iv a.id]) (he : w.ownsRow 0 43 4 a.ents n xs) (hf : w.heap[f]? = some (.cells #[iv 9, iv 10, iv (-1)] 91 (0, 0))) (hid : 0 ≤ a.id ∧ a.id < 1073741824) (hd : 0 ≤ a.draw ∧ a.draw ≤ 9) (ht : 0 ≤ a.term ∧ a.term ≤ 1000) (hxs : xs.length = n * 4) (hn : n ≤ 900) (hc : a.commit = n) (ho : a.old ≤ n) :
    Calls Try.prog 104 #[ptr f, ptr d] w fun e w' => e = .returned (.tuple #[]) ∧ Led w w' d n { a with term := a.term + 1, vote := a.id } xs (fun z => z = d ∨ z = f ∨ a.ents.ownBlock = some z) := by
  have c0 : w.cell? ⟨f, 0, none⟩ = some (iv 9) := cell_of_row _ _ _ _ _ _ hf
  have f0 : w.frozen? ⟨f, 0, none⟩ = false := frozen_of_row _ _ _ _ _ hf
  obtain ⟨W1, hW1⟩ : ∃ W1, W1 = w.setCell ⟨f, 0, none⟩ (iv 10) := ⟨_, rfl⟩
  have r1 : W1.heap[f]? = some (.cells #[iv 10, iv 10, iv (-1)] 91 (0, 0)) := by rw [hW1]; exact heap_setCell_row hf _
  have u1 : Upd w W1 (fun z => z = f) := by rw [hW1]; exact (Upd.refl w (fun z => z = f)).setCell (p := ⟨f, 0, none⟩) (.inr rfl) _
  have d0 : W1.cell? ⟨f, 0, none⟩ = some (iv 10) := cell_of_row _ _ _ _ _ _ r1
  have d1 : W1.cell? ⟨f, 1, none⟩ = some (iv 10) := cell_of_row _ _ _ _ _ _ r1
  have hfd : ¬ d = f := fun e => absurd (row_types (e ▸ h : w.heap[f]? = _) hf) (by decide)
  have n1 := h.upd u1 hfd
  have v1 := ownsRow_upd hv u1 (fun k hk e => own_block hv hf (by decide) (e ▸ hk))
  have e1 := ownsRow_upd he u1 (fun k hk e => own_block he hf (by decide) (e ▸ hk))
  have c13 : W1.cell? ⟨d, 13, none⟩ = some a.voters := n1.cell 13 rfl
  have cid : W1.cell? ⟨d, 0, none⟩ = some (iv a.id) := n1.cell 0 rfl
  have hcon : ∀ q, Calls Try.prog 43 #[a.voters, iv a.id] (W1.drewN q) fun e w' => e = .returned (.bool true) ∧ w' = W1.drewN q := fun q => contains_one ((One.of v1).below (below_drewF q W1))
  have HST : Hid (∀ q, Calls Try.prog 105 #[ptr d] (W1.drewN q) fun e w' => e = .returned (.tuple #[]) ∧ Led (W1.drewN q) w' d n { a with term := a.term + 1, vote := a.id } xs (fun z => z = d ∨ a.ents.ownBlock = some z)) := fun q => stand_one (n1.below (below_drewF q W1) n1.lt) (ownsRow_upd v1 (Upd.ofBelow (S := fun _ => False) (below_drewF q W1)) (fun _ _ h => h)) (ownsRow_upd e1 (Upd.ofBelow (S := fun _ => False) (below_drewF q W1)) (fun _ _ h => h)) hid hd ht hxs hn hc ho
  have HU := Hid.mkW u1
  clear h hv he hf hid hd ht hc ho r1 u1 n1 v1 e1
  obtain ⟨vv, hvv⟩ : ∃ vv, vv = a.voters := ⟨_, rfl⟩
  rw [← hvv] at c13 hcon
  clear hvv
  go_enter Try.func104, Try.ntmps104
  go_upto_region 1 with fail
  rw [← hW1]
  clear hW1 c0 f0
  go_quiet (exact Calls.quiet_of_same (hcon _))
  have hst := HST.out nq
  go_wp2_with (go_at_call 105; refine hst.mono ?_; rintro e w3 ⟨rfl, HL⟩; have HLL := Hid.mkW HL; clear HL)
  first | go_end0 | refine bodyPost_ret (results_none rfl _ _ _) rfl ?_
  obtain ⟨l, pm, v', a1, a2, a3, a4⟩ := HLL.out.ex
  have hz := HU.out.size
  have hz' : (W1.drewN nq).heap.size = W1.heap.size := rfl
  refine ⟨rfl, ⟨l, pm, v', a1, a2, by omega, a4.imp id (fun ⟨z, e, hz'⟩ => ⟨z, e, by omega⟩)⟩, ?_⟩
  exact ((HU.out.mono (fun _ _ e => .inr (.inl e))).trans (Upd.ofBelow (S := fun _ => False) (below_drewF nq W1)) (fun _ _ e => e.elim)).trans HLL.out.upd (fun z _ e => e.elim .inl (fun e => .inr (.inr e)))
set_option maxRecDepth 100000 in
set_option maxHeartbeats 1000000 in
theorem tick_lead {w : World} {d f n : Nat} {a : Nd} {xs : List Value} {x : Int} (h : Nod w d a) (hr : a.role = .iface 86 (ptr f)) (hv : w.ownsRow 0 3 1 a.voters 1 [iv a.id]) (he : w.ownsRow 0 43 4 a.ents n xs) (hf : w.heap[f]? = some (.cells #[iv 9, iv 10, iv (-1)] 91 (0, 0))) (hid : 0 ≤ a.id ∧ a.id < 1073741824) (ht : 0 ≤ a.term ∧ a.term ≤ 1000) (hxs : xs.length = n * 4) (hn : n ≤ 900) (hc : a.commit = n) (ho : a.old ≤ n) :
    Calls Try.prog 7 #[ptr d, iv x] w fun e w' => e = .returned (.tuple #[]) ∧ Led w w' d n { a with draw := drF x, term := a.term + 1, vote := a.id } xs (fun z => z = d ∨ z = f ∨ a.ents.ownBlock = some z) := by
  have hbg := begin_some h hr
  have hbd := drF_bd x
  have h1 := Int.lt_tmod_of_pos x (b := 10) (by omega)
  have h2 := Int.tmod_lt_of_pos x (b := 10) (by omega)
  have c16 : w.cell? ⟨d, 16, none⟩ = some (iv a.draw) := h.cell 16 rfl
  have f16 := h.free 16
  obtain ⟨W1, hW1⟩ : ∃ W1, W1 = w.setCell ⟨d, 16, none⟩ (iv (drF x)) := ⟨_, rfl⟩
  have n1 : Nod W1 d { a with draw := drF x } := by rw [hW1]; exact h.set 16 _ rfl
  have u1 : Upd w W1 (fun z => z = d) := by rw [hW1]; exact (Upd.refl w (fun z => z = d)).setCell (p := ⟨d, 16, none⟩) (.inr rfl) _
  have hdf : f ≠ d := fun e => absurd (row_types (e ▸ hf) h) (by decide)
  have r1 : W1.heap[f]? = some (.cells #[iv 9, iv 10, iv (-1)] 91 (0, 0)) := (u1.block f (Array.getElem?_eq_some_iff.1 hf).1 hdf).trans hf
  have c17 : W1.cell? ⟨d, 17, none⟩ = some (.iface 86 (ptr f)) := by have := n1.cell 17 (u := a.role) rfl; rwa [hr] at this
  have v1 := ownsRow_upd hv u1 (fun k hk e => own_block hv h (by decide) (e ▸ hk))
  have e1 := ownsRow_upd he u1 (fun k hk e => own_block he h (by decide) (e ▸ hk))
  have hpt := ptick_lead n1 v1 e1 r1 hid hbd ht hxs hn hc ho
  have hw1 : IntKind.i64.wrap (x.tmod 10 + 10) = x.tmod 10 + 10 := by rw [IntKind.wrap_i64]; omega
  have hw2 : IntKind.i64.wrap (x.tmod 10) = x.tmod 10 := by rw [IntKind.wrap_i64]; omega
  have hw3 : (x.tmod 10 + 10).tmod 10 = drF x := rfl
  have hw4 : IntKind.i64.wrap (drF x) = drF x := by rw [IntKind.wrap_i64]; omega
  have HU := Hid.mkW u1
  clear h hr hf n1 u1 r1 hbd h1 h2 hv he hid ht hc ho v1 e1
  go_enter Try.func7, Try.ntmps7
  go_upto_region 2 with (go_at_call 18; refine hbg.mono ?_; rintro e w' ⟨rfl, hw'⟩; obtain rfl := hw'.symm)
  rw [← hW1]
  clear hW1 c16 f16 hw1 hw2 hw3 hw4 hw'
  go_wp2_with (go_at_call 104; refine hpt.mono ?_; rintro e w2 ⟨rfl, HL⟩; have HLL := Hid.mkW HL; clear HL)
  first | go_end0 | refine bodyPost_ret (results_none rfl _ _ _) rfl ?_
  obtain ⟨l, pm, v', a1, a2, a3, a4⟩ := HLL.out.ex
  have hz := HU.out.size
  exact ⟨rfl, ⟨l, pm, v', a1, a2, by omega, a4.imp id (fun ⟨z, e, hz'⟩ => ⟨z, e, by omega⟩)⟩, (HU.out.mono (fun _ _ e => .inl e)).trans HLL.out.upd (fun _ _ e => e)⟩
end Go.Proofs.Ytfhdenobldkaiaa
