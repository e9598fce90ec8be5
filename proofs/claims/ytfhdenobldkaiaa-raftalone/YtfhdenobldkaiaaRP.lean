/- The only voter stands, and leads. -/
import Derived.Test.YtfhdenobldkaiaaRO
import Derived.Maps.OwnSet
import Derived.Maps.Ext
namespace Go.Proofs.Ytfhdenobldkaiaa
open Go Go.RowKit
/-- What coming to lead leaves. -/
structure Led (w w' : World) (d n : Nat) (a : Nd) (xs : List Value) (S : Nat → Prop) : Prop where
  ex : ∃ l pm v', Ln w' d l (n + 1) { a with role := .iface 73 (ptr l), ents := v', commit := (n : Int) + 1 } (xs ++ entC ((n : Int) + 1) a.term 1 (.slice none 0 0)) ∧ w'.heap[l]? = some (.cells #[iv 0, .map (some pm), iv 0, .slice none 0 0] 80 (0, 0)) ∧ w.heap.size ≤ l ∧ (v'.ownBlock = a.ents.ownBlock ∨ ∃ z, v'.ownBlock = some z ∧ w.heap.size ≤ z)
  upd : Upd w w' S
set_option maxRecDepth 100000 in
set_option maxHeartbeats 1000000 in
theorem lead_one {w : World} {d n : Nat} {a : Nd} {xs : List Value} (h : Nod w d a) (hv : w.ownsRow 0 3 1 a.voters 1 [iv a.id]) (he : w.ownsRow 0 43 4 a.ents n xs) (hxs : xs.length = n * 4) (hn : n ≤ 900) (hc : a.commit = n) (ho : a.old ≤ n) :
    Calls Try.prog 108 #[ptr d] w fun e w' => e = .returned (.tuple #[]) ∧ Led w w' d n a xs (fun z => z = d ∨ a.ents.ownBlock = some z) := by
  have hmm := @run_makeMap Try.prog
  obtain ⟨W0, hW0⟩ : ∃ W0, W0 = w.alloc (.map #[] 0) := ⟨_, rfl⟩
  obtain ⟨W1, hW1⟩ : ∃ W1, W1 = W0.alloc (.cells #[iv 0, .map (some w.heap.size), iv 0, .slice none 0 0] 80) := ⟨_, rfl⟩
  have b0 : Below w.heap.size w W0 := by rw [hW0]; exact (Below.refl _ w).alloc (Nat.le_refl _) _
  have s0 : W0.heap.size = w.heap.size + 1 := by rw [hW0]; simp
  have b1 : Below w.heap.size w W1 := by rw [hW1]; exact b0.alloc b0.size _
  have r1 : W1.heap[w.heap.size + 1]? = some (.cells #[iv 0, .map (some w.heap.size), iv 0, .slice none 0 0] 80 (0, 0)) := by rw [hW1, ← s0]; exact row_alloc W0 _ _
  have HALL : Hid (∀ W, Below w.heap.size w W → Nod W d a ∧ W.ownsRow 0 3 1 a.voters 1 [iv a.id] ∧ W.ownsRow 0 43 4 a.ents n xs) := fun W hb => ⟨h.below hb h.lt, ownsRow_upd hv (Upd.ofBelow (S := fun _ => False) hb) (fun _ _ h => h), ownsRow_upd he (Upd.ofBelow (S := fun _ => False) hb) (fun _ _ h => h)⟩
  have hoth := others_none (HALL.out W1 b1).1 (One.of (HALL.out W1 b1).2.1)
  have HB1 := Hid.mkW (And.intro b1 r1)
  obtain ⟨l, hl⟩ : ∃ l, l = w.heap.size + 1 := ⟨_, rfl⟩
  have HL := Hid.mkW hl
  have HC := Hid.mkW (And.intro hc ho)
  clear h hv he b0 b1 r1 hc ho
  go_enter Try.func108, Try.ntmps108
  go_upto_region 1 with fail
  rw [← hW0, ← hW1, ← hl]
  clear hW0 hW1 hl s0
  obtain ⟨pm, hpm⟩ : ∃ pm, pm = w.heap.size := ⟨_, rfl⟩
  have HP := Hid.mkW hpm
  rw [← hpm]
  clear hpm
  go_wp2_with (go_at_call 39; refine hoth.mono ?_; rintro e w2 ⟨g, c, rfl, hb2⟩)
  have b02 : Below w.heap.size w w2 := HB1.out.1.trans (hb2.mono HB1.out.1.size)
  obtain ⟨n2, v2, e2⟩ := HALL.out w2 b02
  have hl1 : l < W1.heap.size := by rw [HL.out]; exact (Array.getElem?_eq_some_iff.1 HB1.out.2).1
  have r2 : w2.heap[l]? = some (.cells #[iv 0, .map (some pm), iv 0, .slice none 0 0] 80 (0, 0)) := by
    have := (hb2.block _ (Array.getElem?_eq_some_iff.1 HB1.out.2).1).trans HB1.out.2
    rw [HL.out, HP.out]
    exact this
  have hdl : d ≠ l := fun e => absurd (row_types (e ▸ n2 : w2.heap[l]? = _) r2) (by decide)
  obtain ⟨W3, hW3⟩ : ∃ W3, W3 = w2.setCell ⟨d, 17, none⟩ (.iface 73 (ptr l)) := ⟨_, rfl⟩
  have n3 : Nod W3 d { a with role := .iface 73 (ptr l) } := by rw [hW3]; exact n2.set 17 _ rfl
  have u3 : Upd w2 W3 (fun z => z = d) := by rw [hW3]; exact (Upd.refl w2 (fun z => z = d)).setCell (p := ⟨d, 17, none⟩) (.inr rfl) _
  have v3 := ownsRow_upd v2 u3 (fun k hk e => own_block v2 n2 (by decide) (e ▸ hk))
  have e3 := ownsRow_upd e2 u3 (fun k hk e => own_block e2 n2 (by decide) (e ▸ hk))
  have r3 := (u3.block l (Array.getElem?_eq_some_iff.1 r2).1 hdl.symm).trans r2
  have c17 : w2.cell? ⟨d, 17, none⟩ = some a.role := n2.cell 17 rfl
  have f17 := n2.free 17
  have hext := extend_one n3 e3 (k := 1) (dv := .slice none 0 0) ⟨_, _, _, rfl⟩ (by decide) (by omega) HC.out.2
  have H3 := Hid.mkW (And.intro n3 (And.intro v3 (And.intro e3 (And.intro r3 ((Upd.ofBelow b02).trans u3 (fun _ _ e => e) : Upd w W3 (fun z => z = d))))))
  have HS := Hid.mkW b02.size
  clear n2 v2 e2 r2 n3 u3 v3 e3 r3 b02 hb2 hoth hl1
  go_loopg [4, 11] 1 (fun kx s4 s11 wq => s11 = iv 0 ∧ kx = 1 ∧ wq = w2)
  case atStart => exact ⟨rfl, rfl, rfl⟩
  case round =>
    obtain ⟨rfl, rfl, hwr⟩ := hrel
    obtain rfl := hwr.symm
    go_upto_region 7 with fail
    rw [← hW3]
    clear hW3 c17 f17
    go_upto_region 8 with (go_at_call 28; refine hext.mono ?_; rintro e w4 ⟨rfl, v', n4, e4, u4, k4⟩)
    obtain ⟨n3, v3, e3, r3, U3⟩ := H3.out
    have vd3 : ∀ k, a.voters.ownBlock = some k → ¬ (k = d ∨ a.ents.ownBlock = some k) := fun k hk e => by
      rcases e with rfl | e
      · exact own_block v3 n3 (by decide) hk
      · exact own_types v3 e3 (by decide) hk e
    have v4 := ownsRow_upd v3 u4 vd3
    have l4 : ¬ (l = d ∨ a.ents.ownBlock = some l) := fun e => by
      rcases e with e | e
      · exact hdl e.symm
      · exact own_block e3 r3 (by decide) e
    have r4 := (u4.block l (Array.getElem?_eq_some_iff.1 r3).1 l4).trans r3
    have L4 : Ln w4 d l (n + 1) { a with role := .iface 73 (ptr l), ents := v' } (xs ++ entC ((n : Int) + 1) a.term 1 (.slice none 0 0)) := ⟨n4, rfl, v4, e4⟩
    have hsend := sendToAll_none L4.nod L4.one
    have H4 := Hid.mkW (And.intro L4 (And.intro r4 (And.intro ((U3.mono (fun _ _ e => .inl e)).trans u4 (fun _ _ e => e) : Upd w w4 (fun z => z = d ∨ a.ents.ownBlock = some z)) k4)))
    have HS3 := Hid.mkW U3.size
    clear n3 v3 e3 r3 U3 vd3 v4 l4 r4 L4 n4 e4 u4 k4 hext
    go_upto_region 9 with (go_at_call 29; refine hsend.mono ?_; rintro e w5 ⟨rfl, hb5⟩)
    obtain ⟨L4, r4, U4, k4⟩ := H4.out
    have L5 := L4.below hb5
    have hcom := commit_one (n := n + 1) ⟨L5.nod, L5.role, L5.one, L5.ents, (by
      rw [Nat.add_sub_cancel, List.getElem?_append_right (by omega), hxs, Nat.add_sub_cancel_left]
      rfl), by omega, by omega⟩ (own_block L5.vot L5.nod (by decide)) (by
      show a.commit = _
      rw [HC.out.1]; omega)
    have HB5 := Hid.mkW hb5
    clear L4 r4 U4 k4 L5 hb5 hsend
    go_wp2_with (go_at_call 30; refine hcom.mono ?_; rintro e w6 ⟨rfl, n6, u6⟩)
    first | go_end0 | refine bodyPost_ret (results_none rfl _ _ _) rfl ?_
    obtain ⟨L4, r4, U4, k4⟩ := H4.out
    have L5 := L4.below HB5.out
    have r5 := (HB5.out.block l (Array.getElem?_eq_some_iff.1 r4).1).trans r4
    have u46 : Upd w4 w6 (fun z => z = d) := (Upd.ofBelow HB5.out).trans u6 (fun _ _ e => e)
    refine ⟨rfl, ⟨l, pm, v', ⟨?_, rfl, ownsRow_upd L5.vot u6 (fun k hk e => own_block L5.vot L5.nod (by decide) (e ▸ hk)), ownsRow_upd L5.ents u6 (fun k hk e => own_block L5.ents L5.nod (by decide) (e ▸ hk))⟩, (u6.block l (Array.getElem?_eq_some_iff.1 r5).1 hdl.symm).trans r5, by rw [HL.out]; omega, ?_⟩, U4.trans u46 (fun _ _ e => .inl e)⟩
    · rw [show (((n + 1 : Nat)) : Int) = (n : Int) + 1 by omega] at n6
      exact n6
    · have h3 := HS3.out
      exact k4.imp id (fun ⟨z, e, hz⟩ => ⟨z, e, by omega⟩)
end Go.Proofs.Ytfhdenobldkaiaa
