/- A follower that is the only voter: how patient it is; it ticks. -/
import Derived.Test.YtfhdenobldkaiaaRM
namespace Go.Proofs.Ytfhdenobldkaiaa
open Go Go.RowKit
set_option maxRecDepth 100000 in
theorem anew_any {w : World} {d : Nat} {a : Nd} (h : Nod w d a) (hd : 0 ≤ a.draw ∧ a.draw ≤ 9) : Calls Try.prog 36 #[ptr d] w fun e w' => e = .returned (.agg #[iv 0, iv (10 + a.draw)]) ∧ Below w.heap.size w w' := by
  have hlt := h.lt
  have c16 : w.cell? ⟨d, 16, none⟩ = some (iv a.draw) := h.cell 16 rfl
  have hw : IntKind.i64.wrap (10 + a.draw) = 10 + a.draw := by rw [IntKind.wrap_i64]; omega
  have HR : Hid ((w.alloc (.cells #[iv 0, iv (10 + a.draw)] 88)).heap[w.heap.size]? = some (.cells #[iv 0, iv (10 + a.draw)] 88 (0, 0))) := row_alloc w _ _
  clear h hd
  go_enter Try.func36, Try.ntmps36
  go_wp2
  refine bodyPost_ret (results_cell_row rfl _ _ w.heap.size 88 #[iv 0, iv (10 + a.draw)] (0, 0) _ rfl HR.out Try.underlying88 rfl (by kernel_rfl)) rfl ?_
  exact ⟨rfl, (Below.refl _ _).alloc (Nat.le_refl _) _⟩
theorem nil_no (T : TypeId) (l : Nat) (W : World) : (binOp .eql 60 (.iface T (ptr l)) .nilIface).run Try.prog W = .ok (.bool false) W := by
  kernel_rfl
theorem nil_yes (W : World) : (binOp .eql 60 .nilIface .nilIface).run Try.prog W = .ok (.bool true) W := by
  kernel_rfl
theorem begin_some {w : World} {d l : Nat} {T : TypeId} {a : Nd} (h : Nod w d a) (hr : a.role = .iface T (ptr l)) : Calls Try.prog 18 #[ptr d] w fun e w' => e = .returned (.tuple #[]) ∧ w' = w := by
  have c17 : w.cell? ⟨d, 17, none⟩ = some (.iface T (ptr l)) := by have := h.cell 17 (u := a.role) rfl; rwa [hr] at this
  have hn := nil_no T l
  clear h hr
  go_enter Try.func18, Try.ntmps18
  go_wp2
  first | go_end0 | refine bodyPost_ret (results_none rfl _ _ _) rfl ?_
  exact ⟨rfl, rfl⟩
set_option maxRecDepth 100000 in
theorem begin_nil {w : World} {d : Nat} {a : Nd} (h : Nod w d a) (hr : a.role = .nilIface) (hd : 0 ≤ a.draw ∧ a.draw ≤ 9) : Calls Try.prog 18 #[ptr d] w fun e w' => e = .returned (.tuple #[]) ∧ ∃ f, Nod w' d { a with role := .iface 86 (ptr f) } ∧ w'.heap[f]? = some (.cells #[iv 0, iv (10 + a.draw), iv (-1)] 91 (0, 0)) ∧ Upd w w' (fun z => z = d) ∧ w.heap.size ≤ f := by
  have c17 : w.cell? ⟨d, 17, none⟩ = some .nilIface := by have := h.cell 17 (u := a.role) rfl; rwa [hr] at this
  have hn := nil_yes
  have han := anew_any h hd
  have HH := Hid.mkW h
  clear h hr hd
  go_enter Try.func18, Try.ntmps18
  go_upto_region 1 with fail
  go_wp2_with (go_at_call 36; refine han.mono ?_; rintro e w1 ⟨rfl, hb1⟩; have c17 : w1.cell? ⟨d, 17, none⟩ = some a.role := (HH.out.below hb1 HH.out.lt).cell 17 rfl; have f17 := (HH.out.below hb1 HH.out.lt).free 17; have hlt : d < w1.heap.size := (HH.out.below hb1 HH.out.lt).lt)
  first | go_end0 | refine bodyPost_ret (results_none rfl _ _ _) rfl ?_
  have n1 : Nod w1 d a := HH.out.below hb1 HH.out.lt
  obtain ⟨W2, hW2⟩ : ∃ W2, W2 = w1.setCell ⟨d, 17, none⟩ (.iface 86 (ptr w1.heap.size)) := ⟨_, rfl⟩
  have n2 : Nod W2 d { a with role := .iface 86 (ptr w1.heap.size) } := by rw [hW2]; exact n1.set 17 _ rfl
  have u2 : Upd w1 W2 (fun z => z = d) := by rw [hW2]; exact (Upd.refl w1 (fun z => z = d)).setCell (p := ⟨d, 17, none⟩) (.inr rfl) _
  have s2 : W2.heap.size = w1.heap.size := by rw [hW2]; simp
  rw [← hW2]
  have b2 : Below W2.heap.size W2 (W2.alloc (.cells #[iv 0, iv (10 + a.draw), iv (-1)] 91)) := (Below.refl _ _).alloc (Nat.le_refl _) _
  refine ⟨rfl, w1.heap.size, n2.below b2 n2.lt, ?_, ((Upd.ofBelow hb1).trans u2 (fun _ _ e => e)).trans (Upd.ofBelow (S := fun _ => False) b2) (fun _ _ e => e.elim), hb1.size⟩
  rw [← s2]
  exact row_alloc W2 _ 91
/-- The draw that a Tick keeps. -/
def drF (x : Int) : Int := (x.tmod 10 + 10).tmod 10
theorem drF_bd (x : Int) : 0 ≤ drF x ∧ drF x ≤ 9 := by
  have h1 := Int.lt_tmod_of_pos x (b := 10) (by omega)
  have h2 := Int.tmod_lt_of_pos x (b := 10) (by omega)
  unfold drF
  rw [Int.tmod_eq_emod_of_nonneg (by omega)]
  omega
set_option maxRecDepth 100000 in
theorem ptick_wait {w : World} {d f : Nat} {a : Nd} {t lim : Int} (_h : Nod w d a) (hf : w.heap[f]? = some (.cells #[iv t, iv lim, iv (-1)] 91 (0, 0))) (ht : 0 ≤ t ∧ t + 1 < lim ∧ lim ≤ 100) :
    Calls Try.prog 104 #[ptr f, ptr d] w fun e w' => e = .returned (.tuple #[]) ∧ w'.heap[f]? = some (.cells #[iv (t + 1), iv lim, iv (-1)] 91 (0, 0)) ∧ Upd w w' (fun z => z = f) := by
  have c0 : w.cell? ⟨f, 0, none⟩ = some (iv t) := cell_of_row _ _ _ _ _ _ hf
  have f0 : w.frozen? ⟨f, 0, none⟩ = false := frozen_of_row _ _ _ _ _ hf
  have hw : IntKind.i64.wrap (t + 1) = t + 1 := by rw [IntKind.wrap_i64]; omega
  obtain ⟨W1, hW1⟩ : ∃ W1, W1 = w.setCell ⟨f, 0, none⟩ (iv (t + 1)) := ⟨_, rfl⟩
  have r1 : W1.heap[f]? = some (.cells #[iv (t + 1), iv lim, iv (-1)] 91 (0, 0)) := by rw [hW1]; exact heap_setCell_row hf _
  have u1 : Upd w W1 (fun z => z = f) := by rw [hW1]; exact (Upd.refl w (fun z => z = f)).setCell (p := ⟨f, 0, none⟩) (.inr rfl) _
  have d0 : W1.cell? ⟨f, 0, none⟩ = some (iv (t + 1)) := cell_of_row _ _ _ _ _ _ r1
  have d1 : W1.cell? ⟨f, 1, none⟩ = some (iv lim) := cell_of_row _ _ _ _ _ _ r1
  have hle : decide (lim ≤ t + 1) = false := decide_eq_false (by omega)
  have HR : Hid (∀ q, (W1.drewN q).heap[f]? = some (.cells #[iv (t + 1), iv lim, iv (-1)] 91 (0, 0)) ∧ Upd w (W1.drewN q) (fun z => z = f)) := fun q => ⟨r1, u1.trans (Upd.ofBelow (S := fun _ => False) (below_drewF q W1)) (fun _ _ e => e.elim)⟩
  clear hf ht r1 u1
  go_enter Try.func104, Try.ntmps104
  go_upto_region 1 with fail
  rw [← hW1]
  clear hW1 c0 f0 hw
  go_quiet (fail)
  go_wp2
  first | go_end0 | refine bodyPost_ret (results_none rfl _ _ _) rfl ?_
  exact ⟨rfl, HR.out _⟩
set_option maxRecDepth 100000 in
set_option maxHeartbeats 1000000 in
theorem tick_wait {w : World} {d f : Nat} {a : Nd} {t x : Int} (h : Nod w d a) (hr : a.role = .iface 86 (ptr f)) (hf : w.heap[f]? = some (.cells #[iv t, iv 10, iv (-1)] 91 (0, 0))) (ht : 0 ≤ t ∧ t + 1 < 10) :
    Calls Try.prog 7 #[ptr d, iv x] w fun e w' => e = .returned (.tuple #[]) ∧ Nod w' d { a with draw := drF x } ∧ w'.heap[f]? = some (.cells #[iv (t + 1), iv 10, iv (-1)] 91 (0, 0)) ∧ Upd w w' (fun z => z = d ∨ z = f) := by
  have hbg := begin_some h hr
  have HH := Hid.mkW h
  have hbd := drF_bd x
  have h1 := Int.lt_tmod_of_pos x (b := 10) (by omega)
  have h2 := Int.tmod_lt_of_pos x (b := 10) (by omega)
  have c16 : w.cell? ⟨d, 16, none⟩ = some (iv a.draw) := h.cell 16 rfl
  have f16 := h.free 16
  obtain ⟨W1, hW1⟩ : ∃ W1, W1 = w.setCell ⟨d, 16, none⟩ (iv (drF x)) := ⟨_, rfl⟩
  have n1 : Nod W1 d { a with draw := drF x } := by rw [hW1]; exact h.set 16 _ rfl
  have u1 : Upd w W1 (fun z => z = d) := by rw [hW1]; exact (Upd.refl w (fun z => z = d)).setCell (p := ⟨d, 16, none⟩) (.inr rfl) _
  have hdf : f ≠ d := fun e => absurd (row_types (e ▸ hf) h) (by decide)
  have r1 : W1.heap[f]? = some (.cells #[iv t, iv 10, iv (-1)] 91 (0, 0)) := (u1.block f (Array.getElem?_eq_some_iff.1 hf).1 hdf).trans hf
  have c17 : W1.cell? ⟨d, 17, none⟩ = some (.iface 86 (ptr f)) := by have := n1.cell 17 (u := a.role) rfl; rwa [hr] at this
  have hpt := ptick_wait n1 r1 ⟨ht.1, ht.2, by omega⟩
  have hw1 : IntKind.i64.wrap (x.tmod 10 + 10) = x.tmod 10 + 10 := by rw [IntKind.wrap_i64]; omega
  have hw2 : IntKind.i64.wrap (x.tmod 10) = x.tmod 10 := by rw [IntKind.wrap_i64]; omega
  have hw3 : (x.tmod 10 + 10).tmod 10 = drF x := rfl
  have hw4 : IntKind.i64.wrap (drF x) = drF x := by rw [IntKind.wrap_i64]; omega
  have HU := Hid.mkW (And.intro n1 u1)
  clear h hr hf n1 u1 r1 hbd h1 h2
  go_enter Try.func7, Try.ntmps7
  go_upto_region 2 with (go_at_call 18; refine hbg.mono ?_; rintro e w' ⟨rfl, hw'⟩; obtain rfl := hw'.symm)
  rw [← hW1]
  clear hW1 c16 f16 hw1 hw2 hw3 hw4 hw'
  go_wp2_with (go_at_call 104; refine hpt.mono ?_; rintro e w2 ⟨rfl, r2, u2⟩)
  first | go_end0 | refine bodyPost_ret (results_none rfl _ _ _) rfl ?_
  exact ⟨rfl, HU.out.1.upd u2 (fun e => hdf e.symm), r2, (HU.out.2.mono (fun _ _ e => .inl e)).trans u2 (fun _ _ e => .inr e)⟩
end Go.Proofs.Ytfhdenobldkaiaa
