/- Role and Hard. -/
import Derived.Test.YtfhdenobldkaiaaRV
namespace Go.Proofs.Ytfhdenobldkaiaa
open Go Go.RowKit
theorem kind_lead (w : World) (v : Value) : Calls Try.prog 99 #[v] w fun e w' => e = .returned (iv 2) ∧ w' = w := by
  go_enter Try.func99, Try.ntmps99
  go_wp2
  go_ret
  exact ⟨rfl, rfl⟩
theorem kind_follow (w : World) (v : Value) : Calls Try.prog 102 #[v] w fun e w' => e = .returned (iv 0) ∧ w' = w := by
  go_enter Try.func102, Try.ntmps102
  go_wp2
  go_ret
  exact ⟨rfl, rfl⟩
theorem role_follow {w : World} {d f : Nat} {a : Nd} (h : Nod w d a) (hr : a.role = .iface 86 (ptr f)) : Calls Try.prog 6 #[ptr d] w fun e w' => e = .returned (iv 0) ∧ w' = w := by
  have hbg := begin_some h hr
  have c17 : w.cell? ⟨d, 17, none⟩ = some (.iface 86 (ptr f)) := by have := h.cell 17 (u := a.role) rfl; rwa [hr] at this
  have hk := kind_follow w (ptr f)
  clear h hr
  go_enter Try.func6, Try.ntmps6
  go_wp2_with (first
    | (go_at_call 18; refine hbg.mono ?_; rintro e w' ⟨rfl, hw'⟩; obtain rfl := hw'.symm)
    | (go_at_call 102; refine hk.mono ?_; rintro e w' ⟨rfl, hw'⟩; obtain rfl := hw'.symm))
  go_ret
  exact ⟨rfl, rfl⟩
theorem role_lead {w : World} {d l : Nat} {a : Nd} (h : Nod w d a) (hr : a.role = .iface 73 (ptr l)) : Calls Try.prog 6 #[ptr d] w fun e w' => e = .returned (iv 2) ∧ w' = w := by
  have hbg := begin_some h hr
  have c17 : w.cell? ⟨d, 17, none⟩ = some (.iface 73 (ptr l)) := by have := h.cell 17 (u := a.role) rfl; rwa [hr] at this
  have hk := kind_lead w (ptr l)
  clear h hr
  go_enter Try.func6, Try.ntmps6
  go_wp2_with (first
    | (go_at_call 18; refine hbg.mono ?_; rintro e w' ⟨rfl, hw'⟩; obtain rfl := hw'.symm)
    | (go_at_call 99; refine hk.mono ?_; rintro e w' ⟨rfl, hw'⟩; obtain rfl := hw'.symm))
  go_ret
  exact ⟨rfl, rfl⟩
set_option maxRecDepth 100000 in
theorem hard_is {w : World} {d : Nat} {a : Nd} (h : Nod w d a) : Calls Try.prog 11 #[ptr d] w fun e w' => e = .returned (.agg #[iv a.term, iv a.vote, iv a.commit]) ∧ Below w.heap.size w w' := by
  have hlt := h.lt
  have c1 : w.cell? ⟨d, 1, none⟩ = some (iv a.term) := h.cell 1 rfl
  have c2 : w.cell? ⟨d, 2, none⟩ = some (iv a.vote) := h.cell 2 rfl
  have c3 : w.cell? ⟨d, 3, none⟩ = some (iv a.commit) := h.cell 3 rfl
  have HR : Hid ((w.alloc (.cells #[iv a.term, iv a.vote, iv a.commit] 30)).heap[w.heap.size]? = some (.cells #[iv a.term, iv a.vote, iv a.commit] 30 (0, 0))) := row_alloc w _ _
  clear h
  go_enter Try.func11, Try.ntmps11
  go_wp2
  refine bodyPost_ret (results_cell_row rfl _ _ w.heap.size 30 #[iv a.term, iv a.vote, iv a.commit] (0, 0) _ rfl HR.out Try.underlying30 rfl (by kernel_rfl)) rfl ?_
  exact ⟨rfl, (Below.refl _ _).alloc (Nat.le_refl _) _⟩
end Go.Proofs.Ytfhdenobldkaiaa
