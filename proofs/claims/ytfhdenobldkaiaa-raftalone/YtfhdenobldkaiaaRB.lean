/- A node with one voter: the others (nobody), whether it votes, its log's end. -/
import Derived.Test.YtfhdenobldkaiaaRA
namespace Go.Proofs.Ytfhdenobldkaiaa
open Go Go.RowKit
theorem infoI : (Try.prog.info? 3).map (fun i => (i.zero, i.size, i.bytes)) = some (some (.int .i64 0), 1, 8) := by kernel_rfl
theorem infoE : (Try.prog.info? 43).map (fun i => (i.zero, i.size, i.bytes)) = some (some (.agg #[iv 0, iv 0, iv 0, .slice none 0 0]), 4, 48) := by kernel_rfl
theorem infoB : (Try.prog.info? 5).map (fun i => (i.zero, i.size, i.bytes)) = some (some (.int .u8 0), 1, 1) := by kernel_rfl
theorem One.src {w : World} {g c : Nat} {id : Int} (hc : w.cell? ⟨g, 0, none⟩ = some (iv id)) : Src Try.prog 1 28 (.slice (some ⟨g, 0, none⟩) 1 c) 1 [iv id] w :=
  Src.ofSlice _ Try.underlying28 ⟨g, 0, none⟩ 1 c _ rfl (fun j u hj => by
    have : j = 0 := by
      rcases j with _ | j
      · rfl
      · simp at hj
    subst this
    rw [Addr.add_lit]
    simp at hj
    subst hj
    exact hc) (fun u hu => by
      simp at hu
      subst hu
      rfl)
theorem cloneI_one {w : World} {v : Value} {id : Int} (h : One w v id) : Calls Try.prog 34 #[v] w fun e w' => ∃ v', e = .returned v' ∧ w'.ownsRow w.heap.size 3 1 v' 1 [iv id] ∧ Below w.heap.size w w' := by
  obtain ⟨g, c, rfl, h1, hl, hc⟩ := h
  obtain ⟨t9, hti, hz0, hz1, hz2⟩ := info_parts infoI
  have hb : Below w.heap.size w (w.alloc (.cells #[] 3)) := (Below.refl _ w).alloc (Nat.le_refl _) _
  have hsrc := One.src (w := w.alloc (.cells #[] 3)) (c := c) ((hb.cell (p := ⟨g, 0, none⟩) hl).trans hc)
  have hown : (w.alloc (.cells #[] 3)).ownsRow w.heap.size 3 1 (.slice (some ⟨w.heap.size, 0, none⟩) 0 0) 0 [] := ⟨rfl, .inr ⟨w.heap.size, 0, #[], rfl, Nat.le_refl _, row_alloc w _ _, Nat.le_refl _, Nat.zero_le _, rfl, rfl⟩⟩
  have hsz : w.heap.size ≤ (w.alloc (.cells #[] 3)).heap.size := hb.size
  have hnil := fun (w' : World) (n' c' : Nat) => Lib.run_eql_slice_nil (P := Try.prog) w' 28 3 (some ⟨g, 0, none⟩) n' c' 0 0 Try.underlying28
  go_enter Try.func34, Try.ntmps34
  go_wp2_with (at_builtin; refine wpList_appS _ rfl (.tmp 5) (.tmp 6) 28 28 rfl w.heap.size 3 t9 _ 1 Try.underlying28 hti hz0 hz1 rfl (by rw [hz2]; decide) _ 0 [] rfl hown _ rfl 1 [iv id] hsrc (by omega) hsz ?_; intro v' w' q1 q2 q3 q4; obtain ⟨np, nc, hnv⟩ := owns_formB0 q1; subst hnv; clear q3 q4)
  go_ret
  refine ⟨_, rfl, by simpa using q1, hb.trans (q2.below hsz (fun k hk e => by have e' : some k = some w.heap.size := e; cases e'; omega))⟩
/-- The function that tells whether a voter is the node itself. -/
theorem isOwn_any {w : World} {d q : Nat} {id n : Int} (h0 : w.cell? ⟨d, 0, none⟩ = some (iv id)) (hq : w.cell? ⟨q, 0, none⟩ = some (ptr d)) : Calls Try.prog 51 #[iv n, ptr q] w fun e w' => e = .returned (.bool (n == id)) ∧ w' = w := by
  go_enter Try.func51, Try.ntmps51
  go_wp2
  go_ret
  exact ⟨rfl, rfl⟩
theorem indexFunc_own {w : World} {d q g c : Nat} {id : Int} (h0 : w.cell? ⟨d, 0, none⟩ = some (iv id)) (hq : w.cell? ⟨q, 0, none⟩ = some (ptr d)) (hg : w.cell? ⟨g, 0, none⟩ = some (iv id)) : Calls Try.prog 60 #[.slice (some ⟨g, 0, none⟩) 1 c, .func (.func 51) #[] #[ptr q]] w fun e w' => e = .returned (iv 0) ∧ w' = w := by
  have hcall := isOwn_any (n := id) h0 hq
  have hb : (id == id) = true := by simp
  rw [hb] at hcall
  clear hb
  go_enter Try.func60, Try.ntmps60
  go_wp2
  go_loopg [5, 8] 1 (fun kx s5 s8 wq => s8 = .int .i64 0 ∧ kx = 1 ∧ wq = w)
  case atStart => exact ⟨rfl, rfl, rfl⟩
  case round =>
    obtain ⟨rfl, rfl, hwr⟩ := hrel
    obtain rfl := hwr.symm
    go_wp2_with (go_at_call 51; refine hcall.mono ?_; rintro e w1 ⟨rfl, hw1⟩; obtain rfl := hw1.symm)
    go_ret
    exact ⟨rfl, rfl⟩
theorem below_drewF (n : Nat) (w : World) : Below w.heap.size w (w.drewN n) := ⟨rfl, rfl, rfl, Nat.le_refl _, fun _ _ => rfl⟩
theorem last_at (w : World) (b o : Nat) (m : Int) (p : Option Addr) (n c : Nat) (h0 : w.cell? ⟨b, o, none⟩ = some (iv m)) (h4 : w.cell? ⟨b, o + 4, none⟩ = some (.slice p n c)) (hm : 0 ≤ m ∧ m ≤ 1000000000) (hn : n ≤ 1000000000) :
    Calls Try.prog 20 #[.pointer (some ⟨b, o, none⟩)] w fun e w' => e = .returned (iv (m + n)) ∧ Below w.heap.size w w' := by
  have hw : IntKind.i64.wrap (m + (n : Int)) = m + n := by rw [IntKind.wrap_i64]; omega
  go_enter Try.func20, Try.ntmps20
  go_wp2
  go_quiet (fail)
  go_wp2
  go_ret
  exact ⟨rfl, below_drewF _ _⟩
theorem contains_one {w : World} {v : Value} {id : Int} (h : One w v id) : Calls Try.prog 43 #[v, iv id] w fun e w' => e = .returned (.bool true) ∧ w' = w := by
  obtain ⟨g, c, rfl, h1, hl, hc⟩ := h
  have hix : Calls Try.prog 54 #[.slice (some ⟨g, 0, none⟩) 1 c, iv id] w fun e w' => e = .returned (iv 0) ∧ w' = w := by
    go_enter Try.func54, Try.ntmps54
    go_wp2
    go_loopg [5, 8] 1 (fun kx s5 s8 wq => s8 = .int .i64 0 ∧ kx = 1 ∧ wq = w)
    case atStart => exact ⟨rfl, rfl, rfl⟩
    case round =>
      obtain ⟨rfl, rfl, hwr⟩ := hrel
      obtain rfl := hwr.symm
      go_wp2
      go_ret
      exact ⟨rfl, rfl⟩
  go_enter Try.func43, Try.ntmps43
  go_wp2_with (go_at_call 54; refine hix.mono ?_; rintro e w1 ⟨rfl, hw1⟩; obtain rfl := hw1.symm)
  go_ret
  exact ⟨rfl, rfl⟩
end Go.Proofs.Ytfhdenobldkaiaa
