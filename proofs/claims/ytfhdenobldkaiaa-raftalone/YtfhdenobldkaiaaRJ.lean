/- A leader that is the only voter: how far most have come, what is committed. -/
import Derived.Test.YtfhdenobldkaiaaRI
namespace Go.Proofs.Ytfhdenobldkaiaa
open Go Go.RowKit
theorem ta_lead (l : Nat) (W : World) : (Instr.typeAssert (.iface 73 (ptr l)) 60 73 false).run Try.prog W = .ok (ptr l) W := by kernel_rfl
theorem ta_lead2 (l : Nat) (W : World) : (Instr.typeAssert (.iface 73 (ptr l)) 60 73 true).run Try.prog W = .ok (.tuple #[ptr l, .bool true]) W := by kernel_rfl
theorem leads_yes {w : World} {d l : Nat} {a : Nd} (h : Nod w d a) (hr : a.role = .iface 73 (ptr l)) : Calls Try.prog 27 #[ptr d] w fun e w' => e = .returned (.tuple #[ptr l, .bool true]) ∧ w' = w := by
  have c17 : w.cell? ⟨d, 17, none⟩ = some (.iface 73 (ptr l)) := by have := h.cell 17 (u := a.role) rfl; rwa [hr] at this
  have hta := ta_lead2 l
  clear h hr
  go_enter Try.func27, Try.ntmps27
  go_wp2
  go_ret2
  exact ⟨rfl, rfl⟩
set_option maxRecDepth 100000 in
set_option maxHeartbeats 1000000 in
theorem reached_one {w : World} {d l : Nat} {a : Nd} {f : Value} {own : Int} (h : Nod w d a) (hr : a.role = .iface 73 (ptr l)) (hv : One w a.voters a.id) : Calls Try.prog 41 #[ptr d, iv own, f] w fun e w' => e = .returned (iv own) ∧ Below w.heap.size w w' := by
  have c17 : w.cell? ⟨d, 17, none⟩ = some (.iface 73 (ptr l)) := by have := h.cell 17 (u := a.role) rfl; rwa [hr] at this
  obtain ⟨g, c, hvv, h1, hgl, hgc⟩ := hv
  have c13 : w.cell? ⟨d, 13, none⟩ = some (.slice (some ⟨g, 0, none⟩) 1 c) := by have := h.cell 13 (u := a.voters) rfl; rwa [hvv] at this
  have c0 : w.cell? ⟨d, 0, none⟩ = some (iv a.id) := h.cell 0 rfl
  have hta := ta_lead l
  obtain ⟨t9, hti, hz0, hz1, hz2⟩ := info_parts infoI
  have hb : (a.id == a.id) = true := by simp
  obtain ⟨W1, hW1⟩ : ∃ W1, W1 = w.alloc (.cells #[iv own] 3) := ⟨_, rfl⟩
  have hb1 : Below w.heap.size w W1 := by rw [hW1]; exact (Below.refl _ w).alloc (Nat.le_refl _) _
  have hr1 : W1.heap[w.heap.size]? = some (.cells #[iv own] 3 (0, 0)) := by rw [hW1]; exact row_alloc w _ _
  have hsrc := One.src (w := W1) (g := w.heap.size) (c := 1) (id := own) (cell_of_row _ _ _ _ _ _ hr1)
  have hnil : W1.ownsRow w.heap.size 3 1 (.slice none 0 0) 0 [] := World.ownsRow_nil _ _ _ _
  have hsz := hb1.size
  have HH := Hid.mkW hb1
  clear h hr hvv hr1 hb1
  go_enter Try.func41, Try.ntmps41
  go_wp2
  go_loopg [8, 10, 22] 2 (fun kx s8 s10 s22 wq => ∃ j : Nat, s22 = .int .i64 j ∧ kx + j = 2 ∧ j ≤ 1 ∧ Hid ((j = 0 → wq = w ∧ s8 = .slice none 0 0) ∧ (j = 1 → ∃ g1 c1, s8 = .slice (some ⟨g1, 0, none⟩) 1 c1 ∧ wq.cell? ⟨g1, 0, none⟩ = some (iv own) ∧ Below w.heap.size w wq)))
  case atStart => exact ⟨0, rfl, rfl, by omega, fun _ => ⟨rfl, rfl⟩, fun e => by omega⟩
  case round =>
    obtain ⟨j, rfl, hk, hj, HJ⟩ := hrel
    by_cases h0 : j = 0
    · subst h0
      obtain ⟨hwr, hs8⟩ := HJ.out.1 rfl
      subst hs8
      obtain rfl := hwr.symm
      clear HJ
      go_upto_region 7 with fail
      go_wp2_with (at_builtin; rw [← hW1]; refine wpList_appS _ rfl (.tmp 32) (.tmp 34) 28 28 rfl w.heap.size 3 t9 _ 1 Try.underlying28 hti hz0 hz1 rfl (by rw [hz2]; decide) _ 0 [] rfl hnil _ rfl 1 _ hsrc (by omega) hsz ?_; intro v' w' q1 q2 q3 q4; obtain ⟨g1, c1, hnv, hc1, hg1⟩ := owns_formB q1 (by decide); subst hnv; have HQ := Hid.mkW (And.intro q1 q2); clear q1 q2 q3 q4)
      go_roundg 1
      case measure => omega
      case rel =>
        refine ⟨1, rfl, by omega, by omega, fun e => by omega, fun _ => ⟨g1, c1, rfl, ?_, ?_⟩⟩
        · have := HQ.out.1.cells (g := g1) rfl 0 (iv own) rfl
          rwa [Addr.add_lit] at this
        · exact HH.out.trans (HQ.out.2.below hsz (fun k hk e => by cases e))
    · obtain rfl : j = 1 := by omega
      obtain ⟨g1, c1, rfl, hgc1, hbw⟩ := HJ.out.2 rfl
      have hsort := sort_one wr (some ⟨g1, 0, none⟩) c1
      have HB := Hid.mkW hbw
      clear HJ hbw
      go_wp2_with (go_at_call 53; refine hsort.mono ?_; rintro e w3 ⟨rfl, hw3⟩; obtain rfl := hw3.symm)
      go_ret
      exact ⟨rfl, HB.out⟩
set_option maxHeartbeats 1000000 in
theorem term_at {w : World} {d n : Nat} {a : Nd} {xs : List Value} {t : Int} (h : Nod w d a) (ho : w.ownsRow 0 43 4 a.ents n xs) (ht : xs[(n - 1) * 4 + 1]? = some (iv t)) (h1 : 1 ≤ n) (hn : n ≤ 1000000) : Calls Try.prog 19 #[ptrT d, iv n] w fun e w' => e = .returned (iv t) ∧ Below w.heap.size w w' := by
  obtain ⟨g, cv, hv, hc, _⟩ := owns_formB ho (by omega)
  have c11 : w.cell? ⟨d, 11, none⟩ = some (.slice (some ⟨g, 0, none⟩) n cv) := by have := h.cell 11 (u := a.ents) rfl; rwa [hv] at this
  have c7 : w.cell? ⟨d, 7, none⟩ = some (iv 0) := h.cell 7 rfl
  rw [hv] at ho
  have ct : w.cell? ⟨g, (n - 1) * 4 + 1, none⟩ = some (iv t) := by
    have := ho.cells (g := g) rfl _ _ ht
    rwa [Addr.add_lit, Nat.zero_add] at this
  obtain ⟨m, rfl⟩ : ∃ m, n = m + 1 := ⟨n - 1, by omega⟩
  rw [Nat.add_sub_cancel] at ct
  obtain ⟨N, hN⟩ : ∃ N : Int, N = ((m + 1 : Nat) : Int) := ⟨_, rfl⟩
  have hw0 : IntKind.i64.wrap (N - 0) = N := by rw [IntKind.wrap_i64]; omega
  have hwn : IntKind.i64.wrap N = N := by rw [IntKind.wrap_i64]; omega
  have hw1 : IntKind.i64.wrap (N - 1) = m := by rw [IntKind.wrap_i64]; omega
  have hz : (N == 0) = false := by simp; omega
  rw [← hN]
  clear h ho ht hv hN h1 hn
  go_enter Try.func19, Try.ntmps19
  go_upto_region 6 with fail
  go_quiet (fail)
  go_wp2
  go_ret
  exact ⟨rfl, below_drewF _ _⟩
end Go.Proofs.Ytfhdenobldkaiaa
