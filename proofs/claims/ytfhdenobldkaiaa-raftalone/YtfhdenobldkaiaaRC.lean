/- A node with one voter: the others, whom to send to, how patient, terms. -/
import Derived.Test.YtfhdenobldkaiaaRB
namespace Go.Proofs.Ytfhdenobldkaiaa
open Go Go.RowKit
theorem clear_one {w : World} {g c : Nat} {B : Nat} {xs : List Value} (h : w.ownsRow B 3 1 (.slice (some ⟨g, 0, none⟩) 1 c) 1 xs) : ∃ w', (∀ ty, (Builtin.clear_ #[28] ty #[.slice (some ⟨g, 0, none⟩) 1 c]).run Try.prog w = .ok (.tuple #[]) w') ∧ Upd w w' (fun k => k = g) := by
  obtain ⟨t9, hti, hz0, hz1, hz2⟩ := info_parts infoI
  rcases h.2 with ⟨e, _⟩ | ⟨g', cap, cur, e, hbg, hh, h1, h2, h3, h4⟩
  · cases e
  · cases e
    refine ⟨w.setRow g (cur.toList.take 0 ++ (Builtin.zeroCells (Value.cells (.int .i64 0)) 1).toList ++ cur.toList.drop (0 + (Builtin.zeroCells (Value.cells (.int .i64 0)) 1).toList.length)).toArray, fun ty => ?_, ⟨rfl, rfl, rfl, by simp, fun k _ hk => setRow_other w g k _ (fun e => hk e)⟩⟩
    · have hzl : (Builtin.zeroCells (Value.cells (.int .i64 0)) 1).toList.length = 1 := by
        rw [Array.length_toList, size_zeroCells]
        rfl
      have hst := run_storeCells_at Try.prog g 0 3 (Builtin.zeroCells (Value.cells (.int .i64 0)) 1).toList 0 cur w hh (by rw [hzl]; omega) (fun v hv => by
        simp only [Builtin.zeroCells, Array.toList_map, List.mem_map] at hv
        obtain ⟨k, _, rfl⟩ := hv
        have hk : k % 1 < 1 := Nat.mod_lt _ (by decide)
        show ((Value.cells (.int .i64 0))[k % 1]!).oneCell' = true
        rw [show k % 1 = 0 by omega]; rfl)
      simp only [Nat.add_zero] at hst
      simp [Builtin.clear_, run_underlying Try.underlying28, zeroValue, typeInfo, hti, hz0, hst]
theorem deleteFunc_own {w : World} {d q g c : Nat} {id : Int} {B : Nat} (h0 : w.cell? ⟨d, 0, none⟩ = some (iv id)) (hq : w.cell? ⟨q, 0, none⟩ = some (ptr d)) (ho : w.ownsRow B 3 1 (.slice (some ⟨g, 0, none⟩) 1 c) 1 [iv id]) : Calls Try.prog 50 #[.slice (some ⟨g, 0, none⟩) 1 c, .func (.func 51) #[] #[ptr q]] w fun e w' => e = .returned (.slice (some ⟨g, 0, none⟩) 0 c) ∧ Upd w w' (fun k => k = g) := by
  have hg : w.cell? ⟨g, 0, none⟩ = some (iv id) := by
    have := ho.cells (g := g) rfl 0 (iv id) rfl
    rwa [Addr.add_lit] at this
  have hix := indexFunc_own (c := c) h0 hq hg
  obtain ⟨W1, hcl, hu⟩ := clear_one ho
  clear ho
  go_enter Try.func50, Try.ntmps50
  go_wp2_with (go_at_call 60; refine hix.mono ?_; rintro e w1 ⟨rfl, hw1⟩; obtain rfl := hw1.symm)
  go_loopg [5, 6, 7] 1 (fun kx s5 s6 s7 wq => s5 = iv 0 ∧ s6 = .int .i64 1 ∧ kx = 1 ∧ wq = w)
  case atStart => exact ⟨rfl, rfl, rfl, rfl⟩
  case round =>
    obtain ⟨rfl, rfl, rfl, hwr⟩ := hrel
    obtain rfl := hwr.symm
    go_wp2
    go_ret
    exact ⟨rfl, hu⟩
/-- Nobody else votes. -/
theorem others_none {w : World} {d : Nat} {a : Nd} (h : Nod w d a) (hv : One w a.voters a.id) : Calls Try.prog 39 #[ptr d] w fun e w' => ∃ g c, e = .returned (.slice (some ⟨g, 0, none⟩) 0 c) ∧ Below w.heap.size w w' := by
  obtain ⟨W1, hW1⟩ : ∃ W1, W1 = w.alloc (.cells #[ptr d] 24) := ⟨_, rfl⟩
  have hb1 : Below w.heap.size w W1 := by rw [hW1]; exact (Below.refl _ w).alloc (Nat.le_refl _) _
  have hr1 : W1.heap[w.heap.size]? = some (.cells #[ptr d] 24 (0, 0)) := by rw [hW1]; exact row_alloc w _ _
  have h1 := h.below hb1 h.lt
  have hv1 := hv.below hb1
  have hq1 : W1.cell? ⟨w.heap.size, 0, none⟩ = some (ptr d) := cell_of_row _ _ _ _ _ _ hr1
  have c13 := h1.cell 13 (u := a.voters) rfl
  have hcl := cloneI_one hv1
  have hsz : W1.heap.size = w.heap.size + 1 := by rw [hW1]; simp
  have HH := Hid.mkW (And.intro h1 (And.intro hq1 hb1))
  clear h hv h1 hv1 hr1 hb1
  obtain ⟨q, hq⟩ : ∃ q, q = w.heap.size := ⟨_, rfl⟩
  have HQ := Hid.mkW hq
  rw [← hq] at HH hsz hq1
  go_enter Try.func39, Try.ntmps39
  go_upto_region 1 with fail
  rw [← hW1, ← hq]
  clear hW1 hq
  go_wp2_with (first
    | (go_at_call 34; refine hcl.mono ?_; rintro e w2 ⟨v2, rfl, ho2, hb2⟩; obtain ⟨g, c, hv2, hc2, hg2⟩ := owns_formB ho2 (by decide); subst hv2; have hdel := deleteFunc_own (d := d) (q := q) ((HH.out.1.below hb2 HH.out.1.lt).cell 0 rfl) ((hb2.cell (p := ⟨q, 0, none⟩) (by show q < _; omega)).trans HH.out.2.1) ho2)
    | (go_at_call 50; refine hdel.mono ?_; rintro e w3 ⟨rfl, hu3⟩))
  go_ret
  refine ⟨g, c, rfl, ?_⟩
  have hb := HH.out.2.2
  rw [← HQ.out]
  exact hb.trans ((hb2.mono (by omega)).trans (hu3.below (by have := hb2.size; omega) (fun k hk e => by omega)))
theorem sendToAll_none {w : World} {d : Nat} {a : Nd} (h : Nod w d a) (hv : One w a.voters a.id) : Calls Try.prog 29 #[ptr d] w fun e w' => e = .returned (.tuple #[]) ∧ Below w.heap.size w w' := by
  have ho := others_none h hv
  clear h hv
  go_enter Try.func29, Try.ntmps29
  go_wp2_with (go_at_call 39; refine ho.mono ?_; rintro e w1 ⟨g, c, rfl, hb1⟩)
  go_loopg [3, 7] 1 (fun kx s3 s7 wq => s7 = iv 0 ∧ kx = 1 ∧ wq = w1)
  case atStart => exact ⟨rfl, rfl, rfl⟩
  case round =>
    obtain ⟨rfl, rfl, hwr⟩ := hrel
    obtain rfl := hwr.symm
    go_wp2
    first | go_end0 | refine bodyPost_ret (results_none rfl _ _ _) rfl ?_
    exact ⟨rfl, hb1⟩
theorem most_one {w : World} {d : Nat} {a : Nd} (h : Nod w d a) (hv : One w a.voters a.id) : Calls Try.prog 107 #[ptr d, iv 1] w fun e w' => e = .returned (.bool true) ∧ w' = w := by
  obtain ⟨g, c, hvv, _⟩ := hv
  have c13 := h.cell 13 (u := a.voters) rfl
  rw [hvv] at c13
  clear hvv h
  go_enter Try.func107, Try.ntmps107
  go_wp2
  go_ret
  exact ⟨rfl, rfl⟩
theorem term_zero (w : World) (v : Value) : Calls Try.prog 19 #[v, iv 0] w fun e w' => e = .returned (iv 0) ∧ w' = w := by
  go_enter Try.func19, Try.ntmps19
  go_wp2
  go_ret
  exact ⟨rfl, rfl⟩
end Go.Proofs.Ytfhdenobldkaiaa
