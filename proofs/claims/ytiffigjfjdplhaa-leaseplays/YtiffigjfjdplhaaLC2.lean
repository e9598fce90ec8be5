/- A book's Renew. -/
import Derived.Test.YtiffigjfjdplhaaLC1
import Derived.Deep.RegionWith
import Derived.Deep.RegionHeldLaw
namespace Go.Proofs.Ytiffigjfjdplhaa
open Go Go.RowKit
set_option maxRecDepth 20000 in
theorem renew_any (B d b : Nat) (L : List Ls) (id now : Int) (w : World) (h : Bk B w d b L) (hi : isI id) :
    Calls Try.prog 12 #[ptr d, .int .i64 id, .int .i64 now] w fun e w' => e = .returned (.int .i64 (renewE L id now)) ∧ Bk B w' d b (renewL L id now) ∧ Upd w w' (fun k => k = b) := by
  cases ha : nowB now with
  | false =>
    have e1 : renewE L id now = 1 := by simp [renewE, ha]
    have e2 : renewL L id now = L := by simp [renewL, ha]
    rw [e1, e2]
    go_enter Try.func12, Try.ntmps12
    go_wp2_with (go_at_call 22; refine (now_any _ _).mono ?_; rintro e w1 ⟨rfl, hw1⟩; obtain rfl := hw1.symm)
    go_ret
    exact ⟨rfl, h, Upd.refl _ _⟩
  | true =>
    have hnow : 0 ≤ now ∧ now ≤ 1099511627776 := by simpa [nowB] using ha
    obtain ⟨n1, n2⟩ := hnow
    have c0 := h.c0
    have hlk := look_run h.own hi true
    cases hl : lookL id L with
    | none =>
      have e1 : renewE L id now = 2 := by simp [renewE, ha, hl]
      have e2 : renewL L id now = L := by simp [renewL, hl]
      rw [e1, e2]
      rw [hl] at hlk
      simp only [if_true, getV, lsV, Option.getD_none, Option.isSome_none] at hlk
      go_enter Try.func12, Try.ntmps12
      go_wp2_with (go_at_call 22; refine (now_any _ _).mono ?_; rintro e w1 ⟨rfl, hw1⟩; obtain rfl := hw1.symm)
      go_ret
      exact ⟨rfl, h.below ((Below.refl _ _).alloc (Nat.le_refl _) _), Upd.alloc _ _ _⟩
    | some l =>
      obtain ⟨hid, _⟩ := look_parts hl
      have hmem := List.mem_of_find?_eq_some hl
      obtain ⟨o1, o2, o3, o4, o5, o6⟩ := h.ok l hmem
      have e1 : renewE L id now = 0 := by simp [renewE, ha, hl]
      have e2 : renewL L id now = insL ⟨id, l.ttl, now + l.ttl⟩ (delL id L) := by simp [renewL, ha, hl]
      rw [e1, e2]
      rw [hl] at hlk
      simp only [if_true, getV, lsV, Option.getD_some, Option.isSome_some] at hlk
      go_enter Try.func12, Try.ntmps12
      go_wp2_with (go_at_call 22; refine (now_any _ _).mono ?_; rintro e w1 ⟨rfl, hw1⟩; obtain rfl := hw1.symm)
      obtain ⟨w2, hst, ho2, hu2⟩ := store_run (w := (w.alloc (.cells #[.int .i64 id, .int .i64 l.ttl, .int .i64 (now + l.ttl)] 45)).drew) ((h.own.alloc _).drew) ⟨id, l.ttl, now + l.ttl⟩ hi h.few
      simp only [lsV] at hst
      have c1 := (h.below ((Below.refl w.heap.size w).alloc (Nat.le_refl _) (.cells #[.int .i64 id, .int .i64 l.ttl, .int .i64 (now + l.ttl)] 45))).c0
      go_region
      go_wp2
      go_ret
      have b1 : Below w.heap.size w (w.alloc (.cells #[.int .i64 id, .int .i64 l.ttl, .int .i64 (now + l.ttl)] 45)) := (Below.refl _ _).alloc (Nat.le_refl _) _
      have hu : Upd (w.alloc (.cells #[.int .i64 id, .int .i64 l.ttl, .int .i64 (now + l.ttl)] 45)) w2 (fun k => k = b) := ⟨hu2.os, hu2.tape, hu2.output, hu2.size, hu2.block⟩
      have hlen := length_del h.up hl
      have hfew := h.few
      refine ⟨rfl, (h.below b1).turn hu ho2 (up_put h.up) (fun x hx => ?_) (by rw [length_ins]; show (delL id L).length + 1 ≤ 1024; omega), (Upd.ofBelow b1).trans hu (fun _ _ e => e)⟩
      rcases mem_ins.1 hx with rfl | hx
      · exact ⟨by show 1 ≤ id; omega, by show id ≤ _; omega, o3, o4, by show 0 ≤ now + l.ttl; omega, by show now + l.ttl ≤ _; omega⟩
      · exact h.ok x (mem_del.1 hx).1
end Go.Proofs.Ytiffigjfjdplhaa
