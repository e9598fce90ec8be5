/- A book's calls but Over and All: New, Has, Grant, Renew, Revoke; numbers within bounds. -/
import Derived.Test.YtiffigjfjdplhaaLM
import Derived.Deep.QuietTactic
import Derived.BigQuiet
import Derived.Handy
namespace Go.Proofs.Ytiffigjfjdplhaa
open Go Go.RowKit
abbrev ptr (d : Nat) : Value := .pointer (some ⟨d, 0, none⟩)
theorem num_any (n : Int) (w : World) : Calls Try.prog 21 #[.int .i64 n] w fun e w' => e = .returned (.bool (numB n)) ∧ w' = w := by
  by_cases h1 : 1 ≤ n
  · by_cases h2 : n ≤ 2147483647
    · have hb : numB n = true := by simp [numB, h1, h2]
      rw [hb]
      go_enter Try.func21, Try.ntmps21
      go_wp2
      go_ret
      exact ⟨rfl, rfl⟩
    · have hb : numB n = false := by simp [numB, h2]
      rw [hb]
      go_enter Try.func21, Try.ntmps21
      go_wp2
      go_ret
      exact ⟨rfl, rfl⟩
  · have hb : numB n = false := by simp [numB, h1]
    rw [hb]
    go_enter Try.func21, Try.ntmps21
    go_wp2
    go_ret
    exact ⟨rfl, rfl⟩
theorem now_any (n : Int) (w : World) : Calls Try.prog 22 #[.int .i64 n] w fun e w' => e = .returned (.bool (nowB n)) ∧ w' = w := by
  by_cases h1 : 0 ≤ n
  · by_cases h2 : n ≤ 1099511627776
    · have hb : nowB n = true := by simp [nowB, h1, h2]
      rw [hb]
      go_enter Try.func22, Try.ntmps22
      go_wp2
      go_ret
      exact ⟨rfl, rfl⟩
    · have hb : nowB n = false := by simp [nowB, h2]
      rw [hb]
      go_enter Try.func22, Try.ntmps22
      go_wp2
      go_ret
      exact ⟨rfl, rfl⟩
  · have hb : nowB n = false := by simp [nowB, h1]
    rw [hb]
    go_enter Try.func22, Try.ntmps22
    go_wp2
    go_ret
    exact ⟨rfl, rfl⟩
theorem new_any (w : World) : Calls Try.prog 8 #[] w fun e w' => ∃ d b, e = .returned (ptr d) ∧ Bk w.heap.size w' d b [] ∧ Below w.heap.size w w' := by
  have hmm := @run_makeMap Try.prog
  go_enter Try.func8, Try.ntmps8
  go_wp2
  go_ret
  refine ⟨_, w.heap.size, rfl, ⟨?_, ?_, (World.ownsMap_made w Try.prog 3 RL).alloc _, List.Pairwise.nil, by simp, by simp, by simp, by simp, by simp⟩, ?_⟩
  · simp
  · simp
  · exact ((Below.refl _ _).alloc (Nat.le_refl _) _).alloc (by simp) _
theorem has_any (B d b : Nat) (L : List Ls) (k : Int) (w : World) (h : Bk B w d b L) (hk : isI k) :
    Calls Try.prog 19 #[ptr d, .int .i64 k] w fun e w' => e = .returned (.bool (lookL k L).isSome) ∧ Below w.heap.size w w' := by
  have c0 := h.c0
  have hl := look_run h.own hk true
  simp only [if_true, getV, lsV] at hl
  clear h
  go_enter Try.func19, Try.ntmps19
  go_wp2
  go_ret
  exact ⟨rfl, (Below.refl _ _).alloc (Nat.le_refl _) _⟩
theorem grant_arg {id ttl now : Int} (h : argB id ttl now = true) : (1 ≤ id ∧ id ≤ 2147483647) ∧ (1 ≤ ttl ∧ ttl ≤ 2147483647) ∧ 0 ≤ now ∧ now ≤ 1099511627776 := by
  simp only [argB, numB, nowB, Bool.and_eq_true, decide_eq_true_eq] at h
  exact ⟨h.1.1, h.1.2, h.2⟩
theorem eqlSome (bm : Nat) (w : World) : (binOp .eql 51 (.map (some bm)) (.map none)).run Try.prog w = .ok (.bool false) w := by kernel_rfl
set_option maxRecDepth 20000 in
theorem grant_any (B d b : Nat) (L : List Ls) (id ttl now : Int) (w : World) (h : Bk B w d b L) (hi : isI id) :
    Calls Try.prog 10 #[ptr d, .int .i64 id, .int .i64 ttl, .int .i64 now] w fun e w' => e = .returned (.int .i64 (grantE L id ttl now)) ∧ Bk B w' d b (grantL L id ttl now) ∧ Upd w w' (fun k => k = b) := by
  cases ha : argB id ttl now with
  | false =>
    have e1 : grantE L id ttl now = 1 := by simp [grantE, ha]
    have e2 : grantL L id ttl now = L := by simp [grantL, e1]
    rw [e1, e2]
    cases hb1 : numB id with
    | false =>
      go_enter Try.func10, Try.ntmps10
      go_wp2_with (go_at_call 21; refine (num_any _ _).mono ?_; rintro e w1 ⟨rfl, hw1⟩; obtain rfl := hw1.symm)
      go_ret
      exact ⟨rfl, h, Upd.refl _ _⟩
    | true =>
      cases hb2 : numB ttl with
      | false =>
        go_enter Try.func10, Try.ntmps10
        go_wp2_with (go_at_call 21; refine (num_any _ _).mono ?_; rintro e w1 ⟨rfl, hw1⟩; obtain rfl := hw1.symm)
        go_ret
        exact ⟨rfl, h, Upd.refl _ _⟩
      | true =>
        have hb3 : nowB now = false := by simpa [argB, hb1, hb2] using ha
        go_enter Try.func10, Try.ntmps10
        go_wp2_with (first
          | (go_at_call 21; refine (num_any _ _).mono ?_; rintro e w1 ⟨rfl, hw1⟩; obtain rfl := hw1.symm)
          | (go_at_call 22; refine (now_any _ _).mono ?_; rintro e w1 ⟨rfl, hw1⟩; obtain rfl := hw1.symm))
        go_ret
        exact ⟨rfl, h, Upd.refl _ _⟩
  | true =>
    obtain ⟨⟨i1, i2⟩, ⟨t1, t2⟩, n1, n2⟩ := grant_arg ha
    have hb1 : numB id = true := by simp [numB, i1, i2]
    have hb2 : numB ttl = true := by simp [numB, t1, t2]
    have hb3 : nowB now = true := by simp [nowB, n1, n2]
    have hhas := has_any B d b L id w h hi
    cases hl : (lookL id L).isSome with
    | true =>
      have e1 : grantE L id ttl now = 7 := by simp [grantE, ha, hl]
      have e2 : grantL L id ttl now = L := by simp [grantL, e1]
      rw [e1, e2]
      rw [hl] at hhas
      go_enter Try.func10, Try.ntmps10
      go_wp2_with (first
          | (go_at_call 21; refine (num_any _ _).mono ?_; rintro e w1 ⟨rfl, hw1⟩; obtain rfl := hw1.symm)
          | (go_at_call 22; refine (now_any _ _).mono ?_; rintro e w1 ⟨rfl, hw1⟩; obtain rfl := hw1.symm)
          | (go_at_call 19; refine hhas.mono ?_; rintro e w1 ⟨rfl, bel⟩))
      go_ret
      exact ⟨rfl, h.below bel, Upd.ofBelow bel⟩
    | false =>
      rw [hl] at hhas
      have hn : lookL id L = none := by cases e : lookL id L with
        | none => rfl
        | some _ => rw [e] at hl; cases hl
      have few := h.few
      by_cases hf : 1024 ≤ L.length
      · have e1 : grantE L id ttl now = 4 := by simp [grantE, ha, hl, hf]
        have e2 : grantL L id ttl now = L := by simp [grantL, e1]
        rw [e1, e2]
        go_enter Try.func10, Try.ntmps10
        go_wp2_with (first
          | (go_at_call 21; refine (num_any _ _).mono ?_; rintro e w1 ⟨rfl, hw1⟩; obtain rfl := hw1.symm)
          | (go_at_call 22; refine (now_any _ _).mono ?_; rintro e w1 ⟨rfl, hw1⟩; obtain rfl := hw1.symm)
          | (go_at_call 19; refine hhas.mono ?_; rintro e w1 ⟨rfl, bel⟩
             have h1 := h.below bel; have c0 := h1.c0; have hlen := fun ty => h1.own.len Try.underlying51 ty; simp only [size_mapD] at hlen
             have hz : (1024 : Int) ≤ (L.length : Int) := by omega))
        go_ret
        exact ⟨rfl, h.below bel, Upd.ofBelow bel⟩
      · have e1 : grantE L id ttl now = 0 := by simp [grantE, ha, hl, hf]
        have e2 : grantL L id ttl now = insL ⟨id, ttl, now + ttl⟩ L := by simp [grantL, e1]
        rw [e1, e2]
        go_enter Try.func10, Try.ntmps10
        go_wp2_with (first
          | (go_at_call 21; refine (num_any _ _).mono ?_; rintro e w1 ⟨rfl, hw1⟩; obtain rfl := hw1.symm)
          | (go_at_call 22; refine (now_any _ _).mono ?_; rintro e w1 ⟨rfl, hw1⟩; obtain rfl := hw1.symm)
          | (go_at_call 19; refine hhas.mono ?_; rintro e w1 ⟨rfl, bel⟩
             have h1 := h.below bel; have c0 := h1.c0; have hlen := fun ty => h1.own.len Try.underlying51 ty; simp only [size_mapD] at hlen
             have hz : ¬ (1024 : Int) ≤ (L.length : Int) := by omega
             obtain ⟨w2, hst, ho2, hu2⟩ := store_run h1.own ⟨id, ttl, now + ttl⟩ hi few
             simp only [lsV] at hst
             have heq := eqlSome b w1))

        go_ret
        rw [del_none hn] at ho2
        refine ⟨rfl, h1.turn hu2 ho2 (up_ins h.up (look_none hn)) (fun l hl => ?_) (by rw [length_ins]; omega), (Upd.ofBelow bel).trans hu2 (fun _ _ e => e)⟩
        rcases mem_ins.1 hl with rfl | hl
        · exact ⟨i1, i2, t1, t2, by show 0 ≤ now + ttl; omega, by show now + ttl ≤ _; omega⟩
        · exact h.ok l hl
theorem revoke_any (B d b : Nat) (L : List Ls) (id : Int) (w : World) (h : Bk B w d b L) (hi : isI id) :
    Calls Try.prog 14 #[ptr d, .int .i64 id] w fun e w' => e = .returned (.int .i64 (revokeE L id)) ∧ Bk B w' d b (revokeL L id) ∧ Upd w w' (fun k => k = b) := by
  have hhas := has_any B d b L id w h hi
  cases hl : lookL id L with
  | none =>
    have e1 : revokeE L id = 2 := by simp [revokeE, hl]
    have e2 : revokeL L id = L := by unfold revokeL; exact del_none hl
    rw [e1, e2]
    rw [hl] at hhas
    simp only [Option.isSome_none] at hhas
    go_enter Try.func14, Try.ntmps14
    go_wp2_with (go_at_call 19; refine hhas.mono ?_; rintro e w1 ⟨rfl, bel⟩)
    go_ret
    exact ⟨rfl, h.below bel, Upd.ofBelow bel⟩
  | some l =>
    have e1 : revokeE L id = 0 := by simp [revokeE, hl]
    rw [e1]
    rw [hl] at hhas
    simp only [Option.isSome_some] at hhas
    go_enter Try.func14, Try.ntmps14
    go_wp2_with (go_at_call 19; refine hhas.mono ?_; rintro e w1 ⟨rfl, bel⟩
                 have h1 := h.below bel; have c0 := h1.c0
                 obtain ⟨w2, hst, ho2, hu2⟩ := strike_run h1.own hi 0)
    go_ret
    refine ⟨rfl, h1.turn hu2 ho2 (up_del h.up) (fun l hl => h.ok l (mem_del.1 hl).1) ?_, (Upd.ofBelow bel).trans hu2 (fun _ _ e => e)⟩
    have := length_del h.up hl
    have := h.few
    show (delL id L).length ≤ 1024
    omega
end Go.Proofs.Ytiffigjfjdplhaa
