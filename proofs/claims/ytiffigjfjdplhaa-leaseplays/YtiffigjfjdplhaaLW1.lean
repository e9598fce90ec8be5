/- A lease that is renewed ahead of its time is never over. -/
import Derived.Test.YtiffigjfjdplhaaLK
namespace Go.Proofs.Ytiffigjfjdplhaa
open Go Go.RowKit
/-- The book of one lease. -/
structure LL (w wq : World) (d b : Nat) (L : List Ls) : Prop where
  bk : Bk w.heap.size wq d b L
  bel : Below w.heap.size w wq
theorem LL.turn {w wq w' : World} {d b : Nat} {L L' : List Ls} (h : LL w wq d b L) (hb : Bk w.heap.size w' d b L') (hu : Upd wq w' (fun k => k = b)) : LL w w' d b L' :=
  ⟨hb, h.bel.trans (hu.below h.bel.size (fun k hk e => by have := h.bk.lob; omega))⟩
theorem LL.below {w wq w' : World} {d b : Nat} {L : List Ls} (h : LL w wq d b L) (hb : Below wq.heap.size wq w') : LL w w' d b L :=
  ⟨h.bk.below hb, h.bel.trans (hb.mono h.bel.size)⟩
theorem Bk.lower {B B' : Nat} {w : World} {d b : Nat} {L : List Ls} (h : Bk B w d b L) (hB : B' ≤ B) : Bk B' w d b L := ⟨h.c0, h.f0, h.own, h.up, h.ok, h.few, h.ne, Nat.le_trans hB h.lod, Nat.le_trans hB h.lob⟩
theorem new_ll (w wq : World) (hb : Below w.heap.size w wq) : Calls Try.prog 8 #[] wq fun e w' => ∃ d b, e = .returned (ptr d) ∧ LL w w' d b [] := by
  refine (new_any wq).mono ?_
  rintro e w' ⟨d, b, rfl, h, bel⟩
  exact ⟨d, b, rfl, h.lower hb.size, hb.trans (bel.mono hb.size)⟩
theorem grant_ll {w wq : World} {d b : Nat} {L : List Ls} (h : LL w wq d b L) (id ttl now : Int) (hi : isI id) : Calls Try.prog 10 #[ptr d, .int .i64 id, .int .i64 ttl, .int .i64 now] wq fun e w' => e = .returned (.int .i64 (grantE L id ttl now)) ∧ LL w w' d b (grantL L id ttl now) := by
  refine (grant_any _ d b L id ttl now wq h.bk hi).mono ?_
  rintro e w' ⟨rfl, hb, hu⟩
  exact ⟨rfl, h.turn hb hu⟩
theorem renew_ll {w wq : World} {d b : Nat} {L : List Ls} (h : LL w wq d b L) (id now : Int) (hi : isI id) : Calls Try.prog 12 #[ptr d, .int .i64 id, .int .i64 now] wq fun e w' => e = .returned (.int .i64 (renewE L id now)) ∧ LL w w' d b (renewL L id now) := by
  refine (renew_any _ d b L id now wq h.bk hi).mono ?_
  rintro e w' ⟨rfl, hb, hu⟩
  exact ⟨rfl, h.turn hb hu⟩
theorem revoke_ll {w wq : World} {d b : Nat} {L : List Ls} (h : LL w wq d b L) (id : Int) (hi : isI id) : Calls Try.prog 14 #[ptr d, .int .i64 id] wq fun e w' => e = .returned (.int .i64 (revokeE L id)) ∧ LL w w' d b (revokeL L id) := by
  refine (revoke_any _ d b L id wq h.bk hi).mono ?_
  rintro e w' ⟨rfl, hb, hu⟩
  exact ⟨rfl, h.turn hb hu⟩
theorem has_ll {w wq : World} {d b : Nat} {L : List Ls} (h : LL w wq d b L) (id : Int) (hi : isI id) : Calls Try.prog 19 #[ptr d, .int .i64 id] wq fun e w' => e = .returned (.bool (lookL id L).isSome) ∧ LL w w' d b L := by
  refine (has_any _ d b L id wq h.bk hi).mono ?_
  rintro e w' ⟨rfl, hb⟩
  exact ⟨rfl, h.below hb⟩
theorem over_ll {w wq : World} {d b : Nat} {L : List Ls} (h : LL w wq d b L) (now : Int) : Calls Try.prog 16 #[ptr d, .int .i64 now] wq fun e w' => ∃ p c, e = .returned (.slice p (overL L now).length c) ∧ w'.ownsRow wq.heap.size 3 1 (.slice p (overL L now).length c) (overL L now).length (ints (overL L now)) ∧ Below wq.heap.size wq w' := over_any _ d b L now wq h.bk
theorem one_over (T u now : Int) : overL [⟨9, T, u⟩] now = if u ≤ now then [9] else [] := by
  unfold overL
  by_cases h : u ≤ now <;> simp [h]
theorem one_renew (T u now : Int) (h0 : 0 ≤ now) (h1 : now ≤ 1099511627776) : renewE [⟨9, T, u⟩] 9 now = 0 ∧ renewL [⟨9, T, u⟩] 9 now = [⟨9, T, now + T⟩] := by
  have e : nowB now = true := by simp [nowB, h0, h1]
  constructor
  · simp [renewE, e, lookL]
  · simp [renewL, e, lookL, delL, insL]
theorem one_grant (T : Int) (h0 : 1 ≤ T) (h1 : T ≤ 2147483647) : grantE [] 9 T 5 = 0 ∧ grantL [] 9 T 5 = [⟨9, T, 5 + T⟩] := by
  have e : argB 9 T 5 = true := by simp [argB, numB, nowB, h0, h1]
  have e2 : grantE [] 9 T 5 = 0 := by simp [grantE, e, lookL]
  exact ⟨e2, by simp [grantL, e2, insL]⟩
theorem over0 {w wq : World} {d b : Nat} {T u now : Int} (h : LL w wq d b [⟨9, T, u⟩]) (hn : now < u) : Calls Try.prog 16 #[ptr d, .int .i64 now] wq fun e w' => ∃ p c, e = .returned (.slice p 0 c) ∧ LL w w' d b [⟨9, T, u⟩] := by
  have := over_ll h now
  rw [one_over, if_neg (by omega)] at this
  refine this.mono ?_
  rintro e w' ⟨p, c, rfl, _, hb⟩
  exact ⟨p, c, rfl, h.below hb⟩
theorem over1 {w wq : World} {d b : Nat} {T u now : Int} (h : LL w wq d b [⟨9, T, u⟩]) (hn : u ≤ now) : Calls Try.prog 16 #[ptr d, .int .i64 now] wq fun e w' => ∃ p c, e = .returned (.slice p 1 c) ∧ LL w w' d b [⟨9, T, u⟩] := by
  have := over_ll h now
  rw [one_over, if_pos (by omega)] at this
  refine this.mono ?_
  rintro e w' ⟨p, c, rfl, _, hb⟩
  exact ⟨p, c, rfl, h.below hb⟩
set_option maxRecDepth 20000 in
set_option maxHeartbeats 1000000 in
theorem leaseLives_walk (x : Int) (sv : Value) (zs : List Int) (w : World) (_hx : -9223372036854775808 ≤ x ∧ x ≤ 9223372036854775807) (hS : SeesI w sv zs) (_hl : zs.length ≤ 140737488355328) :
    Calls Try.prog 4 #[.int .i64 x, sv] w fun e w' => e = .returned (.bool true) ∧ Below w.heap.size w w' := by
  have hk := known_any w
  obtain ⟨t1, t2⟩ := withinF_bd x 1000 (by omega)
  obtain ⟨ao, cap, rfl⟩ := hS.form
  go_enter Try.func4, Try.ntmps4
  obtain ⟨u, hu⟩ : ∃ u, u = withinF x 1000 := ⟨_, rfl⟩
  have HUx := Hid.mk'' hu
  rw [← hu] at t1 t2
  go_wp2_with (first
    | (go_at_call 7; refine hk.mono ?_; rintro e w1 ⟨rfl, bel1⟩; have hn := new_ll w w1 bel1; clear hk)
    | (go_at_call 8; refine hn.mono ?_; rintro e w2 ⟨d, b, rfl, h2⟩; clear hn bel1)
    | (go_at_call 9; refine (within_any _ _ _ (by omega) (by omega)).mono ?_; rintro e w3 ⟨rfl, hw3⟩; obtain rfl := hw3.symm
       rw [← hu]
       have hg := grant_ll h2 9 (2 + u) 5 (by decide)
       obtain ⟨g1, g2⟩ := one_grant (2 + u) (by omega) (by omega)
       rw [g1, g2] at hg; clear g1 g2 hu h2)
    | (go_at_call 10; refine hg.mono ?_; rintro e w3 ⟨rfl, h3⟩; clear hg))
  have H3 := Hid.mk'' h3
  have hblk : Hid (∀ j, j < zs.length → ∃ bb off, ao = some ⟨bb, off, none⟩ ∧ bb < w.heap.size ∧ w.cell? ⟨bb, off + j, none⟩ = some (.int .i64 (zs.getD j 0))) := fun j hj => hS.at hj
  clear h3 hS
  go_loopg [6, 7] 41 (fun kx s6 s7 wq => ∃ (i : Nat) (now : Int), s6 = .int .i64 now ∧ s7 = .int .i64 i ∧ kx + i = 41 ∧ i ≤ 40 ∧ 5 ≤ now ∧ now ≤ 5 + 1002 * i ∧ Hid (LL w wq d b [⟨9, 2 + u, now + (2 + u)⟩]))
  case atStart => exact ⟨0, 5, rfl, rfl, rfl, by omega, by omega, by omega, H3.out⟩
  case round =>
    obtain ⟨i, now, rfl, rfl, hkx, hi, n1, n2, HM⟩ := hrel
    clear H3
    by_cases hlt : i < zs.length ∧ i < 40
    · obtain ⟨hlt, h40⟩ := hlt
      obtain ⟨bb, off, rfl, hbb, hcell⟩ := hblk.out i hlt
      have kcell := (HM.out.bel.cell (p := ⟨bb, off + i, none⟩) hbb).trans hcell
      obtain ⟨z, hz⟩ : ∃ z, z = zs.getD i 0 := ⟨_, rfl⟩
      rw [← hz] at kcell
      obtain ⟨s1, s2⟩ := withinF_bd z (2 + u) (by omega)
      obtain ⟨st, hst⟩ : ∃ st, st = withinF z (2 + u) := ⟨_, rfl⟩
      rw [← hst] at s1 s2
      have ho := over0 (now := now + st) HM.out (by omega)
      obtain ⟨r1, r2⟩ := one_renew (2 + u) (now + (2 + u)) (now + st) (by omega) (by omega)
      have HR : Hid (∀ w5, LL w w5 d b [⟨9, 2 + u, now + (2 + u)⟩] → Calls Try.prog 12 #[ptr d, .int .i64 9, .int .i64 (now + st)] w5 fun e w' => e = .returned (.int .i64 0) ∧ LL w w' d b [⟨9, 2 + u, now + st + (2 + u)⟩]) := fun w5 h5 => by
        have := renew_ll h5 9 (now + st) (by decide)
        rwa [r1, r2] at this
      have HZ := Hid.mk'' hst
      clear r1 r2 hcell hz hst
      go_wp2_with (first
        | (go_at_call 9; refine (within_any _ _ _ (by omega) (by omega)).mono ?_; rintro e w3 ⟨rfl, hw3⟩; obtain rfl := hw3.symm; rw [← HZ.out])
        | (go_at_call 16; refine ho.mono ?_; rintro e w5 ⟨p5, c5, rfl, h5⟩; have hr := HR.out w5 h5; clear ho h5)
        | (go_at_call 12; refine hr.mono ?_; rintro e w6 ⟨rfl, h6⟩; clear hr))
      go_roundg (40 - i)
      case measure => omega
      case rel => exact ⟨i + 1, now + st, rfl, by congr 1, by omega, by omega, by omega, by omega, h6⟩
    · have ho := over0 (now := now + (2 + u) - 1) HM.out (by omega)
      have HO1 : Hid (∀ w5, LL w w5 d b [⟨9, 2 + u, now + (2 + u)⟩] → Calls Try.prog 16 #[ptr d, .int .i64 (now + (2 + u))] w5 fun e w' => ∃ p c, e = .returned (.slice p 1 c) ∧ LL w w' d b [⟨9, 2 + u, now + (2 + u)⟩]) := fun w5 h5 => over1 h5 (Int.le_refl _)
      have HH : Hid (∀ w5, LL w w5 d b [⟨9, 2 + u, now + (2 + u)⟩] → Calls Try.prog 19 #[ptr d, .int .i64 9] w5 fun e w' => e = .returned (.bool true) ∧ LL w w' d b [⟨9, 2 + u, now + (2 + u)⟩]) := fun w5 h5 => by
        have := has_ll h5 9 (by decide)
        simpa [lookL] using this
      by_cases h1 : i < zs.length
      all_goals
        have h40 : ¬ (i < 40 ∧ i < zs.length) := fun h => hlt ⟨h.2, h.1⟩
        first | (have h2 : ¬ ((i : Int) < 40) := by omega) | skip
        clear hlt h40
        go_wp2_with (first
          | (go_at_call 16; refine ho.mono ?_; rintro e w5 ⟨p5, c5, rfl, h5⟩; have ho1 := HO1.out w5 h5; clear ho h5)
          | (go_at_call 16; refine ho1.mono ?_; rintro e w6 ⟨p6, c6, rfl, h6⟩; have hh := HH.out w6 h6; clear ho1 h6)
          | (go_at_call 19; refine hh.mono ?_; rintro e w7 ⟨rfl, h7⟩; clear hh))
        go_ret
        exact ⟨rfl, h7.bel⟩
end Go.Proofs.Ytiffigjfjdplhaa
