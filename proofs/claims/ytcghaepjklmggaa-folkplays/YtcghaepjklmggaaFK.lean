/- A table and what is below; the chapter's example; numbers that came in. -/
import Derived.Test.YtcghaepjklmggaaFA
namespace Go.Proofs.Ytcghaepjklmggaa
open Go Go.RowKit
theorem ret_int {k : IntKind} {a b : Int} (h : a = b) : Ending.returned (.int k a) = .returned (.int k b) := by rw [h]
def SeesI (w : World) (v : Value) (zs : List Int) : Prop :=
  (zs = [] ∧ ∃ ao cap, v = .slice ao 0 cap) ∨ ∃ b off cap, v = .slice (some ⟨b, off, none⟩) zs.length cap ∧ 0 < zs.length ∧ b < w.heap.size ∧ ∀ i, i < zs.length → w.cell? ⟨b, off + i, none⟩ = some (.int .i64 (zs.getD i 0))
theorem SeesI.form {w : World} {v : Value} {zs : List Int} (h : SeesI w v zs) : ∃ ao cap, v = .slice ao zs.length cap := by
  rcases h with ⟨rfl, ao, cap, rfl⟩ | ⟨b, off, cap, rfl, _⟩ <;> exact ⟨_, _, rfl⟩
theorem SeesI.at {w : World} {a : Option Addr} {cap : Nat} {zs : List Int} (h : SeesI w (.slice a zs.length cap) zs) {j : Nat} (hj : j < zs.length) : ∃ b off, a = some ⟨b, off, none⟩ ∧ b < w.heap.size ∧ w.cell? ⟨b, off + j, none⟩ = some (.int .i64 (zs.getD j 0)) := by
  rcases h with ⟨h, _⟩ | ⟨b, off, c, he, _, hb, hc⟩
  · subst h; simp at hj
  · cases he; exact ⟨b, off, rfl, hb, hc j hj⟩
def withinF (a n : Int) : Int := if a.tmod n < 0 then a.tmod n + n else a.tmod n
theorem withinF_bd (a n : Int) (hn : 0 < n) : 0 ≤ withinF a n ∧ withinF a n < n := by
  have h1 := Int.lt_tmod_of_pos a (b := n) hn
  have h2 := Int.tmod_lt_of_pos a (b := n) hn
  unfold withinF
  split <;> omega
set_option maxHeartbeats 1000000 in
theorem within_any (a n : Int) (w : World) (hn : 0 < n) (hm : n ≤ 1000000000000000) :
    Calls Try.prog 14 #[.int .i64 a, .int .i64 n] w fun e w' => e = .returned (.int .i64 (withinF a n)) ∧ w' = w := by
  have h1 := Int.lt_tmod_of_pos a (b := n) hn
  have h2 := Int.tmod_lt_of_pos a (b := n) hn
  have hn0 : (n == 0) = false := by simp; omega
  by_cases h : a.tmod n < 0
  · have HW : Hid (withinF a n = a.tmod n + n) := by show _ = _; rw [withinF, if_pos h]
    go_enter Try.func14, Try.ntmps14
    go_wp2
    go_ret
    exact ⟨ret_int HW.out.symm, rfl⟩
  · have HW : Hid (withinF a n = a.tmod n) := by show _ = _; rw [withinF, if_neg h]
    go_enter Try.func14, Try.ntmps14
    go_wp2
    go_ret
    exact ⟨ret_int HW.out.symm, rfl⟩
/-- A table, and all that was there ahead of it. -/
structure TL (w wq : World) (d b : Nat) (A : List Ro) : Prop where
  tb : ∃ f, Tb (fun k => k ≠ b) w.heap.size wq d b A f
  bel : Below w.heap.size w wq
variable {w wq w' : World} {d b : Nat} {A : List Ro}
theorem TL.below (h : TL w wq d b A) (hb : Below wq.heap.size wq w') : TL w w' d b A := by
  obtain ⟨f, hf⟩ := h.tb
  exact ⟨⟨f, hf.below hb⟩, h.bel.trans (hb.mono h.bel.size)⟩
theorem new_tl (w wq : World) (hb : Below w.heap.size w wq) : Calls Try.prog 7 #[] wq fun e w' => ∃ d b, e = .returned (ptr d) ∧ TL w w' d b [] := by
  refine (new_any wq).mono ?_
  rintro e w' ⟨d, b, rfl, h, bel, _, _⟩
  have h0 := h (fun k => k ≠ b) (fun h => h rfl) (fun _ => .slice none 0 0)
  exact ⟨d, b, rfl, ⟨_, ⟨h0.c0, h0.own, h0.up, h0.ok, h0.few, h0.res, h0.ne, Nat.le_trans hb.size h0.lod, Nat.le_trans hb.size h0.lob, h0.nz⟩⟩, hb.trans (bel.mono hb.size)⟩
theorem ask_tl (h : TL w wq d b A) (c s : Int) (hc : isI c) {rp : Rp} {rs : List Rs} {bo : Bool} (he : askA A c s = (rp, rs, bo)) :
    Calls Try.prog 8 #[ptr d, .int .i64 c, .int .i64 s] wq fun e w' => ∃ p cc, e = .returned (.tuple #[repV rp (.slice p rs.length cc), .bool bo]) ∧ TL w w' d b A ∧ Below wq.heap.size wq w' := by
  obtain ⟨f, hf⟩ := h.tb
  refine (ask_any c s wq hf hc).mono ?_
  rintro e w' ⟨v, rfl, hr, hb⟩
  rw [he] at hr ⊢
  obtain ⟨p, cc, rfl, _⟩ := hr
  exact ⟨p, cc, rfl, h.below hb, hb⟩
theorem note_tl (h : TL w wq d b A) (c s : Int) (hc : isI c) (rp : Rp) {A' : List Ro} (he : noteA A c s rp [] = A') :
    Calls Try.prog 11 #[ptr d, .int .i64 c, .int .i64 s, repV rp (.slice none 0 0)] wq fun e w' => e = .returned (.tuple #[]) ∧ TL w w' d b A' := by
  obtain ⟨f, hf⟩ := h.tb
  refine (note_any (Z' := fun _ => True) c s rp [] (.slice none 0 0) wq hf hc (RSs.nil _ _) (by simp) (fun k hk e => by have := hf.ltb; omega)).mono ?_
  rintro e w' ⟨rfl, hT, hu⟩
  rw [he] at hT
  exact ⟨rfl, hT, h.bel.trans (hu.below h.bel.size (fun k hk e => by have := hf.lob; omega))⟩
theorem all_tl (h : TL w wq d b A) : Calls Try.prog 13 #[ptr d] wq fun e w' => ∃ p c g, e = .returned (.slice p A.length c) ∧ w'.ownsRow wq.heap.size 43 7 (.slice p A.length c) A.length (roC g A) ∧ TL w w' d b A := by
  obtain ⟨f, hf⟩ := h.tb
  refine (all_any wq hf).mono ?_
  rintro e w' ⟨p, c, g, rfl, hr, _, hb⟩
  exact ⟨p, c, g, rfl, hr, h.below hb⟩
theorem eqlP (w : World) (d : Nat) : (binOp .eql 24 (ptr d) (.pointer none)).run Try.prog w = .ok (.bool false) w := by kernel_rfl
abbrev rpR (n : Int) : Rp := ⟨0, n, false, 0⟩
set_option maxRecDepth 20000 in
set_option maxHeartbeats 1000000 in
theorem known_any (w : World) : Calls Try.prog 6 #[] w fun e w' => e = .returned (.bool true) ∧ Below w.heap.size w w' := by
  have hnew := new_tl w w (Below.refl _ _)
  have heq := eqlP
  go_enter Try.func6, Try.ntmps6
  go_wp2_with (first
    | (go_at_call 7; refine hnew.mono ?_; rintro e w1 ⟨d, b, rfl, h1⟩
       have hg := note_tl h1 3 5 (by decide) (rpR 7) (A' := [⟨3, 5, rpR 7, []⟩]) (by simp [noteA, askA, lookL, delL, insL])
       clear h1 hnew)
    | (go_at_call 11; refine hg.mono ?_; rintro e w2 ⟨rfl, h2⟩
       have ha := ask_tl h2 3 5 (by decide) (rp := rpR 7) (rs := []) (bo := false) (by simp [askA, lookL])
       clear hg h2)
    | (go_at_call 8; refine ha.mono ?_; rintro e w3 ⟨p3, c3, rfl, h3, _⟩
       have hb0 : Below w3.heap.size w3 (w3.alloc (.cells #[.int .i64 0, .int .i64 7, .bool false, .slice p3 0 c3, .int .i64 0] 33)) := (Below.refl _ _).alloc (Nat.le_refl _) _
       have hb := ask_tl (h3.below hb0) 3 4 (by decide) (rp := rpE 24) (rs := []) (bo := false) (by simp [askA, lookL])
       have a1 : (w3.alloc (.cells #[.int .i64 0, .int .i64 7, .bool false, .slice p3 0 c3, .int .i64 0] 33)).cell? ⟨w3.heap.size, 1, none⟩ = some (.int .i64 7) := by simp
       have l1 : w3.heap.size < (w3.alloc (.cells #[.int .i64 0, .int .i64 7, .bool false, .slice p3 0 c3, .int .i64 0] 33)).heap.size := by simp
       clear ha h3 hb0)
    | (go_at_call 8; refine hb.mono ?_; rintro e w4 ⟨p4, c4, rfl, h4, bel4⟩
       have hb1 : Below w4.heap.size w4 (w4.alloc (.cells #[.int .i64 24, .int .i64 0, .bool false, .slice p4 0 c4, .int .i64 0] 33)) := (Below.refl _ _).alloc (Nat.le_refl _) _
       have hc := ask_tl (h4.below hb1) 3 9 (by decide) (rp := rp0) (rs := []) (bo := true) (by simp [askA, lookL])
       have a2 := (hb1.cell (p := ⟨w3.heap.size, 1, none⟩) (Nat.lt_of_lt_of_le l1 bel4.size)).trans ((bel4.cell (p := ⟨w3.heap.size, 1, none⟩) l1).trans a1)
       have l2 : w3.heap.size < (w4.alloc (.cells #[.int .i64 24, .int .i64 0, .bool false, .slice p4 0 c4, .int .i64 0] 33)).heap.size := Nat.lt_of_lt_of_le l1 (Nat.le_trans bel4.size hb1.size)
       have a3 : (w4.alloc (.cells #[.int .i64 24, .int .i64 0, .bool false, .slice p4 0 c4, .int .i64 0] 33)).cell? ⟨w4.heap.size, 0, none⟩ = some (.int .i64 24) := by simp
       have l3 : w4.heap.size < (w4.alloc (.cells #[.int .i64 24, .int .i64 0, .bool false, .slice p4 0 c4, .int .i64 0] 33)).heap.size := by simp
       have A2 := Hid.mk'' a2; have A3 := Hid.mk'' a3; have L2 := Hid.mk'' l2; have L3 := Hid.mk'' l3
       clear hb h4 hb1 a1 l1 bel4 a2 a3 l2 l3)
    | (go_at_call 8; refine hc.mono ?_; rintro e w5 ⟨p5, c5, rfl, h5, bel5⟩
       have b2 := (bel5.cell (p := ⟨w3.heap.size, 1, none⟩) L2.out).trans A2.out
       have b3 := (bel5.cell (p := ⟨w4.heap.size, 0, none⟩) L3.out).trans A3.out
       have m2 : w3.heap.size < w5.heap.size := Nat.lt_of_lt_of_le L2.out bel5.size
       have m3 : w4.heap.size < w5.heap.size := Nat.lt_of_lt_of_le L3.out bel5.size
       have HB5 := Hid.mk'' h5.bel
       clear hc h5 bel5))
  go_ret
  exact ⟨rfl, HB5.out.alloc HB5.out.size _⟩
end Go.Proofs.Ytcghaepjklmggaa
