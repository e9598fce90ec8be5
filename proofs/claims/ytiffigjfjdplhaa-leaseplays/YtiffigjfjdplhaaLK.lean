/- Numbers that came in; the chapter's example. -/
import Derived.Test.YtiffigjfjdplhaaLA
namespace Go.Proofs.Ytiffigjfjdplhaa
open Go Go.RowKit
theorem ret_int {k : IntKind} {a b : Int} (h : a = b) : Ending.returned (.int k a) = .returned (.int k b) := by rw [h]

def SeesI (w : World) (v : Value) (zs : List Int) : Prop :=
  (zs = [] ∧ ∃ ao cap, v = .slice ao 0 cap) ∨ ∃ b off cap, v = .slice (some ⟨b, off, none⟩) zs.length cap ∧ 0 < zs.length ∧ b < w.heap.size ∧ ∀ i, i < zs.length → w.cell? ⟨b, off + i, none⟩ = some (.int .i64 (zs.getD i 0))
def SeesT (w : World) (v : Value) (zs : List Bool) : Prop :=
  (zs = [] ∧ ∃ ao cap, v = .slice ao 0 cap) ∨ ∃ b off cap, v = .slice (some ⟨b, off, none⟩) zs.length cap ∧ 0 < zs.length ∧ b < w.heap.size ∧ ∀ i, i < zs.length → w.cell? ⟨b, off + i, none⟩ = some (.bool (zs.getD i false))
theorem SeesI.form {w : World} {v : Value} {zs : List Int} (h : SeesI w v zs) : ∃ ao cap, v = .slice ao zs.length cap := by
  rcases h with ⟨rfl, ao, cap, rfl⟩ | ⟨b, off, cap, rfl, _⟩ <;> exact ⟨_, _, rfl⟩
theorem SeesT.form {w : World} {v : Value} {zs : List Bool} (h : SeesT w v zs) : ∃ ao cap, v = .slice ao zs.length cap := by
  rcases h with ⟨rfl, ao, cap, rfl⟩ | ⟨b, off, cap, rfl, _⟩ <;> exact ⟨_, _, rfl⟩
theorem SeesI.at {w : World} {a : Option Addr} {cap : Nat} {zs : List Int} (h : SeesI w (.slice a zs.length cap) zs) {j : Nat} (hj : j < zs.length) : ∃ b off, a = some ⟨b, off, none⟩ ∧ b < w.heap.size ∧ w.cell? ⟨b, off + j, none⟩ = some (.int .i64 (zs.getD j 0)) := by
  rcases h with ⟨h, _⟩ | ⟨b, off, c, he, _, hb, hc⟩
  · subst h; simp at hj
  · cases he; exact ⟨b, off, rfl, hb, hc j hj⟩
theorem SeesT.at {w : World} {a : Option Addr} {cap : Nat} {zs : List Bool} (h : SeesT w (.slice a zs.length cap) zs) {j : Nat} (hj : j < zs.length) : ∃ b off, a = some ⟨b, off, none⟩ ∧ b < w.heap.size ∧ w.cell? ⟨b, off + j, none⟩ = some (.bool (zs.getD j false)) := by
  rcases h with ⟨h, _⟩ | ⟨b, off, c, he, _, hb, hc⟩
  · subst h; simp at hj
  · cases he; exact ⟨b, off, rfl, hb, hc j hj⟩
def withinF (a n : Int) : Int := if a.tmod n < 0 then a.tmod n + n else a.tmod n
theorem withinF_bd (a n : Int) (hn : 0 < n) : 0 ≤ withinF a n ∧ withinF a n < n := by
  have h1 := Int.lt_tmod_of_pos a (b := n) hn
  have h2 := Int.tmod_lt_of_pos a (b := n) hn
  unfold withinF
  split <;> omega
theorem withinF_nat (a : Nat) (n : Nat) : withinF a n = ((a % n : Nat) : Int) := by
  have h : ((a : Int).tmod (n : Int)) = ((a % n : Nat) : Int) := by rw [Int.ofNat_tmod]
  unfold withinF
  rw [h, if_neg (by omega)]
set_option maxHeartbeats 1000000 in
theorem within_any (a n : Int) (w : World) (hn : 0 < n) (hm : n ≤ 1000000000000000) :
    Calls Try.prog 9 #[.int .i64 a, .int .i64 n] w fun e w' => e = .returned (.int .i64 (withinF a n)) ∧ w' = w := by
  have h1 := Int.lt_tmod_of_pos a (b := n) hn
  have h2 := Int.tmod_lt_of_pos a (b := n) hn
  have hn0 : (n == 0) = false := by simp; omega
  by_cases h : a.tmod n < 0
  · have HW : Hid (withinF a n = a.tmod n + n) := by show _ = _; rw [withinF, if_pos h]
    go_enter Try.func9, Try.ntmps9
    go_wp2
    go_ret
    exact ⟨ret_int HW.out.symm, rfl⟩
  · have HW : Hid (withinF a n = a.tmod n) := by show _ = _; rw [withinF, if_neg h]
    go_enter Try.func9, Try.ntmps9
    go_wp2
    go_ret
    exact ⟨ret_int HW.out.symm, rfl⟩
/-- A book of one lease. -/
theorem over_len {B d b : Nat} {L : List Ls} {w : World} (h : Bk B w d b L) (now : Int) (n : Nat) (hn : (overL L now).length = n) :
    Calls Try.prog 16 #[ptr d, .int .i64 now] w fun e w' => ∃ p c, e = .returned (.slice p n c) ∧ w'.ownsRow w.heap.size 3 1 (.slice p n c) n (ints (overL L now)) ∧ Below w.heap.size w w' := by
  have := over_any B d b L now w h
  rwa [hn] at this
theorem neqP (w : World) (d : Nat) : (binOp .neq 24 (ptr d) (.pointer none)).run Try.prog w = .ok (.bool true) w := by kernel_rfl
set_option maxRecDepth 20000 in
set_option maxHeartbeats 1000000 in
theorem known_any (w : World) : Calls Try.prog 7 #[] w fun e w' => e = .returned (.bool true) ∧ Below w.heap.size w w' := by
  have hnew := new_any w
  have heq := neqP
  go_enter Try.func7, Try.ntmps7
  go_wp2_with (first
    | (go_at_call 8; refine hnew.mono ?_; rintro e w1 ⟨d, b, rfl, h1, bel1⟩
       have hg := grant_any _ d b [] 1 5 10 w1 h1 (by decide)
       have e1 : grantE [] 1 5 10 = 0 := by decide
       have e2 : grantL [] 1 5 10 = [⟨1, 5, 15⟩] := by simp [grantL, e1, insL]
       rw [e1, e2] at hg
       have HB := Hid.mk'' bel1
       clear h1 bel1 hnew e1 e2)
    | (go_at_call 10; refine hg.mono ?_; rintro e w2 ⟨rfl, h2, hu2⟩
       have ho := over_len h2 14 0 (by decide)
       have HB2 : Hid (Below w.heap.size w w2) := HB.out.trans (hu2.below HB.out.size (fun k hk e => by have := h2.lob; omega))
       clear hu2)
    | (go_at_call 16; refine ho.mono ?_; rintro e w3 ⟨p3, c3, rfl, _, bel3⟩
       have h3 := h2.below bel3
       have ho3 := over_len h3 15 1 (by decide)
       have HB3 : Hid (Below w.heap.size w w3) := HB2.out.trans (bel3.mono HB2.out.size)
       clear ho bel3 h2)
    | (go_at_call 16; refine ho3.mono ?_; rintro e w4 ⟨p4, c4, rfl, _, bel4⟩))
  go_ret
  exact ⟨rfl, HB3.out.trans (bel4.mono HB3.out.size)⟩
end Go.Proofs.Ytiffigjfjdplhaa
