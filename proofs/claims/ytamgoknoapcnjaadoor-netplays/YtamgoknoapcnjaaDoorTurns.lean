/- The walk of PenTurns: whatever the bytes, the places and the turns, it returns true and turns nothing that was there. -/
import Derived.Test.YtamgoknoapcnjaaDoorRefUnframe
import Derived.Deep.RegionHeld3
namespace Go.Proofs.YtamgoknoapcnjaaDoor
open Go Go.RowKit
def withinF (a n : Int) : Int := if a.tmod n < 0 then a.tmod n + n else a.tmod n
theorem withinF_bd (a : Int) (n : Nat) (hn : 0 < n) : 0 ≤ withinF a n ∧ withinF a n < n := by
  have h1 := Int.lt_tmod_of_pos a (b := n) (by omega)
  have h2 := Int.tmod_lt_of_pos a (b := n) (by omega)
  unfold withinF
  split <;> omega
set_option maxRecDepth 100000 in
set_option maxHeartbeats 400000 in
theorem within_any (a : Int) (n : Nat) (w : World) (hn : 0 < n) (hm : n ≤ 1000000) :
    Calls Tryd.prog 16 #[.int .i64 a, .int .i64 n] w fun e w' => e = .returned (.int .i64 (withinF a n)) ∧ w' = w := by
  have h1 := Int.lt_tmod_of_pos a (b := n) (by omega)
  have h2 := Int.tmod_lt_of_pos a (b := n) (by omega)
  have hn0 : ((n : Int) == 0) = false := by simp; omega
  by_cases h : a.tmod n < 0
  · have HW : Hid (withinF a n = a.tmod n + n) := by show _ = _; rw [withinF, if_pos h]
    go_enter Tryd.func16, Tryd.ntmps16
    go_wp2
    go_ret
    exact ⟨ret_int HW.out.symm, rfl⟩
  · have HW : Hid (withinF a n = a.tmod n) := by show _ = _; rw [withinF, if_neg h]
    go_enter Tryd.func16, Tryd.ntmps16
    go_wp2
    go_ret
    exact ⟨ret_int HW.out.symm, rfl⟩
theorem frameB_len (zs : List Int) : (frameB zs).length = zs.length + 8 := by simp [frameB, be_len]; omega
theorem frameB_isB {zs : List Int} (hb : isB zs) (hl : zs.length ≤ 100000) : isB (frameB zs) := by
  have hc := crc_lt zs
  have h1 := be_isB zs.length (by omega) (by omega)
  have h2 := be_isB (crc zs : Nat) (by omega) (by omega)
  intro x hx
  simp only [frameB, List.mem_append] at hx
  rcases hx with hx | hx | hx
  · exact h1 x (List.mem_of_mem_drop hx)
  · exact h2 x (List.mem_of_mem_drop hx)
  · exact hb x hx
theorem seesI_at {w : World} {a : Option Addr} {cap : Nat} {ks : List Int} (h : SeesI w (.slice a ks.length cap) ks) {j : Nat} (hj : j < ks.length) :
    ∃ b off, a = some ⟨b, off, none⟩ ∧ b < w.heap.size ∧ w.cell? ⟨b, off + j, none⟩ = some (.int .i64 (ks.getD j 0)) := by
  rcases h with ⟨h, _⟩ | ⟨b, off, c, he, _, hb, hc⟩
  · subst h; simp at hj
  · cases he; exact ⟨b, off, rfl, hb, hc j hj⟩
theorem sees_at {w : World} {a : Option Addr} {cap : Nat} {ks : List Int} (h : Sees w (.slice a ks.length cap) ks) {j : Nat} (hj : j < ks.length) :
    ∃ b off, a = some ⟨b, off, none⟩ ∧ b < w.heap.size ∧ w.cell? ⟨b, off + j, none⟩ = some (.int .u8 (ks.getD j 0)) := by
  rcases h with ⟨h, _⟩ | ⟨b, off, c, he, _, _, _, hc⟩
  · subst h; simp at hj
  · cases he; exact ⟨b, off, rfl, World.block_lt_of_cell? _ _ (hc j hj), hc j hj⟩
theorem sees_in {B N : Nat} {w w' : World} {v : Value} {ys : List Int} (h1 : ys.length = N) (h : w.ownsRow B 5 1 v N (u8s ys)) (hb : Below w.heap.size w w') : Sees w' v ys := by
  subst h1; exact (sees_own h).below hb
end Go.Proofs.YtamgoknoapcnjaaDoor
