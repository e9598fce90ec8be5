/- lastPut of the past. -/
import Derived.Test.YteeflkkoifgcbaaMK3
namespace Go.Proofs.Yteeflkkoifgcbaa
open Go Go.RowKit

def tlen (ms : List Mk) (r : Int) : Nat := (ms.takeWhile fun m => decide (m.1 ≤ r)).length
theorem tlen_le (ms : List Mk) (r : Int) : tlen ms r ≤ ms.length := (List.takeWhile_prefix _).length_le
theorem tlen_lt {r : Int} : ∀ {ms : List Mk} {k : Nat} {m : Mk}, k < tlen ms r → ms[k]? = some m → m.1 ≤ r
  | [], _, _, _, h => by simp at h
  | x :: ms, k, m, hk, h => by
    unfold tlen at hk
    rw [List.takeWhile_cons] at hk
    by_cases hx : x.1 ≤ r
    · rw [if_pos (decide_eq_true hx)] at hk
      cases k with
      | zero => obtain rfl : x = m := by simpa using h
                exact hx
      | succ k => exact tlen_lt (ms := ms) (k := k) (by simpa [tlen] using hk) (by simpa using h)
    · rw [if_neg (by simp [hx])] at hk
      simp at hk
theorem tlen_ge {r : Int} : ∀ {ms : List Mk} {k : Nat} {m : Mk}, MAsc ms → tlen ms r ≤ k → ms[k]? = some m → r < m.1
  | [], _, _, _, _, h => by simp at h
  | x :: ms, k, m, hs, hk, h => by
    obtain ⟨h1, h2⟩ := List.pairwise_cons.1 hs
    unfold tlen at hk
    rw [List.takeWhile_cons] at hk
    by_cases hx : x.1 ≤ r
    · rw [if_pos (decide_eq_true hx)] at hk
      cases k with
      | zero => simp at hk
      | succ k => exact tlen_ge (ms := ms) (k := k) h2 (by simpa [tlen] using hk) (by simpa using h)
    · cases k with
      | zero => obtain rfl : x = m := by simpa using h
                omega
      | succ k =>
        have := h1 m (List.mem_of_getElem? (i := k) (by simpa using h))
        omega
/-- Marks in a row of cells. -/
def MksAt (w : World) (g : Nat) (ms : List Mk) : Prop := ∀ j m, ms[j]? = some m → w.cell? ⟨g, j * 2, none⟩ = some (.int .i64 m.1) ∧ w.cell? ⟨g, j * 2 + 1, none⟩ = some (.bool m.2)
theorem MksAt.below {w w' : World} {g : Nat} {ms : List Mk} (h : MksAt w g ms) (hb : Below w.heap.size w w') : MksAt w' g ms := fun j it hj => by
  obtain ⟨h1, h2⟩ := h j it hj
  exact ⟨(hb.cell (p := ⟨g, j * 2, none⟩) (World.block_lt_of_cell? _ _ h1)).trans h1, (hb.cell (p := ⟨g, j * 2 + 1, none⟩) (World.block_lt_of_cell? _ _ h2)).trans h2⟩
theorem below_drewQ {B : Nat} {w W : World} (h : Below B w W) : ∀ n, Below B w (W.drewN n)
  | 0 => h
  | n + 1 => (below_drewQ h n).drew
set_option maxRecDepth 100000 in
set_option maxHeartbeats 400000 in
theorem behind_any (a q g c : Nat) (ms : List Mk) (r : Int) (w : World) (ha : w.cell? ⟨a, 0, none⟩ = some (.slice (some ⟨g, 0, none⟩) ms.length c)) (hq : w.cell? ⟨q, 0, none⟩ = some (.int .i64 r)) (i : Nat) (m : Mk) (hm : ms[i]? = some m) (hc : MksAt w g ms) :
    Calls Try.prog 43 #[.int .i64 i, ptr a, ptr q] w fun e w' => e = .returned (.bool (decide (r < m.1))) ∧ Below w.heap.size w w' := by
  obtain ⟨c1, -⟩ := hc i m hm
  have hi := (List.getElem?_eq_some_iff.1 hm).1
  have HB : ∀ q, Hid (Below w.heap.size w (w.drewN q)) := fun q => below_drewQ (Below.refl _ _) q
  clear hc hm
  go_enter Try.func43, Try.ntmps43
  go_wp2
  go_quiet (fail)
  go_wp2
  go_ret
  exact ⟨rfl, (HB _).out⟩
set_option maxRecDepth 100000 in
set_option maxHeartbeats 1000000 in
theorem ssearch_any (a q g c : Nat) (ms : List Mk) (r : Int) (w : World) (ha : w.cell? ⟨a, 0, none⟩ = some (.slice (some ⟨g, 0, none⟩) ms.length c)) (hq : w.cell? ⟨q, 0, none⟩ = some (.int .i64 r)) (hc : MksAt w g ms) (hs : MAsc ms) (hn : ms.length ≤ 1000000) :
    Calls Try.prog 42 #[.int .i64 ms.length, .func (.func 43) #[] #[ptr a, ptr q]] w fun e w' => e = .returned (.int .i64 (tlen ms r)) ∧ Below w.heap.size w w' := by
  have HF : Hid (∀ (W : World) (i : Nat) (m : Mk), Below w.heap.size w W → ms[i]? = some m → Calls Try.prog 43 #[.int .i64 i, ptr a, ptr q] W fun e w' => e = .returned (.bool (decide (r < m.1))) ∧ Below W.heap.size W w') := fun W i m hb hm =>
    behind_any a q g c ms r W ((hb.cell (p := ⟨a, 0, none⟩) (World.block_lt_of_cell? _ _ ha)).trans ha) ((hb.cell (p := ⟨q, 0, none⟩) (World.block_lt_of_cell? _ _ hq)).trans hq) i m hm (hc.below hb)
  have HS := Hid.mk'' hs
  have hp := tlen_le ms r
  clear hs hc ha hq
  go_enter Try.func42, Try.ntmps42
  go_wp2
  go_loopw [5, 6] (fun x y W => ∃ i j : Nat, x = .int .i64 i ∧ y = .int .i64 j ∧ i ≤ tlen ms r ∧ tlen ms r ≤ j ∧ j ≤ ms.length ∧ Below w.heap.size w W) (fun x y _ => (intOf y).toNat - (intOf x).toNat)
  case atStart => exact ⟨0, ms.length, rfl, rfl, Nat.zero_le _, hp, Nat.le_refl _, Below.refl _ _⟩
  case round =>
    obtain ⟨i, j, rfl, rfl, h1, h2, h3, hb⟩ := hrel
    by_cases hij : i < j
    · obtain ⟨m, hit⟩ : ∃ m, ms[(i + j) / 2]? = some m := ⟨_, List.getElem?_eq_getElem (by omega)⟩
      have hci := HF.out wr ((i + j) / 2) m hb hit
      have HI : Hid (ms[(i + j) / 2]? = some m) := hit
      clear hit
      by_cases hk : r < m.1
      · rw [decide_eq_true hk] at hci
        have HK := Hid.mk'' hk
        clear hk
        go_wp2_with (go_at_call 43; refine hci.mono ?_; rintro e w' ⟨rfl, hb'⟩)
        go_roundw
        case rel =>
          refine ⟨i, (i + j) / 2, rfl, rfl, h1, ?_, by omega, hb.trans (hb'.mono hb.size)⟩
          refine Nat.le_of_not_lt fun hlt => ?_
          have h1 := tlen_lt hlt HI.out
          have h2 := HK.out
          omega
        case measure => simp [intOf]; omega
      · rw [decide_eq_false hk] at hci
        have HK := Hid.mk'' hk
        clear hk
        go_wp2_with (go_at_call 43; refine hci.mono ?_; rintro e w' ⟨rfl, hb'⟩)
        go_roundw
        case rel =>
          refine ⟨(i + j) / 2 + 1, j, by go_num, rfl, ?_, h2, h3, hb.trans (hb'.mono hb.size)⟩
          refine Nat.le_of_not_lt fun hlt => ?_
          have := tlen_ge (r := r) HS.out (by omega) HI.out
          have := HK.out
          omega
        case measure => simp [intOf]; omega
    · obtain rfl : i = tlen ms r := by omega
      have hb9 := Hid.mk'' hb
      go_wp2
      go_ret
      exact ⟨rfl, hb9.out⟩
end Go.Proofs.Yteeflkkoifgcbaa
