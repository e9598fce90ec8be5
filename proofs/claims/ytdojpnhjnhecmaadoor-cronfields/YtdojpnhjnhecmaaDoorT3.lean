/- An expression's text. -/
import Derived.Test.YtdojpnhjnhecmaaDoorT21
import Derived.Test.YtdojpnhjnhecmaaDoorT22
import Derived.Test.YtdojpnhjnhecmaaDoorT23
import Derived.Test.YtdojpnhjnhecmaaDoorT24
import Derived.Test.YtdojpnhjnhecmaaDoorS1
import Derived.Deep.RegionHeldLaw
namespace Go.Proofs.YtdojpnhjnhecmaaDoor
open Go Go.RowKit
theorem field_any (f : Nat) (hf : f < 5) (x : Nat) (hx : x < 1152921504606846976) (b : Bool) (w : World) (hT : HasT w) :
    Calls Tryd.prog 30 #[.int .i64 f, .int .u64 x, .bool b] w fun e w' => e = .returned (.string ⟨(fieldB f x b).toArray⟩) ∧ Below w.heap.size w w' := by
  cases b with
  | true => exact field_star f x w
  | false =>
    rcases f5 hf with rfl | rfl | rfl | rfl | rfl
    · exact field_0 x hx w hT
    · exact field_1 x hx w hT
    · exact field_2 x hx w hT
    · exact field_3 x hx w hT
    · exact field_4 x hx w hT
theorem ts_below {e : Exp} {w W W' : World} (h : (W.cell? ⟨w.heap.size, 0, none⟩ = some (.int .u64 e.mi) ∧ W.cell? ⟨w.heap.size, 1, none⟩ = some (.int .u64 e.ho) ∧ W.cell? ⟨w.heap.size, 2, none⟩ = some (.int .u64 e.da) ∧ W.cell? ⟨w.heap.size, 3, none⟩ = some (.int .u64 e.mo) ∧ W.cell? ⟨w.heap.size, 4, none⟩ = some (.int .u64 e.wk) ∧ W.cell? ⟨w.heap.size, 5, none⟩ = some (.bool e.ad) ∧ W.cell? ⟨w.heap.size, 6, none⟩ = some (.bool e.aw) ∧ Hid (Below w.heap.size w W ∧ w.heap.size < W.heap.size ∧ HasT W))) (hb : Below W.heap.size W W') : (W'.cell? ⟨w.heap.size, 0, none⟩ = some (.int .u64 e.mi) ∧ W'.cell? ⟨w.heap.size, 1, none⟩ = some (.int .u64 e.ho) ∧ W'.cell? ⟨w.heap.size, 2, none⟩ = some (.int .u64 e.da) ∧ W'.cell? ⟨w.heap.size, 3, none⟩ = some (.int .u64 e.mo) ∧ W'.cell? ⟨w.heap.size, 4, none⟩ = some (.int .u64 e.wk) ∧ W'.cell? ⟨w.heap.size, 5, none⟩ = some (.bool e.ad) ∧ W'.cell? ⟨w.heap.size, 6, none⟩ = some (.bool e.aw) ∧ Hid (Below w.heap.size w W' ∧ w.heap.size < W'.heap.size ∧ HasT W')) := by
  obtain ⟨h0, h1, h2, h3, h4, h5, h6, H⟩ := h
  obtain ⟨g1, g2, g3⟩ := H
  exact ⟨(hb.cell (p := ⟨w.heap.size, 0, none⟩) g2).trans h0, (hb.cell (p := ⟨w.heap.size, 1, none⟩) g2).trans h1, (hb.cell (p := ⟨w.heap.size, 2, none⟩) g2).trans h2, (hb.cell (p := ⟨w.heap.size, 3, none⟩) g2).trans h3, (hb.cell (p := ⟨w.heap.size, 4, none⟩) g2).trans h4, (hb.cell (p := ⟨w.heap.size, 5, none⟩) g2).trans h5, (hb.cell (p := ⟨w.heap.size, 6, none⟩) g2).trans h6, g1.trans (hb.mono g1.size), Nat.lt_of_lt_of_le g2 hb.size, g3.below hb⟩
theorem natB (a b : Nat) : (a == b) = ((a : Int) == (b : Int)) := by rw [Bool.eq_iff_iff]; simp [Int.ofNat_inj]
theorem runs_len (x hi : Nat) : ∀ k n, (runsP x hi k n).length ≤ k
  | 0, _ => by simp [runsP]
  | k + 1, n => by
    unfold runsP
    split
    · simp
    · split
      · have := runs_len x hi k (endR x hi n + 1); simp; omega
      · have := runs_len x hi k (n + 1); omega
theorem runs_mem (x hi : Nat) : ∀ k n, ∀ a ∈ runsP x hi k n, a.1 ≤ hi ∧ a.2 ≤ hi
  | 0, _ => by simp [runsP]
  | k + 1, n => by
    intro a ha
    unfold runsP at ha
    split at ha
    · simp at ha
    · split at ha
      · rcases List.mem_cons.1 ha with rfl | ha
        · exact ⟨by omega, (endR_bd x (by omega)).2⟩
        · exact runs_mem x hi k _ a ha
      · exact runs_mem x hi k _ a ha
theorem field_len (f x : Nat) (b : Bool) (_hf : f < 5) : (fieldB f x b).length ≤ 1000 := by
  unfold fieldB
  split
  · simp
  · have h1 := runs_len x (hiP f) (hiP f + 1 - loP f) (loP f)
    have h2 := hiP_le f
    have h3 := join_len ((runsR x (hiP f) (loP f)).map itemB) 5 (fun y hy => by
      obtain ⟨a, ha, rfl⟩ := List.mem_map.1 hy
      have := runs_mem x (hiP f) _ _ a ha
      exact item_len (by omega) (by omega))
    rw [List.length_map] at h3
    unfold runsR at h3 ⊢
    omega
set_option maxRecDepth 100000 in
set_option maxHeartbeats 2000000 in
theorem text_any (e : Exp) (he : e.Ok) (w : World) (hT : HasT w) : Calls Tryd.prog 13 #[expV e] w fun r w' => r = .returned (.string ⟨(textB e).toArray⟩) ∧ Below w.heap.size w w' := by
  have HX : Hid (textB e = Lib.join [fieldB 0 e.mi ((e.mi : Int) == (allB 0 : Int)), fieldB 1 e.ho ((e.ho : Int) == (allB 1 : Int)), fieldB 2 e.da e.ad, fieldB 3 e.mo ((e.mo : Int) == (allB 3 : Int)), fieldB 4 e.wk e.aw] [32]) := by
    show _ = _
    unfold textB
    rw [natB, natB, natB]
  have a0 : ∀ W, (W.cell? ⟨w.heap.size, 0, none⟩ = some (.int .u64 e.mi) ∧ W.cell? ⟨w.heap.size, 1, none⟩ = some (.int .u64 e.ho) ∧ W.cell? ⟨w.heap.size, 2, none⟩ = some (.int .u64 e.da) ∧ W.cell? ⟨w.heap.size, 3, none⟩ = some (.int .u64 e.mo) ∧ W.cell? ⟨w.heap.size, 4, none⟩ = some (.int .u64 e.wk) ∧ W.cell? ⟨w.heap.size, 5, none⟩ = some (.bool e.ad) ∧ W.cell? ⟨w.heap.size, 6, none⟩ = some (.bool e.aw) ∧ Hid (Below w.heap.size w W ∧ w.heap.size < W.heap.size ∧ HasT W)) → Calls Tryd.prog 31 #[.int .i64 0] W fun r W' => r = .returned (.int .u64 (allB 0)) ∧ (W'.cell? ⟨w.heap.size, 0, none⟩ = some (.int .u64 e.mi) ∧ W'.cell? ⟨w.heap.size, 1, none⟩ = some (.int .u64 e.ho) ∧ W'.cell? ⟨w.heap.size, 2, none⟩ = some (.int .u64 e.da) ∧ W'.cell? ⟨w.heap.size, 3, none⟩ = some (.int .u64 e.mo) ∧ W'.cell? ⟨w.heap.size, 4, none⟩ = some (.int .u64 e.wk) ∧ W'.cell? ⟨w.heap.size, 5, none⟩ = some (.bool e.ad) ∧ W'.cell? ⟨w.heap.size, 6, none⟩ = some (.bool e.aw) ∧ Hid (Below w.heap.size w W' ∧ w.heap.size < W'.heap.size ∧ HasT W')) := fun W h => (all_any 0 (by decide) W h.2.2.2.2.2.2.2.out.2.2).mono fun r W' ⟨h1, h2⟩ => ⟨h1, ts_below h h2⟩
  have a1 : ∀ W, (W.cell? ⟨w.heap.size, 0, none⟩ = some (.int .u64 e.mi) ∧ W.cell? ⟨w.heap.size, 1, none⟩ = some (.int .u64 e.ho) ∧ W.cell? ⟨w.heap.size, 2, none⟩ = some (.int .u64 e.da) ∧ W.cell? ⟨w.heap.size, 3, none⟩ = some (.int .u64 e.mo) ∧ W.cell? ⟨w.heap.size, 4, none⟩ = some (.int .u64 e.wk) ∧ W.cell? ⟨w.heap.size, 5, none⟩ = some (.bool e.ad) ∧ W.cell? ⟨w.heap.size, 6, none⟩ = some (.bool e.aw) ∧ Hid (Below w.heap.size w W ∧ w.heap.size < W.heap.size ∧ HasT W)) → Calls Tryd.prog 31 #[.int .i64 1] W fun r W' => r = .returned (.int .u64 (allB 1)) ∧ (W'.cell? ⟨w.heap.size, 0, none⟩ = some (.int .u64 e.mi) ∧ W'.cell? ⟨w.heap.size, 1, none⟩ = some (.int .u64 e.ho) ∧ W'.cell? ⟨w.heap.size, 2, none⟩ = some (.int .u64 e.da) ∧ W'.cell? ⟨w.heap.size, 3, none⟩ = some (.int .u64 e.mo) ∧ W'.cell? ⟨w.heap.size, 4, none⟩ = some (.int .u64 e.wk) ∧ W'.cell? ⟨w.heap.size, 5, none⟩ = some (.bool e.ad) ∧ W'.cell? ⟨w.heap.size, 6, none⟩ = some (.bool e.aw) ∧ Hid (Below w.heap.size w W' ∧ w.heap.size < W'.heap.size ∧ HasT W')) := fun W h => (all_any 1 (by decide) W h.2.2.2.2.2.2.2.out.2.2).mono fun r W' ⟨h1, h2⟩ => ⟨h1, ts_below h h2⟩
  have a3 : ∀ W, (W.cell? ⟨w.heap.size, 0, none⟩ = some (.int .u64 e.mi) ∧ W.cell? ⟨w.heap.size, 1, none⟩ = some (.int .u64 e.ho) ∧ W.cell? ⟨w.heap.size, 2, none⟩ = some (.int .u64 e.da) ∧ W.cell? ⟨w.heap.size, 3, none⟩ = some (.int .u64 e.mo) ∧ W.cell? ⟨w.heap.size, 4, none⟩ = some (.int .u64 e.wk) ∧ W.cell? ⟨w.heap.size, 5, none⟩ = some (.bool e.ad) ∧ W.cell? ⟨w.heap.size, 6, none⟩ = some (.bool e.aw) ∧ Hid (Below w.heap.size w W ∧ w.heap.size < W.heap.size ∧ HasT W)) → Calls Tryd.prog 31 #[.int .i64 3] W fun r W' => r = .returned (.int .u64 (allB 3)) ∧ (W'.cell? ⟨w.heap.size, 0, none⟩ = some (.int .u64 e.mi) ∧ W'.cell? ⟨w.heap.size, 1, none⟩ = some (.int .u64 e.ho) ∧ W'.cell? ⟨w.heap.size, 2, none⟩ = some (.int .u64 e.da) ∧ W'.cell? ⟨w.heap.size, 3, none⟩ = some (.int .u64 e.mo) ∧ W'.cell? ⟨w.heap.size, 4, none⟩ = some (.int .u64 e.wk) ∧ W'.cell? ⟨w.heap.size, 5, none⟩ = some (.bool e.ad) ∧ W'.cell? ⟨w.heap.size, 6, none⟩ = some (.bool e.aw) ∧ Hid (Below w.heap.size w W' ∧ w.heap.size < W'.heap.size ∧ HasT W')) := fun W h => (all_any 3 (by decide) W h.2.2.2.2.2.2.2.out.2.2).mono fun r W' ⟨h1, h2⟩ => ⟨h1, ts_below h h2⟩
  generalize allB 0 = A0 at *
  generalize allB 1 = A1 at *
  generalize allB 3 = A3 at *
  have f0 : ∀ W, (W.cell? ⟨w.heap.size, 0, none⟩ = some (.int .u64 e.mi) ∧ W.cell? ⟨w.heap.size, 1, none⟩ = some (.int .u64 e.ho) ∧ W.cell? ⟨w.heap.size, 2, none⟩ = some (.int .u64 e.da) ∧ W.cell? ⟨w.heap.size, 3, none⟩ = some (.int .u64 e.mo) ∧ W.cell? ⟨w.heap.size, 4, none⟩ = some (.int .u64 e.wk) ∧ W.cell? ⟨w.heap.size, 5, none⟩ = some (.bool e.ad) ∧ W.cell? ⟨w.heap.size, 6, none⟩ = some (.bool e.aw) ∧ Hid (Below w.heap.size w W ∧ w.heap.size < W.heap.size ∧ HasT W)) → Calls Tryd.prog 30 #[.int .i64 0, .int .u64 e.mi, .bool ((e.mi : Int) == (A0 : Int))] W fun r W' => r = .returned (.string ⟨(fieldB 0 e.mi ((e.mi : Int) == (A0 : Int))).toArray⟩) ∧ (W'.cell? ⟨w.heap.size, 0, none⟩ = some (.int .u64 e.mi) ∧ W'.cell? ⟨w.heap.size, 1, none⟩ = some (.int .u64 e.ho) ∧ W'.cell? ⟨w.heap.size, 2, none⟩ = some (.int .u64 e.da) ∧ W'.cell? ⟨w.heap.size, 3, none⟩ = some (.int .u64 e.mo) ∧ W'.cell? ⟨w.heap.size, 4, none⟩ = some (.int .u64 e.wk) ∧ W'.cell? ⟨w.heap.size, 5, none⟩ = some (.bool e.ad) ∧ W'.cell? ⟨w.heap.size, 6, none⟩ = some (.bool e.aw) ∧ Hid (Below w.heap.size w W' ∧ w.heap.size < W'.heap.size ∧ HasT W')) := fun W h => (field_any 0 (by decide) e.mi he.mi ((e.mi : Int) == (A0 : Int)) W h.2.2.2.2.2.2.2.out.2.2).mono fun r W' ⟨h1, h2⟩ => ⟨h1, ts_below h h2⟩
  have l0 := field_len 0 e.mi ((e.mi : Int) == (A0 : Int)) (by decide)
  have f1 : ∀ W, (W.cell? ⟨w.heap.size, 0, none⟩ = some (.int .u64 e.mi) ∧ W.cell? ⟨w.heap.size, 1, none⟩ = some (.int .u64 e.ho) ∧ W.cell? ⟨w.heap.size, 2, none⟩ = some (.int .u64 e.da) ∧ W.cell? ⟨w.heap.size, 3, none⟩ = some (.int .u64 e.mo) ∧ W.cell? ⟨w.heap.size, 4, none⟩ = some (.int .u64 e.wk) ∧ W.cell? ⟨w.heap.size, 5, none⟩ = some (.bool e.ad) ∧ W.cell? ⟨w.heap.size, 6, none⟩ = some (.bool e.aw) ∧ Hid (Below w.heap.size w W ∧ w.heap.size < W.heap.size ∧ HasT W)) → Calls Tryd.prog 30 #[.int .i64 1, .int .u64 e.ho, .bool ((e.ho : Int) == (A1 : Int))] W fun r W' => r = .returned (.string ⟨(fieldB 1 e.ho ((e.ho : Int) == (A1 : Int))).toArray⟩) ∧ (W'.cell? ⟨w.heap.size, 0, none⟩ = some (.int .u64 e.mi) ∧ W'.cell? ⟨w.heap.size, 1, none⟩ = some (.int .u64 e.ho) ∧ W'.cell? ⟨w.heap.size, 2, none⟩ = some (.int .u64 e.da) ∧ W'.cell? ⟨w.heap.size, 3, none⟩ = some (.int .u64 e.mo) ∧ W'.cell? ⟨w.heap.size, 4, none⟩ = some (.int .u64 e.wk) ∧ W'.cell? ⟨w.heap.size, 5, none⟩ = some (.bool e.ad) ∧ W'.cell? ⟨w.heap.size, 6, none⟩ = some (.bool e.aw) ∧ Hid (Below w.heap.size w W' ∧ w.heap.size < W'.heap.size ∧ HasT W')) := fun W h => (field_any 1 (by decide) e.ho he.ho ((e.ho : Int) == (A1 : Int)) W h.2.2.2.2.2.2.2.out.2.2).mono fun r W' ⟨h1, h2⟩ => ⟨h1, ts_below h h2⟩
  have l1 := field_len 1 e.ho ((e.ho : Int) == (A1 : Int)) (by decide)
  have f2 : ∀ W, (W.cell? ⟨w.heap.size, 0, none⟩ = some (.int .u64 e.mi) ∧ W.cell? ⟨w.heap.size, 1, none⟩ = some (.int .u64 e.ho) ∧ W.cell? ⟨w.heap.size, 2, none⟩ = some (.int .u64 e.da) ∧ W.cell? ⟨w.heap.size, 3, none⟩ = some (.int .u64 e.mo) ∧ W.cell? ⟨w.heap.size, 4, none⟩ = some (.int .u64 e.wk) ∧ W.cell? ⟨w.heap.size, 5, none⟩ = some (.bool e.ad) ∧ W.cell? ⟨w.heap.size, 6, none⟩ = some (.bool e.aw) ∧ Hid (Below w.heap.size w W ∧ w.heap.size < W.heap.size ∧ HasT W)) → Calls Tryd.prog 30 #[.int .i64 2, .int .u64 e.da, .bool e.ad] W fun r W' => r = .returned (.string ⟨(fieldB 2 e.da e.ad).toArray⟩) ∧ (W'.cell? ⟨w.heap.size, 0, none⟩ = some (.int .u64 e.mi) ∧ W'.cell? ⟨w.heap.size, 1, none⟩ = some (.int .u64 e.ho) ∧ W'.cell? ⟨w.heap.size, 2, none⟩ = some (.int .u64 e.da) ∧ W'.cell? ⟨w.heap.size, 3, none⟩ = some (.int .u64 e.mo) ∧ W'.cell? ⟨w.heap.size, 4, none⟩ = some (.int .u64 e.wk) ∧ W'.cell? ⟨w.heap.size, 5, none⟩ = some (.bool e.ad) ∧ W'.cell? ⟨w.heap.size, 6, none⟩ = some (.bool e.aw) ∧ Hid (Below w.heap.size w W' ∧ w.heap.size < W'.heap.size ∧ HasT W')) := fun W h => (field_any 2 (by decide) e.da he.da e.ad W h.2.2.2.2.2.2.2.out.2.2).mono fun r W' ⟨h1, h2⟩ => ⟨h1, ts_below h h2⟩
  have l2 := field_len 2 e.da e.ad (by decide)
  have f3 : ∀ W, (W.cell? ⟨w.heap.size, 0, none⟩ = some (.int .u64 e.mi) ∧ W.cell? ⟨w.heap.size, 1, none⟩ = some (.int .u64 e.ho) ∧ W.cell? ⟨w.heap.size, 2, none⟩ = some (.int .u64 e.da) ∧ W.cell? ⟨w.heap.size, 3, none⟩ = some (.int .u64 e.mo) ∧ W.cell? ⟨w.heap.size, 4, none⟩ = some (.int .u64 e.wk) ∧ W.cell? ⟨w.heap.size, 5, none⟩ = some (.bool e.ad) ∧ W.cell? ⟨w.heap.size, 6, none⟩ = some (.bool e.aw) ∧ Hid (Below w.heap.size w W ∧ w.heap.size < W.heap.size ∧ HasT W)) → Calls Tryd.prog 30 #[.int .i64 3, .int .u64 e.mo, .bool ((e.mo : Int) == (A3 : Int))] W fun r W' => r = .returned (.string ⟨(fieldB 3 e.mo ((e.mo : Int) == (A3 : Int))).toArray⟩) ∧ (W'.cell? ⟨w.heap.size, 0, none⟩ = some (.int .u64 e.mi) ∧ W'.cell? ⟨w.heap.size, 1, none⟩ = some (.int .u64 e.ho) ∧ W'.cell? ⟨w.heap.size, 2, none⟩ = some (.int .u64 e.da) ∧ W'.cell? ⟨w.heap.size, 3, none⟩ = some (.int .u64 e.mo) ∧ W'.cell? ⟨w.heap.size, 4, none⟩ = some (.int .u64 e.wk) ∧ W'.cell? ⟨w.heap.size, 5, none⟩ = some (.bool e.ad) ∧ W'.cell? ⟨w.heap.size, 6, none⟩ = some (.bool e.aw) ∧ Hid (Below w.heap.size w W' ∧ w.heap.size < W'.heap.size ∧ HasT W')) := fun W h => (field_any 3 (by decide) e.mo he.mo ((e.mo : Int) == (A3 : Int)) W h.2.2.2.2.2.2.2.out.2.2).mono fun r W' ⟨h1, h2⟩ => ⟨h1, ts_below h h2⟩
  have l3 := field_len 3 e.mo ((e.mo : Int) == (A3 : Int)) (by decide)
  have f4 : ∀ W, (W.cell? ⟨w.heap.size, 0, none⟩ = some (.int .u64 e.mi) ∧ W.cell? ⟨w.heap.size, 1, none⟩ = some (.int .u64 e.ho) ∧ W.cell? ⟨w.heap.size, 2, none⟩ = some (.int .u64 e.da) ∧ W.cell? ⟨w.heap.size, 3, none⟩ = some (.int .u64 e.mo) ∧ W.cell? ⟨w.heap.size, 4, none⟩ = some (.int .u64 e.wk) ∧ W.cell? ⟨w.heap.size, 5, none⟩ = some (.bool e.ad) ∧ W.cell? ⟨w.heap.size, 6, none⟩ = some (.bool e.aw) ∧ Hid (Below w.heap.size w W ∧ w.heap.size < W.heap.size ∧ HasT W)) → Calls Tryd.prog 30 #[.int .i64 4, .int .u64 e.wk, .bool e.aw] W fun r W' => r = .returned (.string ⟨(fieldB 4 e.wk e.aw).toArray⟩) ∧ (W'.cell? ⟨w.heap.size, 0, none⟩ = some (.int .u64 e.mi) ∧ W'.cell? ⟨w.heap.size, 1, none⟩ = some (.int .u64 e.ho) ∧ W'.cell? ⟨w.heap.size, 2, none⟩ = some (.int .u64 e.da) ∧ W'.cell? ⟨w.heap.size, 3, none⟩ = some (.int .u64 e.mo) ∧ W'.cell? ⟨w.heap.size, 4, none⟩ = some (.int .u64 e.wk) ∧ W'.cell? ⟨w.heap.size, 5, none⟩ = some (.bool e.ad) ∧ W'.cell? ⟨w.heap.size, 6, none⟩ = some (.bool e.aw) ∧ Hid (Below w.heap.size w W' ∧ w.heap.size < W'.heap.size ∧ HasT W')) := fun W h => (field_any 4 (by decide) e.wk he.wk e.aw W h.2.2.2.2.2.2.2.out.2.2).mono fun r W' ⟨h1, h2⟩ => ⟨h1, ts_below h h2⟩
  have l4 := field_len 4 e.wk e.aw (by decide)
  generalize fieldB 0 e.mi ((e.mi : Int) == (A0 : Int)) = F0 at *
  generalize fieldB 1 e.ho ((e.ho : Int) == (A1 : Int)) = F1 at *
  generalize fieldB 2 e.da e.ad = F2 at *
  generalize fieldB 3 e.mo ((e.mo : Int) == (A3 : Int)) = F3 at *
  generalize fieldB 4 e.wk e.aw = F4 at *
  have hjn : ∀ W, (W.cell? ⟨w.heap.size, 0, none⟩ = some (.int .u64 e.mi) ∧ W.cell? ⟨w.heap.size, 1, none⟩ = some (.int .u64 e.ho) ∧ W.cell? ⟨w.heap.size, 2, none⟩ = some (.int .u64 e.da) ∧ W.cell? ⟨w.heap.size, 3, none⟩ = some (.int .u64 e.mo) ∧ W.cell? ⟨w.heap.size, 4, none⟩ = some (.int .u64 e.wk) ∧ W.cell? ⟨w.heap.size, 5, none⟩ = some (.bool e.ad) ∧ W.cell? ⟨w.heap.size, 6, none⟩ = some (.bool e.aw) ∧ Hid (Below w.heap.size w W ∧ w.heap.size < W.heap.size ∧ HasT W)) → Calls Tryd.prog 29 #[.slice (some ⟨W.heap.size, 0, none⟩) 5 5, .string ⟨#[32]⟩] (W.alloc (.cells #[.string ⟨F0.toArray⟩, .string ⟨F1.toArray⟩, .string ⟨F2.toArray⟩, .string ⟨F3.toArray⟩, .string ⟨F4.toArray⟩] 9)) fun r W' => r = .returned (.string ⟨(Lib.join [F0, F1, F2, F3, F4] [32]).toArray⟩) ∧ (W'.cell? ⟨w.heap.size, 0, none⟩ = some (.int .u64 e.mi) ∧ W'.cell? ⟨w.heap.size, 1, none⟩ = some (.int .u64 e.ho) ∧ W'.cell? ⟨w.heap.size, 2, none⟩ = some (.int .u64 e.da) ∧ W'.cell? ⟨w.heap.size, 3, none⟩ = some (.int .u64 e.mo) ∧ W'.cell? ⟨w.heap.size, 4, none⟩ = some (.int .u64 e.wk) ∧ W'.cell? ⟨w.heap.size, 5, none⟩ = some (.bool e.ad) ∧ W'.cell? ⟨w.heap.size, 6, none⟩ = some (.bool e.aw) ∧ Hid (Below w.heap.size w W' ∧ w.heap.size < W'.heap.size ∧ HasT W')) := fun W h => by
    have hj := join_any W.heap.size 0 5 [⟨F0.toArray⟩, ⟨F1.toArray⟩, ⟨F2.toArray⟩, ⟨F3.toArray⟩, ⟨F4.toArray⟩] ⟨#[32]⟩ (W.alloc (.cells #[.string ⟨F0.toArray⟩, .string ⟨F1.toArray⟩, .string ⟨F2.toArray⟩, .string ⟨F3.toArray⟩, .string ⟨F4.toArray⟩] 9))
      (fun j y hy => by
        rw [Nat.zero_add]
        refine (cell_of_row _ _ _ _ _ _ (heap_alloc_new W _)).trans ?_
        match j, hy with
        | 0, hy => simp at hy; simp [← hy]
        | 1, hy => simp at hy; simp [← hy]
        | 2, hy => simp at hy; simp [← hy]
        | 3, hy => simp at hy; simp [← hy]
        | 4, hy => simp at hy; simp [← hy]
        | j + 5, hy => simp at hy) (by simp) (by simp) (by simp) (by simp only [List.map_cons, List.map_nil, Lib.join_cons, Lib.joinTail]; simp; omega)
    refine hj.mono fun r W' h' => ⟨h'.1, ts_below (ts_below h ((Below.refl _ _).alloc (Nat.le_refl _) _)) h'.2⟩
  have hS0 : ∀ o k, o = .cells #[.int .u64 e.mi, .int .u64 e.ho, .int .u64 e.da, .int .u64 e.mo, .int .u64 e.wk, .bool e.ad, .bool e.aw] 25 → (((w.alloc o).drewN k).cell? ⟨w.heap.size, 0, none⟩ = some (.int .u64 e.mi) ∧ ((w.alloc o).drewN k).cell? ⟨w.heap.size, 1, none⟩ = some (.int .u64 e.ho) ∧ ((w.alloc o).drewN k).cell? ⟨w.heap.size, 2, none⟩ = some (.int .u64 e.da) ∧ ((w.alloc o).drewN k).cell? ⟨w.heap.size, 3, none⟩ = some (.int .u64 e.mo) ∧ ((w.alloc o).drewN k).cell? ⟨w.heap.size, 4, none⟩ = some (.int .u64 e.wk) ∧ ((w.alloc o).drewN k).cell? ⟨w.heap.size, 5, none⟩ = some (.bool e.ad) ∧ ((w.alloc o).drewN k).cell? ⟨w.heap.size, 6, none⟩ = some (.bool e.aw) ∧ Hid (Below w.heap.size w ((w.alloc o).drewN k) ∧ w.heap.size < ((w.alloc o).drewN k).heap.size ∧ HasT ((w.alloc o).drewN k))) := by
    rintro o k rfl
    have hr := heap_alloc_new w (.cells #[.int .u64 e.mi, .int .u64 e.ho, .int .u64 e.da, .int .u64 e.mo, .int .u64 e.wk, .bool e.ad, .bool e.aw] 25)
    exact ⟨cell_of_row _ _ _ _ _ _ hr, cell_of_row _ _ _ _ _ _ hr, cell_of_row _ _ _ _ _ _ hr, cell_of_row _ _ _ _ _ _ hr, cell_of_row _ _ _ _ _ _ hr, cell_of_row _ _ _ _ _ _ hr, cell_of_row _ _ _ _ _ _ hr, below_drewN ((Below.refl _ _).alloc (Nat.le_refl _) _) _, by simp, HasT.keep (hT.below ((Below.refl _ _).alloc (Nat.le_refl _) _)) fun _ _ _ _ h => h⟩
  have hS1 := hS0 _ 1 rfl
  clear hT he hS0
  unfold expV
  go_enter Tryd.func13, Tryd.ntmps13
  go_wp2_with fail
  have hal : ∀ (W : World) (o : Obj), (W.cell? ⟨w.heap.size, 0, none⟩ = some (.int .u64 e.mi) ∧ W.cell? ⟨w.heap.size, 1, none⟩ = some (.int .u64 e.ho) ∧ W.cell? ⟨w.heap.size, 2, none⟩ = some (.int .u64 e.da) ∧ W.cell? ⟨w.heap.size, 3, none⟩ = some (.int .u64 e.mo) ∧ W.cell? ⟨w.heap.size, 4, none⟩ = some (.int .u64 e.wk) ∧ W.cell? ⟨w.heap.size, 5, none⟩ = some (.bool e.ad) ∧ W.cell? ⟨w.heap.size, 6, none⟩ = some (.bool e.aw) ∧ Hid (Below w.heap.size w W ∧ w.heap.size < W.heap.size ∧ HasT W)) → ((W.alloc o).cell? ⟨w.heap.size, 0, none⟩ = some (.int .u64 e.mi) ∧ (W.alloc o).cell? ⟨w.heap.size, 1, none⟩ = some (.int .u64 e.ho) ∧ (W.alloc o).cell? ⟨w.heap.size, 2, none⟩ = some (.int .u64 e.da) ∧ (W.alloc o).cell? ⟨w.heap.size, 3, none⟩ = some (.int .u64 e.mo) ∧ (W.alloc o).cell? ⟨w.heap.size, 4, none⟩ = some (.int .u64 e.wk) ∧ (W.alloc o).cell? ⟨w.heap.size, 5, none⟩ = some (.bool e.ad) ∧ (W.alloc o).cell? ⟨w.heap.size, 6, none⟩ = some (.bool e.aw) ∧ Hid (Below w.heap.size w (W.alloc o) ∧ w.heap.size < (W.alloc o).heap.size ∧ HasT (W.alloc o))) := fun W o h => ts_below h ((Below.refl _ _).alloc (Nat.le_refl _) _)
  have HAL := Hid.mk'' hal
  clear hal
  go_region_held_law (fun w' => (w'.cell? ⟨w.heap.size, 0, none⟩ = some (.int .u64 e.mi) ∧ w'.cell? ⟨w.heap.size, 1, none⟩ = some (.int .u64 e.ho) ∧ w'.cell? ⟨w.heap.size, 2, none⟩ = some (.int .u64 e.da) ∧ w'.cell? ⟨w.heap.size, 3, none⟩ = some (.int .u64 e.mo) ∧ w'.cell? ⟨w.heap.size, 4, none⟩ = some (.int .u64 e.wk) ∧ w'.cell? ⟨w.heap.size, 5, none⟩ = some (.bool e.ad) ∧ w'.cell? ⟨w.heap.size, 6, none⟩ = some (.bool e.aw) ∧ Hid (Below w.heap.size w w' ∧ w.heap.size < w'.heap.size ∧ HasT w'))) (first | assumption | (show _ ∧ _; assumption) | (show _ ∧ _; exact HAL.out _ _ (by assumption))) (first | (go_at_call 31; first | (with_reducible refine (a0 _ (by assumption)).mono ?_; rintro r w8 ⟨rfl, hS8⟩) | (with_reducible refine (a1 _ (by assumption)).mono ?_; rintro r w8 ⟨rfl, hS8⟩) | (with_reducible refine (a3 _ (by assumption)).mono ?_; rintro r w8 ⟨rfl, hS8⟩)) | (go_at_call 30; first | (with_reducible refine (f0 _ (by assumption)).mono ?_; rintro r w8 ⟨rfl, hS8⟩) | (with_reducible refine (f1 _ (by assumption)).mono ?_; rintro r w8 ⟨rfl, hS8⟩) | (with_reducible refine (f2 _ (by assumption)).mono ?_; rintro r w8 ⟨rfl, hS8⟩) | (with_reducible refine (f3 _ (by assumption)).mono ?_; rintro r w8 ⟨rfl, hS8⟩) | (with_reducible refine (f4 _ (by assumption)).mono ?_; rintro r w8 ⟨rfl, hS8⟩)) | (go_at_call 29; with_reducible refine (hjn _ (by assumption)).mono ?_; rintro r w9 ⟨rfl, hS9⟩))
  all_goals
    go_wp2_with fail
    go_ret
    exact ⟨ret_str (by rw [HX.out]), hS9.2.2.2.2.2.2.2.out.1⟩
end Go.Proofs.YtdojpnhjnhecmaaDoor
