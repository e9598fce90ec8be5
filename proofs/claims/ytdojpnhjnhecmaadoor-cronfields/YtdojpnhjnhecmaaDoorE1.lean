/- The chapter's example. -/
import Derived.Test.YtdojpnhjnhecmaaDoorE0
import Derived.Test.YtdojpnhjnhecmaaDoorK8
import Derived.Test.YtdojpnhjnhecmaaDoorS4
import Derived.Test.YtdojpnhjnhecmaaDoorT3
namespace Go.Proofs.YtdojpnhjnhecmaaDoor
open Go Go.RowKit
theorem parse_yes (s : ByteArray) (x : Exp) (hx : parseL (numsOf s) = some x) (hs : s.size ≤ 100) (w : World) (hT : HasT w) :
    Calls Tryd.prog 10 #[.string s] w fun e w' => e = .returned (.tuple #[expV x, .int .i64 0]) ∧ Below w.heap.size w w' := by
  refine (parse_any s w hT hs).mono fun e w' h => ⟨?_, h.2⟩
  have := h.1
  unfold Parsed at this
  rw [hx] at this
  exact this
theorem parse_no (s : ByteArray) (hx : parseL (numsOf s) = none) (hs : s.size ≤ 100) (w : World) (hT : HasT w) :
    Calls Tryd.prog 10 #[.string s] w fun e w' => e = .returned (.tuple #[exp0, .int .i64 25]) ∧ Below w.heap.size w w' := by
  refine (parse_any s w hT hs).mono fun e w' h => ⟨?_, h.2⟩
  have := h.1
  unfold Parsed at this
  rw [hx] at this
  exact this
theorem parse_okE {s : ByteArray} {x : Exp} (h : parseL (numsOf s) = some x) : x.Ok := by
  unfold parseL at h
  obtain ⟨p, hp, h⟩ := Option.bind_eq_some_iff.1 h
  obtain ⟨q, hq, h⟩ := Option.bind_eq_some_iff.1 h
  split at h
  · obtain rfl := Option.some.inj h
    exact exp_ok ((pst0_ok.run hp).take hq)
  · exact absurd h (by simp)
theorem min_a (w : World) (hT : HasT w) : Calls Tryd.prog 24 #[dateV 2096 3 1 0 0 0] w fun e w' => e = .returned (.tuple #[.int .i64 66356640, .int .i64 0]) ∧ Below w.heap.size w w' := by
  have h := minute_yes 2096 3 1 0 0 0 w hT (by decide)
  rwa [show minOf 2096 3 1 0 0 = 66356640 by decide] at h
theorem min_b (w : World) (hT : HasT w) : Calls Tryd.prog 24 #[dateV 2104 2 29 0 0 0] w fun e w' => e = .returned (.tuple #[.int .i64 70561440, .int .i64 0]) ∧ Below w.heap.size w w' := by
  have h := minute_yes 2104 2 29 0 0 0 w hT (by decide)
  rwa [show minOf 2104 2 29 0 0 = 70561440 by decide] at h
/-- An expression's box stands, below it all is as it was. -/
structure EW (x : Exp) (E : Nat) (w W : World) : Prop where
  row : W.heap[E]? = some (.cells #[.int .u64 x.mi, .int .u64 x.ho, .int .u64 x.da, .int .u64 x.mo, .int .u64 x.wk, .bool x.ad, .bool x.aw] 25 (0, 0))
  bel : Below w.heap.size w W
  tab : HasT W
theorem EW.lt {x : Exp} {E : Nat} {w W : World} (h : EW x E w W) : E < W.heap.size := (Array.getElem?_eq_some_iff.1 h.row).1
theorem EW.below {x : Exp} {E : Nat} {w W W' : World} (h : EW x E w W) (hb : Below W.heap.size W W') : EW x E w W' :=
  ⟨(hb.block E h.lt).trans h.row, h.bel.trans (hb.mono h.bel.size), h.tab.below hb⟩
theorem EW.start {x : Exp} {w W : World} (hb : Below w.heap.size w W) (hT : HasT W) : EW x W.heap.size w (W.alloc (.cells #[.int .u64 x.mi, .int .u64 x.ho, .int .u64 x.da, .int .u64 x.mo, .int .u64 x.wk, .bool x.ad, .bool x.aw] 25)) :=
  ⟨heap_alloc_new W _, hb.alloc hb.size _, hT.below ((Below.refl _ _).alloc (Nat.le_refl _) _)⟩
theorem EW.cells {x : Exp} {E : Nat} {w W : World} (h : EW x E w W) : W.cell? ⟨E, 0, none⟩ = some (.int .u64 x.mi) ∧ W.cell? ⟨E, 1, none⟩ = some (.int .u64 x.ho) ∧ W.cell? ⟨E, 2, none⟩ = some (.int .u64 x.da) ∧ W.cell? ⟨E, 3, none⟩ = some (.int .u64 x.mo) ∧ W.cell? ⟨E, 4, none⟩ = some (.int .u64 x.wk) ∧ W.cell? ⟨E, 5, none⟩ = some (.bool x.ad) ∧ W.cell? ⟨E, 6, none⟩ = some (.bool x.aw) :=
  ⟨cell_of_row _ _ _ _ _ _ h.row, cell_of_row _ _ _ _ _ _ h.row, cell_of_row _ _ _ _ _ _ h.row, cell_of_row _ _ _ _ _ _ h.row, cell_of_row _ _ _ _ _ _ h.row, cell_of_row _ _ _ _ _ _ h.row, cell_of_row _ _ _ _ _ _ h.row⟩
set_option maxHeartbeats 1000000 in
theorem known_any (w : World) (hT : HasT w) : Calls Tryd.prog 9 #[] w fun e w' => e = .returned (.bool true) ∧ Below w.heap.size w w' := by
  have hp := parse_yes ⟨#[48, 32, 48, 32, 50, 57, 32, 50, 32, 42]⟩ eLeap parse_leap (by decide) w hT
  have HT : Hid (∀ w3, Below w.heap.size w w3 → HasT w3) := fun w3 h => hT.below h
  clear hT
  unfold expV at hp
  go_enter Tryd.func9, Tryd.ntmps9
  go_wp2_with fail
  refine hp.mono ?_
  rintro e w1 ⟨rfl, hb1⟩
  have HE := Hid.mk'' (EW.start (x := eLeap) hb1 (HT.out _ hb1))
  obtain ⟨V, hV⟩ : ∃ V, V = w1.alloc (.cells #[.int .u64 eLeap.mi, .int .u64 eLeap.ho, .int .u64 eLeap.da, .int .u64 eLeap.mo, .int .u64 eLeap.wk, .bool eLeap.ad, .bool eLeap.aw] 25) := ⟨_, rfl⟩
  rw [← hV] at HE
  have m1 := min_a V HE.out.tab
  clear hp hb1
  go_upto_region 2 with (fail)
  rw [← hV]
  clear hV
  generalize w1.heap.size = E at *
  go_wp2_with fail
  refine m1.mono ?_
  rintro e w2 ⟨rfl, hb2⟩
  have HE2 := Hid.mk'' (HE.out.below hb2)
  have m2 := min_b w2 HE2.out.tab
  clear m1 hb2 HE
  go_wp2_with fail
  refine m2.mono ?_
  rintro e w3 ⟨rfl, hb3⟩
  have HE3 := Hid.mk'' (HE2.out.below hb3)
  have nx := next_yes eLeap eLeap_oks 66356640 w3 HE3.out.tab (by decide) (by decide)
  obtain ⟨k0, k1, k2, k3, k4, k5, k6⟩ := HE3.out.cells
  clear m2 hb3 HE2
  unfold expV at nx
  go_wp2_with fail
  refine nx.mono ?_
  rintro e w4 ⟨⟨v, c, rfl, hv⟩, hb4⟩
  obtain ⟨rfl, rfl⟩ := hv.uniq known_next
  have HE4 := Hid.mk'' (HE3.out.below hb4)
  have tx := text_any eLeap eLeap_oks w4 HE4.out.tab
  rw [text_leap] at tx
  clear nx hb4 HE3 hv k0 k1 k2 k3 k4 k5 k6
  obtain ⟨k0, k1, k2, k3, k4, k5, k6⟩ := HE4.out.cells
  unfold expV at tx
  go_wp2_with fail
  refine tx.mono ?_
  rintro e w5 ⟨rfl, hb5⟩
  have HE5 := Hid.mk'' (HE4.out.below hb5)
  clear tx hb5 HE4 k0 k1 k2 k3 k4 k5 k6
  go_wp2
  go_ret
  exact ⟨rfl, HE5.out.bel⟩
end Go.Proofs.YtdojpnhjnhecmaaDoor
