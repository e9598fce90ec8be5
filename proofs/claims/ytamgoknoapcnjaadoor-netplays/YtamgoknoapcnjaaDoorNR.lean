/- A net whose messages are small: what its calls do. -/
import Derived.Test.YtamgoknoapcnjaaDoorNL
namespace Go.Proofs.YtamgoknoapcnjaaDoor
open Go Go.RowKit
/-- A message of the law: a vote with a number. -/
def sMd (s : Int) : Md := ⟨1, 0, 0, 0, 0, 0, [], 0, s, false, 0, 0, 0, [], []⟩
/-- Its cells. -/
def srow (s : Int) : Array Value := #[iv 1, iv 0, iv 0, iv 0, iv 0, iv 0, .slice none 0 0, iv 0, iv s, .bool false, iv 0, iv 0, iv 0, .slice none 0 0, .slice none 0 0]
theorem cl79 (p : Option Addr) (c : Nat) (w : World) : Calls Tryd.prog 79 #[.slice p 0 c] w fun e w' => e = .returned (.slice none 0 0) ∧ w' = w := by
  go_enter Tryd.func79, Tryd.ntmps79
  go_wp2
  go_ret
  exact ⟨rfl, rfl⟩
theorem cl80 (p : Option Addr) (c : Nat) (w : World) : Calls Tryd.prog 80 #[.slice p 0 c] w fun e w' => e = .returned (.slice none 0 0) ∧ w' = w := by
  go_enter Tryd.func80, Tryd.ntmps80
  go_wp2
  go_ret
  exact ⟨rfl, rfl⟩
theorem cl81 (p : Option Addr) (c : Nat) (w : World) : Calls Tryd.prog 81 #[.slice p 0 c] w fun e w' => e = .returned (.slice none 0 0) ∧ w' = w := by
  go_enter Tryd.func81, Tryd.ntmps81
  go_wp2
  go_ret
  exact ⟨rfl, rfl⟩
theorem results_c1 {P : Program} {fn : Func} {u : Tmp} {ty : TypeId} (h : fn.results = #[.cell u ty]) (tmps : Array Value) (w : World) (g : Nat) (t : TypeId) (cs : Array Value) (fr : Nat × Nat) (d : TypeDesc)
    (hp : tmps.getD u undef = .pointer (some ⟨g, 0, none⟩)) (hg : w.heap[g]? = some (.cells cs t fr))
    (hu : P.underlying ty = some d) (hd : (match d with | .struct _ | .array _ _ => true | _ => false) = true) (hi : (P.info? ty).map (·.size) = some cs.size) :
    (results fn tmps).run P w = .ok (.agg cs) w := results_cell_row h tmps w g t cs fr d hp hg hu hd hi
set_option maxRecDepth 100000 in
set_option maxHeartbeats 2000000 in
theorem clone_small (s : Int) (w : World) : Calls Tryd.prog 48 #[.agg (srow s)] w fun e w' => e = .returned (.agg (srow s)) ∧ Below w.heap.size w w' := by
  obtain ⟨w1, hw1⟩ : ∃ w1, w1 = (w.alloc (.cells (srow s) 28)).alloc (.cells zrow 28) := ⟨_, rfl⟩
  have hb1 : Below w.heap.size w w1 := by rw [hw1]; exact ((Below.refl _ _).alloc (Nat.le_refl _) _).alloc (by simp) _
  obtain ⟨d, hd⟩ : ∃ d, d = w.heap.size := ⟨_, rfl⟩
  have HX1 : Bx d (srow s) 28 w1 := by rw [hd, hw1]; exact Bx.below (row_alloc w _ 28) ((Below.refl _ _).alloc (Nat.le_refl _) _)
  have HY1 : Bx (d + 1) zrow 28 w1 := by
    rw [hd, hw1]
    have := row_alloc (w.alloc (.cells (srow s) 28)) zrow 28
    rw [show (w.alloc (.cells (srow s) 28)).heap.size = w.heap.size + 1 by simp] at this
    exact this
  have e0 : w1.cell? ⟨d, 6, none⟩ = some (.slice none 0 0) := HX1.cell 6
  have e1 : w1.cell? ⟨d, 13, none⟩ = some (.slice none 0 0) := HX1.cell 13
  have e2 : w1.cell? ⟨d, 14, none⟩ = some (.slice none 0 0) := HX1.cell 14
  have f0 := HX1.free 6
  have f1 := HX1.free 13
  have f2 := HX1.free 14
  have HB1 := Hid.mkW hb1
  have HD := Hid.mkW hd
  clear hb1
  unfold srow zrow at hw1
  go_enter Tryd.func48, Tryd.ntmps48
  unfold srow
  go_upto_region 1 with fail
  rw [← hw1, ← hd]
  clear hw1 hd
  go_upto_region 2 with (go_at_call 79; refine (cl79 _ _ _).mono ?_; rintro e w' ⟨rfl, hw'⟩; obtain rfl := hw'.symm)
  obtain ⟨w2, hw2⟩ : ∃ w2, w2 = w1.setCell ⟨d, 6, none⟩ (.slice none 0 0) := ⟨_, rfl⟩
  have HX2 : Bx d (srow s) 28 w2 := by rw [hw2]; exact HX1.set 6 _ rfl
  have u2 : Upd w1 w2 (fun k => k = d) := by rw [hw2]; exact (Upd.refl w1 (fun k => k = d)).setCell (.inr rfl) _
  have HY2 := HY1.upd u2 (by omega)
  rw [← hw2]
  clear hw2 e0 e1 e2 f0 f1 f2 HX1 HY1
  have e0 : w2.cell? ⟨d, 6, none⟩ = some (.slice none 0 0) := HX2.cell 6
  have e1 : w2.cell? ⟨d, 13, none⟩ = some (.slice none 0 0) := HX2.cell 13
  have f1 := HX2.free 13
  go_wp2
  go_loopg [3, 4, 12] 1 (fun kx _s3 _s4 s12 wq => s12 = iv 0 ∧ kx = 1 ∧ wq = w2)
  case atStart => exact ⟨rfl, rfl, rfl⟩
  case round =>
  obtain ⟨rfl, -, hwr⟩ := hrel
  obtain rfl := hwr.symm
  go_upto_region 8 with (go_at_call 81; refine (cl81 _ _ _).mono ?_; rintro e w' ⟨rfl, hw'⟩; obtain rfl := hw'.symm)
  obtain ⟨w3, hw3⟩ : ∃ w3, w3 = w2.setCell ⟨d, 13, none⟩ (.slice none 0 0) := ⟨_, rfl⟩
  have HX3 : Bx d (srow s) 28 w3 := by rw [hw3]; exact HX2.set 13 _ rfl
  have u3 : Upd w2 w3 (fun k => k = d) := by rw [hw3]; exact (Upd.refl w2 (fun k => k = d)).setCell (.inr rfl) _
  have HY3 := HY2.upd u3 (by omega)
  rw [← hw3]
  clear hw3 e0 e1 f1 HX2 HY2
  have e2 : w3.cell? ⟨d, 14, none⟩ = some (.slice none 0 0) := HX3.cell 14
  have f2 := HX3.free 14
  go_upto_region 9 with (go_at_call 80; refine (cl80 _ _ _).mono ?_; rintro e w' ⟨rfl, hw'⟩; obtain rfl := hw'.symm)
  obtain ⟨w4, hw4⟩ : ∃ w4, w4 = w3.setCell ⟨d, 14, none⟩ (.slice none 0 0) := ⟨_, rfl⟩
  have HX4 : Bx d (srow s) 28 w4 := by rw [hw4]; exact HX3.set 14 _ rfl
  have u4 : Upd w3 w4 (fun k => k = d) := by rw [hw4]; exact (Upd.refl w3 (fun k => k = d)).setCell (.inr rfl) _
  have HY4 := HY3.upd u4 (by omega)
  rw [← hw4]
  clear hw4 e2 f2 HX3 HY3
  go_wp2_with (first
    | (refine wpList_load_row rfl 28 _ rfl d rfl 28 _ (0, 0) _ HX4 Tryd.underlying28 rfl (by kernel_rfl) ?_)
    | (refine wpList_store_row rfl 28 _ _ rfl (d + 1) (srow s) rfl rfl 28 zrow HY4 (by kernel_rfl) rfl (by kernel_rfl) ?_))
  obtain ⟨HXF, uF⟩ := HY4.fill (row' := srow s)
  refine bodyPost_ret (results_c1 rfl _ _ (d + 1) 28 (srow s) (0, 0) _ rfl HXF Tryd.underlying28 rfl (by kernel_rfl)) rfl ?_
  have h1 := HD.out
  have hU : Upd w1 (w4.setRow (d + 1) (srow s)) (fun k => k = d ∨ k = d + 1) := by
    have a1 : Upd w1 w4 (fun k => k = d ∨ k = d + 1) := ((u2.mono (fun k _ e => .inl e)).trans (u3.mono (fun k _ e => .inl e)) (fun _ _ h => h)).trans (u4.mono (fun k _ e => .inl e)) (fun _ _ h => h)
    exact a1.trans (uF.mono (fun k _ e => .inr e)) (fun _ _ h => h)
  exact ⟨rfl, HB1.out.trans (hU.below HB1.out.size (fun k hk e => by omega))⟩
/-- A net at block d: its messages' numbers, in order. -/
structure Nt (base : Nat) (w : World) (d : Nat) (v : Value) (l : List Int) (bs : List Nat) : Prop where
  x : Bx d #[v] 88 w
  row : RowO w base 90 1 v l.length (bs.map ptr)
  len : bs.length = l.length
  m : ∀ (i : Nat) (b : Nat) (s : Int), bs[i]? = some b → l[i]? = some s → Bx b (srow s) 28 w
theorem new_any (w : World) : Calls Tryd.prog 17 #[] w fun e w' => e = .returned (ptr w.heap.size) ∧ Nt w.heap.size w' w.heap.size (.slice none 0 0) [] [] ∧ Below w.heap.size w w' := by
  go_enter Tryd.func17, Tryd.ntmps17
  go_wp2
  go_ret
  exact ⟨rfl, ⟨row_alloc w _ 88, RowO.nil _ _ _ _, rfl, fun i b s h => by simp at h⟩, (Below.refl _ _).alloc (Nat.le_refl _) _⟩
theorem len_any {base d : Nat} {w : World} {v : Value} {l : List Int} {bs : List Nat} (h : Nt base w d v l bs) : Calls Tryd.prog 22 #[ptr d] w fun e w' => e = .returned (iv (l.length : Nat)) ∧ w' = w := by
  obtain ⟨ao, c, rfl, _⟩ := h.row.form
  have e0 : w.cell? ⟨d, 0, none⟩ = some (.slice ao l.length c) := h.x.cell 0
  clear h
  go_enter Tryd.func22, Tryd.ntmps22
  go_wp2
  go_ret
  exact ⟨rfl, rfl⟩
/-- The place that a number means. -/
def pickF (i : Int) (n : Nat) : Int := (i.tmod n + n) % n
theorem pick_none {base d : Nat} {w : World} {v : Value} (h : Nt base w d v [] []) (i : Int) : Calls Tryd.prog 49 #[ptr d, iv i] w fun e w' => e = .returned (.tuple #[iv 0, iv 2]) ∧ w' = w := by
  obtain ⟨ao, c, rfl, _⟩ := h.row.form
  have e0 : w.cell? ⟨d, 0, none⟩ = some (.slice ao 0 c) := h.x.cell 0
  clear h
  go_enter Tryd.func49, Tryd.ntmps49
  go_wp2
  go_ret2
  exact ⟨rfl, rfl⟩
theorem pick_some {base d : Nat} {w : World} {v : Value} {l : List Int} {bs : List Nat} (h : Nt base w d v l bs) (i : Int) (hl : 0 < l.length) (hm : l.length ≤ 1000000) : Calls Tryd.prog 49 #[ptr d, iv i] w fun e w' => e = .returned (.tuple #[iv (pickF i l.length), iv 0]) ∧ w' = w := by
  obtain ⟨ao, c, rfl, _⟩ := h.row.form
  have e0 : w.cell? ⟨d, 0, none⟩ = some (.slice ao l.length c) := h.x.cell 0
  obtain ⟨n, hn⟩ : ∃ n, n = l.length := ⟨_, rfl⟩
  rw [← hn] at e0 hl hm ⊢
  have h1 := Int.lt_tmod_of_pos i (b := n) (by omega)
  have h2 := Int.tmod_lt_of_pos i (b := n) (by omega)
  have hn0 : ((n : Int) == 0) = false := by simp; omega
  have hp : 0 ≤ i.tmod n + n := by omega
  clear h hn
  go_enter Tryd.func49, Tryd.ntmps49
  go_wp2
  go_ret2
  exact ⟨rfl, rfl⟩
end Go.Proofs.YtamgoknoapcnjaaDoor
