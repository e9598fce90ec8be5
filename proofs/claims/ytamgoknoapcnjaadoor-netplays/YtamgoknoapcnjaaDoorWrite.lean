/- What the writer of package pen does: numbers and texts laid behind its bytes. -/
import Derived.Test.YtamgoknoapcnjaaDoorSum
import Derived.Deep.RegionLaw
namespace Go.Proofs.YtamgoknoapcnjaaDoor
open Go Go.RowKit
structure Wr (B : Nat) (w : World) (b : Nat) (v : Value) (xs : List Int) : Prop where
  cell : w.cell? ⟨b, 0, none⟩ = some v
  free : w.frozen? ⟨b, 0, none⟩ = false
  own : w.ownsRow B 5 1 v xs.length (u8s xs)
  ne : v.ownBlock ≠ some b
  base : B ≤ b

theorem Wr.upd {B : Nat} {w w' : World} {S : Nat → Prop} {b : Nat} {v : Value} {xs : List Int} (h : Wr B w b v xs) (hu : Upd w w' S) (h1 : ¬ S b) (h2 : ∀ k, v.ownBlock = some k → ¬ S k) : Wr B w' b v xs := by
  have hlt := World.block_lt_of_cell? _ _ h.cell
  exact ⟨(hu.cell (p := ⟨b, 0, none⟩) hlt h1).trans h.cell, (hu.frozen (p := ⟨b, 0, none⟩) hlt h1).trans h.free, ownsRow_upd h.own hu h2, h.ne, h.base⟩
theorem Wr.below {B : Nat} {w w' : World} {b : Nat} {v : Value} {xs : List Int} (h : Wr B w b v xs) (hu : Below w.heap.size w w') : Wr B w' b v xs := h.upd (S := fun _ => False) (Upd.ofBelow hu) (fun h => h) (fun _ _ h => h)

theorem owns_form {w : World} {B : Nat} {e : TypeId} {v : Value} {n : Nat} {xs : List Value} (h : w.ownsRow B e 1 v n xs) : ∃ ao c, v = .slice ao n c := by
  rcases h.2 with ⟨rfl, rfl⟩ | ⟨g, cap, cur, rfl, _⟩ <;> exact ⟨_, _, rfl⟩

/-- What a writer's call leaves: its bytes are xs now; nothing else has turned but the writer and its own row. -/
def WrPost (B : Nat) (w w' : World) (b : Nat) (v : Value) (xs : List Int) : Prop :=
  ∃ v', Wr B w' b v' xs ∧ Upd w w' (fun k => k = b ∨ some k = v.ownBlock) ∧ (v'.ownBlock = v.ownBlock ∨ ∃ g, w.heap.size ≤ g ∧ v'.ownBlock = some g)

theorem Wr.lt {B : Nat} {w : World} {b : Nat} {v : Value} {xs : List Int} (h : Wr B w b v xs) : b < w.heap.size := World.block_lt_of_cell? _ _ h.cell

theorem WrPost.next {B : Nat} {w w1 w2 : World} {b : Nat} {v v1 : Value} {zs : List Int} (hu : Upd w w1 (fun k => k = b ∨ some k = v.ownBlock)) (hv : v1.ownBlock = v.ownBlock ∨ ∃ g, w.heap.size ≤ g ∧ v1.ownBlock = some g)
    (h2 : WrPost B w1 w2 b v1 zs) : WrPost B w w2 b v zs := by
  obtain ⟨v2, g1, g2, g3⟩ := h2
  have hs := hu.size
  refine ⟨v2, g1, hu.trans g2 (fun j hj h => ?_), ?_⟩
  · rcases h with h | h
    · exact .inl h
    · rcases hv with hv | ⟨g, hg, hv⟩
      · exact .inr (h.trans hv)
      · rw [hv] at h; have := Option.some.inj h; omega
  · rcases g3 with g3 | ⟨g, hg, g3⟩
    · rcases hv with hv | ⟨g, hg, hv⟩
      · exact .inl (g3.trans hv)
      · exact .inr ⟨g, hg, g3.trans hv⟩
    · exact .inr ⟨g, by omega, g3⟩

theorem WrPost.trans {B : Nat} {w w1 w2 : World} {b : Nat} {v : Value} {ys zs : List Int} (h1 : WrPost B w w1 b v ys) (h2 : ∀ v1, Wr B w1 b v1 ys → WrPost B w1 w2 b v1 zs) : WrPost B w w2 b v zs := by
  obtain ⟨v1, f1, f2, f3⟩ := h1
  exact WrPost.next f2 f3 (h2 v1 f1)

theorem wr_stored {B : Nat} {w w0 w' : World} {b : Nat} {v v' : Value} {xs ys : List Int} {m : Nat} (hw : Wr B w b v xs) (h0 : Below w.heap.size w w0) (hm : ys.length = m) (h1 : w'.ownsRow B 5 1 v' (xs.length + m) (u8s xs ++ u8s ys))
    (h2 : Upd w0 w' (fun k => some k = v.ownBlock)) (h3 : v'.ownBlock = v.ownBlock ∨ v'.ownBlock = some w0.heap.size) : WrPost B w (w'.setCell ⟨b, 0, none⟩ v') b v (xs ++ ys) := by
  subst hm
  have hbl := hw.lt
  have hs0 := h0.size
  have hs2 := h2.size
  have hnb : v'.ownBlock ≠ some b := by
    rcases h3 with h3 | h3
    · rw [h3]; exact hw.ne
    · rw [h3]; intro e; have := Option.some.inj e; omega
  have hcell : (w'.cell? ⟨b, 0, none⟩) = some v := by
    rw [h2.cell (p := ⟨b, 0, none⟩) (show b < w0.heap.size by omega) (fun e => hw.ne e.symm), h0.cell (p := ⟨b, 0, none⟩) hbl]; exact hw.cell
  have hfree : (w'.frozen? ⟨b, 0, none⟩) = false := by
    rw [h2.frozen (p := ⟨b, 0, none⟩) (show b < w0.heap.size by omega) (fun e => hw.ne e.symm), h0.frozen (p := ⟨b, 0, none⟩) hbl]; exact hw.free
  have hset : Upd w' (w'.setCell ⟨b, 0, none⟩ v') (fun k => k = b) := (Upd.refl w' (fun k => k = b)).setCell (p := ⟨b, 0, none⟩) (.inr rfl) v'
  refine ⟨v', ⟨?_, ?_, ?_, hnb, hw.base⟩, ?_, ?_⟩
  · exact World.cell?_setCell_same _ _ _ hcell
  · rw [World.frozen?_setCell]; exact hfree
  · have := ownsRow_upd h1 hset (fun k hk e => hnb (by rw [hk, e]))
    simpa using this
  · refine ((Upd.ofBelow h0).trans h2 (fun j _ h => .inr h)).trans hset (fun j _ h => .inl h)
  · rcases h3 with h3 | h3
    · exact .inl h3
    · exact .inr ⟨_, hs0, h3⟩

theorem be_len (n : Int) : (be n).length = 8 := rfl

set_option maxRecDepth 100000 in
set_option maxHeartbeats 1000000 in
theorem number1 (B : Nat) (b : Nat) (v : Value) (xs : List Int) (n : Int) (w : World) (hw : Wr B w b v xs) (hl : xs.length ≤ 1000000) (hB : B ≤ w.heap.size) :
    Calls Tryd.prog 83 #[.pointer (some ⟨b, 0, none⟩), .int .i64 n, .int .i64 1] w fun e w' => e = .returned (.tuple #[]) ∧ WrPost B w w' b v (xs ++ (be (IntKind.u64.wrap n)).drop 7) := by
  obtain ⟨i0, hi, hz0, hz1, hz2⟩ := info_parts info5
  have hU : 0 ≤ IntKind.u64.wrap n ∧ IntKind.u64.wrap n < 18446744073709551616 := by rw [IntKind.wrap_u64]; omega
  obtain ⟨x0, x1, x2, x3, x4, x5, x6, x7, hx⟩ : ∃ x0 x1 x2 x3 x4 x5 x6 x7, be (IntKind.u64.wrap n) = [x0, x1, x2, x3, x4, x5, x6, x7] := ⟨_, _, _, _, _, _, _, _, rfl⟩
  have hsl : ∀ (g : Nat) (w : World), (Instr.sliceAt 125 (.pointer (some ⟨g, 0, none⟩)) (some (.int .i64 (IntKind.i64.wrap 7))) none none).run Tryd.prog w = .ok (.slice (some ⟨g, 7, none⟩) 1 1) w := fun _ _ => by kernel_rfl
  go_enter Tryd.func83, Tryd.ntmps83
  go_wp2_with (go_at_call 87; refine (be_any _ _ hU.1 hU.2).mono ?_; rintro e w1 ⟨rfl, hb1⟩)
  have hb0 := (hb1.mono (Nat.le_refl _)).alloc hb1.size (.cells #[.int .u8 x0, .int .u8 x1, .int .u8 x2, .int .u8 x3, .int .u8 x4, .int .u8 x5, .int .u8 x6, .int .u8 x7] 125)
  have hw1 := hw.below hb0
  have hc := hw1.cell
  have hf := hw1.free
  have hsz := hb1.size
  have hbl : b < w.heap.size := World.block_lt_of_cell? _ _ hw.cell
  have hsrc : Src Tryd.prog 1 26 (.slice (some ⟨w1.heap.size, 7, none⟩) 1 1) 1 (u8s [x7]) ((w1.alloc (.cells #[.int .u8 x0, .int .u8 x1, .int .u8 x2, .int .u8 x3, .int .u8 x4, .int .u8 x5, .int .u8 x6, .int .u8 x7] 125)).drew) :=
    Src.ofSlice _ Tryd.underlying26 ⟨w1.heap.size, 7, none⟩ 1 1 _ rfl (fun j u hj => by
      match j, hj with
      | 0, hj => simp at hj; subst hj; simp [Addr.add]
      | j + 1, hj => simp at hj) (ints_oneCell _ _)
  go_region_law ((refine step_app _ rfl (.tmp 14) (.tmp 17) 26 26 rfl B 5 i0 Tryd.underlying26 hi hz0 hz1 hz2 v xs.length (u8s xs) (by simp [Act.eval]) hw1.own.drew _ (by simp [Act.eval]) 1 (u8s [x7]) hsrc (by omega) (by simp; omega) ?_; intro v' w' h1 h2 h3 h4; obtain ⟨ao', c', rfl⟩ := owns_form h1; have hc' := (h2.cell (p := ⟨b, 0, none⟩) (by simp; omega) (fun e => hw.ne e.symm)).trans hc; have hf' := (h2.frozen (p := ⟨b, 0, none⟩) (by simp; omega) (fun e => hw.ne e.symm)).trans hf))
  go_end0
  refine ⟨rfl, ?_⟩
  have h := wr_stored (ys := [x7]) hw hb0.drew rfl h1 h2 h3
  rw [hx]
  exact h

set_option maxRecDepth 100000 in
set_option maxHeartbeats 1000000 in
theorem number4 (B : Nat) (b : Nat) (v : Value) (xs : List Int) (n : Int) (w : World) (hw : Wr B w b v xs) (hl : xs.length ≤ 1000000) (hB : B ≤ w.heap.size) :
    Calls Tryd.prog 83 #[.pointer (some ⟨b, 0, none⟩), .int .i64 n, .int .i64 4] w fun e w' => e = .returned (.tuple #[]) ∧ WrPost B w w' b v (xs ++ (be (IntKind.u64.wrap n)).drop 4) := by
  obtain ⟨i0, hi, hz0, hz1, hz2⟩ := info_parts info5
  have hU : 0 ≤ IntKind.u64.wrap n ∧ IntKind.u64.wrap n < 18446744073709551616 := by rw [IntKind.wrap_u64]; omega
  obtain ⟨x0, x1, x2, x3, x4, x5, x6, x7, hx⟩ : ∃ x0 x1 x2 x3 x4 x5 x6 x7, be (IntKind.u64.wrap n) = [x0, x1, x2, x3, x4, x5, x6, x7] := ⟨_, _, _, _, _, _, _, _, rfl⟩
  have hsl : ∀ (g : Nat) (w : World), (Instr.sliceAt 125 (.pointer (some ⟨g, 0, none⟩)) (some (.int .i64 (IntKind.i64.wrap 4))) none none).run Tryd.prog w = .ok (.slice (some ⟨g, 4, none⟩) 4 4) w := fun _ _ => by kernel_rfl
  go_enter Tryd.func83, Tryd.ntmps83
  go_wp2_with (go_at_call 87; refine (be_any _ _ hU.1 hU.2).mono ?_; rintro e w1 ⟨rfl, hb1⟩)
  have hb0 := (hb1.mono (Nat.le_refl _)).alloc hb1.size (.cells #[.int .u8 x0, .int .u8 x1, .int .u8 x2, .int .u8 x3, .int .u8 x4, .int .u8 x5, .int .u8 x6, .int .u8 x7] 125)
  have hw1 := hw.below hb0
  have hc := hw1.cell
  have hf := hw1.free
  have hsz := hb1.size
  have hbl : b < w.heap.size := World.block_lt_of_cell? _ _ hw.cell
  have hsrc : Src Tryd.prog 1 26 (.slice (some ⟨w1.heap.size, 4, none⟩) 4 4) 4 (u8s [x4, x5, x6, x7]) ((w1.alloc (.cells #[.int .u8 x0, .int .u8 x1, .int .u8 x2, .int .u8 x3, .int .u8 x4, .int .u8 x5, .int .u8 x6, .int .u8 x7] 125)).drew) :=
    Src.ofSlice _ Tryd.underlying26 ⟨w1.heap.size, 4, none⟩ 4 4 _ rfl (fun j u hj => by
      match j, hj with
      | 0, hj | 1, hj | 2, hj | 3, hj => simp at hj; subst hj; simp [Addr.add]
      | j + 4, hj => simp at hj) (ints_oneCell _ _)
  go_region_law ((refine step_app _ rfl (.tmp 14) (.tmp 17) 26 26 rfl B 5 i0 Tryd.underlying26 hi hz0 hz1 hz2 v xs.length (u8s xs) (by simp [Act.eval]) hw1.own.drew _ (by simp [Act.eval]) 4 (u8s [x4, x5, x6, x7]) hsrc (by omega) (by simp; omega) ?_; intro v' w' h1 h2 h3 h4; obtain ⟨ao', c', rfl⟩ := owns_form h1; have hc' := (h2.cell (p := ⟨b, 0, none⟩) (by simp; omega) (fun e => hw.ne e.symm)).trans hc; have hf' := (h2.frozen (p := ⟨b, 0, none⟩) (by simp; omega) (fun e => hw.ne e.symm)).trans hf))
  go_end0
  refine ⟨rfl, ?_⟩
  have h := wr_stored (ys := [x4, x5, x6, x7]) hw hb0.drew rfl h1 h2 h3
  rw [hx]
  exact h

set_option maxRecDepth 100000 in
set_option maxHeartbeats 1000000 in
theorem number8 (B : Nat) (b : Nat) (v : Value) (xs : List Int) (n : Int) (w : World) (hw : Wr B w b v xs) (hl : xs.length ≤ 1000000) (hB : B ≤ w.heap.size) :
    Calls Tryd.prog 83 #[.pointer (some ⟨b, 0, none⟩), .int .i64 n, .int .i64 8] w fun e w' => e = .returned (.tuple #[]) ∧ WrPost B w w' b v (xs ++ (be (IntKind.u64.wrap n)).drop 0) := by
  obtain ⟨i0, hi, hz0, hz1, hz2⟩ := info_parts info5
  have hU : 0 ≤ IntKind.u64.wrap n ∧ IntKind.u64.wrap n < 18446744073709551616 := by rw [IntKind.wrap_u64]; omega
  obtain ⟨x0, x1, x2, x3, x4, x5, x6, x7, hx⟩ : ∃ x0 x1 x2 x3 x4 x5 x6 x7, be (IntKind.u64.wrap n) = [x0, x1, x2, x3, x4, x5, x6, x7] := ⟨_, _, _, _, _, _, _, _, rfl⟩
  have hsl : ∀ (g : Nat) (w : World), (Instr.sliceAt 125 (.pointer (some ⟨g, 0, none⟩)) (some (.int .i64 (IntKind.i64.wrap 0))) none none).run Tryd.prog w = .ok (.slice (some ⟨g, 0, none⟩) 8 8) w := fun _ _ => by kernel_rfl
  go_enter Tryd.func83, Tryd.ntmps83
  go_wp2_with (go_at_call 87; refine (be_any _ _ hU.1 hU.2).mono ?_; rintro e w1 ⟨rfl, hb1⟩)
  have hb0 := (hb1.mono (Nat.le_refl _)).alloc hb1.size (.cells #[.int .u8 x0, .int .u8 x1, .int .u8 x2, .int .u8 x3, .int .u8 x4, .int .u8 x5, .int .u8 x6, .int .u8 x7] 125)
  have hw1 := hw.below hb0
  have hc := hw1.cell
  have hf := hw1.free
  have hsz := hb1.size
  have hbl : b < w.heap.size := World.block_lt_of_cell? _ _ hw.cell
  have hsrc : Src Tryd.prog 1 26 (.slice (some ⟨w1.heap.size, 0, none⟩) 8 8) 8 (u8s [x0, x1, x2, x3, x4, x5, x6, x7]) ((w1.alloc (.cells #[.int .u8 x0, .int .u8 x1, .int .u8 x2, .int .u8 x3, .int .u8 x4, .int .u8 x5, .int .u8 x6, .int .u8 x7] 125)).drew) :=
    Src.ofSlice _ Tryd.underlying26 ⟨w1.heap.size, 0, none⟩ 8 8 _ rfl (fun j u hj => by
      match j, hj with
      | 0, hj | 1, hj | 2, hj | 3, hj | 4, hj | 5, hj | 6, hj | 7, hj => simp at hj; subst hj; simp [Addr.add]
      | j + 8, hj => simp at hj) (ints_oneCell _ _)
  go_region_law ((refine step_app _ rfl (.tmp 14) (.tmp 17) 26 26 rfl B 5 i0 Tryd.underlying26 hi hz0 hz1 hz2 v xs.length (u8s xs) (by simp [Act.eval]) hw1.own.drew _ (by simp [Act.eval]) 8 (u8s [x0, x1, x2, x3, x4, x5, x6, x7]) hsrc (by omega) (by simp; omega) ?_; intro v' w' h1 h2 h3 h4; obtain ⟨ao', c', rfl⟩ := owns_form h1; have hc' := (h2.cell (p := ⟨b, 0, none⟩) (by simp; omega) (fun e => hw.ne e.symm)).trans hc; have hf' := (h2.frozen (p := ⟨b, 0, none⟩) (by simp; omega) (fun e => hw.ne e.symm)).trans hf))
  go_end0
  refine ⟨rfl, ?_⟩
  have h := wr_stored (ys := [x0, x1, x2, x3, x4, x5, x6, x7]) hw hb0.drew rfl h1 h2 h3
  rw [hx]
  exact h

set_option maxRecDepth 100000 in
set_option maxHeartbeats 400000 in
theorem wU8 (B : Nat) (b : Nat) (v : Value) (xs : List Int) (n : Int) (w : World) (hw : Wr B w b v xs) (hl : xs.length ≤ 1000000) (hB : B ≤ w.heap.size) :
    Calls Tryd.prog 55 #[.pointer (some ⟨b, 0, none⟩), .int .i64 n] w fun e w' => e = .returned (.tuple #[]) ∧ WrPost B w w' b v (xs ++ (be (IntKind.u64.wrap n)).drop 7) := by
  go_enter Tryd.func55, Tryd.ntmps55
  go_wp2_with (go_at_call 83; refine (number1 B b v xs n _ hw hl hB).mono ?_; rintro e w1 ⟨rfl, hp⟩)
  go_end0
  exact ⟨rfl, hp⟩

set_option maxRecDepth 100000 in
set_option maxHeartbeats 400000 in
theorem wU32 (B : Nat) (b : Nat) (v : Value) (xs : List Int) (n : Int) (w : World) (hw : Wr B w b v xs) (hl : xs.length ≤ 1000000) (hB : B ≤ w.heap.size) :
    Calls Tryd.prog 59 #[.pointer (some ⟨b, 0, none⟩), .int .i64 n] w fun e w' => e = .returned (.tuple #[]) ∧ WrPost B w w' b v (xs ++ (be (IntKind.u64.wrap n)).drop 4) := by
  go_enter Tryd.func59, Tryd.ntmps59
  go_wp2_with (go_at_call 83; refine (number4 B b v xs n _ hw hl hB).mono ?_; rintro e w1 ⟨rfl, hp⟩)
  go_end0
  exact ⟨rfl, hp⟩

set_option maxRecDepth 100000 in
set_option maxHeartbeats 400000 in
theorem wInt (B : Nat) (b : Nat) (v : Value) (xs : List Int) (n : Int) (w : World) (hw : Wr B w b v xs) (hl : xs.length ≤ 1000000) (hB : B ≤ w.heap.size) :
    Calls Tryd.prog 84 #[.pointer (some ⟨b, 0, none⟩), .int .i64 n] w fun e w' => e = .returned (.tuple #[]) ∧ WrPost B w w' b v (xs ++ (be (IntKind.u64.wrap n)).drop 0) := by
  go_enter Tryd.func84, Tryd.ntmps84
  go_wp2_with (go_at_call 83; refine (number8 B b v xs n _ hw hl hB).mono ?_; rintro e w1 ⟨rfl, hp⟩)
  go_end0
  exact ⟨rfl, hp⟩
end Go.Proofs.YtamgoknoapcnjaaDoor
