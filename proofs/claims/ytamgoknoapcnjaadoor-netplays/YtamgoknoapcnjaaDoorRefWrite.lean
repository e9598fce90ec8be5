/- What the document's own writer puts behind bytes: the same as the program's. -/
import Derived.Test.YtamgoknoapcnjaaDoorPieces
namespace Go.Proofs.YtamgoknoapcnjaaDoor
open Go Go.RowKit
theorem be_last (n : Int) : (be (IntKind.u64.wrap n)).drop 7 = [n % 256] := by
  show [IntKind.u64.wrap n % 256] = [n % 256]
  rw [IntKind.wrap_u64]
  congr 1
  omega
theorem u64_bd (n : Int) : 0 ≤ IntKind.u64.wrap n ∧ IntKind.u64.wrap n < 18446744073709551616 := by rw [IntKind.wrap_u64]; omega
set_option maxRecDepth 100000 in
set_option maxHeartbeats 400000 in
theorem fU8w (B : Nat) (v : Value) (xs : List Int) (n : Int) (w : World) (hown : w.ownsRow B 5 1 v xs.length (u8s xs)) (hl : xs.length ≤ 900000) (hB : B ≤ w.heap.size) :
    Calls Tryd.prog 28 #[v, .int .i64 n] w fun e w' => ∃ v', e = .returned v' ∧ OwPost B w w' v v' (xs ++ (be (IntKind.u64.wrap n)).drop 7) := by
  obtain ⟨i0, hi, hz0, hz1, hz2⟩ := info_parts info5
  have H0 := Hid.mk' (OwPost.refl hown)
  clear hown
  rw [be_last]
  go_enter Tryd.func28, Tryd.ntmps28
  go_wp2_with (at_builtin; refine wpList_app _ rfl (.tmp 5) (.tmp 8) 26 26 rfl B 5 i0 Tryd.underlying26 hi hz0 hz1 hz2 v xs.length (u8s xs) rfl (H0.out.1.alloc _) _ rfl 1 (u8s [IntKind.u8.wrap n]) (Src.ofSlice _ Tryd.underlying26 ⟨w.heap.size, 0, none⟩ 1 1 _ rfl (cell_one_new _ _ _) (ints_oneCell _ _)) (by omega) (by simp; omega) ?_; intro v' w' h1 h2 h3 h4)
  go_ret
  rw [← IntKind.wrap_u8]
  exact ⟨_, rfl, OwPost.app (zs := [IntKind.u8.wrap n]) H0.out rfl h1 h2 h3⟩
set_option maxRecDepth 100000 in
set_option maxHeartbeats 400000 in
theorem fU32w (B : Nat) (v : Value) (xs : List Int) (n : Int) (w : World) (hown : w.ownsRow B 5 1 v xs.length (u8s xs)) (hl : xs.length ≤ 900000) (hB : B ≤ w.heap.size) :
    Calls Tryd.prog 63 #[v, .int .i64 n] w fun e w' => ∃ v', e = .returned v' ∧ OwPost B w w' v v' (xs ++ (be (IntKind.u64.wrap n)).drop 4) := by
  have hc := fNum4 B v xs (IntKind.u64.wrap n) w hown hl hB (u64_bd n).1 (u64_bd n).2
  clear hown
  go_enter Tryd.func63, Tryd.ntmps63
  go_wp2_with (go_at_call 62; refine hc.mono ?_; rintro e w1 ⟨v', rfl, hp⟩)
  go_ret
  exact ⟨_, rfl, hp⟩
set_option maxRecDepth 100000 in
set_option maxHeartbeats 400000 in
theorem fIntw (B : Nat) (v : Value) (xs : List Int) (n : Int) (w : World) (hown : w.ownsRow B 5 1 v xs.length (u8s xs)) (hl : xs.length ≤ 900000) (hB : B ≤ w.heap.size) :
    Calls Tryd.prog 29 #[v, .int .i64 n] w fun e w' => ∃ v', e = .returned v' ∧ OwPost B w w' v v' (xs ++ (be (IntKind.u64.wrap n)).drop 0) := by
  have hc := fNum8 B v xs (IntKind.u64.wrap n) w hown hl hB (u64_bd n).1 (u64_bd n).2
  clear hown
  go_enter Tryd.func29, Tryd.ntmps29
  go_wp2_with (go_at_call 62; refine hc.mono ?_; rintro e w1 ⟨v', rfl, hp⟩)
  go_ret
  exact ⟨_, rfl, hp⟩
theorem OwPost.app0 {B : Nat} {w w1 w2 : World} {v v1 v2 : Value} {ys zs : List Int} {m : Nat} (h : OwPost B w w1 v v1 ys) (hm : zs.length = m) (h1 : w2.ownsRow B 5 1 v2 (ys.length + m) (u8s ys ++ u8s zs)) (h2 : Upd w1 w2 (fun k => some k = v1.ownBlock))
    (h3 : v2.ownBlock = v1.ownBlock ∨ v2.ownBlock = some w1.heap.size) : OwPost B w w2 v v2 (ys ++ zs) := by
  subst hm
  refine h.trans ⟨by simpa using h1, h2, ?_⟩
  rcases h3 with h3 | h3
  · exact .inl h3
  · exact .inr ⟨_, Nat.le_refl _, h3⟩
set_option maxRecDepth 100000 in
set_option maxHeartbeats 400000 in
theorem fTextw (B : Nat) (v : Value) (xs : List Int) (s : ByteArray) (w : World) (hown : w.ownsRow B 5 1 v xs.length (u8s xs)) (hl : xs.length ≤ 800000) (hB : B ≤ w.heap.size) (hs : s.size ≤ 30000) :
    Calls Tryd.prog 30 #[v, .string s] w fun e w' => ∃ v', e = .returned v' ∧ OwPost B w w' v v' (xs ++ ((be (IntKind.u64.wrap s.size)).drop 4 ++ strB s)) := by
  obtain ⟨i0, hi, hz0, hz1, hz2⟩ := info_parts info5
  have hc := fU32w B v xs s.size w hown (by omega) hB
  clear hown
  go_enter Tryd.func30, Tryd.ntmps30
  go_wp2_with fail
  refine hc.mono ?_
  rintro e w1 ⟨v1, rfl, hp⟩
  have hs1 := hp.2.1.size
  obtain ⟨ys, HY⟩ : ∃ ys : List Int, Hid (ys = xs ++ (be (IntKind.u64.wrap s.size)).drop 4) := ⟨_, Eq.refl (xs ++ (be (IntKind.u64.wrap s.size)).drop 4)⟩
  rw [← HY.out] at hp
  have hyl : ys.length ≤ xs.length + 4 := by rw [HY.out]; simp [be_len]
  clear hc
  go_wp2_with (at_builtin; refine wpList_app _ rfl (.tmp 8) (.tmp 9) 26 9 rfl B 5 i0 Tryd.underlying26 hi hz0 hz1 hz2 v1 ys.length (u8s ys) rfl hp.1 _ rfl _ _ (Src.ofString _ Tryd.underlying9 s) (by omega) (by omega) ?_; intro v' w' h1 h2 h3 h4)
  go_ret
  rw [byteCells_eq] at h1
  have hh := OwPost.app0 (zs := strB s) hp (strB_len s) h1 h2 h3
  rw [← List.append_assoc, ← HY.out]
  exact ⟨_, rfl, hh⟩

/-- A writer and bytes of our own beside it, both of them es. -/
structure Pair (B : Nat) (W w : World) (bw : Nat) (vx vb : Value) (es : List Int) : Prop where
  wr : Wr B w bw vx es
  ow : w.ownsRow B 5 1 vb es.length (u8s es)
  n1 : vb.ownBlock ≠ some bw
  n2 : ∀ k, vx.ownBlock = some k → vb.ownBlock ≠ some k
  up : Below W.heap.size W w
  lo : W.heap.size ≤ B ∧ B ≤ w.heap.size
theorem Pair.half {B : Nat} {W w w1 : World} {bw : Nat} {vx vb : Value} {es fs : List Int} (h : Pair B W w bw vx vb es) (hp : WrPost B w w1 bw vx fs) :
    ∃ vx', Wr B w1 bw vx' fs ∧ w1.ownsRow B 5 1 vb es.length (u8s es) ∧ (∀ k, vx'.ownBlock = some k → vb.ownBlock ≠ some k) ∧ Below W.heap.size W w1 ∧ B ≤ w1.heap.size := by
  obtain ⟨vx', g1, g2, g3⟩ := hp
  refine ⟨vx', g1, ownsRow_upd h.ow g2 (fun k hk e => ?_), fun k hk e => ?_, h.up.trans ((g2.belowWr h.wr h.lo.2).mono h.lo.1), Nat.le_trans h.lo.2 g2.size⟩
  · rcases e with e | e
    · exact h.n1 (by rw [hk, e])
    · exact h.n2 k e.symm hk
  · rcases g3 with g3 | ⟨g, hg, g3⟩
    · exact h.n2 k (by rw [← g3]; exact hk) e
    · have := (h.ow.lt k e).2
      rw [g3] at hk; have := Option.some.inj hk; omega
theorem Pair.step {B : Nat} {W w1 w2 : World} {bw : Nat} {vx vb vb' : Value} {es fs : List Int} (hw : Wr B w1 bw vx fs) (ho : w1.ownsRow B 5 1 vb es.length (u8s es)) (hn : ∀ k, vx.ownBlock = some k → vb.ownBlock ≠ some k) (hn1 : vb.ownBlock ≠ some bw) (hb : Below W.heap.size W w1) (hlo : W.heap.size ≤ B ∧ B ≤ w1.heap.size)
    (hp : OwPost B w1 w2 vb vb' fs) : Pair B W w2 bw vx vb' fs := by
  obtain ⟨g1, g2, g3⟩ := hp
  refine ⟨hw.upd g2 (fun e => hn1 e.symm) (fun k hk e => hn k hk e.symm), g1, ?_, fun k hk e => ?_, hb.trans ((OwPost.belowOf ⟨g1, g2, g3⟩ ho hlo.2).mono hlo.1), hlo.1, Nat.le_trans hlo.2 g2.size⟩
  · rcases g3 with g3 | ⟨g, hg, g3⟩
    · rw [g3]; exact hn1
    · rw [g3]; intro e; have := Option.some.inj e; have := hw.lt; omega
  · rcases g3 with g3 | ⟨g, hg, g3⟩
    · exact hn k hk (by rw [← g3]; exact e)
    · have := (hw.own.lt k hk).2
      rw [g3] at e; have := Option.some.inj e; omega
end Go.Proofs.YtamgoknoapcnjaaDoor
