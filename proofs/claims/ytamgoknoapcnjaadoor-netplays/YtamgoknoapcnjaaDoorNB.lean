/- What writes a message's bytes: numbers, and all of it. -/
import Derived.Test.YtamgoknoapcnjaaDoorNA
import Derived.Deep.LoopGhost
import Derived.Deep.CutRange
namespace Go.Proofs.YtamgoknoapcnjaaDoor
open Go Go.RowKit
theorem WrPost.refl {B : Nat} {w : World} {b : Nat} {v : Value} {xs : List Int} (h : Wr B w b v xs) : WrPost B w w b v xs := ⟨v, h, Upd.refl _ _, .inl rfl⟩
theorem WrPost.below {B : Nat} {w w1 w2 : World} {b : Nat} {v : Value} {xs : List Int} (h : WrPost B w w1 b v xs) (hb : Below w1.heap.size w1 w2) : WrPost B w w2 b v xs := by
  obtain ⟨v', h1, h2, h3⟩ := h
  exact ⟨v', h1.below hb, h2.trans (Upd.ofBelow (S := fun _ => False) hb) (fun _ _ h => h.elim), h3⟩
/-- Where a slice lies that is written: made behind the world w1, or ahead of w0 and apart from the writer. -/
def Apart (w0 w1 : World) (b : Nat) (v0 : Value) (Z : Nat → Prop) : Prop := ∀ k, Z k → w1.heap.size ≤ k ∨ (k < w0.heap.size ∧ k ≠ b ∧ some k ≠ v0.ownBlock)
theorem wInts0 (B b : Nat) (v : Value) (xs ns : List Int) (p : Option Addr) (c : Nat) (w : World) (Z : Nat → Prop) (hw : Wr B w b v xs) (hB : B ≤ w.heap.size) (hl : xs.length + 8 * ns.length ≤ 900000)
    (hi : Is Z w (.slice p ns.length c) ns) (hZ : ∀ k, Z k → k < w.heap.size ∧ k ≠ b ∧ some k ≠ v.ownBlock) :
    Calls Tryd.prog 56 #[ptr b, .slice p ns.length c] w fun e w' => e = .returned (.tuple #[]) ∧ WrPost B w w' b v (xs ++ intsB ns) := by
  have HI := Hid.mkW hi
  have HZ := Hid.mkW hZ
  have H0 : Hid (WrPost B w w b v (xs ++ intsB (ns.take 0))) := by
    show WrPost B w w b v (xs ++ intsB (ns.take 0))
    have := WrPost.refl hw
    simpa [intsB] using this
  have HL : Hid (xs.length + 8 * ns.length ≤ 900000) := hl
  obtain ⟨n, hn⟩ : ∃ n, n = ns.length := ⟨_, rfl⟩
  have hnl : n ≤ 9223372036854775807 := by omega
  rw [← hn]
  have HN := Hid.mkW hn
  clear hi hZ hw hl hn
  go_enter Tryd.func56, Tryd.ntmps56
  go_wp2
  go_loopg [5, 8] (n + 1) (fun kx _s5 s8 wq => ∃ j : Nat, s8 = .int .i64 j ∧ kx + j = n + 1 ∧ j ≤ n ∧ Hid (WrPost B w wq b v (xs ++ intsB (ns.take j))))
  case atStart => exact ⟨0, rfl, rfl, Nat.zero_le _, H0⟩
  case round =>
    obtain ⟨j, rfl, hk, hj, HW⟩ := hrel
    by_cases hlt : j < n
    · obtain ⟨x, hx⟩ : ∃ x, ns[j]? = some x := ⟨_, List.getElem?_eq_getElem (by rw [← HN.out]; exact hlt)⟩
      obtain ⟨p', c', e', hlc, hcm, hh⟩ := HI.out
      cases e'
      obtain ⟨g, o, rfl, hz, hc⟩ := hh j x hx
      have hzz := HZ.out g hz
      have hcx : wr.cell? ⟨g, o + j, none⟩ = some (iv x) := by
        obtain ⟨v', h1, h2, h3⟩ := HW.out
        exact (h2.cell (p := ⟨g, o + j, none⟩) hzz.1 (fun e => e.elim hzz.2.1 hzz.2.2)).trans hc
      have hcall : ∀ W, W = wr → Calls Tryd.prog 84 #[ptr b, iv x] W fun e w' => e = .returned (.tuple #[]) ∧ Hid (WrPost B w w' b v (xs ++ intsB (ns.take (j + 1)))) := fun W hW => by
        subst hW
        obtain ⟨v', h1, h2, h3⟩ := HW.out
        have hlen : (xs ++ intsB (ns.take j)).length ≤ 900000 := by
          have := HL.out
          rw [List.length_append, intsB_len]
          have := List.length_take_le j ns
          have := HN.out
          have : 8 * (ns.take j).length ≤ 8 * ns.length := by simp; omega
          omega
        refine (wInt B b v' _ x _ h1 (by omega) (Nat.le_trans hB h2.size)).mono ?_
        rintro e w' ⟨rfl, hp⟩
        refine ⟨rfl, ?_⟩
        rw [List.take_succ_eq_append_getElem (by rw [← HN.out]; exact hlt), intsB_snoc, ← List.append_assoc]
        have ex : ns[j] = x := by
          rw [List.getElem?_eq_getElem (by rw [← HN.out]; exact hlt)] at hx
          exact Option.some.inj hx
        rw [ex]
        exact WrPost.next h2 h3 hp
      clear hh hlc hcm hx hz hc hzz H0
      go_wp2_with (go_at_call 84; refine (hcall _ rfl).mono ?_; rintro e w2 ⟨rfl, HW2⟩)
      go_roundg (n - j)
      case measure => omega
      case rel => exact ⟨j + 1, by congr 1, by omega, by omega, HW2⟩
    · obtain rfl : j = n := by omega
      clear H0
      go_wp2
      go_end0
      refine ⟨rfl, ?_⟩
      have := HW.out
      rwa [HN.out, List.take_length] at this
/-- Boxes stay, but for the writer's own block and rows of bytes. -/
def Keep (b : Nat) (W w' : World) : Prop := ∀ d row T, T ≠ 5 → d ≠ b → Bx d row T W → Bx d row T w'
theorem keep_of {B b : Nat} {W w' : World} {v : Value} {xs : List Int} (h : Wr B W b v xs) (hu : Upd W w' (fun k => k = b ∨ some k = v.ownBlock)) : Keep b W w' := by
  intro d row T hT hd hx
  refine hx.upd hu (fun e => ?_)
  rcases e with e | e
  · exact hd e
  · rcases h.own.2 with ⟨rfl, _⟩ | ⟨g, cap, cur, rfl, _, hh, _⟩
    · simp [Value.ownBlock] at e
    · obtain rfl : d = g := by simpa [Value.ownBlock] using e
      have := hx.symm.trans hh
      simp at this
      exact hT this.2
/-- A call of the writer behind others. -/
theorem wr_then {B b : Nat} {w0 W w' : World} {v0 v : Value} {xs ys : List Int} (h : Wr B W b v xs) (hu : Upd w0 W (fun k => k = b ∨ some k = v0.ownBlock)) (ho : v.ownBlock = v0.ownBlock ∨ ∃ g, w0.heap.size ≤ g ∧ v.ownBlock = some g)
    (hp : WrPost B W w' b v ys) : WrPost B w0 w' b v0 ys ∧ Keep b W w' := by
  refine ⟨WrPost.next hu ho hp, ?_⟩
  obtain ⟨v', h1, h2, h3⟩ := hp
  exact keep_of h h2
theorem xU8 {B b : Nat} {w0 W : World} {v0 : Value} {xs : List Int} (hp : WrPost B w0 W b v0 xs) (hB : B ≤ w0.heap.size) (hl : xs.length ≤ 900000) (n : Int) :
    Calls Tryd.prog 55 #[ptr b, iv n] W fun e w' => e = .returned (.tuple #[]) ∧ WrPost B w0 w' b v0 (xs ++ b1 n) ∧ Keep b W w' := by
  obtain ⟨v, h1, h2, h3⟩ := hp
  refine (wU8 B b v xs n W h1 (by omega) (Nat.le_trans hB h2.size)).mono ?_
  rintro e w' ⟨rfl, hq⟩
  exact ⟨rfl, wr_then h1 h2 h3 hq⟩
theorem strB_nums {l : List Int} (h : isB l) : strB (strOfNums l) = l := by
  unfold strOfNums strB
  rw [List.map_map]
  conv => rhs; rw [← List.map_id l]
  apply List.map_congr_left
  intro x hx
  have := h x hx
  simp only [Function.comp_apply, UInt8.toNat_ofNat', id]
  omega
theorem xText {B b : Nat} {w0 W : World} {v0 : Value} {xs ds : List Int} (hp : WrPost B w0 W b v0 xs) (hB : B ≤ w0.heap.size) (hl : xs.length ≤ 900000) (hd : isB ds) (hdl : ds.length ≤ 30000) :
    Calls Tryd.prog 57 #[ptr b, .string (strOfNums ds)] W fun e w' => e = .returned (.tuple #[]) ∧ WrPost B w0 w' b v0 (xs ++ btx ds) ∧ Keep b W w' := by
  obtain ⟨v, h1, h2, h3⟩ := hp
  have hs : strB (strOfNums ds) = ds := strB_nums hd
  have hz : (strOfNums ds).size = ds.length := by rw [← strB_len, hs]
  refine (wText B b v xs (strOfNums ds) W h1 hl (by omega) (Nat.le_trans hB h2.size)).mono ?_
  rintro e w' ⟨rfl, hq⟩
  rw [hs, hz] at hq
  exact ⟨rfl, wr_then h1 h2 h3 hq⟩
theorem xInts {B b : Nat} {w0 W W' : World} {v0 : Value} {xs ns : List Int} {p : Option Addr} {c : Nat} {Z : Nat → Prop} (hp : WrPost B w0 W b v0 xs) (hB : B ≤ w0.heap.size) (hW : Below W.heap.size W W') (hl : xs.length + 8 * ns.length ≤ 900000)
    (hi : Is Z W' (.slice p ns.length c) ns) (hZ : ∀ k, Z k → k < W'.heap.size ∧ (W.heap.size ≤ k ∨ (k < w0.heap.size ∧ k ≠ b ∧ some k ≠ v0.ownBlock))) :
    Calls Tryd.prog 56 #[ptr b, .slice p ns.length c] W' fun e w' => e = .returned (.tuple #[]) ∧ WrPost B w0 w' b v0 (xs ++ intsB ns) ∧ Keep b W' w' := by
  have hp' := hp.below hW
  obtain ⟨v, h1, h2, h3⟩ := hp'
  obtain ⟨v1, g1, g2, g3⟩ := hp
  have hvv : v1 = v := Option.some.inj (((hW.cell (p := ⟨b, 0, none⟩) g1.lt).trans g1.cell).symm.trans h1.cell)
  subst hvv
  refine (wInts0 B b v1 xs ns p c W' Z h1 (Nat.le_trans hB h2.size) hl hi (fun k hk => ?_)).mono ?_
  · obtain ⟨hk1, hk2⟩ := hZ k hk
    refine ⟨hk1, ?_⟩
    rcases hk2 with h | ⟨ha, hb, hc⟩
    · have := g1.lt
      exact ⟨by omega, fun e => by have := (g1.own.lt k e.symm).2; omega⟩
    · refine ⟨hb, fun e => ?_⟩
      rcases g3 with h | ⟨g, hg, h⟩
      · exact hc (e.trans h)
      · rw [h] at e
        cases e
        omega
  · rintro e w' ⟨rfl, hq⟩
    exact ⟨rfl, wr_then h1 h2 h3 hq⟩
theorem Keep.trans {b : Nat} {W1 W2 W3 : World} (h : Keep b W1 W2) (k : Keep b W2 W3) : Keep b W1 W3 := fun d row T h1 h2 h3 => k d row T h1 h2 (h d row T h1 h2 h3)
theorem Keep.below {b : Nat} {W1 W2 : World} (h : Below W1.heap.size W1 W2) : Keep b W1 W2 := fun _ _ _ _ _ h3 => h3.below h
/-- Numbers of a literal are written. -/
theorem xLit {B b : Nat} {w0 W : World} {v0 : Value} {xs : List Int} (hp : WrPost B w0 W b v0 xs) (hB : B ≤ w0.heap.size) (ns : List Int) (hn : ns.length ≤ 10) (hl : xs.length ≤ 800000) :
    Calls Tryd.prog 56 #[ptr b, .slice (some ⟨W.heap.size, 0, none⟩) ns.length ns.length] (W.alloc (.cells (ns.map iv).toArray 3)) fun e w' => e = .returned (.tuple #[]) ∧ WrPost B w0 w' b v0 (xs ++ intsB ns) ∧ Keep b W w' := by
  have hb : Below W.heap.size W (W.alloc (.cells (ns.map iv).toArray 3)) := (Below.refl _ _).alloc (Nat.le_refl _) _
  refine (xInts hp hB hb (by omega) (Is.lit W ns (by unfold maxLen; omega)) (fun k hk => ⟨by rw [hk]; simp, .inl (by rw [hk]; exact Nat.le_refl _)⟩)).mono ?_
  rintro e w' ⟨rfl, h1, h2⟩
  exact ⟨rfl, h1, (Keep.below hb).trans h2⟩
/-- What a writer's calls leave of what was there. -/
theorem WrPost.upd {B b : Nat} {w0 W : World} {v0 : Value} {xs : List Int} (h : WrPost B w0 W b v0 xs) : Upd w0 W (fun k => k = b ∨ some k = v0.ownBlock) := by
  obtain ⟨_, _, h2, _⟩ := h
  exact h2
theorem xArg {B b : Nat} {w0 W : World} {v0 : Value} {xs ns : List Int} {p : Option Addr} {c : Nat} {Z : Nat → Prop} (hp : WrPost B w0 W b v0 xs) (hB : B ≤ w0.heap.size) (hl : xs.length + 8 * ns.length ≤ 900000)
    (hi : Is Z w0 (.slice p ns.length c) ns) (hZ : ∀ k, Z k → k < w0.heap.size ∧ k ≠ b ∧ some k ≠ v0.ownBlock) :
    Calls Tryd.prog 56 #[ptr b, .slice p ns.length c] W fun e w' => e = .returned (.tuple #[]) ∧ WrPost B w0 w' b v0 (xs ++ intsB ns) ∧ Keep b W w' :=
  xInts hp hB (Below.refl _ _) hl (hi.upd hp.upd (fun k hk _ e => by
    have := hZ k hk
    rcases e with e | e
    · exact this.2.1 e
    · exact this.2.2 e)) (fun k hk => ⟨Nat.lt_of_lt_of_le (hZ k hk).1 hp.upd.size, .inr (hZ k hk)⟩)
end Go.Proofs.YtamgoknoapcnjaaDoor
