/- IndexLooks: its memory. -/
import Derived.Test.YtilginghgigiiaaU2
import Derived.Test.YtilginghgigiiaaW1
namespace Go.Proofs.Ytilginghgigiiaa
open Go Go.RowKit

theorem OS.trim {w0 w : World} {x i : Nat} {D : Dat} {F : List Nat} (h : OS w0 w x i D F) (hi : i ≤ 1000) (rev : Int) :
    Calls Try.prog 12 #[ptr x, .int .i64 rev] w fun e w' => e = .returned (.tuple #[]) ∧ ∃ F', OS w0 w' x i (trimD rev D) F' ∧ Step w w' F F' := by
  refine (trim_xd h.x h.b (by omega) rev).mono ?_
  rintro e w' ⟨rfl, F', hx, hs⟩
  have hbl : Below w0.heap.size w0 w' := h.below.trans (hs.upd.below h.below.size (fun k hk hm => by have := h.own k hm; omega))
  exact ⟨rfl, F', ⟨hx, h.b.trim rev, hbl, fun k hk => (hs.sub k hk).elim (h.own k) (fun hh => Nat.le_trans h.below.size hh)⟩, hs⟩
theorem owns_blk {w : World} {base e s n : Nat} {v : Value} {xs : List Value} (h : w.ownsRow base e s v n xs) {k : Nat} (hk : v.ownBlock = some k) : k < w.heap.size := by
  obtain ⟨_, c, f, hh⟩ := ownBlock_ge h hk
  exact (Array.getElem?_eq_some_iff.1 hh).1
/-- The index, and the keys that were put. -/
structure LS (w0 w : World) (x i : Nat) (D : Dat) (F : List Nat) (kv : Value) (ks : List ByteArray) : Prop where
  os : OS w0 w x i D F
  row : w.ownsRow w0.heap.size 9 1 kv ks.length (strs ks)
  dis : ∀ k, kv.ownBlock = some k → k ∉ F
theorem LS.later {w0 w W : World} {x i : Nat} {D : Dat} {F : List Nat} {kv : Value} {ks : List ByteArray} (h : LS w0 w x i D F kv ks) (hb : Below w.heap.size w W) : LS w0 W x i D F kv ks :=
  ⟨h.os.later hb, ownsRow_upd h.row (Upd.ofBelow (S := fun _ => False) hb) (fun _ _ h => h), h.dis⟩
theorem LS.skip {w0 w : World} {x i : Nat} {D : Dat} {F : List Nat} {kv : Value} {ks : List ByteArray} (h : LS w0 w x i D F kv ks) : LS w0 w x (i + 1) D F kv ks := ⟨h.os.skip, h.row, h.dis⟩
theorem LS.put {w0 w : World} {x i : Nat} {D : Dat} {F : List Nat} {kv : Value} {ks : List ByteArray} (h : LS w0 w x i D F kv ks) (hi : i ≤ 1000) (key : ByteArray) (rev : Int) (del : Bool) (hk : key.size ≤ 9223372036854775807) (hr : -9223372036854775808 ≤ rev ∧ rev ≤ 9223372036854775807) :
    Calls Try.prog 10 #[ptr x, .string key, .agg #[.int .i64 rev, .bool del]] w fun e w' => e = .returned (.int .i64 (putE D key rev del)) ∧ (∃ F', Hid (LS w0 w' x (i + 1) (putD D key rev del) F' kv ks)) ∧ ∀ k, w0.heap.size ≤ k → k < w.heap.size → k ∉ F → w'.heap[k]? = w.heap[k]? := by
  refine (put_xd h.os.x h.os.b (by omega) key rev del hk hr).mono ?_
  rintro e w' ⟨rfl, F', hx, hs⟩
  have hbl : Below w0.heap.size w0 w' := h.os.below.trans (hs.upd.below h.os.below.size (fun k hk hm => by have := h.os.own k hm; omega))
  refine ⟨rfl, ⟨F', ⟨hx, h.os.b.put _ _ _, hbl, fun k hk => (hs.sub k hk).elim (h.os.own k) (fun hh => Nat.le_trans h.os.below.size hh)⟩, ownsRow_upd h.row hs.upd h.dis, fun k hk hm => (hs.sub k hm).elim (h.dis k hk) (fun hh => by have := owns_blk h.row hk; omega)⟩, fun k _ hk hn => hs.upd.block k hk hn⟩
/-- One key more. -/
theorem LS.app {w0 w V w' : World} {x i : Nat} {D : Dat} {F : List Nat} {kv nv : Value} {ks : List ByteArray} {key : ByteArray} (h : LS w0 w x i D F kv ks) (hV : Below w.heap.size w V) (p2 : Upd V w' (fun k => some k = kv.ownBlock)) (p3 : nv.ownBlock = kv.ownBlock ∨ nv.ownBlock = some V.heap.size) (p1 : w'.ownsRow w0.heap.size 9 1 nv (ks.length + 1) (strs ks ++ strs [key])) : LS w0 w' x i D F nv (ks ++ [key]) := by
  have hF := h.os.x.lt
  have hx := (h.os.x.below hV).upd p2 (fun k hk e => h.dis k e.symm hk)
  have hbl : Below w0.heap.size w0 w' := (h.os.below.trans (hV.mono h.os.below.size)).trans (p2.below (Nat.le_trans h.os.below.size hV.size) (fun k hk e => by have := (ownBlock_ge h.row e.symm).1; omega))
  refine ⟨⟨hx, h.os.b, hbl, h.os.own⟩, by simpa [strs] using p1, fun k hk hm => ?_⟩
  rcases p3 with p3 | p3
  · exact h.dis k (by rw [← p3]; exact hk) hm
  · rw [hk] at p3
    have h1 := hF k hm
    have h2 := hV.size
    have h3 : k = V.heap.size := Option.some.inj p3
    omega
abbrev ints (zs : List Int) : List Value := zs.map (Value.int .i64)
/-- And how they looked. -/
structure LW (w0 w : World) (x i : Nat) (D : Dat) (F : List Nat) (kv : Value) (ks : List ByteArray) (wv : Value) (zs : List Int) : Prop where
  ls : LS w0 w x i D F kv ks
  row2 : w.ownsRow w0.heap.size 3 1 wv zs.length (ints zs)
  dis2 : ∀ k, wv.ownBlock = some k → k ∉ F ∧ kv.ownBlock ≠ some k
theorem LW.later {w0 w W : World} {x i : Nat} {D : Dat} {F : List Nat} {kv wv : Value} {ks : List ByteArray} {zs : List Int} (h : LW w0 w x i D F kv ks wv zs) (hb : Below w.heap.size w W) : LW w0 W x i D F kv ks wv zs :=
  ⟨h.ls.later hb, ownsRow_upd h.row2 (Upd.ofBelow (S := fun _ => False) hb) (fun _ _ h => h), h.dis2⟩
theorem LW.app {w0 w V w' : World} {x i : Nat} {D : Dat} {F : List Nat} {kv wv nv : Value} {ks : List ByteArray} {zs : List Int} {z : Int} (h : LW w0 w x i D F kv ks wv zs) (hV : Below w.heap.size w V) (p2 : Upd V w' (fun k => some k = wv.ownBlock)) (p3 : nv.ownBlock = wv.ownBlock ∨ nv.ownBlock = some V.heap.size) (p1 : w'.ownsRow w0.heap.size 3 1 nv (zs.length + 1) (ints zs ++ ints [z])) : LW w0 w' x i D F kv ks nv (zs ++ [z]) := by
  have hF := h.ls.os.x.lt
  have hx := (h.ls.os.x.below hV).upd p2 (fun k hk e => (h.dis2 k e.symm).1 hk)
  have hV' := h.ls.later hV
  have hbl : Below w0.heap.size w0 w' := (h.ls.os.below.trans (hV.mono h.ls.os.below.size)).trans (p2.below (Nat.le_trans h.ls.os.below.size hV.size) (fun k hk e => by have := (ownBlock_ge h.row2 e.symm).1; omega))
  refine ⟨⟨⟨hx, h.ls.os.b, hbl, h.ls.os.own⟩, ownsRow_upd hV'.row p2 (fun k hk e => (h.dis2 k e.symm).2 hk), h.ls.dis⟩, by simpa [ints] using p1, fun k hk => ?_⟩
  rcases p3 with p3 | p3
  · exact h.dis2 k (by rw [← p3]; exact hk)
  · rw [hk] at p3
    have h2 := hV.size
    have h3 : k = V.heap.size := Option.some.inj p3
    refine ⟨fun hm => by have := hF k hm; omega, fun e => ?_⟩
    have := owns_blk h.ls.row e
    omega
theorem LW.trim {w0 w : World} {x i : Nat} {D : Dat} {F : List Nat} {kv wv : Value} {ks : List ByteArray} {zs : List Int} (h : LW w0 w x i D F kv ks wv zs) (hi : i ≤ 1000) (rev : Int) :
    Calls Try.prog 12 #[ptr x, .int .i64 rev] w fun e w' => e = .returned (.tuple #[]) ∧ ∃ F', Hid (LW w0 w' x i (trimD rev D) F' kv ks wv zs) := by
  refine (h.ls.os.trim hi rev).mono ?_
  rintro e w' ⟨rfl, F', ho, hs⟩
  refine ⟨rfl, F', ⟨ho, ownsRow_upd h.ls.row hs.upd h.ls.dis, fun k hk hm => (hs.sub k hm).elim (h.ls.dis k hk) (fun hh => by have := owns_blk h.ls.row hk; omega)⟩, ownsRow_upd h.row2 hs.upd (fun k hk => (h.dis2 k hk).1), fun k hk => ⟨fun hm => (hs.sub k hm).elim (h.dis2 k hk).1 (fun hh => by have := owns_blk h.row2 hk; omega), (h.dis2 k hk).2⟩⟩
/-- How a key looks now: Marks, then look. -/
theorem LS.marks {w0 w : World} {x i : Nat} {D : Dat} {F : List Nat} {kv : Value} {ks : List ByteArray} (h : LS w0 w x i D F kv ks) (hi : i ≤ 1000) (key : ByteArray) (at_ : Int) (W : World) (hb : Below w.heap.size w W) :
    Calls Try.prog 14 #[ptr x, .string key] W fun e w' => ∃ p l c, e = .returned (.slice p l c) ∧ Below w.heap.size w w' ∧ ∀ V, Below w'.heap.size w' V → Hid (Calls Try.prog 22 #[.slice p l c, .int .i64 at_] V fun e w2 => e = .returned (.int .i64 (lookF at_ 0 ((lookD D key).getD []))) ∧ w2 = V) := by
  refine (marks_xd (h.os.x.below hb) h.os.b (by omega) key).mono ?_
  rintro e w' ⟨v, rfl, ⟨p, c, hv, _⟩, hM, hb'⟩
  refine ⟨p, _, c, by rw [hv], hb.trans (hb'.mono hb.size), fun V hV => ?_⟩
  rw [← hv]
  have hM' : Mks V v ((lookD D key).getD []) := ownsRow_upd hM (Upd.ofBelow (S := fun _ => False) hV) (fun _ _ h => h)
  refine look_any hM' ?_ at_
  cases hl : lookD D key with
  | none => simp
  | some ms => have := (h.os.b.ms _ (lookD_mem hl)).1; dsimp only at this; simp; omega
end Go.Proofs.Ytilginghgigiiaa
