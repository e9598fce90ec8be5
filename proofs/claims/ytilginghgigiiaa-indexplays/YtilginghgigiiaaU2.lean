/- An index while keys come. -/
import Derived.Test.YtilginghgigiiaaU1
namespace Go.Proofs.Ytilginghgigiiaa
open Go Go.RowKit

/-- The index while keys come. -/
structure OS (w0 w : World) (x : Nat) (i : Nat) (D : Dat) (F : List Nat) : Prop where
  x : Xd w x D F
  b : Bd i D
  below : Below w0.heap.size w0 w
  own : ∀ k ∈ F, w0.heap.size ≤ k
theorem OS.later {w0 w W : World} {x i : Nat} {D : Dat} {F : List Nat} (h : OS w0 w x i D F) (hb : Below w.heap.size w W) : OS w0 W x i D F := ⟨h.x.below hb, h.b, h.below.trans (hb.mono h.below.size), h.own⟩
theorem OS.skip {w0 w : World} {x i : Nat} {D : Dat} {F : List Nat} (h : OS w0 w x i D F) : OS w0 w x (i + 1) D F := ⟨h.x, h.b.mono (Nat.le_succ _), h.below, h.own⟩
theorem OS.marks {w0 w : World} {x i : Nat} {D : Dat} {F : List Nat} (h : OS w0 w x i D F) (hi : i ≤ 1000) (key : ByteArray) :
    Calls Try.prog 14 #[ptr x, .string key] w fun e w' => ∃ p c, e = .returned (.slice p ((lookD D key).getD []).length c) ∧ Hid (OS w0 w' x i D F) ∧ Below w0.heap.size w0 w' := by
  refine (marks_xd h.x h.b (by omega) key).mono ?_
  rintro e w' ⟨v, rfl, ⟨p, c, hv, _⟩, _, hb⟩
  exact ⟨p, c, by rw [hv], h.later hb, (h.later hb).below⟩
theorem OS.put {w0 w : World} {x i : Nat} {D : Dat} {F : List Nat} (h : OS w0 w x i D F) (hi : i ≤ 1000) (key : ByteArray) (rev : Int) (del : Bool) (hk : key.size ≤ 9223372036854775807) (hr : -9223372036854775808 ≤ rev ∧ rev ≤ 9223372036854775807) :
    Calls Try.prog 10 #[ptr x, .string key, .agg #[.int .i64 rev, .bool del]] w fun e w' => e = .returned (.int .i64 (putE D key rev del)) ∧ ∃ F', Hid (OS w0 w' x (i + 1) (putD D key rev del) F') ∧ Below w0.heap.size w0 w' := by
  refine (put_xd h.x h.b (by omega) key rev del hk hr).mono ?_
  rintro e w' ⟨rfl, F', hx, hs⟩
  have hbl : Below w0.heap.size w0 w' := h.below.trans (hs.upd.below h.below.size (fun k hk hm => by have := h.own k hm; omega))
  exact ⟨rfl, F', ⟨hx, h.b.put _ _ _, hbl, fun k hk => (hs.sub k hk).elim (h.own k) (fun hh => Nat.le_trans h.below.size hh)⟩, hbl⟩
theorem putD_same {D : Dat} {key : ByteArray} {r : Int} {del : Bool} (he : putE D key r del ≠ 0) : putD D key r del = D := by
  unfold putD
  rw [if_neg he]
end Go.Proofs.Ytilginghgigiiaa
