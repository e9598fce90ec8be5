/- A net of small messages beside a row of their numbers. -/
import Derived.Test.YtamgoknoapcnjaaDoorNU
import Derived.Test.YtamgoknoapcnjaaDoorNH
namespace Go.Proofs.YtamgoknoapcnjaaDoor
open Go Go.RowKit
/-- The row tells l, the net holds l'. -/
structure IV (w W : World) (d : Nat) (p : Option Addr) (c : Nat) (l l' : List Int) : Prop where
  b : Below w.heap.size w W
  n : ∃ v bs, Nt w.heap.size W d v l' bs
  o : W.ownsRow w.heap.size 3 1 (.slice p l.length c) l.length (l.map iv)
  d : w.heap.size ≤ d
theorem own_bx {w : World} {base e s n : Nat} {v : Value} {xs : List Value} (h : w.ownsRow base e s v n xs) {b T : Nat} {row : Array Value} (hx : Bx b row T w) (hT : T ≠ e) : some b ≠ v.ownBlock := rowO_ne (RowO.of_owns h) hx hT
theorem own_rowO {w : World} {base e s n base2 e2 s2 n2 : Nat} {v u : Value} {xs ys : List Value} (h : w.ownsRow base e s v n xs) (k : RowO w base2 e2 s2 u n2 ys) (hT : e ≠ e2) {b : Nat} (hb : v.ownBlock = some b) : some b ≠ u.ownBlock := by
  rcases h.2 with ⟨rfl, _⟩ | ⟨g, cap, cur, rfl, _, hh, _⟩
  · simp [Value.ownBlock] at hb
  · obtain rfl : g = b := by simpa [Value.ownBlock] using hb
    exact rowO_ne k (show Bx g cur e w from hh) hT
/-- Behind a call of the net. -/
theorem IV.call {w W W' : World} {d : Nat} {p : Option Addr} {c : Nat} {l l' l2 : List Int} {v v' : Value} {bs bs' : List Nat} (h : IV w W d p c l l') (hn : Nt w.heap.size W d v l' bs) (hn' : Nt w.heap.size W' d v' l2 bs') (hu : Upd W W' (fun k => k = d ∨ some k = v.ownBlock)) : IV w W' d p c l l2 := by
  refine ⟨h.b.trans (hu.below h.b.size (fun k hk e => ?_)), ⟨v', bs', hn'⟩, ownsRow_upd h.o hu (fun k hk e => ?_), h.d⟩
  · rcases e with e | e
    · have := h.d
      omega
    · have := (hn.row.lt e.symm).1
      omega
  · rcases e with e | e
    · rw [e] at hk
      exact own_bx h.o hn.x (by decide) hk.symm
    · exact own_rowO h.o hn.row (by decide) hk e
theorem IV.below {w W W' : World} {d : Nat} {p : Option Addr} {c : Nat} {l l' : List Int} (h : IV w W d p c l l') (hb : Below W.heap.size W W') : IV w W' d p c l l' := by
  obtain ⟨v, bs, hn⟩ := h.n
  exact ⟨h.b.trans (hb.mono h.b.size), ⟨v, bs, hn.below hb⟩, ownsRow_upd h.o (Upd.ofBelow (S := fun _ => False) hb) (fun _ _ h => h), h.d⟩
theorem iSend {w W : World} {d : Nat} {p : Option Addr} {c : Nat} {l l' : List Int} (h : IV w W d p c l l') (x : Int) (hl : l'.length ≤ 100000) :
    Calls Tryd.prog 18 #[ptr d, .slice (some ⟨W.heap.size, 0, none⟩) 1 1] (W.alloc (.cells (srow x) 28)) fun e w' => e = .returned (.tuple #[]) ∧ IV w w' d p c l (l' ++ [x]) := by
  have h1 := h.below ((Below.refl _ W).alloc (Nat.le_refl _) (.cells (srow x) 28))
  obtain ⟨v, bs, hn⟩ := h1.n
  refine (send_small hn x (row_alloc W _ 28) h1.b.size hl).mono ?_
  rintro e w' ⟨rfl, v', b, hn', hu⟩
  exact ⟨rfl, h1.call hn hn' hu⟩
theorem iDouble {w W : World} {d : Nat} {p : Option Addr} {c : Nat} {l l' : List Int} (h : IV w W d p c l l') (i : Int) (k : Nat) (s : Int) (hk : pickF i l'.length = k) (hs : l'[k]? = some s) (hl : l'.length ≤ 100000) :
    Calls Tryd.prog 21 #[ptr d, iv i] W fun e w' => e = .returned (iv 0) ∧ IV w w' d p c l (l' ++ [s]) := by
  obtain ⟨v, bs, hn⟩ := h.n
  refine (double_small hn i k s hk hs h.b.size hl).mono ?_
  rintro e w' ⟨rfl, v', b, hn', hu⟩
  exact ⟨rfl, h.call hn hn' hu⟩
theorem iDeliver {w W : World} {d : Nat} {p : Option Addr} {c : Nat} {l l' : List Int} {s : Int} (h : IV w W d p c l (s :: l')) (hl : l'.length ≤ 100000) :
    Calls Tryd.prog 19 #[ptr d, iv 0] W fun e w' => e = .returned (.tuple #[.agg (srow s), iv 0]) ∧ IV w w' d p c l l' := by
  obtain ⟨v, bs, hn⟩ := h.n
  cases bs with
  | nil => have := hn.len; simp at this
  | cons b bs =>
    refine (deliver_first hn hl).mono ?_
    rintro e w' ⟨rfl, v', hn', hu⟩
    exact ⟨rfl, h.call hn hn' hu⟩
theorem iLen {w W : World} {d : Nat} {p : Option Addr} {c : Nat} {l l' : List Int} (h : IV w W d p c l l') : Calls Tryd.prog 22 #[ptr d] W fun e w' => e = .returned (iv (l'.length : Nat)) ∧ w' = W := by
  obtain ⟨v, bs, hn⟩ := h.n
  exact len_any hn
theorem iDrop {w W : World} {d : Nat} {p : Option Addr} {c : Nat} {l : List Int} (h : IV w W d p c l []) (i : Int) : Calls Tryd.prog 20 #[ptr d, iv i] W fun e w' => e = .returned (iv 2) ∧ Below W.heap.size W w' := by
  obtain ⟨v, bs, hn⟩ := h.n
  cases bs with
  | nil => exact drop_none hn i
  | cons b bs => have := hn.len; simp at this
/-- A number more in the row. -/
theorem IV.app {w W w5 : World} {d : Nat} {p p5 : Option Addr} {c c5 : Nat} {l l' : List Int} {x : Int} {o : Obj} (h : IV w W d p c l l')
    (q1 : w5.ownsRow w.heap.size 3 1 (.slice p5 (l.length + 1) c5) (l.length + 1) (l.map iv ++ [iv x])) (q2 : Upd (W.alloc o) w5 (fun k => some k = (Value.slice p l.length c).ownBlock)) : IV w w5 d p5 c5 (l ++ [x]) l' := by
  have h1 := h.below ((Below.refl _ W).alloc (Nat.le_refl _) o)
  obtain ⟨v, bs, hn⟩ := h1.n
  refine ⟨h1.b.trans (q2.below h1.b.size (fun k hk e => by have := (h1.o.lt k e.symm).1; omega)), ⟨v, bs, hn.upd q2 (own_bx h1.o hn.x (by decide)) (fun k hk e => ?_) (fun b row hb => own_bx h1.o hb (by decide))⟩, by simpa using q1, h1.d⟩
  exact own_rowO h1.o hn.row (by decide) e.symm hk.symm
theorem withinF_pickF (a : Int) (n : Nat) (hn : 0 < n) : withinF a n = pickF a n := by
  have h1 := Int.lt_tmod_of_pos a (b := n) (by omega)
  have h2 := Int.tmod_lt_of_pos a (b := n) (by omega)
  unfold withinF pickF
  split
  · rw [Int.emod_eq_of_lt (by omega) (by omega)]
  · rw [Int.add_emod_right, Int.emod_eq_of_lt (by omega) (by omega)]
end Go.Proofs.YtamgoknoapcnjaaDoor
