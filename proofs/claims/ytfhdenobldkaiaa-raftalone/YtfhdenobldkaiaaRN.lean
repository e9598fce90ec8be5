/- Ready of the only voter. -/
import Derived.Test.YtfhdenobldkaiaaRV
namespace Go.Proofs.Ytfhdenobldkaiaa
open Go Go.RowKit
/-- What Ready reads, as data: the leader, what it has told, its last entry. -/
structure Rd (w : World) (d l n m : Nat) (a : Nd) (xs : List Value) (t k : Int) (dv : Value) (bs : List Int) : Prop where
  ln : Ln w d l n a xs
  las : Las w n xs t k dv bs
  dne : dv.ownBlock ≠ some d
  hm : n = m ∨ n = m + 1
  old : a.old = m
  app : a.applied = m
  com : a.commit = n
  rds : ∃ rp rn rc, a.reads = .slice rp rn rc
  few : n ≤ 1000
  bs : bs.length ≤ 1000
theorem Las.upd {w w' : World} {n : Nat} {xs : List Value} {t k : Int} {dv : Value} {bs : List Int} {S : Nat → Prop} (h : Las w n xs t k dv bs) (hu : Upd w w' S) (hS : ∀ z, dv.ownBlock = some z → ¬ S z) : Las w' n xs t k dv bs := ⟨h.c0, h.c1, h.c2, h.c3, h.sees.upd hu (fun z hz _ => hS z hz)⟩
theorem Las.below {w w' : World} {n : Nat} {xs : List Value} {t k : Int} {dv : Value} {bs : List Int} (h : Las w n xs t k dv bs) (hb : Below w.heap.size w w') : Las w' n xs t k dv bs := h.upd (Upd.ofBelow (S := fun _ => False) hb) (fun _ _ e => e)
def zeroRd : Array Value := #[.bool false, iv 0, iv 0, iv 0, .bool false, iv 0, iv 0, .slice none 0 0, .slice none 0 0, .slice none 0 0, .slice none 0 0, .slice none 0 0, .slice none 0 0]
theorem rowX {W : World} {X : Nat} (h : W.heap[X]? = some (.cells #[.bool false, .int .i64 0, .int .i64 0, .int .i64 0, .bool false, .int .i64 0, .int .i64 0, .slice none 0 0, .slice none 0 0, .slice none 0 0, .slice none 0 0, .slice none 0 0, .slice none 0 0] 40 (0, 0))) : W.cell? ⟨X, 0, none⟩ = some (Value.bool false) ∧ W.cell? ⟨X, 1, none⟩ = some (Value.int .i64 0) ∧ W.cell? ⟨X, 2, none⟩ = some (Value.int .i64 0) ∧ W.cell? ⟨X, 3, none⟩ = some (Value.int .i64 0) ∧ W.cell? ⟨X, 4, none⟩ = some (Value.bool false) ∧ W.cell? ⟨X, 5, none⟩ = some (Value.int .i64 0) ∧ W.cell? ⟨X, 6, none⟩ = some (Value.int .i64 0) ∧ W.cell? ⟨X, 7, none⟩ = some (Value.slice none 0 0) ∧ W.cell? ⟨X, 8, none⟩ = some (Value.slice none 0 0) ∧ W.cell? ⟨X, 9, none⟩ = some (Value.slice none 0 0) ∧ W.cell? ⟨X, 10, none⟩ = some (Value.slice none 0 0) ∧ W.cell? ⟨X, 11, none⟩ = some (Value.slice none 0 0) ∧ W.cell? ⟨X, 12, none⟩ = some (Value.slice none 0 0) :=
  ⟨cell_of_row _ _ _ _ _ _ h, cell_of_row _ _ _ _ _ _ h, cell_of_row _ _ _ _ _ _ h, cell_of_row _ _ _ _ _ _ h, cell_of_row _ _ _ _ _ _ h, cell_of_row _ _ _ _ _ _ h, cell_of_row _ _ _ _ _ _ h, cell_of_row _ _ _ _ _ _ h, cell_of_row _ _ _ _ _ _ h, cell_of_row _ _ _ _ _ _ h, cell_of_row _ _ _ _ _ _ h, cell_of_row _ _ _ _ _ _ h, cell_of_row _ _ _ _ _ _ h⟩
theorem rowF {W : World} {X : Nat} (h : W.heap[X]? = some (.cells #[.bool false, .int .i64 0, .int .i64 0, .int .i64 0, .bool false, .int .i64 0, .int .i64 0, .slice none 0 0, .slice none 0 0, .slice none 0 0, .slice none 0 0, .slice none 0 0, .slice none 0 0] 40 (0, 0))) : ∀ j, W.frozen? ⟨X, j, none⟩ = false := fun _j => frozen_of_row _ _ _ _ _ h
/-- What the first region of Ready leaves: what it tells, in a box at X. -/
structure Mid (W1 Wf : World) (d l n m : Nat) (a : Nd) (xs : List Value) (t k : Int) (bs : List Int) (X : Nat) (v1 v2 : Value) : Prop where
  ln : Ln Wf d l n { a with old := n } xs
  upd : Upd W1 Wf (fun z => z = d)
  row : Wf.heap[X]? = some (.cells #[.bool false, iv 0, iv 0, iv 0, .bool false, iv 0, iv 0, .slice none 0 0, .slice none 0 0, v1, .slice none 0 0, v2, a.reads] 40 (0, 0))
  ge : W1.heap.size ≤ X
  t1 : ∃ lo hi, Told Wf lo hi v1 n m t k bs ∧ W1.heap.size ≤ lo ∧ (X < lo ∨ hi ≤ X)
  t2 : ∃ lo hi, Told Wf lo hi v2 n m t k bs ∧ W1.heap.size ≤ lo ∧ (X < lo ∨ hi ≤ X)
theorem mid_end {W1 w2 w3 w4 w5 Wf : World} {d l n m : Nat} {a : Nd} {xs : List Value} {t k : Int} {bs : List Int} {X lo1 lo2 : Nat} {v1 v2 : Value} (h2 : Ln w2 d l n { a with old := n } xs) (u2 : Upd W1 w2 (fun z => z = d)) (t1 : Told w3 lo1 w3.heap.size v1 n m t k bs) (b3 : Below w2.heap.size w2 w3) (b4 : Below w3.heap.size w3 w4) (t2 : Told w5 lo2 w5.heap.size v2 n m t k bs) (b5 : Below w4.heap.size w4 w5) (hu : Upd w5 Wf (fun z => z = X))
    (hr : Wf.heap[X]? = some (.cells #[.bool false, iv 0, iv 0, iv 0, .bool false, iv 0, iv 0, .slice none 0 0, .slice none 0 0, v1, .slice none 0 0, v2, a.reads] 40 (0, 0))) (ht : X < w5.heap.size → ∃ r, w5.heap[X]? = some (.cells r 40 (0, 0))) (hX1 : X < lo1 ∨ w3.heap.size ≤ X) (hX2 : X < lo2 ∨ w5.heap.size ≤ X) (hge : W1.heap.size ≤ X) (hl1 : w2.heap.size ≤ lo1) (hl2 : w4.heap.size ≤ lo2) (hd : d < W1.heap.size) : Mid W1 Wf d l n m a xs t k bs X v1 v2 := by
  have b35 : Below w3.heap.size w3 w5 := b4.trans (b5.mono b4.size)
  have b25 : Below w2.heap.size w2 w5 := b3.trans (b35.mono b3.size)
  have h5 := h2.below b25
  have s2 := u2.size
  have s3 := b3.size
  have s4 := b4.size
  have ownX : ∀ {B e s : Nat} {v : Value} {q : Nat} {ys : List Value}, w5.ownsRow B e s v q ys → e ≠ 40 → ∀ z, v.ownBlock = some z → ¬ z = X := fun ho he z hz e => by
    subst e
    obtain ⟨r, hr⟩ := ht (ho.lt _ hz).2
    exact own_block ho hr he hz
  refine ⟨⟨h5.nod.upd hu (by omega), h5.role, ownsRow_upd h5.vot hu (ownX h5.vot (by decide)), ownsRow_upd h5.ents hu (ownX h5.ents (by decide))⟩, (u2.trans (Upd.ofBelow (S := fun _ => False) b25) (fun _ _ e => e.elim)).trans hu (fun z hz e => by omega), hr, hge, ⟨lo1, w3.heap.size, (t1.upd (Upd.ofBelow (S := fun _ => False) b35) (fun _ _ _ e => e)).upd hu (fun z h1 h2 e => by omega), by omega, hX1⟩, ⟨lo2, w5.heap.size, t2.upd hu (fun z h1 h2 e => by omega), by omega, hX2⟩⟩
theorem keep13 {d X : Nat} {V : World} {u0 u1 u2 u3 u4 u5 u6 u7 u8 u9 u10 u11 u12 : Value} {j : Nat} {u : Value} (h : V.cell? ⟨d, j, none⟩ = some u) (hx : ¬ d = X) : ((((((((((((((V.setCell ⟨X, 0, none⟩ u0).setCell ⟨X, 1, none⟩ u1).setCell ⟨X, 2, none⟩ u2).setCell ⟨X, 3, none⟩ u3).setCell ⟨X, 4, none⟩ u4).setCell ⟨X, 5, none⟩ u5).setCell ⟨X, 6, none⟩ u6).setCell ⟨X, 7, none⟩ u7).setCell ⟨X, 8, none⟩ u8).setCell ⟨X, 9, none⟩ u9).setCell ⟨X, 10, none⟩ u10).setCell ⟨X, 11, none⟩ u11).setCell ⟨X, 12, none⟩ u12)).cell? ⟨d, j, none⟩ = some u := by
  have hu : Upd V (((((((((((((V.setCell ⟨X, 0, none⟩ u0).setCell ⟨X, 1, none⟩ u1).setCell ⟨X, 2, none⟩ u2).setCell ⟨X, 3, none⟩ u3).setCell ⟨X, 4, none⟩ u4).setCell ⟨X, 5, none⟩ u5).setCell ⟨X, 6, none⟩ u6).setCell ⟨X, 7, none⟩ u7).setCell ⟨X, 8, none⟩ u8).setCell ⟨X, 9, none⟩ u9).setCell ⟨X, 10, none⟩ u10).setCell ⟨X, 11, none⟩ u11).setCell ⟨X, 12, none⟩ u12) (fun z => z = X) := ((((((((((((((Upd.refl V (fun z => z = X)).setCell (p := ⟨X, 0, none⟩) (.inr rfl) u0).setCell (p := ⟨X, 1, none⟩) (.inr rfl) u1).setCell (p := ⟨X, 2, none⟩) (.inr rfl) u2).setCell (p := ⟨X, 3, none⟩) (.inr rfl) u3).setCell (p := ⟨X, 4, none⟩) (.inr rfl) u4).setCell (p := ⟨X, 5, none⟩) (.inr rfl) u5).setCell (p := ⟨X, 6, none⟩) (.inr rfl) u6).setCell (p := ⟨X, 7, none⟩) (.inr rfl) u7).setCell (p := ⟨X, 8, none⟩) (.inr rfl) u8).setCell (p := ⟨X, 9, none⟩) (.inr rfl) u9).setCell (p := ⟨X, 10, none⟩) (.inr rfl) u10).setCell (p := ⟨X, 11, none⟩) (.inr rfl) u11).setCell (p := ⟨X, 12, none⟩) (.inr rfl) u12)
  exact (hu.cell (p := ⟨d, j, none⟩) (World.block_lt_of_cell? _ _ h) hx).trans h
theorem hx_ne {W : World} {X lo d : Nat} {r : Option Obj} (h : Hid (X < W.heap.size ∧ W.heap[X]? = r ∧ lo ≤ X)) (hd : d < lo) : ¬ d = X := fun e => by
  have := h.out.2.2
  omega
theorem below_old {V W : World} {o : Obj} (h : Below (V.alloc o).heap.size (V.alloc o) W) : Below V.heap.size V W := ((Below.refl V.heap.size V).alloc (Nat.le_refl _) o).trans (h.mono (by simp))
end Go.Proofs.Ytfhdenobldkaiaa
