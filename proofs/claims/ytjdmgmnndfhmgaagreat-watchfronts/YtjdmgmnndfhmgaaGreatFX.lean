/- WatchFronts' state. -/
import Derived.Test.YtjdmgmnndfhmgaaGreatFS
namespace Go.Proofs.YtjdmgmnndfhmgaaGreat
open Go Go.RowKit
def FJ (S : Sto) (x : Wd) (lo hi : ByteArray) (f : Int) (al told : List Evd) (en : Bool) (L : Prop) : Prop := match en with
  | true => L ∧ ∃ R, al = told ++ R
  | false => FI S x lo hi f al told L
def AE (en : Bool) : List Int := match en with | true => [] | false => [1]
section
variable {S S' : Sto} {x : Wd} {lo hi : ByteArray} {f : Int} {al told : List Evd} {en : Bool} {L L' : Prop} {W : Wri} {g : Sg}
theorem FJ.pre (H : FJ S x lo hi f al told en L) : ∃ R, al = told ++ R := by
  cases en with
  | true => exact H.2
  | false => exact FI.pre H
theorem FJ.len (H : FJ S x lo hi f al told en L) : told.length ≤ al.length := by
  obtain ⟨R, h⟩ := H.pre
  rw [h, List.length_append]
  omega
theorem FJ.mono (H : FJ S x lo hi f al told en L) (h : L → L') : FJ S x lo hi f al told en L' := by
  cases en with
  | true => exact ⟨h H.1, H.2⟩
  | false => exact FI.mono H h
theorem FJ.same (H : FJ S x lo hi f al told en L) (hp : S.past ≤ S.rev) : FJ S (feedX S x) lo hi f al told en (L ∨ 16 < al.length - told.length) := by
  cases en with
  | true => exact ⟨.inl H.1, H.2⟩
  | false => exact FI.same H hp
theorem FJ.done (H : FJ S x lo hi f al told en L) (D : DF S S' W) (hL : LgOk S g) (hp : S.past ≤ S.rev) : FJ S' (feedX S' x) lo hi f (al ++ (evAt S' ((S.rev : Int) + 1)).filter (mine lo hi f)) told en (L ∨ 16 < (al ++ (evAt S' ((S.rev : Int) + 1)).filter (mine lo hi f)).length - told.length) := by
  cases en with
  | true =>
    obtain ⟨h1, R, h2⟩ := H
    exact ⟨.inl h1, R ++ _, by rw [h2, List.append_assoc]⟩
  | false => exact FI.done H D hL hp
theorem FJ.comp (H : FJ S x lo hi f al told en L) (hL : LgAll S g) (hok : ∀ k, HOk k S.rev (S.kh k)) (c : Nat) (hc : S.past ≤ c) (hl : L') : FJ (compS S c) x lo hi f al told en L' := by
  cases en with
  | true => exact ⟨hl, H.2⟩
  | false => exact FI.comp H hL hok c hc hl
end
/-- The whole, at the beginning of a round. -/
structure FX (w0 w : World) (s h i : Nat) (S : Sto) (x : Wd) (va : Value) (al : List Evd) (vt : Value) (told : List Evd) (c : Option (Nat × Array Value)) (en lg : Bool) (lo hi : ByteArray) (f : Int) : Prop where
  sx : Sx w0 w s h i S (AE en) x va al vt told c
  fj : FJ S x lo hi f al told en (lg = true)
  few : lg = false → al.length - told.length ≤ 16
section
variable {w0 w w' : World} {s h i : Nat} {S : Sto} {x : Wd} {va vt : Value} {al told : List Evd} {c : Option (Nat × Array Value)} {en lg : Bool} {lo hi : ByteArray} {f : Int}
/-- A round ends: lagging is seen. -/
theorem FX.late (hs : Sx w0 w s h i S (AE en) x va al vt told c) (hj : FJ S x lo hi f al told en (lg = true ∨ 16 < al.length - told.length)) (_h16 : 16 < al.length - told.length) : FX w0 w s h i S x va al vt told none en true lo hi f :=
  ⟨hs.drop, hj.mono (fun _ => rfl), fun e => by cases e⟩
theorem FX.soon (hs : Sx w0 w s h i S (AE en) x va al vt told c) (hj : FJ S x lo hi f al told en (lg = true ∨ 16 < al.length - told.length)) (h16 : ¬ 16 < al.length - told.length) : FX w0 w s h i S x va al vt told none en lg lo hi f :=
  ⟨hs.drop, hj.mono (fun e => e.resolve_right h16), fun _ => by omega⟩
theorem FX.form (H : FX w0 w s h i S x va al vt told c en lg lo hi f) : (∃ p q, va = .slice p al.length q) ∧ ∃ p q, vt = .slice p told.length q := by
  obtain ⟨K, _, R⟩ := H.sx
  exact ⟨owns_formB0 R.ra, owns_formB0 R.rt⟩
theorem Sx.lg30 {A : List Int} (H : Sx w0 w s h i S A x va al vt told c) (r : Int) : (evAt S r).length ≤ 30 := by
  obtain ⟨K, ⟨n, g, o, m, G, H⟩, R⟩ := H
  unfold evAt
  rw [List.length_map]
  exact H.gs.lgl r
theorem Sx.rows {A : List Int} (H : Sx w0 w s h i S A x va al vt told c) : w.ownsRow w0.heap.size 63 8 va al.length (evsC al) ∧ w.ownsRow w0.heap.size 63 8 vt told.length (evsC told) := by
  obtain ⟨K, _, R⟩ := H
  exact ⟨R.ra, R.rt⟩
theorem Sx.cbox {A : List Int} {q : Nat × Array Value} (H : Sx w0 w s h i S A x va al vt told (some q)) : w.heap[q.1]? = some (.cells q.2 39 (0, 0)) := by
  obtain ⟨K, _, R⟩ := H
  exact (R.cb q rfl).2.1
theorem below_drewF (n : Nat) (w : World) : Below w.heap.size w (w.drewN n) := ⟨rfl, rfl, rfl, Nat.le_refl _, fun _ _ => rfl⟩
theorem FX.below (H : FX w0 w s h i S x va al vt told c en lg lo hi f) (hb : Below w.heap.size w w') : FX w0 w' s h i S x va al vt told c en lg lo hi f := ⟨H.sx.below hb, H.fj, H.few⟩
theorem FX.drop (H : FX w0 w s h i S x va al vt told c en lg lo hi f) : FX w0 w s h (i + 1) S x va al vt told none en lg lo hi f := ⟨H.sx.drop.more, H.fj, H.few⟩
theorem EVs.keep {T : Nat → Prop} {v : Value} {l : List Evd} (h : EVs w v l) (hu : Upd w w' T) (hT : ∀ k, v.ownBlock = some k → ¬ T k) : EVs w' v l := by
  obtain ⟨p, q, rfl, h1, h2⟩ := h
  refine ⟨p, q, rfl, h1, fun j e hj => ?_⟩
  obtain ⟨g, rfl, h4, h5⟩ := h2 j e hj
  exact ⟨g, rfl, Nat.lt_of_lt_of_le h4 hu.size, fun t u ht hu' => (hu.cell (p := ⟨g, j * 8 + t, none⟩) h4 (hT g rfl)).trans (h5 t u ht hu')⟩
theorem EVs.other {l l' : List Evd} {v : Value} (h : EVs w v l) (e : l = l') : EVs w v l' := e ▸ h
/-- A front of a row. -/
theorem EVs.front {p : Option Addr} {q : Nat} {l m R : List Evd} (h : EVs w (.slice p l.length q) l) (e : l = m ++ R) : EVs w (.slice p m.length q) m := by
  obtain ⟨p', q', e1, h1, h2⟩ := h
  simp only [Value.slice.injEq] at e1
  obtain ⟨rfl, -, rfl⟩ := e1
  have hl : m.length ≤ l.length := by rw [e, List.length_append]; omega
  refine ⟨p, q, rfl, by omega, fun j ev hj => ?_⟩
  exact h2 j ev (by rw [e, List.getElem?_append_left (List.getElem?_eq_some_iff.1 hj).1]; exact hj)
end
end Go.Proofs.YtjdmgmnndfhmgaaGreat
