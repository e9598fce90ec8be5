/- TxnSees: the transaction as it is built. -/
import Derived.Test.YtgbobegoknmiaaaGreatUA
namespace Go.Proofs.YtgbobegoknmiaaaGreat
open Go Go.RowKit

/-- The transaction behind i values. -/
structure VI (w0 w : World) (s : Nat) (g : Sg) (tb : Nat) (v : Value) (f : Nat → ByteArray) (i : Nat) : Prop where
  q : Q9 w0 w s 0 noS g
  tx : w.heap[tb]? = some (.cells #[.slice none 0 0, v, .slice none 0 0] 36 (0, 0))
  row : w.ownsRow (tb + 1) 57 6 v (2 * i) (opsC (sOps f i))
  fs : ∀ k, ftS s g k → k < tb
  l0 : w0.heap.size ≤ tb
  fz : ∀ j, j < i → (f j).size ≤ 500
theorem VI.new {w0 w : World} {s : Nat} {g : Sg} (H : Q9 w0 w s 0 noS g) (f : Nat → ByteArray) : VI w0 (w.alloc (.cells #[.slice none 0 0, .slice none 0 0, .slice none 0 0] 36)) s g w.heap.size (.slice none 0 0) f 0 :=
  ⟨H.below ((Below.refl _ w).alloc (Nat.le_refl _) _), row_alloc w _ _, ⟨rfl, .inl ⟨rfl, rfl⟩⟩, fun _ hk => H.lt hk, H.bel.size, fun j hj => by omega⟩
theorem VI.lt {w0 w : World} {s : Nat} {g : Sg} {tb : Nat} {v : Value} {f : Nat → ByteArray} {i : Nat} (H : VI w0 w s g tb v f i) : tb < w.heap.size := (Array.getElem?_eq_some_iff.1 H.tx).1
theorem opsC_app (a b : List Opd) : opsC (a ++ b) = opsC a ++ opsC b := by unfold opsC; exact List.flatMap_append
theorem VI.at {w0 w W : World} {s : Nat} {g : Sg} {tb : Nat} {v : Value} {f : Nat → ByteArray} {i : Nat} (H : VI w0 w s g tb v f i) (hb : Below w.heap.size w W) : W.ownsRow (tb + 1) 57 6 v (2 * i) (opsC (sOps f i)) ∧ tb + 1 ≤ W.heap.size :=
  ⟨ownsRow_agree H.row (fun k hk => hb.block k (H.row.lt k hk).2), Nat.le_trans H.lt hb.size⟩
theorem VI.step {w0 w W w6 : World} {s : Nat} {g : Sg} {tb : Nat} {v v' : Value} {f : Nat → ByteArray} {i : Nat} (H : VI w0 w s g tb v f i) (hb : Below w.heap.size w W) (hf : (f i).size ≤ 500)
    (q1 : w6.ownsRow (tb + 1) 57 6 v' (2 * i + 2) (opsC (sOps f i) ++ opsC [sPut f i, rOp 0])) (q2 : Upd W w6 (fun k => some k = v.ownBlock)) :
    w6.cell? ⟨tb, 1, none⟩ = some v ∧ w6.frozen? ⟨tb, 1, none⟩ = false ∧ Hid (VI w0 (w6.setCell ⟨tb, 1, none⟩ v') s g tb v' f (i + 1)) := by
  have hlt := H.lt
  have hbs := hb.size
  have h6 := q2.size
  have hge : ∀ k, some k = v.ownBlock → tb + 1 ≤ k := fun k hk => (ownBlock_ge H.row hk.symm).1
  have q6 : w6.heap[tb]? = some (.cells #[.slice none 0 0, v, .slice none 0 0] 36 (0, 0)) := (q2.block tb (by omega) (fun e => by have := hge tb e; omega)).trans ((hb.block tb hlt).trans H.tx)
  have hus : Upd w6 (w6.setCell ⟨tb, 1, none⟩ v') (fun k => k = tb) := (Upd.refl w6 (fun k => k = tb)).setCell (p := ⟨tb, 1, none⟩) (.inr rfl) _
  refine ⟨cell_of_row _ _ _ _ _ _ q6, frozen_of_row w6 tb 1 _ _ q6, ?_⟩
  have hu2 : Upd W (w6.setCell ⟨tb, 1, none⟩ v') (fun k => tb ≤ k) := (q2.mono (T := fun k => tb ≤ k) (fun k _ e => by have := hge k e; omega)).trans hus (fun k _ e => by show tb ≤ k; omega)
  obtain ⟨o', hst⟩ := (H.q.below hb).st
  have hbb := H.q.bel.trans (hb.mono H.q.bel.size)
  refine ⟨⟨⟨o', hst.upd hu2 (fun k hk e => by have := H.fs k hk; omega)⟩, H.q.sf, hbb.trans (hu2.below hbb.size (fun k hk e => by have := H.l0; omega)), H.q.fs⟩, heap_setCell_row q6 _, ?_, H.fs, H.l0, fun j hj => ?_⟩
  · have e : opsC (sOps f (i + 1)) = opsC (sOps f i) ++ opsC [sPut f i, rOp 0] := opsC_app _ _
    rw [e]
    exact ownsRow_agree q1 (fun k hk => hus.block k (q1.lt k hk).2 (fun e => by have := (ownBlock_ge q1 hk).1; omega))
  · rcases Nat.lt_or_ge j i with h | h
    · exact H.fz j h
    · obtain rfl : j = i := by omega
      exact hf
theorem VI.tbx {w0 w : World} {s : Nat} {g : Sg} {tb : Nat} {v : Value} {f : Nat → ByteArray} {i : Nat} (H : VI w0 w s g tb v f i) : TBx w s g tb w.heap.size tb (.slice none 0 0) v (.slice none 0 0) ⟨[], sOps f i, []⟩ := by
  obtain ⟨p, c, rfl⟩ := owns_formB0 H.row
  have hr := H.row
  have hops : OPs (fun k => tb + 1 ≤ k ∧ k < w.heap.size) w (.slice p (2 * i) c) (sOps f i) := by
    have hl := sOps_len f i
    rw [← hl] at hr ⊢
    refine ops_of_row hr (fun x hx => ?_)
    obtain ⟨t, ht, e⟩ := List.getElem_of_mem hx
    rcases sOps_at f (x := x) (by rw [List.getElem?_eq_getElem ht, e]) with ⟨a, -, h2, rfl⟩ | rfl
    · have := H.fz a h2
      exact ⟨(by decide : 2 ≤ 140737488355328), (by decide : 0 ≤ 140737488355328), by show (f a).size ≤ _; omega⟩
    · exact ⟨(by decide : 1 ≤ 140737488355328), (by decide : 1 ≤ 140737488355328), (by decide : 0 ≤ 140737488355328)⟩
  exact ⟨H.tx, IFs.nil _ _, hops.mono (fun k hk => ⟨by omega, hk.2⟩), OPs.nil _ _, ⟨Nat.le_refl _, H.lt⟩, Nat.le_refl _, fun k hk => .inl (H.fs k hk)⟩
end Go.Proofs.YtgbobegoknmiaaaGreat
