/- TxnRefuses: what may not be done is told so, and nothing of it is done. -/
import Derived.Test.YtgbobegoknmiaaaGreatRA
import Derived.Deep.RegionHeldLaw
namespace Go.Proofs.YtgbobegoknmiaaaGreat
open Go Go.RowKit

/-- The law's transaction ahead of the switch. -/
structure RF (w0 w : World) (s : Nat) (g : Sg) (lo tb : Nat) : Prop where
  q : Q9 w0 w s 0 noS g
  ob : w.heap[lo]? = some (.cells #[.int .i64 0, .string ⟨#[97]⟩, .string ⟨#[]⟩, .string ⟨#[120]⟩, .int .i64 0, .int .i64 0] 57 (0, 0))
  rw_ : w.heap[lo + 1]? = some (.cells #[.int .i64 0, .string ⟨#[97]⟩, .string ⟨#[]⟩, .string ⟨#[120]⟩, .int .i64 0, .int .i64 0] 57 (0, 0))
  tx : w.heap[tb]? = some (.cells #[.slice none 0 0, .slice (some ⟨lo + 1, 0, none⟩) 1 1, .slice none 0 0] 36 (0, 0))
  tb : tb = lo + 1 + 1
  sz : w.heap.size = lo + 3
  fs : ∀ k, ftS s g k → k < lo
  l0 : w0.heap.size ≤ lo
theorem rf_new {w0 w : World} {s : Nat} {g : Sg} (H : Q9 w0 w s 0 noS g) (w4 : World) (lo tb : Nat) (hlo : lo = w.heap.size) (htb : tb = lo + 1 + 1)
    (hw4 : w4 = ((w.alloc (.cells #[.int .i64 0, .string ⟨#[97]⟩, .string ⟨#[]⟩, .string ⟨#[120]⟩, .int .i64 0, .int .i64 0] 57)).alloc (.cells #[.int .i64 0, .string ⟨#[97]⟩, .string ⟨#[]⟩, .string ⟨#[120]⟩, .int .i64 0, .int .i64 0] 57)).alloc (.cells #[.slice none 0 0, .slice (some ⟨lo + 1, 0, none⟩) 1 1, .slice none 0 0] 36)) : RF w0 w4 s g lo tb := by
  obtain ⟨a1, h1⟩ : ∃ a1, a1 = w.alloc (.cells #[.int .i64 0, .string ⟨#[97]⟩, .string ⟨#[]⟩, .string ⟨#[120]⟩, .int .i64 0, .int .i64 0] 57) := ⟨_, rfl⟩
  rw [← h1] at hw4
  obtain ⟨a2, h2⟩ : ∃ a2, a2 = a1.alloc (.cells #[.int .i64 0, .string ⟨#[97]⟩, .string ⟨#[]⟩, .string ⟨#[120]⟩, .int .i64 0, .int .i64 0] 57) := ⟨_, rfl⟩
  rw [← h2] at hw4
  have s1 : a1.heap.size = lo + 1 := by rw [h1, hlo]; simp
  have s2 : a2.heap.size = lo + 1 + 1 := by rw [h2]; simp [s1]
  have s3 : w4.heap.size = lo + 3 := by rw [hw4]; simp [s2]
  have hb : Below w.heap.size w w4 := by
    rw [hw4, h2, h1]
    exact (((Below.refl _ w).alloc (Nat.le_refl _) _).alloc (by rw [← h1]; omega) _).alloc (by rw [← h1, ← h2]; omega) _
  refine ⟨H.below hb, ?_, ?_, ?_, htb, s3, fun k hk => (by have := H.lt hk; omega), by have := H.bel.size; omega⟩
  · rw [hw4]; refine (heap_alloc_old a2 _ (by omega)).trans ?_; rw [h2]; refine (heap_alloc_old a1 _ (by omega)).trans ?_; rw [h1, hlo]; exact row_alloc w _ _
  · rw [hw4]; refine (heap_alloc_old a2 _ (by omega)).trans ?_; rw [h2, ← s1]; exact row_alloc a1 _ _
  · rw [hw4, htb, ← s2]; exact row_alloc a2 _ _
/-- One more operation behind the first. -/
theorem rf_app {w0 w w5 w6 : World} {s : Nat} {g : Sg} {lo tb : Nat} (H : RF w0 w s g lo tb) (o : Opd) (hb5 : Below w.heap.size w w5) {p : Option Addr} {c : Nat} (hr : w6.ownsRow lo 57 6 (.slice p 2 c) 2 (opsC [kOp, o])) (hu : Upd w5 w6 (fun k => some k = (Value.slice (some ⟨lo + 1, 0, none⟩) 1 1).ownBlock)) (hv : (Value.slice p 2 c).ownBlock = some (lo + 1) ∨ (Value.slice p 2 c).ownBlock = some w5.heap.size) (hs : o.key.size ≤ 100000 ∧ o.fin.size ≤ 100000 ∧ o.value.size ≤ 100000) :
    TBx (w6.setCell ⟨tb, 1, none⟩ (.slice p 2 c)) s g lo w6.heap.size tb (.slice none 0 0) (.slice p 2 c) (.slice none 0 0) ⟨[], [kOp, o], []⟩ ∧ Q9 w0 (w6.setCell ⟨tb, 1, none⟩ (.slice p 2 c)) s 0 noS g := by
  have hsz := H.sz
  have htb := H.tb
  have h5 := hb5.size
  have h6 := hu.size
  have q6 : w6.heap[tb]? = some (.cells #[.slice none 0 0, .slice (some ⟨lo + 1, 0, none⟩) 1 1, .slice none 0 0] 36 (0, 0)) := (hu.block tb (by omega) (fun e => by simp [Value.ownBlock] at e; omega)).trans ((hb5.block tb (by omega)).trans H.tx)
  have hus : Upd w6 (w6.setCell ⟨tb, 1, none⟩ (.slice p 2 c)) (fun k => k = tb) := (Upd.refl w6 (fun k => k = tb)).setCell (p := ⟨tb, 1, none⟩) (.inr rfl) _
  have hops := ops_of_row (l := [kOp, o]) hr (fun x hx => by
    rcases List.mem_cons.1 hx with rfl | hx
    · exact ⟨by decide, by decide, by decide⟩
    · obtain rfl : x = o := by simpa using hx
      omega)
  have hbl : ∀ k, (Value.slice p 2 c).ownBlock = some k → ¬ k = tb := fun k hk e => by
    rcases hv with h | h <;> rw [h] at hk <;> cases hk <;> omega
  refine ⟨⟨heap_setCell_row q6 _, IFs.nil _ _, ?_, OPs.nil _ _, by omega, hus.size, fun k hk => .inl (H.fs k hk)⟩, ?_⟩
  · obtain ⟨p2, c2, e2, hh⟩ := hops
    cases e2
    refine ⟨p, c, rfl, fun i x hi => ?_⟩
    obtain ⟨gg, oo, e, hz, hl, hc⟩ := hh i x hi
    refine ⟨gg, oo, e, hz, Nat.lt_of_lt_of_le hl hus.size, hc.same (fun t => hus.cell (p := ⟨gg, t, none⟩) hl (hbl gg ?_))⟩
    subst e
    rcases hr.2 with ⟨e1, -⟩ | ⟨g3, cap, cur, e3, -⟩
    · cases e1
    · cases e3; rfl
  · obtain ⟨o', hst⟩ := (H.q.below hb5).st
    have hu2 : Upd w5 (w6.setCell ⟨tb, 1, none⟩ (.slice p 2 c)) (fun k => k = lo + 1 ∨ k = tb) := (hu.mono (T := fun k => k = lo + 1 ∨ k = tb) (fun k _ e => by simp [Value.ownBlock] at e; exact .inl e)).trans hus (fun k _ e => .inr e)
    have hw0 := H.q.bel.size
    refine ⟨⟨o', hst.upd hu2 (fun k hk e => by have := H.fs k hk; omega)⟩, H.q.sf, ?_, H.q.fs⟩
    have hbb := H.q.bel.trans (hb5.mono hw0)
    refine hbb.trans (hu2.below hbb.size (fun k hk e => by have := H.l0; omega))
end Go.Proofs.YtgbobegoknmiaaaGreat
