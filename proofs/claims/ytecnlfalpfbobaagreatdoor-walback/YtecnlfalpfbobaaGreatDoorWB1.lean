/- What stays while a log is saved to and opened, again and again. -/
import Derived.Test.YtecnlfalpfbobaaGreatDoorWK2
namespace Go.Proofs.YtecnlfalpfbobaaGreatDoor
open Go Go.RowKit
abbrev zeros (n : Nat) : List Int := List.replicate n 0
theorem isB_zeros (n : Nat) : isB (zeros n) := fun x hx => by rw [List.eq_of_mem_replicate hx]; decide
theorem make_zeros (W : World) (n : Nat) (hn : n ≤ 1000000) : (Instr.makeSlice 58 (.int .i64 n) (.int .i64 n)).run Tryz.prog W = .ok (.slice (some ⟨W.heap.size, 0, none⟩) n n) (W.alloc (.cells (u8s (zeros n)).toArray 5)) := by
  obtain ⟨i0, hi, hz0, hz1, hz2⟩ := info_parts info5
  have := run_make (P := Tryz.prog) W 58 5 i0 (.int .u8 0) Tryz.underlying58 hi hz0 .i64 .i64 n n (by omega) (by omega) (by rw [hz2]; omega) (by omega)
  simp only [Int.toNat_natCast] at this
  rw [this, hz1, Nat.mul_one]
  have e : madeCells (Value.int IntKind.u8 0).cells n = (u8s (zeros n)).toArray := by
    have := toList_madeCells_one (.int .u8 0) n
    rw [show u8s (zeros n) = List.replicate n (.int .u8 0) from by simp [u8s, zeros], ← this]
    rfl
  rw [e]
theorem sees_new0 (w : World) (zs : List Int) (hl : zs.length ≤ maxLen) : Sees (w.alloc (.cells (u8s zs).toArray 5)) (.slice (some ⟨w.heap.size, 0, none⟩) zs.length zs.length) zs := by
  by_cases h : 0 < zs.length
  · exact sees_new w zs (0, 0) h hl
  · have h0 : zs = [] := List.eq_nil_of_length_eq_zero (by omega)
    subst h0
    exact .inl ⟨rfl, _, _, rfl, (fun e => by cases e), by decide⟩
/-- A text of one sign. -/
abbrev oneS (r : Nat) : ByteArray := strOfNums [97 + (r : Int)]
/-- A slice of bools that can be read. -/
def SeesT (w : World) (v : Value) (zs : List Bool) : Prop :=
  (zs = [] ∧ ∃ ao cap, v = .slice ao 0 cap) ∨
  ∃ b off cap, v = .slice (some ⟨b, off, none⟩) zs.length cap ∧ 0 < zs.length ∧ b < w.heap.size ∧ ∀ i, i < zs.length → w.cell? ⟨b, off + i, none⟩ = some (.bool (zs.getD i false))
theorem SeesT.form {w : World} {v : Value} {zs : List Bool} (h : SeesT w v zs) : ∃ ao cap, v = .slice ao zs.length cap := by
  rcases h with ⟨rfl, ao, cap, rfl⟩ | ⟨b, off, cap, rfl, _⟩ <;> exact ⟨_, _, rfl⟩
theorem SeesT.at {w wx : World} {v : Value} {zs : List Bool} (h : SeesT w v zs) (hu : Below w.heap.size w wx) (k : Nat) (hk : k < zs.length) : ∃ b off cap, v = .slice (some ⟨b, off, none⟩) zs.length cap ∧ wx.cell? ⟨b, off + k, none⟩ = some (.bool (zs.getD k false)) := by
  rcases h with ⟨rfl, _⟩ | ⟨b, off, cap, rfl, h0, hb, hc⟩
  · simp at hk
  · exact ⟨b, off, cap, rfl, (hu.cell (p := ⟨b, off + k, none⟩) hb).trans (hc k hk)⟩
/-- Between two rounds: a log of k entries, opened so many times, and a box x beside it. -/
structure BackI (w wr : World) (x d l k opened : Nat) : Prop where
  ex : ∃ g p s ev a newest left, Lg w.heap.size wr l d g p s ev newest left ∧ Bk p (pureS s) a newest left k opened ∧ Apart x wr l d g s ev ∧ (0 < k → (pureS s).hc = k - 1)
  box : ∃ c0 c1 c2 c3 c4 c5 c6, wr.heap[x]? = some (.cells #[c0, c1, c2, c3, c4, c5, c6] 40 (0, 0))
  ln : w.heap.size ≤ l
  xn : w.heap.size ≤ x
  bel : Below w.heap.size w wr
theorem BackI.below {w wr wx : World} {x d l k opened : Nat} (h : BackI w wr x d l k opened) (hb : Below wr.heap.size wr wx) : BackI w wx x d l k opened := by
  obtain ⟨⟨g, p, s, ev, a, newest, left, h1, h2, h3, h4⟩, ⟨c0, c1, c2, c3, c4, c5, c6, h5⟩, h6, h7, h8⟩ := h
  exact ⟨⟨g, p, s, ev, a, newest, left, h1.below hb, h2, h3.below hb.size, h4⟩, ⟨c0, c1, c2, c3, c4, c5, c6, (hb.block x h3.lt).trans h5⟩, h6, h7, h8.trans (hb.mono h8.size)⟩
/-- What the store of a state into the box leaves. -/
abbrev put7 (w : World) (x : Nat) (c0 c1 c2 c3 c4 c5 c6 : Value) : World :=
  ((((((w.setCell ⟨x, 0, none⟩ c0).setCell ⟨x, 1, none⟩ c1).setCell ⟨x, 2, none⟩ c2).setCell ⟨x, 3, none⟩ c3).setCell ⟨x, 4, none⟩ c4).setCell ⟨x, 5, none⟩ c5).setCell ⟨x, 6, none⟩ c6
theorem put7_upd (w : World) (x : Nat) (c0 c1 c2 c3 c4 c5 c6 : Value) : Upd w (put7 w x c0 c1 c2 c3 c4 c5 c6) (fun j => j = x) :=
  (((((((Upd.refl w (fun j => j = x)).setCell (p := ⟨x, 0, none⟩) (.inr rfl) c0).setCell (p := ⟨x, 1, none⟩) (.inr rfl) c1).setCell (p := ⟨x, 2, none⟩) (.inr rfl) c2).setCell (p := ⟨x, 3, none⟩) (.inr rfl) c3).setCell (p := ⟨x, 4, none⟩) (.inr rfl) c4).setCell (p := ⟨x, 5, none⟩) (.inr rfl) c5).setCell (p := ⟨x, 6, none⟩) (.inr rfl) c6
theorem put7_row {w : World} {x : Nat} {a0 a1 a2 a3 a4 a5 a6 : Value} {t : TypeId} (h : w.heap[x]? = some (.cells #[a0, a1, a2, a3, a4, a5, a6] t (0, 0))) (c0 c1 c2 c3 c4 c5 c6 : Value) : (put7 w x c0 c1 c2 c3 c4 c5 c6).heap[x]? = some (.cells #[c0, c1, c2, c3, c4, c5, c6] t (0, 0)) := by
  unfold put7
  have h0 : (w.setCell ⟨x, 0, none⟩ c0).heap[x]? = some (.cells #[c0, a1, a2, a3, a4, a5, a6] t (0, 0)) := heap_setCell_row h 0 c0
  have h1 : ((w.setCell ⟨x, 0, none⟩ c0).setCell ⟨x, 1, none⟩ c1).heap[x]? = some (.cells #[c0, c1, a2, a3, a4, a5, a6] t (0, 0)) := heap_setCell_row h0 1 c1
  generalize (w.setCell ⟨x, 0, none⟩ c0).setCell ⟨x, 1, none⟩ c1 = w1 at *
  have h2 : (w1.setCell ⟨x, 2, none⟩ c2).heap[x]? = some (.cells #[c0, c1, c2, a3, a4, a5, a6] t (0, 0)) := heap_setCell_row h1 2 c2
  generalize w1.setCell ⟨x, 2, none⟩ c2 = w2 at *
  have h3 : (w2.setCell ⟨x, 3, none⟩ c3).heap[x]? = some (.cells #[c0, c1, c2, c3, a4, a5, a6] t (0, 0)) := heap_setCell_row h2 3 c3
  generalize w2.setCell ⟨x, 3, none⟩ c3 = w3 at *
  have h4 : (w3.setCell ⟨x, 4, none⟩ c4).heap[x]? = some (.cells #[c0, c1, c2, c3, c4, a5, a6] t (0, 0)) := heap_setCell_row h3 4 c4
  generalize w3.setCell ⟨x, 4, none⟩ c4 = w4 at *
  have h5 : (w4.setCell ⟨x, 5, none⟩ c5).heap[x]? = some (.cells #[c0, c1, c2, c3, c4, c5, a6] t (0, 0)) := heap_setCell_row h4 5 c5
  generalize w4.setCell ⟨x, 5, none⟩ c5 = w5 at *
  exact heap_setCell_row h5 6 c6
theorem Lg.apart {B : Nat} {w w' : World} {l d x : Nat} {g : Gu} {p : PS} {s : Sm} {ev : Value} {newest left : Int} (h : Lg B w l d g p s ev newest left) (ha : Apart x w l d g s ev) (hu : Upd w w' (fun j => j = x)) : Lg B w' l d g p s ev newest left := by
  have hl := h.sm.cells.lt
  have hn : l ≠ x := fun e => ha.nl e.symm
  exact ⟨(hu.cell (p := ⟨l, 0, none⟩) hl hn).trans h.c0, h.sm.upd hu hn (fun k hk e => ha.ne (by rw [hk, e])) ha.ae ha.av, (hu.cell (p := ⟨l, 8, none⟩) hl hn).trans h.c8, (hu.cell (p := ⟨l, 9, none⟩) hl hn).trans h.c9, (hu.cell (p := ⟨l, 10, none⟩) hl hn).trans h.c10,
    h.dk.upd hu (fun k hk e => ha.nf (by rw [← e]; exact hk)), h.fl, h.fe, h.fv⟩
/-- A state is stored into the box. -/
theorem BackI.put {w wr : World} {x d l k opened : Nat} (h : BackI w wr x d l k opened) (c0 c1 c2 c3 c4 c5 c6 : Value) : BackI w (put7 wr x c0 c1 c2 c3 c4 c5 c6) x d l k opened := by
  obtain ⟨⟨g, p, s, ev, a, newest, left, h1, h2, h3, h4⟩, ⟨a0, a1, a2, a3, a4, a5, a6, h5⟩, h6, h7, h8⟩ := h
  have hu := put7_upd wr x c0 c1 c2 c3 c4 c5 c6
  exact ⟨⟨g, p, s, ev, a, newest, left, h1.apart h3 hu, h2, h3.below hu.size, h4⟩, ⟨c0, c1, c2, c3, c4, c5, c6, put7_row h5 _ _ _ _ _ _ _⟩, h6, h7, h8.trans (hu.below h8.size (fun j hj e => by omega))⟩
/-- One more Save. -/
theorem back_save (w wr w1 : World) (x d l k opened : Nat) (hv v : Value) (y : Ev) (hT : HasTab w) (h : BackI w wr x d l k opened) (hk : k < 30) (hb : Below wr.heap.size wr w1) (hh : HardAt w1 hv (some ((k / 3 : Nat), 0, (k : Nat)))) (hx : SeesE w1 v [y]) (hyi : y.e.i = k + 1) (hyt : y.e.t = (k / 3 : Nat)) (hyk : y.e.k = 0) (hyd : y.e.d.length < 3000) :
    Calls Tryz.prog 19 #[ptr l, hv, v] w1 fun e w' => e = .returned (.int .i64 0) ∧ BackI w w' x d l (k + 1) opened := by
  obtain ⟨⟨g, p, s, ev, a, newest, left, h1, h2, h3, h4⟩, ⟨a0, a1, a2, a3, a4, a5, a6, h5⟩, h6, h7, h8⟩ := h.below hb
  refine (bk_save w.heap.size l d g p s ev hv v y _ _ newest left w1 a k opened h1 h8.size (hT.below h8) h2 hk hh (by omega) (by omega) hx hyi hyt hyk hyd).mono ?_
  rintro e w' ⟨rfl, g', p', s', ev', a', newest', left', k1, k2, k3, k4, k5, k6⟩
  exact ⟨rfl, ⟨g', p', s', ev', a', newest', left', k1, k2, h3.next k4.size k5 k6, fun _ => by rw [k3]; omega⟩, ⟨a0, a1, a2, a3, a4, a5, a6, (h3.keep k4).trans h5⟩, h6, h7, h8.trans (h1.low h6 h8.size k4)⟩
/-- It is opened anew. -/
theorem back_open (w wr : World) (x d l k opened : Nat) (hT : HasTab w) (h : BackI w wr x d l k opened) (hk : k ≤ 30) :
    Calls Tryz.prog 13 #[ptr d] wr fun e w' => ∃ l' y0 y1 y2 y3 y4 vo vl vc ao ac, e = .returned (.tuple #[ptr l', .agg #[.int .i64 y0, .int .i64 y1, .int .i64 y2, .int .i64 y3, .int .i64 y4, .slice vo vl vc, .slice ao k ac], .int .i64 0]) ∧ (0 < k → y2 = k - 1) ∧ BackI w w' x d l' k (opened + 1) := by
  obtain ⟨⟨g, p, s, ev, a, newest, left, h1, h2, h3, h4⟩, ⟨a0, a1, a2, a3, a4, a5, a6, h5⟩, h6, h7, h8⟩ := h
  obtain ⟨k1, k2, k3⟩ := h2.again hk
  refine (open_any _ d g p wr h1.dk k3 (hT.below h8)).mono ?_
  rintro e w' ⟨l', s', ev', vv, ev2, xs, rfl, hL, hto, hb⟩
  obtain ⟨vo, vc, rfl⟩ := hto.vot.form
  obtain ⟨ao, ac, rfl, _, _⟩ := hto.row.form
  have hs : pureS s' = pureS s := hL.says.trans k1
  have hn : xs.length = k := by
    have e1 := congrArg List.length hto.same
    have e2 := congrArg (fun z => z.es.length) hs
    have e3 := h2.len
    simp only [List.length_map] at e1
    rw [e1]
    simp only [pureS, St.map, List.length_map] at e2 e3
    omega
  rw [← hs] at k2 h4
  have hap : Apart x w' l' d g s' ev' := by
    have hlx := h3.lt
    have hln := hL.lnew
    refine ⟨Nat.lt_of_lt_of_le h3.lt hb.size, by omega, fun e => by have := (hL.sm.rest.row.lt e).1; omega, h3.nf, fun y hy => (hL.new.1 y hy).mono (fun j (hj : j = x) => by rw [hj]; exact hlx), hL.new.2.mono (fun j (hj : j = x) => by rw [hj]; exact hlx)⟩
  refine ⟨l', s'.ht, s'.hv, s'.hc, s'.mi, s'.mt, vo, s'.vs.vs.length, vc, ao, ac, by rw [← hn], h4, ⟨g, p, s', ev', a, 0, 0, hL.lg h1.dk hb h8.size, k2, hap, h4⟩, ⟨a0, a1, a2, a3, a4, a5, a6, (hb.block x h3.lt).trans h5⟩, Nat.le_trans h8.size hL.lnew, h7, h8.trans (hb.mono h8.size)⟩
end Go.Proofs.YtecnlfalpfbobaaGreatDoor
