/- Both books side by side, and the call's box. -/
import Derived.Test.YtiffigjfjdplhaaLR5
namespace Go.Proofs.Ytiffigjfjdplhaa
open Go Go.RowKit
structure Cl where
  kind : Int
  id : Int
  ttl : Int
  now : Int
def noCl : Cl := ⟨0, 0, 0, 0⟩
abbrev CB (bx : Nat) (c : Cl) (w : World) : Prop := w.cell? ⟨bx, 0, none⟩ = some (.int .i64 c.kind) ∧ w.cell? ⟨bx, 1, none⟩ = some (.int .i64 c.id) ∧ w.cell? ⟨bx, 2, none⟩ = some (.int .i64 c.ttl) ∧ w.cell? ⟨bx, 3, none⟩ = some (.int .i64 c.now)
theorem CB.upd {bx : Nat} {c : Cl} {w w' : World} {S : Nat → Prop} (h : CB bx c w) (hu : Upd w w' S) (hS : ¬ S bx) : CB bx c w' := by
  have hl : bx < w.heap.size := World.block_lt_of_cell? _ _ h.1
  exact ⟨(hu.cell (p := ⟨bx, 0, none⟩) hl hS).trans h.1, (hu.cell (p := ⟨bx, 1, none⟩) hl hS).trans h.2.1, (hu.cell (p := ⟨bx, 2, none⟩) hl hS).trans h.2.2.1, (hu.cell (p := ⟨bx, 3, none⟩) hl hS).trans h.2.2.2⟩
/-- Both books: L1 the program's, L2 the document's. -/
structure PV (w W : World) (d b x : Nat) (v : Value) (L1 L2 : List Ls) : Prop where
  bk : Bk w.heap.size W d b L1
  rb : Rb w.heap.size W x v L2
  bel : Below w.heap.size w W
  xd : x ≠ d
  xb : x ≠ b
  vo : ∀ k, v.ownBlock = some k → k ≠ d ∧ k ≠ b
def PP (w W : World) (d b x : Nat) (L1 L2 : List Ls) : Prop := ∃ v, PV w W d b x v L1 L2
theorem PV.lo {w W : World} {d b x : Nat} {v : Value} {L1 L2 : List Ls} (h : PV w W d b x v L1 L2) : w.heap.size ≤ d ∧ w.heap.size ≤ b ∧ w.heap.size ≤ x ∧ d < W.heap.size ∧ b < W.heap.size ∧ x < W.heap.size := ⟨h.bk.lod, h.bk.lob, h.rb.lo, h.bk.ltd, h.bk.ltb, h.rb.lt⟩
/-- The program's book turns. -/
theorem PV.stepX {w W W' : World} {d b x : Nat} {v : Value} {L1 L2 L' : List Ls} (h : PV w W d b x v L1 L2) (hb : Bk w.heap.size W' d b L') (hu : Upd W W' (fun k => k = b)) : PV w W' d b x v L' L2 :=
  ⟨hb, h.rb.upd hu h.xb (fun k hk => (h.vo k hk).2), h.bel.trans (hu.below h.bel.size (fun k hk e => by have := h.lo; omega)), h.xd, h.xb, h.vo⟩
/-- The document's book turns. -/
theorem PV.stepY {w W W' : World} {d b x : Nat} {v : Value} {L1 L2 L' : List Ls} (h : PV w W d b x v L1 L2) (hp : RbPost w.heap.size W W' x L') : PP w W' d b x L1 L' := by
  obtain ⟨v', hr, hu, ho⟩ := hp
  have hl := h.lo
  exact ⟨v', h.bk.upd hu (Ne.symm h.xd) (Ne.symm h.xb), hr, h.bel.trans (hu.below h.bel.size (fun k hk e => by omega)), h.xd, h.xb, fun k hk => by have := ho k hk; omega⟩
theorem PV.later {w W W' : World} {d b x : Nat} {v : Value} {L1 L2 : List Ls} (h : PV w W d b x v L1 L2) (hb : Below W.heap.size W W') : PV w W' d b x v L1 L2 :=
  ⟨h.bk.below hb, h.rb.below hb, h.bel.trans (hb.mono h.bel.size), h.xd, h.xb, h.vo⟩
/-- With the call's box. -/
structure PB (w W : World) (d b x bx : Nat) (c : Cl) (L1 L2 : List Ls) : Prop where
  pp : PP w W d b x L1 L2
  cb : CB bx c W
  off : bx ≠ b ∧ bx ≠ x
section
variable {w W : World} {d b x bx : Nat} {c : Cl} {L1 L2 : List Ls}
theorem PB.later {W' : World} (h : PB w W d b x bx c L1 L2) (hb : Below W.heap.size W W') : PB w W' d b x bx c L1 L2 := by
  obtain ⟨v, hv⟩ := h.pp
  exact ⟨⟨v, hv.later hb⟩, h.cb.upd (S := fun _ => False) (Upd.ofBelow hb) (fun h => h), h.off⟩
theorem PB.stepX {W' : World} {L' : List Ls} (h : PB w W d b x bx c L1 L2) (hb : Bk w.heap.size W' d b L') (hu : Upd W W' (fun k => k = b)) : PB w W' d b x bx c L' L2 := by
  obtain ⟨v, hv⟩ := h.pp
  exact ⟨⟨v, hv.stepX hb hu⟩, h.cb.upd hu h.off.1, h.off⟩
theorem PB.stepY {W' : World} {L' : List Ls} (h : PB w W d b x bx c L1 L2) (hp : RbPost w.heap.size W W' x L') : PB w W' d b x bx c L1 L' := by
  obtain ⟨v, hv⟩ := h.pp
  have h2 := hv.stepY hp
  obtain ⟨v', hr, hu, ho⟩ := hp
  exact ⟨h2, h.cb.upd hu h.off.2, h.off⟩
theorem PB.grantX (h : PB w W d b x bx c L1 L2) (now : Int) (hi : isI c.id) : Calls Try.prog 10 #[ptr d, .int .i64 c.id, .int .i64 c.ttl, .int .i64 now] W fun e w' => e = .returned (.int .i64 (grantE L1 c.id c.ttl now)) ∧ Hid (PB w w' d b x bx c (grantL L1 c.id c.ttl now) L2) ∧ CB bx c w' := by
  obtain ⟨v, hv⟩ := h.pp
  refine (grant_any _ d b L1 c.id c.ttl now W hv.bk hi).mono ?_
  rintro e w' ⟨rfl, hb, hu⟩
  have h2 := h.stepX hb hu
  exact ⟨rfl, h2, h2.cb⟩
theorem PB.renewX (h : PB w W d b x bx c L1 L2) (now : Int) (hi : isI c.id) : Calls Try.prog 12 #[ptr d, .int .i64 c.id, .int .i64 now] W fun e w' => e = .returned (.int .i64 (renewE L1 c.id now)) ∧ Hid (PB w w' d b x bx c (renewL L1 c.id now) L2) ∧ CB bx c w' := by
  obtain ⟨v, hv⟩ := h.pp
  refine (renew_any _ d b L1 c.id now W hv.bk hi).mono ?_
  rintro e w' ⟨rfl, hb, hu⟩
  have h2 := h.stepX hb hu
  exact ⟨rfl, h2, h2.cb⟩
theorem PB.revokeX (h : PB w W d b x bx c L1 L2) (hi : isI c.id) : Calls Try.prog 14 #[ptr d, .int .i64 c.id] W fun e w' => e = .returned (.int .i64 (revokeE L1 c.id)) ∧ Hid (PB w w' d b x bx c (revokeL L1 c.id) L2) ∧ CB bx c w' := by
  obtain ⟨v, hv⟩ := h.pp
  refine (revoke_any _ d b L1 c.id W hv.bk hi).mono ?_
  rintro e w' ⟨rfl, hb, hu⟩
  have h2 := h.stepX hb hu
  exact ⟨rfl, h2, h2.cb⟩
theorem PB.grantY (h : PB w W d b x bx c L1 L2) (now : Int) (n1 : 0 ≤ now) (n2 : now ≤ 1099511627776) (few : L2.length ≤ 1024) (up : upL L2) : Calls Try.prog 11 #[ptr x, .int .i64 c.id, .int .i64 c.ttl, .int .i64 now] W fun e w' => e = .returned (.int .i64 (grantE L2 c.id c.ttl now)) ∧ Hid (PB w w' d b x bx c L1 (grantL L2 c.id c.ttl now)) ∧ CB bx c w' := by
  obtain ⟨v, hv⟩ := h.pp
  refine (rgrant_any _ x v L2 c.id c.ttl now W hv.rb few up n1 n2).mono ?_
  rintro e w' ⟨rfl, ⟨e, rfl⟩ | hp⟩
  · rw [e]
    exact ⟨rfl, h, h.cb⟩
  · have h2 := h.stepY hp
    exact ⟨rfl, h2, h2.cb⟩
theorem PB.renewY (h : PB w W d b x bx c L1 L2) (now : Int) (n1 : 0 ≤ now) (n2 : now ≤ 1099511627776) (few : L2.length ≤ 1024) (up : upL L2) (ok : ∀ l ∈ L2, l.Ok) : Calls Try.prog 13 #[ptr x, .int .i64 c.id, .int .i64 now] W fun e w' => e = .returned (.int .i64 (renewE L2 c.id now)) ∧ Hid (PB w w' d b x bx c L1 (renewL L2 c.id now)) ∧ CB bx c w' := by
  obtain ⟨v, hv⟩ := h.pp
  refine (rrenew_any _ x v L2 c.id now W hv.rb few up ok n1 n2).mono ?_
  rintro e w' ⟨rfl, ⟨e, rfl⟩ | hp⟩
  · rw [e]
    exact ⟨rfl, h, h.cb⟩
  · have h2 := h.stepY hp
    exact ⟨rfl, h2, h2.cb⟩
theorem PB.revokeY (h : PB w W d b x bx c L1 L2) (few : L2.length ≤ 1024) (up : upL L2) : Calls Try.prog 15 #[ptr x, .int .i64 c.id] W fun e w' => e = .returned (.int .i64 (revokeE L2 c.id)) ∧ Hid (PB w w' d b x bx c L1 (revokeL L2 c.id)) ∧ CB bx c w' := by
  obtain ⟨v, hv⟩ := h.pp
  refine (rrevoke_any _ x v L2 c.id W hv.rb few up).mono ?_
  rintro e w' ⟨rfl, ⟨e, rfl⟩ | hp⟩
  · have e2 : revokeL L2 c.id = L2 := by
      unfold revokeL
      refine del_none ?_
      cases hl : lookL c.id L2 with
      | none => rfl
      | some _ => rw [hl] at e; cases e
    rw [e2]
    exact ⟨rfl, h, h.cb⟩
  · have h2 := h.stepY hp
    exact ⟨rfl, h2, h2.cb⟩
/-- A row of numbers that was told. -/
def IR (W : World) (v : Value) (l : List Int) : Prop := ∀ (i : Nat) (a : Int), l[i]? = some a → ∃ g c, v = .slice (some ⟨g, 0, none⟩) l.length c ∧ l.length ≤ c ∧ g < W.heap.size ∧ W.cell? ⟨g, i, none⟩ = some (.int .i64 a)
theorem IR.of {W : World} {B : Nat} {p : Option Addr} {c : Nat} {l : List Int} (h : W.ownsRow B 3 1 (.slice p l.length c) l.length (ints l)) : IR W (.slice p l.length c) l := by
  intro i a hi
  obtain ⟨g, rfl, h1, h2, _, h3⟩ := row_int h hi
  exact ⟨g, c, rfl, h3, h2, h1⟩
theorem IR.below {W W' : World} {v : Value} {l : List Int} (h : IR W v l) (hb : Below W.heap.size W W') : IR W' v l := by
  intro i a hi
  obtain ⟨g, c, e, h1, h2, h3⟩ := h i a hi
  exact ⟨g, c, e, h1, Nat.lt_of_lt_of_le h2 hb.size, (hb.cell (p := ⟨g, i, none⟩) h2).trans h3⟩
/-- A row of leases that was told. -/
def LsR (W : World) (v : Value) (l : List Ls) : Prop := ∀ (i : Nat) (a : Ls), l[i]? = some a → ∃ g c, v = .slice (some ⟨g, 0, none⟩) l.length c ∧ l.length ≤ c ∧ g < W.heap.size ∧ W.cell? ⟨g, i * 3, none⟩ = some (.int .i64 a.id) ∧ W.cell? ⟨g, i * 3 + 1, none⟩ = some (.int .i64 a.ttl) ∧ W.cell? ⟨g, i * 3 + 2, none⟩ = some (.int .i64 a.til)
theorem LsR.of {W : World} {B : Nat} {p : Option Addr} {c : Nat} {l : List Ls} (h : W.ownsRow B 45 3 (.slice p l.length c) l.length (lsC l)) : LsR W (.slice p l.length c) l := by
  intro i a hi
  obtain ⟨g, rfl, h1, h2, h3, h4, h5⟩ := row_ls h hi
  exact ⟨g, c, rfl, h5, h4, h1, h2, h3⟩
theorem LsR.ofR {W : World} {B : Nat} {p : Option Addr} {c : Nat} {l : List Ls} (h : W.ownsRow B 46 3 (.slice p l.length c) l.length (lsC l)) : LsR W (.slice p l.length c) l := by
  intro i a hi
  obtain ⟨g, rfl, h1, h2, h3, h4, h5⟩ := row_rs h hi
  exact ⟨g, c, rfl, h5, h4, h1, h2, h3⟩
theorem LsR.below {W W' : World} {v : Value} {l : List Ls} (h : LsR W v l) (hb : Below W.heap.size W W') : LsR W' v l := by
  intro i a hi
  obtain ⟨g, c, e, h1, h2, h3, h4, h5⟩ := h i a hi
  exact ⟨g, c, e, h1, Nat.lt_of_lt_of_le h2 hb.size, (hb.cell (p := ⟨g, i * 3, none⟩) h2).trans h3, (hb.cell (p := ⟨g, i * 3 + 1, none⟩) h2).trans h4, (hb.cell (p := ⟨g, i * 3 + 2, none⟩) h2).trans h5⟩
theorem PB.overX (h : PB w W d b x bx c L1 L2) (now : Int) : Calls Try.prog 16 #[ptr d, .int .i64 now] W fun e w' => ∃ p q, e = .returned (.slice p (overL L1 now).length q) ∧ Hid (PB w w' d b x bx c L1 L2) ∧ Hid (IR w' (.slice p (overL L1 now).length q) (overL L1 now)) := by
  obtain ⟨v, hv⟩ := h.pp
  refine (over_any _ d b L1 now W hv.bk).mono ?_
  rintro e w' ⟨p, q, rfl, hr, hb⟩
  exact ⟨p, q, rfl, h.later hb, IR.of hr⟩
theorem PB.overY (h : PB w W d b x bx c L1 L2) (now : Int) (few : L2.length ≤ 1024) {va : Value} {la : List Int} (ha : IR W va la) : Calls Try.prog 17 #[ptr x, .int .i64 now] W fun e w' => ∃ p q, e = .returned (.slice p (overL L2 now).length q) ∧ Hid (PB w w' d b x bx c L1 L2) ∧ Hid (IR w' va la) ∧ Hid (IR w' (.slice p (overL L2 now).length q) (overL L2 now)) := by
  obtain ⟨v, hv⟩ := h.pp
  refine (rover_any _ x v L2 now W hv.rb few).mono ?_
  rintro e w' ⟨p, q, rfl, hr, hb⟩
  exact ⟨p, q, rfl, h.later hb, ha.below hb, IR.of hr⟩
theorem PB.allX (h : PB w W d b x bx c L1 L2) {va vb : Value} {la lb : List Int} (ha : IR W va la) (hb' : IR W vb lb) : Calls Try.prog 18 #[ptr d] W fun e w' => ∃ p q, e = .returned (.slice p L1.length q) ∧ Hid (PB w w' d b x bx c L1 L2) ∧ Hid (IR w' va la) ∧ Hid (IR w' vb lb) ∧ Hid (LsR w' (.slice p L1.length q) L1) := by
  obtain ⟨v, hv⟩ := h.pp
  refine (all_any _ d b L1 W hv.bk).mono ?_
  rintro e w' ⟨p, q, rfl, hr, hb⟩
  exact ⟨p, q, rfl, h.later hb, ha.below hb, hb'.below hb, LsR.of hr⟩
theorem PB.rowY (h : PB w W d b x bx c L1 L2) : ∃ p q, W.cell? ⟨x, 0, none⟩ = some (.slice p L2.length q) ∧ LsR W (.slice p L2.length q) L2 := by
  obtain ⟨v, hv⟩ := h.pp
  obtain ⟨p, q, rfl, _⟩ := hv.rb.form
  exact ⟨p, q, hv.rb.c0, LsR.ofR hv.rb.row⟩
end
/-- With what was told. -/
structure PQ (w W : World) (d b x bx : Nat) (c : Cl) (L : List Ls) (O : List Int) (va vb vc vy : Value) : Prop where
  pb : PB w W d b x bx c L L
  ia : IR W va O
  ib : IR W vb O
  lc : LsR W vc L
  xc : W.cell? ⟨x, 0, none⟩ = some vy
  ly : LsR W vy L
abbrev CX (bx : Nat) (c : Cl) (x : Nat) (vy : Value) (w : World) : Prop := CB bx c w ∧ w.cell? ⟨x, 0, none⟩ = some vy
section
variable {w W : World} {d b x bx : Nat} {c : Cl} {L : List Ls} {O : List Int} {va vb vc vy : Value}
theorem PQ.later {W' : World} (h : PQ w W d b x bx c L O va vb vc vy) (hb : Below W.heap.size W W') : PQ w W' d b x bx c L O va vb vc vy := by
  obtain ⟨v, hv⟩ := h.pb.pp
  exact ⟨h.pb.later hb, h.ia.below hb, h.ib.below hb, h.lc.below hb, (hb.cell (p := ⟨x, 0, none⟩) hv.rb.lt).trans h.xc, h.ly.below hb⟩
theorem PQ.cx (h : PQ w W d b x bx c L O va vb vc vy) : CX bx c x vy W := ⟨h.pb.cb, h.xc⟩
theorem PQ.hasX (h : PQ w W d b x bx c L O va vb vc vy) (hi : isI c.id) : Calls Try.prog 19 #[ptr d, .int .i64 c.id] W fun e w' => e = .returned (.bool (lookL c.id L).isSome) ∧ Hid (PQ w w' d b x bx c L O va vb vc vy) ∧ CX bx c x vy w' := by
  obtain ⟨v, hv⟩ := h.pb.pp
  refine (has_any _ d b L c.id W hv.bk hi).mono ?_
  rintro e w' ⟨rfl, hb⟩
  have h2 := h.later hb
  exact ⟨rfl, h2, h2.cx⟩
theorem PQ.hasY (h : PQ w W d b x bx c L O va vb vc vy) : Calls Try.prog 20 #[ptr x, .int .i64 c.id] W fun e w' => e = .returned (.bool (lookL c.id L).isSome) ∧ Hid (PQ w w' d b x bx c L O va vb vc vy) ∧ CX bx c x vy w' := by
  obtain ⟨v, hv⟩ := h.pb.pp
  refine (rhas_any _ x v L c.id W hv.rb hv.bk.few).mono ?_
  rintro e w' ⟨rfl, rfl⟩
  exact ⟨rfl, h, h.cx⟩
end
theorem PP.start {w W : World} {d b : Nat} (h : LL w W d b []) : PP w (W.alloc (.cells #[.slice none 0 0] 29)) d b W.heap.size [] [] := by
  have hb : Below W.heap.size W (W.alloc (.cells #[.slice none 0 0] 29)) := (Below.refl _ _).alloc (Nat.le_refl _) _
  have h2 := h.below hb
  have l1 := h.bk.ltd
  have l2 := h.bk.ltb
  exact ⟨.slice none 0 0, h2.bk, ⟨by simp, by simp, World.ownsRow_nil _ _ _ _, by simp [Value.ownBlock], h.bel.size⟩, h2.bel, by omega, by omega, fun k hk => by simp [Value.ownBlock] at hk⟩
theorem PB.start {w W : World} {d b x : Nat} {L1 L2 : List Ls} (h : PP w W d b x L1 L2) (c : Cl) : PB w (W.alloc (.cells #[.int .i64 c.kind, .int .i64 c.id, .int .i64 c.ttl, .int .i64 c.now] 31)) d b x W.heap.size c L1 L2 := by
  obtain ⟨v, hv⟩ := h
  have hl := hv.lo
  exact ⟨⟨v, hv.later ((Below.refl _ _).alloc (Nat.le_refl _) _)⟩, ⟨by simp, by simp, by simp, by simp⟩, ⟨by show W.heap.size ≠ b; omega, by show W.heap.size ≠ x; omega⟩⟩
end Go.Proofs.Ytiffigjfjdplhaa
