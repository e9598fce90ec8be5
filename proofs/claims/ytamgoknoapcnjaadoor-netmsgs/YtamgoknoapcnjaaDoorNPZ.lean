/- The document's Parse: its state. -/
import Derived.Test.YtamgoknoapcnjaaDoorNRM
import Derived.Test.YtamgoknoapcnjaaDoorNK
namespace Go.Proofs.YtamgoknoapcnjaaDoor
open Go Go.RowKit
theorem zrow_noB (off : Nat) (n : Int) : zrow[off]? ≠ some (.int .u8 n) := by
  intro h
  have := Array.mem_of_getElem? h
  simp [zrow] at this
/-- The document's Parse on its way: the reader at b, the message's box at d, the result's at d0, the lists that were read. -/
structure Pe (w W : World) (d0 b d base : Nat) (v : Value) (xs : List Int) (row : Array Value) (s : St) (ve vv vd : Value) (m : Md) : Prop where
  r : Rf W b v xs s.1 s.2
  x : Bx d row 28 W
  z : Bx d0 zrow 28 W
  u : Below w.heap.size w W
  m : Ms (fun k => base ≤ k) W ve vv vd m
  hb : w.heap.size ≤ b
  hd : w.heap.size ≤ d
  hz : w.heap.size ≤ d0
  lb : b < base
  ld : d < base
  lz : d0 < base
  sz : base ≤ W.heap.size
  nbd : b ≠ d
  nbz : b ≠ d0
  ndz : d ≠ d0
  nv : ∀ k, v.ownBlock = some k → 0 < xs.length → k < base ∧ k ≠ d ∧ k ≠ d0
section
variable {w W W' : World} {d0 b d base : Nat} {v : Value} {xs : List Int} {row : Array Value} {s : St} {ve vv vd : Value} {m : Md}
theorem Pe.upd (h : Pe w W d0 b d base v xs row s ve vv vd m) {S : Nat → Prop} (hu : Upd W W' S) (hS : ∀ k, S k → base ≤ k) {ve' vv' vd' : Value} {m' : Md} (hm : Ms (fun k => base ≤ k) W' ve' vv' vd' m') : Pe w W' d0 b d base v xs row s ve' vv' vd' m' :=
  ⟨h.r.upd hu (fun e => by have := hS _ e; have := h.lb; omega) (fun k hk h0 e => by have := hS _ e; have := (h.nv k hk h0).1; omega),
   h.x.upd hu (fun e => by have := hS _ e; have := h.ld; omega), h.z.upd hu (fun e => by have := hS _ e; have := h.lz; omega),
   h.u.trans (hu.below h.u.size (fun k hk e => by have := hS _ e; have := h.hb; have := h.lb; omega)), hm, h.hb, h.hd, h.hz, h.lb, h.ld, h.lz, Nat.le_trans h.sz hu.size, h.nbd, h.nbz, h.ndz, h.nv⟩
theorem Pe.below (h : Pe w W d0 b d base v xs row s ve vv vd m) (hb : Below W.heap.size W W') : Pe w W' d0 b d base v xs row s ve vv vd m :=
  h.upd (Upd.ofBelow (S := fun _ => False) hb) (fun _ h => h.elim) (h.m.below hb)
/-- Other lists. -/
theorem Pe.lists (h : Pe w W d0 b d base v xs row s ve vv vd m) {ve' vv' vd' : Value} {m' : Md} (hm : Ms (fun k => base ≤ k) W ve' vv' vd' m') : Pe w W d0 b d base v xs row s ve' vv' vd' m' :=
  h.upd (Upd.refl W (fun _ => False)) (fun _ h => h.elim) hm
theorem Pe.read (h : Pe w W d0 b d base v xs row s ve vv vd m) {s' : St} (hp : RfPost W W' b v xs s'.1 s'.2) : Pe w W' d0 b d base v xs row s' ve vv vd m :=
  ⟨hp.1, h.x.upd hp.2 (fun e => h.nbd e.symm), h.z.upd hp.2 (fun e => h.nbz e.symm), h.u.trans (hp.2.below h.u.size (fun k hk e => by have e1 : k = b := e; have := h.hb; omega)),
   h.m.upd hp.2 (fun k hk _ e => by have e1 : k = b := e; have := h.lb; omega), h.hb, h.hd, h.hz, h.lb, h.ld, h.lz, Nat.le_trans h.sz hp.2.size, h.nbd, h.nbz, h.ndz, h.nv⟩
theorem Pe.set (h : Pe w W d0 b d base v xs row s ve vv vd m) (j : Nat) (u : Value) {row' : Array Value} (hr : row.set! j u = row') : Pe w (W.setCell ⟨d, j, none⟩ u) d0 b d base v xs row' s ve vv vd m := by
  have us : Upd W (W.setCell ⟨d, j, none⟩ u) (fun k => k = d) := (Upd.refl W (fun k => k = d)).setCell (p := ⟨d, j, none⟩) (.inr rfl) _
  exact ⟨h.r.upd us (fun e => h.nbd e) (fun k hk h0 e => (h.nv k hk h0).2.1 e), h.x.set j u hr, h.z.upd us (fun e => h.ndz e.symm), h.u.trans (us.below h.u.size (fun k hk e => by have e1 : k = d := e; have := h.hd; omega)),
    h.m.upd us (fun k hk _ e => by have e1 : k = d := e; have := h.ld; omega), h.hb, h.hd, h.hz, h.lb, h.ld, h.lz, Nat.le_trans h.sz us.size, h.nbd, h.nbz, h.ndz, h.nv⟩
theorem Pe.int (h : Hid (Pe w W d0 b d base v xs row s ve vv vd m)) {s' : St} (hs : s' = (rI xs s).2) {x : Int} (hx : x = (rI xs s).1) :
    Calls Tryd.prog 39 #[ptr b] W fun e w' => e = .returned (iv x) ∧ Hid (Pe w w' d0 b d base v xs row s' ve vv vd m ∧ Upd W w' (fun k => k = b)) := by
  subst hs hx
  refine (fInt b v xs s.1 s.2 W h.out.r).mono ?_
  rintro e w' ⟨rfl, hp⟩
  exact ⟨rfl, h.out.read (s' := (rI xs s).2) hp, hp.2⟩
theorem Pe.u8 (h : Hid (Pe w W d0 b d base v xs row s ve vv vd m)) {s' : St} (hs : s' = (rU xs s).2) {x : Int} (hx : x = (rU xs s).1) :
    Calls Tryd.prog 38 #[ptr b] W fun e w' => e = .returned (iv x) ∧ Hid (Pe w w' d0 b d base v xs row s' ve vv vd m ∧ Upd W w' (fun k => k = b)) := by
  subst hs hx
  refine (fU8 b v xs s.1 s.2 W h.out.r).mono ?_
  rintro e w' ⟨rfl, hp⟩
  exact ⟨rfl, h.out.read (s' := (rU xs s).2) hp, hp.2⟩
/-- Bytes, and the slice that is made of them. -/
theorem Pe.text (h : Hid (Pe w W d0 b d base v xs row s ve vv vd m)) {s' : St} (hs : s' = (rT xs s).2) {ds : List Int} (hx : ds = (rT xs s).1) :
    Calls Tryd.prog 40 #[ptr b] W fun e w' => e = .returned (.string (strOfNums ds)) ∧ Hid (Pe w w' d0 b d base v xs row s' ve vv vd m ∧ Upd W w' (fun k => k = b)) ∧ ∃ c W', (convert 9 26 (.string (strOfNums ds))).run Tryd.prog w' = .ok (.slice (some ⟨w'.heap.size, 0, none⟩) ds.length c) W' ∧ Hid (Bs (fun k => w'.heap.size ≤ k) W' (.slice (some ⟨w'.heap.size, 0, none⟩) ds.length c) ds ∧ Below w'.heap.size w' W') := by
  subst hs hx
  refine (fText b v xs s.1 s.2 W h.out.r).mono ?_
  rintro e w' ⟨rfl, hp⟩
  obtain ⟨c, W', h1, h2, h3⟩ := conv_back (rT_isB h.out.r.bytes s) (Nat.le_trans (rT_len xs s) h.out.r.small) w'
  have hz : ∀ k, (Value.slice (some ⟨w'.heap.size, 0, none⟩) (rT xs s).1.length c).ownBlock = some k → 0 < (rT xs s).1.length → w'.heap.size ≤ k := fun k hk _ => by
    have e1 : w'.heap.size = k := by simpa [Value.ownBlock] using hk
    omega
  exact ⟨rfl, ⟨h.out.read (s' := (rT xs s).2) hp, hp.2⟩, c, W', h1, ⟨h2, hz⟩, h3⟩
theorem Pe.meta (h : Hid (Pe w W d0 b d base v xs row s ve vv vd m)) {s' : St} {x y : Int} {l : List Int} (hx : x = (rI xs s).1) (hy : y = (rI xs (rI xs s).2).1) (hl : l = (rList (rI xs) xs (rI xs (rI xs s).2).2).1) (hs : s' = (rList (rI xs) xs (rI xs (rI xs s).2).2).2) :
    Calls Tryd.prog 41 #[ptr b] W fun e w' => ∃ p c, e = .returned (.agg #[iv x, iv y, .slice p l.length c]) ∧ Hid (Pe w w' d0 b d base v xs row s' ve vv vd m ∧ Is (fun k => base ≤ k) w' (.slice p l.length c) l) := by
  subst hs hx hy hl
  refine (zMeta (w0 := W) ⟨h.out.r, Upd.refl _ _⟩).mono ?_
  rintro e w' ⟨p, c, rfl, hi, hr, hu⟩
  exact ⟨p, c, rfl, h.out.read ⟨hr.r, hu⟩, hi.mono (fun k hk => Nat.le_trans h.out.sz hk)⟩
end
theorem okT_err {xs : List Int} {a : Nat} {e : Int} {n : Nat} (h : takeE xs a e n ≠ 0) : takeB xs a e n = [] := by
  unfold takeE takeB at *
  split at h
  · exact absurd rfl h
  · rename_i h'
    rw [if_neg h']
theorem rU_err {xs : List Int} {s : St} (h : (rU xs s).2.2 ≠ 0) : (rU xs s).1 = 0 := by
  unfold rU at *
  rw [okT_err h]
  show wrap64 (rd []) = 0
  simp [rd, wrap64]
end Go.Proofs.YtamgoknoapcnjaaDoor
