/- Ready of the only voter. -/
import Derived.Test.YtfhdenobldkaiaaRN
import Derived.BigRegion
import Derived.Deep.RegionHeldLaw
namespace Go.Proofs.Ytfhdenobldkaiaa
open Go Go.RowKit
theorem Nod.drw {w : World} {d : Nat} {a : Nd} (h : Nod w d a) : Nod w.drew d a := h
theorem eqI (d : Nat) (a x : Int) (W : World) : (Op.equalIn (d + 1) 3 (iv a) (iv x)).run Try.prog W = .ok (a == x) W := by
  simp [Op.equalIn, run_underlying Try.underlying3]
theorem stood30 (_W : World) : Try.prog.stoodInHeld 30 = false := by kernel_rfl
theorem eq3 (d : Nat) (a b c x y z : Int) (W : World) : (Op.equalIn (d + 2) 30 (.agg #[iv a, iv b, iv c]) (.agg #[iv x, iv y, iv z])).run Try.prog W = .ok (a == x && b == y && c == z) W := by
  have h1 := fun a x => eqI d a x W
  have hs := stood30 W
  unfold Op.equalIn
  simp [run_underlying Try.underlying30, part, typeInfo, Go.program]
  have hp : Sem.run Try.prog (Sem.program Sem.pure) W = .ok Try.prog W := rfl
  rw [hp]
  simp only [Result.andThen, hs, h1]
  cases (a == x) <;> cases (b == y) <;> cases (c == z) <;> simp []
theorem neq3 (a b c x y z : Int) (W : World) : (binOp .neq 30 (.agg #[iv a, iv b, iv c]) (.agg #[iv x, iv y, iv z])).run Try.prog W = .ok (.bool (!(a == x && b == y && c == z))) W := by
  have h := eq3 9998 a b c x y z W
  simp [binOp, Op.equal, Op.maxDepth, h]
/-- The same, whatever the box says. -/
structure Mi2 (W1 Wf : World) (d l n m : Nat) (a : Nd) (xs : List Value) (t k : Int) (bs : List Int) (X : Nat) (v1 v2 : Value) (r : Array Value) : Prop where
  ln : Ln Wf d l n { a with old := n } xs
  upd : Upd W1 Wf (fun z => z = d)
  row : Wf.heap[X]? = some (.cells r 40 (0, 0))
  ge : W1.heap.size ≤ X
  t1 : ∃ lo hi, Told Wf lo hi v1 n m t k bs ∧ W1.heap.size ≤ lo ∧ (X < lo ∨ hi ≤ X)
  t2 : ∃ lo hi, Told Wf lo hi v2 n m t k bs ∧ W1.heap.size ≤ lo ∧ (X < lo ∨ hi ≤ X)
theorem Mi2.drewN {W1 Wf : World} {d l n m : Nat} {a : Nd} {xs : List Value} {t k : Int} {bs : List Int} {X : Nat} {v1 v2 : Value} {r : Array Value} (h : Mi2 W1 Wf d l n m a xs t k bs X v1 v2 r) (q : Nat) : Mi2 W1 (Wf.drewN q) d l n m a xs t k bs X v1 v2 r := by
  have hb := below_drewF q Wf
  have hu : Upd Wf (Wf.drewN q) (fun _ => False) := Upd.ofBelow hb
  obtain ⟨lo, hi, a1, a2, a3⟩ := h.t1
  obtain ⟨lo', hi', b1, b2, b3⟩ := h.t2
  exact ⟨h.ln.below hb, h.upd.trans hu (fun _ _ e => e.elim), h.row, h.ge, ⟨lo, hi, a1.upd hu (fun _ _ _ e => e), a2, a3⟩, ⟨lo', hi', b1.upd hu (fun _ _ _ e => e), b2, b3⟩⟩
/-- The box is written. -/
theorem Mi2.put {W1 Wf W' : World} {d l n m : Nat} {a : Nd} {xs : List Value} {t k : Int} {bs : List Int} {X : Nat} {v1 v2 : Value} {r r' : Array Value} (h : Mi2 W1 Wf d l n m a xs t k bs X v1 v2 r) (hd : d < W1.heap.size) (hu : Upd Wf W' (fun z => z = X)) (hr : W'.heap[X]? = some (.cells r' 40 (0, 0))) : Mi2 W1 W' d l n m a xs t k bs X v1 v2 r' := by
  have hg := h.ge
  have hz := h.upd.size
  obtain ⟨lo, hi, a1, a2, a3⟩ := h.t1
  obtain ⟨lo', hi', b1, b2, b3⟩ := h.t2
  refine ⟨⟨h.ln.nod.upd hu (by omega), h.ln.role, ownsRow_upd h.ln.vot hu (fun z hz e => own_block h.ln.vot h.row (by decide) (e ▸ hz)), ownsRow_upd h.ln.ents hu (fun z hz e => own_block h.ln.ents h.row (by decide) (e ▸ hz))⟩, h.upd.trans hu (fun z hz e => by omega), hr, hg, ⟨lo, hi, a1.upd hu (fun z h1 h2 e => by omega), a2, a3⟩, ⟨lo', hi', b1.upd hu (fun z h1 h2 e => by omega), b2, b3⟩⟩
/-- What Ready tells: whether the hard state is told, and it. -/
def outA (hh : Bool) (a : Nd) (v1 v2 : Value) : Array Value := #[.bool hh, iv (if hh then a.term else 0), iv (if hh then a.vote else 0), iv (if hh then a.commit else 0), .bool false, iv 0, iv 0, .slice none 0 0, .slice none 0 0, v1, .slice none 0 0, v2, a.reads]
def S4 (d m n : Nat) (rp : Option Addr) (rn rc : Nat) (V : World) : Prop := V.cell? ⟨d, 19, none⟩ = some (.slice none 0 0) ∧ V.cell? ⟨d, 15, none⟩ = some (iv m) ∧ V.cell? ⟨d, 3, none⟩ = some (iv n) ∧ V.cell? ⟨d, 20, none⟩ = some (.slice rp rn rc)
theorem s4_alloc {d m n : Nat} {rp : Option Addr} {rn rc : Nat} {V : World} (o : Obj) (hV : S4 d m n rp rn rc V) : S4 d m n rp rn rc (V.alloc o) := ⟨cell_alloc hV.1, cell_alloc hV.2.1, cell_alloc hV.2.2.1, cell_alloc hV.2.2.2⟩
theorem s4_upd {d m n X : Nat} {rp : Option Addr} {rn rc : Nat} {V W : World} (hu : Upd V W (fun z => z = X)) (hx : ¬ d = X) (hV : S4 d m n rp rn rc V) : S4 d m n rp rn rc W := by
  have hl := World.block_lt_of_cell? _ _ hV.1
  exact ⟨(hu.cell (p := ⟨d, 19, none⟩) hl hx).trans hV.1, (hu.cell (p := ⟨d, 15, none⟩) hl hx).trans hV.2.1, (hu.cell (p := ⟨d, 3, none⟩) hl hx).trans hV.2.2.1, (hu.cell (p := ⟨d, 20, none⟩) hl hx).trans hV.2.2.2⟩
theorem step_storeR {P : Program} {w : World} {ops : Array Oper} {o : Oper} {a : Act} {K : Act → World → Prop} {Q : Exit → Act → World → Prop} {E : Prop} (hgd : o.guard = none) (ty : TypeId) (x y : Operand) (ho : o.op = .store ty x y)
    (g : Nat) (cells : Array Value) (hx : a.eval x = .pointer (some ⟨g, 0, none⟩)) (hy : a.eval y = .agg cells)
    (t : TypeId) (old : Array Value) (hg : w.heap[g]? = some (.cells old t (0, 0))) (hi : (P.info? ty).map (·.size) = some cells.size)
    (hold : old.size = cells.size) (h1 : cells.all (·.oneCell') = true)
    (h : K (a.put o.dst undef) (w.setRow g cells)) : if Region.wanted o (yielded ops a.tmps) = true then Oper.wp P o a w K Q else E := by
  have hw : Region.wanted o (yielded ops a.tmps) = true := by simp [Region.wanted, hgd]
  rw [if_pos hw]
  exact wp_store_row ty x y ho g cells hx hy t old hg hi hold h1 h
set_option maxRecDepth 100000 in
set_option maxHeartbeats 16000000 in
theorem ready_one {hh : Bool} {w : World} {d l n m : Nat} {a : Nd} {xs : List Value} {t k : Int} {dv : Value} {bs : List Int} (h : Rd w d l n m a xs t k dv bs) (hhh : (a.term == a.tt && a.vote == a.tv && a.commit == a.tc) = !hh) :
    Calls Try.prog 8 #[ptr d] w fun e w' => ∃ v1 v2, e = .returned (.agg (outA hh a v1 v2)) ∧ Ln w' d l n { a with old := n, tt := a.term, tv := a.vote, tc := a.commit, applied := a.commit, reads := .slice none 0 0 } xs ∧ (∃ lo hi, Told w' lo hi v1 n m t k bs ∧ w.heap.size ≤ lo) ∧ (∃ lo hi, Told w' lo hi v2 n m t k bs ∧ w.heap.size ≤ lo) ∧ Upd w w' (fun z => z = d) := by
  obtain ⟨p, cv, hv⟩ := owns_formB0 h.ln.ents
  obtain ⟨rp, rn, rc, hrd⟩ := h.rds
  have hc : n ≤ cv := by
    have := h.ln.ents
    rw [hv] at this
    rcases this.2 with ⟨e, h0⟩ | ⟨g, cap, cur, e, hb, _, h1, _⟩
    · cases e; omega
    · cases e; exact h1
  have hmn : m ≤ n := by have := h.hm; omega
  obtain ⟨W1, hW1⟩ : ∃ W1, W1 = w.alloc (.cells zeroRd 40) := ⟨_, rfl⟩
  have b1 : Below w.heap.size w W1 := by rw [hW1]; exact (Below.refl _ w).alloc (Nat.le_refl _) _
  have s1 : W1.heap.size = w.heap.size + 1 := by rw [hW1]; simp
  have l1 := h.ln.below b1
  have HN : Hid (∀ W, Below W1.heap.size W1 W → Calls Try.prog 22 #[ptrT d] W fun e w' => e = .returned (tailV p n cv m) ∧ Ln w' d l n { a with old := n } xs ∧ Upd W1 w' (fun z => z = d) ∧ Upd W w' (fun z => z = d)) := fun W hb => by
    refine (news_one (l1.below hb) hv hc hmn h.few h.old).mono ?_
    rintro e w' ⟨rfl, h2, u2⟩
    exact ⟨rfl, h2, (Upd.ofBelow (S := fun z => z = d) hb).trans u2 (fun _ _ e => e), u2⟩
  have HC : Hid (∀ w2, Upd W1 w2 (fun z => z = d) → Ln w2 d l n { a with old := n } xs → ∀ W, Below w2.heap.size w2 W → (Calls Try.prog 21 #[tailV p n cv m] W fun e w' => ∃ v', e = .returned v' ∧ Told w' W.heap.size w'.heap.size v' n m t k bs ∧ Below W.heap.size W w') ∧ (Calls Try.prog 23 #[ptrT d, iv m, iv n] W fun e w' => e = .returned (tailV p n cv m) ∧ ∃ q, w' = W.drewN q) ∧ W.cell? ⟨d, 19, none⟩ = some (.slice none 0 0) ∧ W.cell? ⟨d, 15, none⟩ = some (iv m) ∧ W.cell? ⟨d, 3, none⟩ = some (iv n) ∧ W.cell? ⟨d, 20, none⟩ = some (.slice rp rn rc)) := fun w2 hu hl2 W hb => by
    have hl := hl2.below hb
    have hl1 : Las W n xs t k dv bs := ((h.las.below b1).upd hu (fun z hz e => h.dne (by rw [hz, e]))).below hb
    refine ⟨copies_tail (by have := hl.ents; rwa [show ({ a with old := (n : Int) } : Nd).ents = a.ents from rfl, hv] at this) hc h.hm hl1 h.bs, between_q hl.nod hv hc hmn (by have := h.few; omega), hl.nod.cell 19 rfl, ?_, ?_, by have := hl.nod.cell 20 (u := a.reads) rfl; rwa [hrd] at this⟩
    · have := hl.nod.cell 15 (u := iv a.applied) rfl
      rwa [h.app] at this
    · have := hl.nod.cell 3 (u := iv a.commit) rfl
      rwa [h.com] at this
  have hS : W1.drew.cell? ⟨d, 19, none⟩ = some (.slice none 0 0) ∧ W1.drew.cell? ⟨d, 15, none⟩ = some (iv m) ∧ W1.drew.cell? ⟨d, 3, none⟩ = some (iv n) ∧ W1.drew.cell? ⟨d, 20, none⟩ = some (.slice rp rn rc) := by
    refine ⟨l1.nod.cell 19 rfl, ?_, ?_, by have := l1.nod.cell 20 (u := a.reads) rfl; rwa [hrd] at this⟩
    · have := l1.nod.cell 15 (u := iv a.applied) rfl
      rwa [h.app] at this
    · have := l1.nod.cell 3 (u := iv a.commit) rfl
      rwa [h.com] at this
  have hSA : ∀ (V : World) (o : Obj), V.cell? ⟨d, 19, none⟩ = some (.slice none 0 0) ∧ V.cell? ⟨d, 15, none⟩ = some (iv m) ∧ V.cell? ⟨d, 3, none⟩ = some (iv n) ∧ V.cell? ⟨d, 20, none⟩ = some (.slice rp rn rc) → (V.alloc o).cell? ⟨d, 19, none⟩ = some (.slice none 0 0) ∧ (V.alloc o).cell? ⟨d, 15, none⟩ = some (iv m) ∧ (V.alloc o).cell? ⟨d, 3, none⟩ = some (iv n) ∧ (V.alloc o).cell? ⟨d, 20, none⟩ = some (.slice rp rn rc) := fun V o hV => ⟨cell_alloc hV.1, cell_alloc hV.2.1, cell_alloc hV.2.2.1, cell_alloc hV.2.2.2⟩
  have HD := Hid.mkW l1.nod.lt
  have HH := Hid.mkW h
  have HB1 := Hid.mkW b1
  have HR := Hid.mkW HH.out.rds
  unfold zeroRd at hW1
  have HRD := Hid.mkW hrd
  clear h b1 l1 hrd
  go_enter Try.func8, Try.ntmps8
  go_upto_region 1 with fail
  rw [← hW1]
  have HW := Hid.mkW hW1
  clear hW1
  go_cut [3] from 6 to 33 (fun s3 wc => ∃ (X : Nat) (v1 v2 : Value), s3 = ptr X ∧ Mid W1 wc d l n m a xs t k bs X v1 v2)
  case first =>
    have hS : S4 d m n rp rn rc W1.drew := hS
    clear hv hc hmn s1 hhh hSA
    refine wp_region_held_drew (S := S4 d m n rp rn rc) (by kernel_rfl) hS (fun hHeld => ?_)
    refine wpAnyH_take (i := 0) (oi := { dst := some 6, op := Go.Op.move (Go.Operand.tmp 0), type := 24, pos := "ready.go:24", after := #[], guard := none }) (v := ?_) rfl (by kernel_rfl) (by kernel_rfl) (by kernel_rfl) (fun _ _ _ h => h) (Or.inl ⟨by kernel_rfl, ?_⟩) hHeld ?_
    rotate_left
    · intro V hSV; obtain ⟨e1, e2, e3, e4⟩ := hSV; go_simp; try with_reducible rfl
    try simp only [Act.put, List.setIfInBounds_toArray, List.set_cons_zero, List.set_cons_succ]
    refine wpAnyH_take (i := 1) (oi := { dst := some 7, op := Go.Op.nilCheck (Go.Operand.tmp 6), type := 0, pos := "ready.go:24", after := #[{ on := 0, ground := Go.Ground.data }], guard := none }) (v := ?_) rfl (by kernel_rfl) (by kernel_rfl) (by kernel_rfl) (fun _ _ _ h => h) (Or.inl ⟨by kernel_rfl, ?_⟩) hHeld ?_
    rotate_left
    · intro V hSV; obtain ⟨e1, e2, e3, e4⟩ := hSV; go_simp; try with_reducible rfl
    try simp only [Act.put, List.setIfInBounds_toArray, List.set_cons_zero, List.set_cons_succ]
    refine wpAnyH_take (i := 2) (oi := { dst := some 8, op := Go.Op.fieldAddr 62 (Go.Operand.tmp 7) 3, type := 0, pos := "ready.go:24", after := #[{ on := 1, ground := Go.Ground.data }], guard := none }) (v := ?_) rfl (by kernel_rfl) (by kernel_rfl) (by kernel_rfl) (fun _ _ _ h => h) (Or.inl ⟨by kernel_rfl, ?_⟩) hHeld ?_
    rotate_left
    · intro V hSV; obtain ⟨e1, e2, e3, e4⟩ := hSV; go_simp; try with_reducible rfl
    try simp only [Act.put, List.setIfInBounds_toArray, List.set_cons_zero, List.set_cons_succ]
    refine wpAnyH_take (i := 5) (oi := { dst := some 11, op := Go.Op.move (Go.Operand.tmp 0), type := 24, pos := "ready.go:24", after := #[], guard := none }) (v := ?_) rfl (by kernel_rfl) (by kernel_rfl) (by kernel_rfl) (fun _ _ _ h => h) (Or.inl ⟨by kernel_rfl, ?_⟩) hHeld ?_
    rotate_left
    · intro V hSV; obtain ⟨e1, e2, e3, e4⟩ := hSV; go_simp; try with_reducible rfl
    try simp only [Act.put, List.setIfInBounds_toArray, List.set_cons_zero, List.set_cons_succ]
    refine wpAnyH_take (i := 6) (oi := { dst := some 12, op := Go.Op.nilCheck (Go.Operand.tmp 11), type := 0, pos := "ready.go:24", after := #[{ on := 5, ground := Go.Ground.data }], guard := none }) (v := ?_) rfl (by kernel_rfl) (by kernel_rfl) (by kernel_rfl) (fun _ _ _ h => h) (Or.inl ⟨by kernel_rfl, ?_⟩) hHeld ?_
    rotate_left
    · intro V hSV; obtain ⟨e1, e2, e3, e4⟩ := hSV; go_simp; try with_reducible rfl
    try simp only [Act.put, List.setIfInBounds_toArray, List.set_cons_zero, List.set_cons_succ]
    refine wpAnyH_take (i := 7) (oi := { dst := some 13, op := Go.Op.fieldAddr 62 (Go.Operand.tmp 12) 8, type := 0, pos := "ready.go:24", after := #[{ on := 6, ground := Go.Ground.data }], guard := none }) (v := ?_) rfl (by kernel_rfl) (by kernel_rfl) (by kernel_rfl) (fun _ _ _ h => h) (Or.inl ⟨by kernel_rfl, ?_⟩) hHeld ?_
    rotate_left
    · intro V hSV; obtain ⟨e1, e2, e3, e4⟩ := hSV; go_simp; try with_reducible rfl
    try simp only [Act.put, List.setIfInBounds_toArray, List.set_cons_zero, List.set_cons_succ]
    refine wpAnyH_take (i := 8) (oi := { dst := some 14, op := Go.Op.load 37 (Go.Operand.tmp 13), type := 37, pos := "ready.go:24", after := #[{ on := 7, ground := Go.Ground.data }], guard := none }) (v := ?_) rfl (by kernel_rfl) (by kernel_rfl) (by kernel_rfl) (fun _ _ _ h => h) (Or.inl ⟨by kernel_rfl, ?_⟩) hHeld ?_
    rotate_left
    · intro V hSV; obtain ⟨e1, e2, e3, e4⟩ := hSV; go_simp; try with_reducible rfl
    try simp only [Act.put, List.setIfInBounds_toArray, List.set_cons_zero, List.set_cons_succ]
    refine wpAnyH_take (i := 9) (oi := { dst := some 15, op := Go.Op.move (Go.Operand.tmp 0), type := 24, pos := "ready.go:24", after := #[], guard := none }) (v := ?_) rfl (by kernel_rfl) (by kernel_rfl) (by kernel_rfl) (fun _ _ _ h => h) (Or.inl ⟨by kernel_rfl, ?_⟩) hHeld ?_
    rotate_left
    · intro V hSV; obtain ⟨e1, e2, e3, e4⟩ := hSV; go_simp; try with_reducible rfl
    try simp only [Act.put, List.setIfInBounds_toArray, List.set_cons_zero, List.set_cons_succ]
    refine wpAnyH_take (i := 10) (oi := { dst := some 16, op := Go.Op.nilCheck (Go.Operand.tmp 15), type := 0, pos := "ready.go:24", after := #[{ on := 9, ground := Go.Ground.data }], guard := none }) (v := ?_) rfl (by kernel_rfl) (by kernel_rfl) (by kernel_rfl) (fun _ _ _ h => h) (Or.inl ⟨by kernel_rfl, ?_⟩) hHeld ?_
    rotate_left
    · intro V hSV; obtain ⟨e1, e2, e3, e4⟩ := hSV; go_simp; try with_reducible rfl
    try simp only [Act.put, List.setIfInBounds_toArray, List.set_cons_zero, List.set_cons_succ]
    refine wpAnyH_take (i := 11) (oi := { dst := some 17, op := Go.Op.fieldAddr 62 (Go.Operand.tmp 16) 3, type := 0, pos := "ready.go:24", after := #[{ on := 10, ground := Go.Ground.data }], guard := none }) (v := ?_) rfl (by kernel_rfl) (by kernel_rfl) (by kernel_rfl) (fun _ _ _ h => h) (Or.inl ⟨by kernel_rfl, ?_⟩) hHeld ?_
    rotate_left
    · intro V hSV; obtain ⟨e1, e2, e3, e4⟩ := hSV; go_simp; try with_reducible rfl
    try simp only [Act.put, List.setIfInBounds_toArray, List.set_cons_zero, List.set_cons_succ]
    refine wpAnyH_take (i := 12) (oi := { dst := some 18, op := Go.Op.move (Go.Operand.tmp 0), type := 24, pos := "ready.go:24", after := #[], guard := none }) (v := ?_) rfl (by kernel_rfl) (by kernel_rfl) (by kernel_rfl) (fun _ _ _ h => h) (Or.inl ⟨by kernel_rfl, ?_⟩) hHeld ?_
    rotate_left
    · intro V hSV; obtain ⟨e1, e2, e3, e4⟩ := hSV; go_simp; try with_reducible rfl
    try simp only [Act.put, List.setIfInBounds_toArray, List.set_cons_zero, List.set_cons_succ]
    refine wpAnyH_take (i := 13) (oi := { dst := some 19, op := Go.Op.nilCheck (Go.Operand.tmp 18), type := 0, pos := "ready.go:24", after := #[{ on := 12, ground := Go.Ground.data }], guard := none }) (v := ?_) rfl (by kernel_rfl) (by kernel_rfl) (by kernel_rfl) (fun _ _ _ h => h) (Or.inl ⟨by kernel_rfl, ?_⟩) hHeld ?_
    rotate_left
    · intro V hSV; obtain ⟨e1, e2, e3, e4⟩ := hSV; go_simp; try with_reducible rfl
    try simp only [Act.put, List.setIfInBounds_toArray, List.set_cons_zero, List.set_cons_succ]
    refine wpAnyH_take (i := 14) (oi := { dst := some 20, op := Go.Op.fieldAddr 62 (Go.Operand.tmp 19) 4, type := 0, pos := "ready.go:24", after := #[{ on := 13, ground := Go.Ground.data }], guard := none }) (v := ?_) rfl (by kernel_rfl) (by kernel_rfl) (by kernel_rfl) (fun _ _ _ h => h) (Or.inl ⟨by kernel_rfl, ?_⟩) hHeld ?_
    rotate_left
    · intro V hSV; obtain ⟨e1, e2, e3, e4⟩ := hSV; go_simp; try with_reducible rfl
    try simp only [Act.put, List.setIfInBounds_toArray, List.set_cons_zero, List.set_cons_succ]
    refine wpAnyH_take (i := 15) (oi := { dst := some 21, op := Go.Op.load 3 (Go.Operand.tmp 20), type := 3, pos := "ready.go:24", after := #[{ on := 14, ground := Go.Ground.data }], guard := none }) (v := ?_) rfl (by kernel_rfl) (by kernel_rfl) (by kernel_rfl) (fun _ _ _ h => h) (Or.inl ⟨by kernel_rfl, ?_⟩) hHeld ?_
    rotate_left
    · intro V hSV; obtain ⟨e1, e2, e3, e4⟩ := hSV; go_simp; try with_reducible rfl
    try simp only [Act.put, List.setIfInBounds_toArray, List.set_cons_zero, List.set_cons_succ]
    refine wpAnyH_take (i := 16) (oi := { dst := some 22, op := Go.Op.move (Go.Operand.tmp 0), type := 24, pos := "ready.go:24", after := #[], guard := none }) (v := ?_) rfl (by kernel_rfl) (by kernel_rfl) (by kernel_rfl) (fun _ _ _ h => h) (Or.inl ⟨by kernel_rfl, ?_⟩) hHeld ?_
    rotate_left
    · intro V hSV; obtain ⟨e1, e2, e3, e4⟩ := hSV; go_simp; try with_reducible rfl
    try simp only [Act.put, List.setIfInBounds_toArray, List.set_cons_zero, List.set_cons_succ]
    refine wpAnyH_take (i := 17) (oi := { dst := some 23, op := Go.Op.nilCheck (Go.Operand.tmp 22), type := 0, pos := "ready.go:24", after := #[{ on := 16, ground := Go.Ground.data }], guard := none }) (v := ?_) rfl (by kernel_rfl) (by kernel_rfl) (by kernel_rfl) (fun _ _ _ h => h) (Or.inl ⟨by kernel_rfl, ?_⟩) hHeld ?_
    rotate_left
    · intro V hSV; obtain ⟨e1, e2, e3, e4⟩ := hSV; go_simp; try with_reducible rfl
    try simp only [Act.put, List.setIfInBounds_toArray, List.set_cons_zero, List.set_cons_succ]
    refine wpAnyH_take (i := 18) (oi := { dst := some 24, op := Go.Op.fieldAddr 62 (Go.Operand.tmp 23) 1, type := 0, pos := "ready.go:24", after := #[{ on := 17, ground := Go.Ground.data }], guard := none }) (v := ?_) rfl (by kernel_rfl) (by kernel_rfl) (by kernel_rfl) (fun _ _ _ h => h) (Or.inl ⟨by kernel_rfl, ?_⟩) hHeld ?_
    rotate_left
    · intro V hSV; obtain ⟨e1, e2, e3, e4⟩ := hSV; go_simp; try with_reducible rfl
    try simp only [Act.put, List.setIfInBounds_toArray, List.set_cons_zero, List.set_cons_succ]
    refine wpAnyH_take (i := 19) (oi := { dst := some 25, op := Go.Op.fieldAddr 30 (Go.Operand.tmp 24) 2, type := 0, pos := "ready.go:24", after := #[{ on := 18, ground := Go.Ground.data }], guard := none }) (v := ?_) rfl (by kernel_rfl) (by kernel_rfl) (by kernel_rfl) (fun _ _ _ h => h) (Or.inl ⟨by kernel_rfl, ?_⟩) hHeld ?_
    rotate_left
    · intro V hSV; obtain ⟨e1, e2, e3, e4⟩ := hSV; go_simp; try with_reducible rfl
    try simp only [Act.put, List.setIfInBounds_toArray, List.set_cons_zero, List.set_cons_succ]
    refine wpAnyH_take (i := 20) (oi := { dst := some 26, op := Go.Op.load 3 (Go.Operand.tmp 25), type := 3, pos := "ready.go:24", after := #[{ on := 19, ground := Go.Ground.data }], guard := none }) (v := ?_) rfl (by kernel_rfl) (by kernel_rfl) (by kernel_rfl) (fun _ _ _ h => h) (Or.inl ⟨by kernel_rfl, ?_⟩) hHeld ?_
    rotate_left
    · intro V hSV; obtain ⟨e1, e2, e3, e4⟩ := hSV; go_simp; try with_reducible rfl
    try simp only [Act.put, List.setIfInBounds_toArray, List.set_cons_zero, List.set_cons_succ]
    refine wpAnyH_take (i := 23) (oi := { dst := some 29, op := Go.Op.move (Go.Operand.tmp 0), type := 24, pos := "ready.go:24", after := #[], guard := none }) (v := ?_) rfl (by kernel_rfl) (by kernel_rfl) (by kernel_rfl) (fun _ _ _ h => h) (Or.inl ⟨by kernel_rfl, ?_⟩) hHeld ?_
    rotate_left
    · intro V hSV; obtain ⟨e1, e2, e3, e4⟩ := hSV; go_simp; try with_reducible rfl
    try simp only [Act.put, List.setIfInBounds_toArray, List.set_cons_zero, List.set_cons_succ]
    refine wpAnyH_take (i := 24) (oi := { dst := some 30, op := Go.Op.nilCheck (Go.Operand.tmp 29), type := 0, pos := "ready.go:24", after := #[{ on := 23, ground := Go.Ground.data }], guard := none }) (v := ?_) rfl (by kernel_rfl) (by kernel_rfl) (by kernel_rfl) (fun _ _ _ h => h) (Or.inl ⟨by kernel_rfl, ?_⟩) hHeld ?_
    rotate_left
    · intro V hSV; obtain ⟨e1, e2, e3, e4⟩ := hSV; go_simp; try with_reducible rfl
    try simp only [Act.put, List.setIfInBounds_toArray, List.set_cons_zero, List.set_cons_succ]
    refine wpAnyH_take (i := 25) (oi := { dst := some 31, op := Go.Op.fieldAddr 62 (Go.Operand.tmp 30) 9, type := 0, pos := "ready.go:24", after := #[{ on := 24, ground := Go.Ground.data }], guard := none }) (v := ?_) rfl (by kernel_rfl) (by kernel_rfl) (by kernel_rfl) (fun _ _ _ h => h) (Or.inl ⟨by kernel_rfl, ?_⟩) hHeld ?_
    rotate_left
    · intro V hSV; obtain ⟨e1, e2, e3, e4⟩ := hSV; go_simp; try with_reducible rfl
    try simp only [Act.put, List.setIfInBounds_toArray, List.set_cons_zero, List.set_cons_succ]
    refine wpAnyH_take (i := 26) (oi := { dst := some 32, op := Go.Op.load 38 (Go.Operand.tmp 31), type := 38, pos := "ready.go:24", after := #[{ on := 25, ground := Go.Ground.data }], guard := none }) (v := ?_) rfl (by kernel_rfl) (by kernel_rfl) (by kernel_rfl) (fun _ _ _ h => h) (Or.inl ⟨by kernel_rfl, ?_⟩) hHeld ?_
    rotate_left
    · intro V hSV; obtain ⟨e1, e2, e3, e4⟩ := hSV; go_simp; try with_reducible rfl
    try simp only [Act.put, List.setIfInBounds_toArray, List.set_cons_zero, List.set_cons_succ]
    refine wpAnyH_ready (rs := [3, 28]) (by kernel_rfl) (by simp) ?_
    refine AllReadyH.cons rfl (fun K hK => ?_) ?_
    ·
      have hcc := HN.out (W1.drew) ((Below.refl _ W1).drew)
      go_simp
      go_at_call 22
      (with_reducible refine hcc.mono ?_)
      clear hcc
      rintro e w2 ⟨rfl, h2, u2, u2'⟩
      have H2 := Hid.mkW (HC.out w2 u2 h2)
      have HQ2 := Hid.mkW (And.intro h2 u2)
      have hsx : S4 d m n rp rn rc w2 := (H2.out w2 (Below.refl _ _)).2.2
      clear h2 u2 u2'
      go_simp
      refine hK.out _ _ hsx (fun hHeld => ?_)
      clear hK K hsx
      try simp only [Act.put, List.setIfInBounds_toArray, List.set_cons_zero, List.set_cons_succ]
      refine wpAnyH_ready (rs := [4, 28]) (by kernel_rfl) (by simp) ?_
      refine AllReadyH.cons rfl (fun K hK => ?_) ?_
      ·
        have hcc := (H2.out (w2) (Below.refl _ w2)).1
        go_simp
        go_at_call 21
        (with_reducible refine hcc.mono ?_)
        clear hcc
        rintro e w3 ⟨v1, rfl, t1, b3⟩
        obtain ⟨p1, c1, hv0, -⟩ := id t1
        subst hv0
        have hsx : S4 d m n rp rn rc w3 := (H2.out w3 b3).2.2
        have H3 := Hid.mkW (And.intro t1 b3)
        clear t1 b3
        go_simp
        refine hK.out _ _ hsx (fun hHeld => ?_)
        clear hK K hsx
        try simp only [Act.put, List.setIfInBounds_toArray, List.set_cons_zero, List.set_cons_succ]
        refine wpAnyH_ready (rs := [21, 28]) (by kernel_rfl) (by simp) ?_
        refine AllReadyH.cons rfl (fun K hK => ?_) ?_
        ·
          have hcc := (H2.out (w3) H3.out.2).2.1
          go_simp
          go_at_call 23
          (with_reducible refine hcc.mono ?_)
          clear hcc
          rintro e w4 ⟨rfl, q, e4⟩
          have b4 : Below (w3).heap.size (w3) w4 := by rw [e4]; exact below_drewF q _
          clear e4
          have hsx : S4 d m n rp rn rc w4 := (H2.out w4 (H3.out.2.trans (b4.mono H3.out.2.size))).2.2
          have H4 := Hid.mkW (H3.out.2.trans (b4.mono H3.out.2.size))
          have H34 := Hid.mkW b4
          clear b4
          go_simp
          refine hK.out _ _ hsx (fun hHeld => ?_)
          clear hK K hsx
          try simp only [Act.put, List.setIfInBounds_toArray, List.set_cons_zero, List.set_cons_succ]
          refine wpAnyH_ready (rs := [22, 28]) (by kernel_rfl) (by simp) ?_
          refine AllReadyH.cons rfl (fun K hK => ?_) ?_
          ·
            have hcc := (H2.out (w4) H4.out).1
            go_simp
            go_at_call 21
            (with_reducible refine hcc.mono ?_)
            clear hcc
            rintro e w5 ⟨v2, rfl, t2, b5⟩
            obtain ⟨p2, c2, hv0, -⟩ := id t2
            subst hv0
            have hsx : S4 d m n rp rn rc w5 := (H2.out w5 (H4.out.trans (b5.mono H4.out.size))).2.2
            have H5 := Hid.mkW (And.intro t2 b5)
            clear t2 b5
            go_simp
            refine hK.out _ _ hsx (fun hHeld => ?_)
            clear hK K hsx
            try simp only [Act.put, List.setIfInBounds_toArray, List.set_cons_zero, List.set_cons_succ]
            refine wpAnyH_take (i := 27) (oi := { dst := some 33, op := Go.Op.build 40 #[(5, Go.Operand.tmp 10), (6, Go.Operand.tmp 14), (7, Go.Operand.tmp 28), (8, Go.Operand.tmp 32)], type := 40, pos := "ready.go:24", after := #[{ on := 4, ground := Go.Ground.data }, { on := 8, ground := Go.Ground.data }, { on := 22, ground := Go.Ground.data }, { on := 26, ground := Go.Ground.data }], guard := none }) (v := ?_) rfl (by kernel_rfl) (by kernel_rfl) (by kernel_rfl) (fun _ _ _ h => h) (Or.inl ⟨by kernel_rfl, ?_⟩) hHeld ?_
            rotate_left
            · intro V hSV; obtain ⟨e1, e2, e3, e4⟩ := hSV; go_simp; try with_reducible rfl
            try simp only [Act.put, List.setIfInBounds_toArray, List.set_cons_zero, List.set_cons_succ]
            refine wpAnyH_ready (rs := [28]) (by kernel_rfl) (by simp) ?_
            refine AllReadyH.cons rfl (fun K hK => ?_) AllReadyH.nil
            have hx := row_alloc (w5) #[.bool false, .int .i64 0, .int .i64 0, .int .i64 0, .bool false, .int .i64 0, .int .i64 0, .slice none 0 0, .slice none 0 0, .slice none 0 0, .slice none 0 0, .slice none 0 0, .slice none 0 0] 40
            have HX := Hid.mkW hx
            clear hx
            have hHA := s4_alloc (Obj.cells #[.bool false, .int .i64 0, .int .i64 0, .int .i64 0, .bool false, .int .i64 0, .int .i64 0, .slice none 0 0, .slice none 0 0, .slice none 0 0, .slice none 0 0, .slice none 0 0, .slice none 0 0] 40 (0, 0)) hHeld
            go_simp
            refine hK.out _ _ hHA (fun hHeld => ?_)
            clear hK K hHA
            try simp only [Act.put, List.setIfInBounds_toArray, List.set_cons_zero, List.set_cons_succ]
            refine wpAnyH_ready (rs := [29]) (by kernel_rfl) (by simp) ?_
            refine AllReadyH.cons rfl (fun K hK => ?_) AllReadyH.nil
            have hz2 := HQ2.out.2.size
            have hz3 := H3.out.2.size
            have hz4 := H34.out.size
            have hz5 := H5.out.2.size
            have hzd := HD.out
            have hdr : W1.drew.heap.size = W1.heap.size := rfl
            have hxr := HX.out
            have hXg : W1.heap.size ≤ (w5).heap.size := by omega
            have hdX : ¬ d = (w5).heap.size := by omega
            have hus : Upd ((w5).alloc (.cells #[.bool false, .int .i64 0, .int .i64 0, .int .i64 0, .bool false, .int .i64 0, .int .i64 0, .slice none 0 0, .slice none 0 0, .slice none 0 0, .slice none 0 0, .slice none 0 0, .slice none 0 0] 40)) (((w5).alloc (.cells #[.bool false, .int .i64 0, .int .i64 0, .int .i64 0, .bool false, .int .i64 0, .int .i64 0, .slice none 0 0, .slice none 0 0, .slice none 0 0, .slice none 0 0, .slice none 0 0, .slice none 0 0] 40)).setRow ((w5).heap.size) #[.bool false, .int .i64 0, .int .i64 0, .int .i64 0, .bool false, .int .i64 0, .int .i64 0, .slice none 0 0, .slice none 0 0, .slice p1 (n - m) c1, .slice none 0 0, .slice p2 (n - m) c2, .slice rp rn rc]) (fun z => z = (w5).heap.size) := ⟨rfl, rfl, rfl, by simp, fun k _ hk => setRow_other _ _ k _ hk⟩
            have hsr := setRow_heap ((w5).alloc (.cells #[.bool false, .int .i64 0, .int .i64 0, .int .i64 0, .bool false, .int .i64 0, .int .i64 0, .slice none 0 0, .slice none 0 0, .slice none 0 0, .slice none 0 0, .slice none 0 0, .slice none 0 0] 40)) ((w5).heap.size) #[.bool false, .int .i64 0, .int .i64 0, .int .i64 0, .bool false, .int .i64 0, .int .i64 0, .slice none 0 0, .slice none 0 0, .slice none 0 0, .slice none 0 0, .slice none 0 0, .slice none 0 0] #[.bool false, .int .i64 0, .int .i64 0, .int .i64 0, .bool false, .int .i64 0, .int .i64 0, .slice none 0 0, .slice none 0 0, .slice p1 (n - m) c1, .slice none 0 0, .slice p2 (n - m) c2, .slice rp rn rc] 40 _ hxr
            have hst := s4_upd hus hdX hHeld
            refine step_storeR rfl 40 _ _ rfl ((w5).heap.size) #[.bool false, .int .i64 0, .int .i64 0, .int .i64 0, .bool false, .int .i64 0, .int .i64 0, .slice none 0 0, .slice none 0 0, .slice p1 (n - m) c1, .slice none 0 0, .slice p2 (n - m) c2, .slice rp rn rc] (by simp [Act.eval]; done) (by simp [Act.eval]; done) 40 #[.bool false, .int .i64 0, .int .i64 0, .int .i64 0, .bool false, .int .i64 0, .int .i64 0, .slice none 0 0, .slice none 0 0, .slice none 0 0, .slice none 0 0, .slice none 0 0, .slice none 0 0] hxr (by kernel_rfl) rfl (by kernel_rfl) ?_
            go_simp
            refine hK.out _ _ hst (fun hHeld => ?_)
            clear hK K hst
            try simp only [Act.put, List.setIfInBounds_toArray, List.set_cons_zero, List.set_cons_succ]
            refine wpAnyH_done (by kernel_rfl) ?_ _
            go_wp2_with fail
            go_meet
            exact ⟨(w5).heap.size, _, _, rfl, mid_end HQ2.out.1 HQ2.out.2 H3.out.1 H3.out.2 H34.out H5.out.1 H5.out.2 ((Upd.ofBelow (S := fun z => z = (w5).heap.size) ((Below.refl _ w5).alloc (Nat.le_refl _) _)).trans hus (fun _ _ e => e)) (by rw [HRD.out]; exact hsr) (fun e => absurd e (Nat.lt_irrefl _)) (by first | omega | (have := HLO.out; omega)) (by first | omega | (have := HLO.out; omega)) hXg (by first | omega | (have := HLO.out; omega)) (by first | omega | (have := HLO.out; omega)) HD.out⟩
          refine AllReadyH.cons rfl (fun K hK => ?_) AllReadyH.nil
          have hx := row_alloc (w4) #[.bool false, .int .i64 0, .int .i64 0, .int .i64 0, .bool false, .int .i64 0, .int .i64 0, .slice none 0 0, .slice none 0 0, .slice none 0 0, .slice none 0 0, .slice none 0 0, .slice none 0 0] 40
          have HX := Hid.mkW hx
          clear hx
          have hHA := s4_alloc (Obj.cells #[.bool false, .int .i64 0, .int .i64 0, .int .i64 0, .bool false, .int .i64 0, .int .i64 0, .slice none 0 0, .slice none 0 0, .slice none 0 0, .slice none 0 0, .slice none 0 0, .slice none 0 0] 40 (0, 0)) hHeld
          go_simp
          refine hK.out _ _ hHA (fun hHeld => ?_)
          clear hK K hHA
          try simp only [Act.put, List.setIfInBounds_toArray, List.set_cons_zero, List.set_cons_succ]
          refine wpAnyH_ready (rs := [22]) (by kernel_rfl) (by simp) ?_
          refine AllReadyH.cons rfl (fun K hK => ?_) AllReadyH.nil
          have hcc := (H2.out ((w4).alloc (.cells #[.bool false, .int .i64 0, .int .i64 0, .int .i64 0, .bool false, .int .i64 0, .int .i64 0, .slice none 0 0, .slice none 0 0, .slice none 0 0, .slice none 0 0, .slice none 0 0, .slice none 0 0] 40)) (H4.out.alloc H4.out.size _)).1
          go_simp
          go_at_call 21
          (with_reducible refine hcc.mono ?_)
          clear hcc
          rintro e w5 ⟨v2, rfl, t2, b5⟩
          obtain ⟨p2, c2, hv0, -⟩ := id t2
          subst hv0
          have hx := (b5.block ((w4).heap.size) (Array.getElem?_eq_some_iff.1 HX.out).1).trans HX.out
          clear HX
          have HX := Hid.mkW hx
          clear hx
          have hlo : ((w4).alloc (.cells #[.bool false, .int .i64 0, .int .i64 0, .int .i64 0, .bool false, .int .i64 0, .int .i64 0, .slice none 0 0, .slice none 0 0, .slice none 0 0, .slice none 0 0, .slice none 0 0, .slice none 0 0] 40)).heap.size = w4.heap.size + 1 ∧ ((w4).alloc (.cells #[.bool false, .int .i64 0, .int .i64 0, .int .i64 0, .bool false, .int .i64 0, .int .i64 0, .slice none 0 0, .slice none 0 0, .slice none 0 0, .slice none 0 0, .slice none 0 0, .slice none 0 0] 40)).heap.size ≤ w5.heap.size := ⟨by simp, b5.size⟩
          have HLO := Hid.mkW hlo
          have bo := below_old b5
          clear b5 hlo
          have b5 := bo
          clear bo
          have hsx : S4 d m n rp rn rc w5 := (H2.out w5 (H4.out.trans (b5.mono H4.out.size))).2.2
          have H5 := Hid.mkW (And.intro t2 b5)
          clear t2 b5
          go_simp
          refine hK.out _ _ hsx (fun hHeld => ?_)
          clear hK K hsx
          try simp only [Act.put, List.setIfInBounds_toArray, List.set_cons_zero, List.set_cons_succ]
          refine wpAnyH_take (i := 27) (oi := { dst := some 33, op := Go.Op.build 40 #[(5, Go.Operand.tmp 10), (6, Go.Operand.tmp 14), (7, Go.Operand.tmp 28), (8, Go.Operand.tmp 32)], type := 40, pos := "ready.go:24", after := #[{ on := 4, ground := Go.Ground.data }, { on := 8, ground := Go.Ground.data }, { on := 22, ground := Go.Ground.data }, { on := 26, ground := Go.Ground.data }], guard := none }) (v := ?_) rfl (by kernel_rfl) (by kernel_rfl) (by kernel_rfl) (fun _ _ _ h => h) (Or.inl ⟨by kernel_rfl, ?_⟩) hHeld ?_
          rotate_left
          · intro V hSV; obtain ⟨e1, e2, e3, e4⟩ := hSV; go_simp; try with_reducible rfl
          try simp only [Act.put, List.setIfInBounds_toArray, List.set_cons_zero, List.set_cons_succ]
          refine wpAnyH_ready (rs := [29]) (by kernel_rfl) (by simp) ?_
          refine AllReadyH.cons rfl (fun K hK => ?_) AllReadyH.nil
          have hz2 := HQ2.out.2.size
          have hz3 := H3.out.2.size
          have hz4 := H34.out.size
          have hz5 := H5.out.2.size
          have hzd := HD.out
          have hdr : W1.drew.heap.size = W1.heap.size := rfl
          have hxr := HX.out
          have hXg : W1.heap.size ≤ (w4).heap.size := by omega
          have hdX : ¬ d = (w4).heap.size := by omega
          have hus : Upd (w5) ((w5).setRow ((w4).heap.size) #[.bool false, .int .i64 0, .int .i64 0, .int .i64 0, .bool false, .int .i64 0, .int .i64 0, .slice none 0 0, .slice none 0 0, .slice p1 (n - m) c1, .slice none 0 0, .slice p2 (n - m) c2, .slice rp rn rc]) (fun z => z = (w4).heap.size) := ⟨rfl, rfl, rfl, by simp, fun k _ hk => setRow_other _ _ k _ hk⟩
          have hsr := setRow_heap (w5) ((w4).heap.size) #[.bool false, .int .i64 0, .int .i64 0, .int .i64 0, .bool false, .int .i64 0, .int .i64 0, .slice none 0 0, .slice none 0 0, .slice none 0 0, .slice none 0 0, .slice none 0 0, .slice none 0 0] #[.bool false, .int .i64 0, .int .i64 0, .int .i64 0, .bool false, .int .i64 0, .int .i64 0, .slice none 0 0, .slice none 0 0, .slice p1 (n - m) c1, .slice none 0 0, .slice p2 (n - m) c2, .slice rp rn rc] 40 _ hxr
          have hst := s4_upd hus hdX hHeld
          refine step_storeR rfl 40 _ _ rfl ((w4).heap.size) #[.bool false, .int .i64 0, .int .i64 0, .int .i64 0, .bool false, .int .i64 0, .int .i64 0, .slice none 0 0, .slice none 0 0, .slice p1 (n - m) c1, .slice none 0 0, .slice p2 (n - m) c2, .slice rp rn rc] (by simp [Act.eval]; done) (by simp [Act.eval]; done) 40 #[.bool false, .int .i64 0, .int .i64 0, .int .i64 0, .bool false, .int .i64 0, .int .i64 0, .slice none 0 0, .slice none 0 0, .slice none 0 0, .slice none 0 0, .slice none 0 0, .slice none 0 0] hxr (by kernel_rfl) rfl (by kernel_rfl) ?_
          go_simp
          refine hK.out _ _ hst (fun hHeld => ?_)
          clear hK K hst
          try simp only [Act.put, List.setIfInBounds_toArray, List.set_cons_zero, List.set_cons_succ]
          refine wpAnyH_done (by kernel_rfl) ?_ _
          go_wp2_with fail
          go_meet
          exact ⟨(w4).heap.size, _, _, rfl, mid_end HQ2.out.1 HQ2.out.2 H3.out.1 H3.out.2 H34.out H5.out.1 H5.out.2 hus (by rw [HRD.out]; exact hsr) (fun _ => ⟨_, hxr⟩) (by first | omega | (have := HLO.out; omega)) (by first | omega | (have := HLO.out; omega)) hXg (by first | omega | (have := HLO.out; omega)) (by first | omega | (have := HLO.out; omega)) HD.out⟩
        refine AllReadyH.cons rfl (fun K hK => ?_) AllReadyH.nil
        have hx := row_alloc (w3) #[.bool false, .int .i64 0, .int .i64 0, .int .i64 0, .bool false, .int .i64 0, .int .i64 0, .slice none 0 0, .slice none 0 0, .slice none 0 0, .slice none 0 0, .slice none 0 0, .slice none 0 0] 40
        have HX := Hid.mkW hx
        clear hx
        have hHA := s4_alloc (Obj.cells #[.bool false, .int .i64 0, .int .i64 0, .int .i64 0, .bool false, .int .i64 0, .int .i64 0, .slice none 0 0, .slice none 0 0, .slice none 0 0, .slice none 0 0, .slice none 0 0, .slice none 0 0] 40 (0, 0)) hHeld
        go_simp
        refine hK.out _ _ hHA (fun hHeld => ?_)
        clear hK K hHA
        try simp only [Act.put, List.setIfInBounds_toArray, List.set_cons_zero, List.set_cons_succ]
        refine wpAnyH_ready (rs := [21]) (by kernel_rfl) (by simp) ?_
        refine AllReadyH.cons rfl (fun K hK => ?_) AllReadyH.nil
        have hcc := (H2.out ((w3).alloc (.cells #[.bool false, .int .i64 0, .int .i64 0, .int .i64 0, .bool false, .int .i64 0, .int .i64 0, .slice none 0 0, .slice none 0 0, .slice none 0 0, .slice none 0 0, .slice none 0 0, .slice none 0 0] 40)) (H3.out.2.alloc H3.out.2.size _)).2.1
        go_simp
        go_at_call 23
        (with_reducible refine hcc.mono ?_)
        clear hcc
        rintro e w4 ⟨rfl, q, e4⟩
        have b4 : Below ((w3).alloc (.cells #[.bool false, .int .i64 0, .int .i64 0, .int .i64 0, .bool false, .int .i64 0, .int .i64 0, .slice none 0 0, .slice none 0 0, .slice none 0 0, .slice none 0 0, .slice none 0 0, .slice none 0 0] 40)).heap.size ((w3).alloc (.cells #[.bool false, .int .i64 0, .int .i64 0, .int .i64 0, .bool false, .int .i64 0, .int .i64 0, .slice none 0 0, .slice none 0 0, .slice none 0 0, .slice none 0 0, .slice none 0 0, .slice none 0 0] 40)) w4 := by rw [e4]; exact below_drewF q _
        clear e4
        have hx := (b4.block ((w3).heap.size) (Array.getElem?_eq_some_iff.1 HX.out).1).trans HX.out
        clear HX
        have HX := Hid.mkW hx
        clear hx
        have HLO : Hid (w3.heap.size + 1 ≤ w4.heap.size) := by have := b4.size; simp at this; exact this
        have bo := below_old b4
        clear b4
        have b4 := bo
        clear bo
        have hsx : S4 d m n rp rn rc w4 := (H2.out w4 (H3.out.2.trans (b4.mono H3.out.2.size))).2.2
        have H4 := Hid.mkW (H3.out.2.trans (b4.mono H3.out.2.size))
        have H34 := Hid.mkW b4
        clear b4
        go_simp
        refine hK.out _ _ hsx (fun hHeld => ?_)
        clear hK K hsx
        try simp only [Act.put, List.setIfInBounds_toArray, List.set_cons_zero, List.set_cons_succ]
        refine wpAnyH_ready (rs := [22]) (by kernel_rfl) (by simp) ?_
        refine AllReadyH.cons rfl (fun K hK => ?_) AllReadyH.nil
        have hcc := (H2.out (w4) H4.out).1
        go_simp
        go_at_call 21
        (with_reducible refine hcc.mono ?_)
        clear hcc
        rintro e w5 ⟨v2, rfl, t2, b5⟩
        obtain ⟨p2, c2, hv0, -⟩ := id t2
        subst hv0
        have hx := (b5.block ((w3).heap.size) (Array.getElem?_eq_some_iff.1 HX.out).1).trans HX.out
        clear HX
        have HX := Hid.mkW hx
        clear hx
        have hsx : S4 d m n rp rn rc w5 := (H2.out w5 (H4.out.trans (b5.mono H4.out.size))).2.2
        have H5 := Hid.mkW (And.intro t2 b5)
        clear t2 b5
        go_simp
        refine hK.out _ _ hsx (fun hHeld => ?_)
        clear hK K hsx
        try simp only [Act.put, List.setIfInBounds_toArray, List.set_cons_zero, List.set_cons_succ]
        refine wpAnyH_take (i := 27) (oi := { dst := some 33, op := Go.Op.build 40 #[(5, Go.Operand.tmp 10), (6, Go.Operand.tmp 14), (7, Go.Operand.tmp 28), (8, Go.Operand.tmp 32)], type := 40, pos := "ready.go:24", after := #[{ on := 4, ground := Go.Ground.data }, { on := 8, ground := Go.Ground.data }, { on := 22, ground := Go.Ground.data }, { on := 26, ground := Go.Ground.data }], guard := none }) (v := ?_) rfl (by kernel_rfl) (by kernel_rfl) (by kernel_rfl) (fun _ _ _ h => h) (Or.inl ⟨by kernel_rfl, ?_⟩) hHeld ?_
        rotate_left
        · intro V hSV; obtain ⟨e1, e2, e3, e4⟩ := hSV; go_simp; try with_reducible rfl
        try simp only [Act.put, List.setIfInBounds_toArray, List.set_cons_zero, List.set_cons_succ]
        refine wpAnyH_ready (rs := [29]) (by kernel_rfl) (by simp) ?_
        refine AllReadyH.cons rfl (fun K hK => ?_) AllReadyH.nil
        have hz2 := HQ2.out.2.size
        have hz3 := H3.out.2.size
        have hz4 := H34.out.size
        have hz5 := H5.out.2.size
        have hzd := HD.out
        have hdr : W1.drew.heap.size = W1.heap.size := rfl
        have hxr := HX.out
        have hXg : W1.heap.size ≤ (w3).heap.size := by omega
        have hdX : ¬ d = (w3).heap.size := by omega
        have hus : Upd (w5) ((w5).setRow ((w3).heap.size) #[.bool false, .int .i64 0, .int .i64 0, .int .i64 0, .bool false, .int .i64 0, .int .i64 0, .slice none 0 0, .slice none 0 0, .slice p1 (n - m) c1, .slice none 0 0, .slice p2 (n - m) c2, .slice rp rn rc]) (fun z => z = (w3).heap.size) := ⟨rfl, rfl, rfl, by simp, fun k _ hk => setRow_other _ _ k _ hk⟩
        have hsr := setRow_heap (w5) ((w3).heap.size) #[.bool false, .int .i64 0, .int .i64 0, .int .i64 0, .bool false, .int .i64 0, .int .i64 0, .slice none 0 0, .slice none 0 0, .slice none 0 0, .slice none 0 0, .slice none 0 0, .slice none 0 0] #[.bool false, .int .i64 0, .int .i64 0, .int .i64 0, .bool false, .int .i64 0, .int .i64 0, .slice none 0 0, .slice none 0 0, .slice p1 (n - m) c1, .slice none 0 0, .slice p2 (n - m) c2, .slice rp rn rc] 40 _ hxr
        have hst := s4_upd hus hdX hHeld
        refine step_storeR rfl 40 _ _ rfl ((w3).heap.size) #[.bool false, .int .i64 0, .int .i64 0, .int .i64 0, .bool false, .int .i64 0, .int .i64 0, .slice none 0 0, .slice none 0 0, .slice p1 (n - m) c1, .slice none 0 0, .slice p2 (n - m) c2, .slice rp rn rc] (by simp [Act.eval]; done) (by simp [Act.eval]; done) 40 #[.bool false, .int .i64 0, .int .i64 0, .int .i64 0, .bool false, .int .i64 0, .int .i64 0, .slice none 0 0, .slice none 0 0, .slice none 0 0, .slice none 0 0, .slice none 0 0, .slice none 0 0] hxr (by kernel_rfl) rfl (by kernel_rfl) ?_
        go_simp
        refine hK.out _ _ hst (fun hHeld => ?_)
        clear hK K hst
        try simp only [Act.put, List.setIfInBounds_toArray, List.set_cons_zero, List.set_cons_succ]
        refine wpAnyH_done (by kernel_rfl) ?_ _
        go_wp2_with fail
        go_meet
        exact ⟨(w3).heap.size, _, _, rfl, mid_end HQ2.out.1 HQ2.out.2 H3.out.1 H3.out.2 H34.out H5.out.1 H5.out.2 hus (by rw [HRD.out]; exact hsr) (fun _ => ⟨_, hxr⟩) (by first | omega | (have := HLO.out; omega)) (by first | omega | (have := HLO.out; omega)) hXg (by first | omega | (have := HLO.out; omega)) (by first | omega | (have := HLO.out; omega)) HD.out⟩
      refine AllReadyH.cons rfl (fun K hK => ?_) AllReadyH.nil
      have hx := row_alloc (w2) #[.bool false, .int .i64 0, .int .i64 0, .int .i64 0, .bool false, .int .i64 0, .int .i64 0, .slice none 0 0, .slice none 0 0, .slice none 0 0, .slice none 0 0, .slice none 0 0, .slice none 0 0] 40
      have HX := Hid.mkW hx
      clear hx
      have hHA := s4_alloc (Obj.cells #[.bool false, .int .i64 0, .int .i64 0, .int .i64 0, .bool false, .int .i64 0, .int .i64 0, .slice none 0 0, .slice none 0 0, .slice none 0 0, .slice none 0 0, .slice none 0 0, .slice none 0 0] 40 (0, 0)) hHeld
      go_simp
      refine hK.out _ _ hHA (fun hHeld => ?_)
      clear hK K hHA
      try simp only [Act.put, List.setIfInBounds_toArray, List.set_cons_zero, List.set_cons_succ]
      refine wpAnyH_ready (rs := [4]) (by kernel_rfl) (by simp) ?_
      refine AllReadyH.cons rfl (fun K hK => ?_) AllReadyH.nil
      have hcc := (H2.out ((w2).alloc (.cells #[.bool false, .int .i64 0, .int .i64 0, .int .i64 0, .bool false, .int .i64 0, .int .i64 0, .slice none 0 0, .slice none 0 0, .slice none 0 0, .slice none 0 0, .slice none 0 0, .slice none 0 0] 40)) ((Below.refl _ w2).alloc (Nat.le_refl _) _)).1
      go_simp
      go_at_call 21
      (with_reducible refine hcc.mono ?_)
      clear hcc
      rintro e w3 ⟨v1, rfl, t1, b3⟩
      obtain ⟨p1, c1, hv0, -⟩ := id t1
      subst hv0
      have hx := (b3.block ((w2).heap.size) (Array.getElem?_eq_some_iff.1 HX.out).1).trans HX.out
      clear HX
      have HX := Hid.mkW hx
      clear hx
      have hlo : ((w2).alloc (.cells #[.bool false, .int .i64 0, .int .i64 0, .int .i64 0, .bool false, .int .i64 0, .int .i64 0, .slice none 0 0, .slice none 0 0, .slice none 0 0, .slice none 0 0, .slice none 0 0, .slice none 0 0] 40)).heap.size = w2.heap.size + 1 ∧ ((w2).alloc (.cells #[.bool false, .int .i64 0, .int .i64 0, .int .i64 0, .bool false, .int .i64 0, .int .i64 0, .slice none 0 0, .slice none 0 0, .slice none 0 0, .slice none 0 0, .slice none 0 0, .slice none 0 0] 40)).heap.size ≤ w3.heap.size := ⟨by simp, b3.size⟩
      have HLO := Hid.mkW hlo
      have bo := below_old b3
      clear b3 hlo
      have b3 := bo
      clear bo
      have hsx : S4 d m n rp rn rc w3 := (H2.out w3 b3).2.2
      have H3 := Hid.mkW (And.intro t1 b3)
      clear t1 b3
      go_simp
      refine hK.out _ _ hsx (fun hHeld => ?_)
      clear hK K hsx
      try simp only [Act.put, List.setIfInBounds_toArray, List.set_cons_zero, List.set_cons_succ]
      refine wpAnyH_ready (rs := [21]) (by kernel_rfl) (by simp) ?_
      refine AllReadyH.cons rfl (fun K hK => ?_) AllReadyH.nil
      have hcc := (H2.out (w3) H3.out.2).2.1
      go_simp
      go_at_call 23
      (with_reducible refine hcc.mono ?_)
      clear hcc
      rintro e w4 ⟨rfl, q, e4⟩
      have b4 : Below (w3).heap.size (w3) w4 := by rw [e4]; exact below_drewF q _
      clear e4
      have hx := (b4.block ((w2).heap.size) (Array.getElem?_eq_some_iff.1 HX.out).1).trans HX.out
      clear HX
      have HX := Hid.mkW hx
      clear hx
      have hsx : S4 d m n rp rn rc w4 := (H2.out w4 (H3.out.2.trans (b4.mono H3.out.2.size))).2.2
      have H4 := Hid.mkW (H3.out.2.trans (b4.mono H3.out.2.size))
      have H34 := Hid.mkW b4
      clear b4
      go_simp
      refine hK.out _ _ hsx (fun hHeld => ?_)
      clear hK K hsx
      try simp only [Act.put, List.setIfInBounds_toArray, List.set_cons_zero, List.set_cons_succ]
      refine wpAnyH_ready (rs := [22]) (by kernel_rfl) (by simp) ?_
      refine AllReadyH.cons rfl (fun K hK => ?_) AllReadyH.nil
      have hcc := (H2.out (w4) H4.out).1
      go_simp
      go_at_call 21
      (with_reducible refine hcc.mono ?_)
      clear hcc
      rintro e w5 ⟨v2, rfl, t2, b5⟩
      obtain ⟨p2, c2, hv0, -⟩ := id t2
      subst hv0
      have hx := (b5.block ((w2).heap.size) (Array.getElem?_eq_some_iff.1 HX.out).1).trans HX.out
      clear HX
      have HX := Hid.mkW hx
      clear hx
      have hsx : S4 d m n rp rn rc w5 := (H2.out w5 (H4.out.trans (b5.mono H4.out.size))).2.2
      have H5 := Hid.mkW (And.intro t2 b5)
      clear t2 b5
      go_simp
      refine hK.out _ _ hsx (fun hHeld => ?_)
      clear hK K hsx
      try simp only [Act.put, List.setIfInBounds_toArray, List.set_cons_zero, List.set_cons_succ]
      refine wpAnyH_take (i := 27) (oi := { dst := some 33, op := Go.Op.build 40 #[(5, Go.Operand.tmp 10), (6, Go.Operand.tmp 14), (7, Go.Operand.tmp 28), (8, Go.Operand.tmp 32)], type := 40, pos := "ready.go:24", after := #[{ on := 4, ground := Go.Ground.data }, { on := 8, ground := Go.Ground.data }, { on := 22, ground := Go.Ground.data }, { on := 26, ground := Go.Ground.data }], guard := none }) (v := ?_) rfl (by kernel_rfl) (by kernel_rfl) (by kernel_rfl) (fun _ _ _ h => h) (Or.inl ⟨by kernel_rfl, ?_⟩) hHeld ?_
      rotate_left
      · intro V hSV; obtain ⟨e1, e2, e3, e4⟩ := hSV; go_simp; try with_reducible rfl
      try simp only [Act.put, List.setIfInBounds_toArray, List.set_cons_zero, List.set_cons_succ]
      refine wpAnyH_ready (rs := [29]) (by kernel_rfl) (by simp) ?_
      refine AllReadyH.cons rfl (fun K hK => ?_) AllReadyH.nil
      have hz2 := HQ2.out.2.size
      have hz3 := H3.out.2.size
      have hz4 := H34.out.size
      have hz5 := H5.out.2.size
      have hzd := HD.out
      have hdr : W1.drew.heap.size = W1.heap.size := rfl
      have hxr := HX.out
      have hXg : W1.heap.size ≤ (w2).heap.size := by omega
      have hdX : ¬ d = (w2).heap.size := by omega
      have hus : Upd (w5) ((w5).setRow ((w2).heap.size) #[.bool false, .int .i64 0, .int .i64 0, .int .i64 0, .bool false, .int .i64 0, .int .i64 0, .slice none 0 0, .slice none 0 0, .slice p1 (n - m) c1, .slice none 0 0, .slice p2 (n - m) c2, .slice rp rn rc]) (fun z => z = (w2).heap.size) := ⟨rfl, rfl, rfl, by simp, fun k _ hk => setRow_other _ _ k _ hk⟩
      have hsr := setRow_heap (w5) ((w2).heap.size) #[.bool false, .int .i64 0, .int .i64 0, .int .i64 0, .bool false, .int .i64 0, .int .i64 0, .slice none 0 0, .slice none 0 0, .slice none 0 0, .slice none 0 0, .slice none 0 0, .slice none 0 0] #[.bool false, .int .i64 0, .int .i64 0, .int .i64 0, .bool false, .int .i64 0, .int .i64 0, .slice none 0 0, .slice none 0 0, .slice p1 (n - m) c1, .slice none 0 0, .slice p2 (n - m) c2, .slice rp rn rc] 40 _ hxr
      have hst := s4_upd hus hdX hHeld
      refine step_storeR rfl 40 _ _ rfl ((w2).heap.size) #[.bool false, .int .i64 0, .int .i64 0, .int .i64 0, .bool false, .int .i64 0, .int .i64 0, .slice none 0 0, .slice none 0 0, .slice p1 (n - m) c1, .slice none 0 0, .slice p2 (n - m) c2, .slice rp rn rc] (by simp [Act.eval]; done) (by simp [Act.eval]; done) 40 #[.bool false, .int .i64 0, .int .i64 0, .int .i64 0, .bool false, .int .i64 0, .int .i64 0, .slice none 0 0, .slice none 0 0, .slice none 0 0, .slice none 0 0, .slice none 0 0, .slice none 0 0] hxr (by kernel_rfl) rfl (by kernel_rfl) ?_
      go_simp
      refine hK.out _ _ hst (fun hHeld => ?_)
      clear hK K hst
      try simp only [Act.put, List.setIfInBounds_toArray, List.set_cons_zero, List.set_cons_succ]
      refine wpAnyH_done (by kernel_rfl) ?_ _
      go_wp2_with fail
      go_meet
      exact ⟨(w2).heap.size, _, _, rfl, mid_end HQ2.out.1 HQ2.out.2 H3.out.1 H3.out.2 H34.out H5.out.1 H5.out.2 hus (by rw [HRD.out]; exact hsr) (fun _ => ⟨_, hxr⟩) (by first | omega | (have := HLO.out; omega)) (by first | omega | (have := HLO.out; omega)) hXg (by first | omega | (have := HLO.out; omega)) (by first | omega | (have := HLO.out; omega)) HD.out⟩
    refine AllReadyH.cons rfl (fun K hK => ?_) AllReadyH.nil
    have hx := row_alloc (W1) #[.bool false, .int .i64 0, .int .i64 0, .int .i64 0, .bool false, .int .i64 0, .int .i64 0, .slice none 0 0, .slice none 0 0, .slice none 0 0, .slice none 0 0, .slice none 0 0, .slice none 0 0] 40
    have HX := Hid.mkW hx
    clear hx
    have hHA := s4_alloc (Obj.cells #[.bool false, .int .i64 0, .int .i64 0, .int .i64 0, .bool false, .int .i64 0, .int .i64 0, .slice none 0 0, .slice none 0 0, .slice none 0 0, .slice none 0 0, .slice none 0 0, .slice none 0 0] 40 (0, 0)) hHeld
    go_simp
    refine hK.out _ _ hHA (fun hHeld => ?_)
    clear hK K hHA
    try simp only [Act.put, List.setIfInBounds_toArray, List.set_cons_zero, List.set_cons_succ]
    refine wpAnyH_ready (rs := [3]) (by kernel_rfl) (by simp) ?_
    refine AllReadyH.cons rfl (fun K hK => ?_) AllReadyH.nil
    have hcc := HN.out ((W1.alloc (.cells #[.bool false, .int .i64 0, .int .i64 0, .int .i64 0, .bool false, .int .i64 0, .int .i64 0, .slice none 0 0, .slice none 0 0, .slice none 0 0, .slice none 0 0, .slice none 0 0, .slice none 0 0] 40)).drew) (((Below.refl W1.heap.size W1).alloc (Nat.le_refl _) _).drew)
    go_simp
    go_at_call 22
    (with_reducible refine hcc.mono ?_)
    clear hcc
    rintro e w2 ⟨rfl, h2, u2, u2'⟩
    have hx := (u2'.block (W1.heap.size) (by simp) (fun e => by have := HD.out; omega)).trans HX.out
    clear HX
    have HX := Hid.mkW hx
    clear hx
    have HLO : Hid (W1.heap.size + 1 ≤ w2.heap.size) := by have := u2'.size; simp at this; exact this
    have H2 := Hid.mkW (HC.out w2 u2 h2)
    have HQ2 := Hid.mkW (And.intro h2 u2)
    have hsx : S4 d m n rp rn rc w2 := (H2.out w2 (Below.refl _ _)).2.2
    clear h2 u2 u2'
    go_simp
    refine hK.out _ _ hsx (fun hHeld => ?_)
    clear hK K hsx
    try simp only [Act.put, List.setIfInBounds_toArray, List.set_cons_zero, List.set_cons_succ]
    refine wpAnyH_ready (rs := [4]) (by kernel_rfl) (by simp) ?_
    refine AllReadyH.cons rfl (fun K hK => ?_) AllReadyH.nil
    have hcc := (H2.out (w2) (Below.refl _ w2)).1
    go_simp
    go_at_call 21
    (with_reducible refine hcc.mono ?_)
    clear hcc
    rintro e w3 ⟨v1, rfl, t1, b3⟩
    obtain ⟨p1, c1, hv0, -⟩ := id t1
    subst hv0
    have hx := (b3.block (W1.heap.size) (Array.getElem?_eq_some_iff.1 HX.out).1).trans HX.out
    clear HX
    have HX := Hid.mkW hx
    clear hx
    have hsx : S4 d m n rp rn rc w3 := (H2.out w3 b3).2.2
    have H3 := Hid.mkW (And.intro t1 b3)
    clear t1 b3
    go_simp
    refine hK.out _ _ hsx (fun hHeld => ?_)
    clear hK K hsx
    try simp only [Act.put, List.setIfInBounds_toArray, List.set_cons_zero, List.set_cons_succ]
    refine wpAnyH_ready (rs := [21]) (by kernel_rfl) (by simp) ?_
    refine AllReadyH.cons rfl (fun K hK => ?_) AllReadyH.nil
    have hcc := (H2.out (w3) H3.out.2).2.1
    go_simp
    go_at_call 23
    (with_reducible refine hcc.mono ?_)
    clear hcc
    rintro e w4 ⟨rfl, q, e4⟩
    have b4 : Below (w3).heap.size (w3) w4 := by rw [e4]; exact below_drewF q _
    clear e4
    have hx := (b4.block (W1.heap.size) (Array.getElem?_eq_some_iff.1 HX.out).1).trans HX.out
    clear HX
    have HX := Hid.mkW hx
    clear hx
    have hsx : S4 d m n rp rn rc w4 := (H2.out w4 (H3.out.2.trans (b4.mono H3.out.2.size))).2.2
    have H4 := Hid.mkW (H3.out.2.trans (b4.mono H3.out.2.size))
    have H34 := Hid.mkW b4
    clear b4
    go_simp
    refine hK.out _ _ hsx (fun hHeld => ?_)
    clear hK K hsx
    try simp only [Act.put, List.setIfInBounds_toArray, List.set_cons_zero, List.set_cons_succ]
    refine wpAnyH_ready (rs := [22]) (by kernel_rfl) (by simp) ?_
    refine AllReadyH.cons rfl (fun K hK => ?_) AllReadyH.nil
    have hcc := (H2.out (w4) H4.out).1
    go_simp
    go_at_call 21
    (with_reducible refine hcc.mono ?_)
    clear hcc
    rintro e w5 ⟨v2, rfl, t2, b5⟩
    obtain ⟨p2, c2, hv0, -⟩ := id t2
    subst hv0
    have hx := (b5.block (W1.heap.size) (Array.getElem?_eq_some_iff.1 HX.out).1).trans HX.out
    clear HX
    have HX := Hid.mkW hx
    clear hx
    have hsx : S4 d m n rp rn rc w5 := (H2.out w5 (H4.out.trans (b5.mono H4.out.size))).2.2
    have H5 := Hid.mkW (And.intro t2 b5)
    clear t2 b5
    go_simp
    refine hK.out _ _ hsx (fun hHeld => ?_)
    clear hK K hsx
    try simp only [Act.put, List.setIfInBounds_toArray, List.set_cons_zero, List.set_cons_succ]
    refine wpAnyH_take (i := 27) (oi := { dst := some 33, op := Go.Op.build 40 #[(5, Go.Operand.tmp 10), (6, Go.Operand.tmp 14), (7, Go.Operand.tmp 28), (8, Go.Operand.tmp 32)], type := 40, pos := "ready.go:24", after := #[{ on := 4, ground := Go.Ground.data }, { on := 8, ground := Go.Ground.data }, { on := 22, ground := Go.Ground.data }, { on := 26, ground := Go.Ground.data }], guard := none }) (v := ?_) rfl (by kernel_rfl) (by kernel_rfl) (by kernel_rfl) (fun _ _ _ h => h) (Or.inl ⟨by kernel_rfl, ?_⟩) hHeld ?_
    rotate_left
    · intro V hSV; obtain ⟨e1, e2, e3, e4⟩ := hSV; go_simp; try with_reducible rfl
    try simp only [Act.put, List.setIfInBounds_toArray, List.set_cons_zero, List.set_cons_succ]
    refine wpAnyH_ready (rs := [29]) (by kernel_rfl) (by simp) ?_
    refine AllReadyH.cons rfl (fun K hK => ?_) AllReadyH.nil
    have hz2 := HQ2.out.2.size
    have hz3 := H3.out.2.size
    have hz4 := H34.out.size
    have hz5 := H5.out.2.size
    have hzd := HD.out
    have hdr : W1.drew.heap.size = W1.heap.size := rfl
    have hxr := HX.out
    have hXg : W1.heap.size ≤ W1.heap.size := by omega
    have hdX : ¬ d = W1.heap.size := by omega
    have hus : Upd (w5) ((w5).setRow (W1.heap.size) #[.bool false, .int .i64 0, .int .i64 0, .int .i64 0, .bool false, .int .i64 0, .int .i64 0, .slice none 0 0, .slice none 0 0, .slice p1 (n - m) c1, .slice none 0 0, .slice p2 (n - m) c2, .slice rp rn rc]) (fun z => z = W1.heap.size) := ⟨rfl, rfl, rfl, by simp, fun k _ hk => setRow_other _ _ k _ hk⟩
    have hsr := setRow_heap (w5) (W1.heap.size) #[.bool false, .int .i64 0, .int .i64 0, .int .i64 0, .bool false, .int .i64 0, .int .i64 0, .slice none 0 0, .slice none 0 0, .slice none 0 0, .slice none 0 0, .slice none 0 0, .slice none 0 0] #[.bool false, .int .i64 0, .int .i64 0, .int .i64 0, .bool false, .int .i64 0, .int .i64 0, .slice none 0 0, .slice none 0 0, .slice p1 (n - m) c1, .slice none 0 0, .slice p2 (n - m) c2, .slice rp rn rc] 40 _ hxr
    have hst := s4_upd hus hdX hHeld
    refine step_storeR rfl 40 _ _ rfl (W1.heap.size) #[.bool false, .int .i64 0, .int .i64 0, .int .i64 0, .bool false, .int .i64 0, .int .i64 0, .slice none 0 0, .slice none 0 0, .slice p1 (n - m) c1, .slice none 0 0, .slice p2 (n - m) c2, .slice rp rn rc] (by simp [Act.eval]; done) (by simp [Act.eval]; done) 40 #[.bool false, .int .i64 0, .int .i64 0, .int .i64 0, .bool false, .int .i64 0, .int .i64 0, .slice none 0 0, .slice none 0 0, .slice none 0 0, .slice none 0 0, .slice none 0 0, .slice none 0 0] hxr (by kernel_rfl) rfl (by kernel_rfl) ?_
    go_simp
    refine hK.out _ _ hst (fun hHeld => ?_)
    clear hK K hst
    try simp only [Act.put, List.setIfInBounds_toArray, List.set_cons_zero, List.set_cons_succ]
    refine wpAnyH_done (by kernel_rfl) ?_ _
    go_wp2_with fail
    go_meet
    exact ⟨W1.heap.size, _, _, rfl, mid_end HQ2.out.1 HQ2.out.2 H3.out.1 H3.out.2 H34.out H5.out.1 H5.out.2 hus (by rw [HRD.out]; exact hsr) (fun _ => ⟨_, hxr⟩) (by first | omega | (have := HLO.out; omega)) (by first | omega | (have := HLO.out; omega)) hXg (by first | omega | (have := HLO.out; omega)) (by first | omega | (have := HLO.out; omega)) HD.out⟩
  case rest =>
    obtain ⟨X, v1, v2, rfl, HM0⟩ := hcut
    have HM := Hid.mkW HM0
    have HS1 := Hid.mkW s1
    clear hS hSA hv hc hmn s1 HN HC HRD
    obtain ⟨lo1, hi1, ⟨p1, k1, e1, -⟩, -⟩ := HM0.t1
    obtain ⟨lo2, hi2, ⟨p2, k2, e2, -⟩, -⟩ := HM0.t2
    obtain ⟨rp, rn, rc, e3⟩ := HR.out
    subst e1
    subst e2
    have x10 : wc.cell? ⟨X, 10, none⟩ = some (.slice none 0 0) := cell_of_row _ _ _ _ _ _ HM0.row
    clear HM0
    go_upto_region 3 with fail
    go_loopg [4, 5, 37] 1 (fun kx s4 s5 s37 wq => s37 = iv 0 ∧ kx = 1 ∧ wq = wc)
    case atStart => exact ⟨rfl, rfl, rfl⟩
    case round =>
      obtain ⟨rfl, rfl, hwr⟩ := hrel
      obtain rfl := hwr.symm
      clear x10
      have n0 := HM.out.ln.nod
      have c1 : wc.cell? ⟨d, 1, none⟩ = some (iv a.term) := n0.cell 1 rfl
      have c2 : wc.cell? ⟨d, 2, none⟩ = some (iv a.vote) := n0.cell 2 rfl
      have c3 : wc.cell? ⟨d, 3, none⟩ = some (iv a.commit) := n0.cell 3 rfl
      have c4 : wc.cell? ⟨d, 4, none⟩ = some (iv a.tt) := n0.cell 4 rfl
      have c5 : wc.cell? ⟨d, 5, none⟩ = some (iv a.tv) := n0.cell 5 rfl
      have c6 : wc.cell? ⟨d, 6, none⟩ = some (iv a.tc) := n0.cell 6 rfl
      have heq : ∀ W, (binOp .neq 30 (.agg #[iv a.term, iv a.vote, iv a.commit]) (.agg #[iv a.tt, iv a.tv, iv a.tc])).run Try.prog W = .ok (.bool hh) W := fun W => by
        rw [neq3, hhh, Bool.not_not]
      clear n0 hhh
      go_upto_region 7 with fail
      go_quiet (fail)
      have M2 : Mi2 W1 (wc.drewN nq) d l n m a xs t k bs X (.slice p1 (n - m) k1) (.slice p2 (n - m) k2) #[.bool false, iv 0, iv 0, iv 0, .bool false, iv 0, iv 0, .slice none 0 0, .slice none 0 0, .slice p1 (n - m) k1, .slice none 0 0, .slice p2 (n - m) k2, a.reads] := (⟨HM.out.ln, HM.out.upd, HM.out.row, HM.out.ge, HM.out.t1, HM.out.t2⟩ : Mi2 W1 wc d l n m a xs t k bs X _ _ _).drewN nq
      obtain ⟨W2, hW2⟩ : ∃ W2, W2 = wc.drewN nq := ⟨_, rfl⟩
      rw [← hW2] at M2
      rw [← hW2]
      have H2 := Hid.mkW M2
      clear hW2 M2 c1 c2 c3 c4 c5 c6 heq HM
      cases hh with
      | true =>
        have r2 := H2.out.row
        have n2 := H2.out.ln.nod
        have c1 : W2.cell? ⟨d, 1, none⟩ = some (iv a.term) := n2.cell 1 rfl
        have c2 : W2.cell? ⟨d, 2, none⟩ = some (iv a.vote) := n2.cell 2 rfl
        have c3 : W2.cell? ⟨d, 3, none⟩ = some (iv a.commit) := n2.cell 3 rfl
        have y0 : W2.cell? ⟨X, 0, none⟩ = some (.bool false) := cell_of_row _ _ _ _ _ _ r2
        have y1 : W2.cell? ⟨X, 1, none⟩ = some (iv 0) := cell_of_row _ _ _ _ _ _ r2
        have y2 : W2.cell? ⟨X, 2, none⟩ = some (iv 0) := cell_of_row _ _ _ _ _ _ r2
        have y3 : W2.cell? ⟨X, 3, none⟩ = some (iv 0) := cell_of_row _ _ _ _ _ _ r2
        have fy : ∀ j, W2.frozen? ⟨X, j, none⟩ = false := fun j => frozen_of_row _ _ _ _ _ r2
        have hdX : ¬ d = X := by have := HD.out; have := H2.out.ge; omega
        have hXd : ¬ X = d := fun e => hdX e.symm
        clear r2 n2
        go_upto_region 8 with fail
        go_region
        have hd1 := HD.out
        have M3c := (H2.out.put hd1 (W' := (((W2.setCell ⟨X, 0, none⟩ (.bool true)).setCell ⟨X, 1, none⟩ (iv a.term)).setCell ⟨X, 2, none⟩ (iv a.vote)).setCell ⟨X, 3, none⟩ (iv a.commit)) (r' := #[.bool true, iv a.term, iv a.vote, iv a.commit, .bool false, iv 0, iv 0, .slice none 0 0, .slice none 0 0, .slice p1 (n - m) k1, .slice none 0 0, .slice p2 (n - m) k2, a.reads]) (((((Upd.refl W2 (fun z => z = X)).setCell (p := ⟨X, 0, none⟩) (.inr rfl) _).setCell (p := ⟨X, 1, none⟩) (.inr rfl) _).setCell (p := ⟨X, 2, none⟩) (.inr rfl) _).setCell (p := ⟨X, 3, none⟩) (.inr rfl) _) (heap_setCell_row (heap_setCell_row (heap_setCell_row (heap_setCell_row H2.out.row _) _) _) _)).drewN 1
        obtain ⟨W3, hW3⟩ : ∃ W3, W3 = ((((W2.setCell ⟨X, 0, none⟩ (.bool true)).setCell ⟨X, 1, none⟩ (iv a.term)).setCell ⟨X, 2, none⟩ (iv a.vote)).setCell ⟨X, 3, none⟩ (iv a.commit)).drew := ⟨_, rfl⟩
        have M3 : Hid (Mi2 W1 W3 d l n m a xs t k bs X (.slice p1 (n - m) k1) (.slice p2 (n - m) k2) #[.bool true, iv a.term, iv a.vote, iv a.commit, .bool false, iv 0, iv 0, .slice none 0 0, .slice none 0 0, .slice p1 (n - m) k1, .slice none 0 0, .slice p2 (n - m) k2, a.reads]) := by rw [hW3]; exact M3c
        rw [← hW3]
        clear M3c hW3 H2 c1 c2 c3 y0 y1 y2 y3 fy hd1
        have n3 := M3.out.ln.nod
        have d1 : W3.cell? ⟨d, 1, none⟩ = some (iv a.term) := n3.cell 1 rfl
        have d2 : W3.cell? ⟨d, 2, none⟩ = some (iv a.vote) := n3.cell 2 rfl
        have d3 : W3.cell? ⟨d, 3, none⟩ = some (iv a.commit) := n3.cell 3 rfl
        have d4 : W3.cell? ⟨d, 4, none⟩ = some (iv a.tt) := n3.cell 4 rfl
        have d5 : W3.cell? ⟨d, 5, none⟩ = some (iv a.tv) := n3.cell 5 rfl
        have d6 : W3.cell? ⟨d, 6, none⟩ = some (iv a.tc) := n3.cell 6 rfl
        have d15 : W3.cell? ⟨d, 15, none⟩ = some (iv a.applied) := n3.cell 15 rfl
        have d18 : W3.cell? ⟨d, 18, none⟩ = some (.bool false) := n3.cell 18 rfl
        have d19 : W3.cell? ⟨d, 19, none⟩ = some (.slice none 0 0) := n3.cell 19 rfl
        have d20 : W3.cell? ⟨d, 20, none⟩ = some a.reads := n3.cell 20 rfl
        have fd : ∀ j, W3.frozen? ⟨d, j, none⟩ = false := fun j => n3.free j
        clear n3
        go_upto_region 11 with fail
        go_region
        have n3 := M3.out.ln.nod
        have n4 : Nod (W3.setCell ⟨d, 4, none⟩ (iv a.term)) d { a with old := n, tt := a.term } := n3.set 4 _ rfl
        have n5 : Nod _ d { a with old := n, tt := a.term, tv := a.vote } := n4.set 5 (iv a.vote) rfl
        have n6 : Nod _ d { a with old := n, tt := a.term, tv := a.vote, tc := a.commit } := n5.set 6 (iv a.commit) rfl
        have n7 : Nod _ d { a with old := n, tt := a.term, tv := a.vote, tc := a.commit, applied := a.commit } := n6.set 15 (iv a.commit) rfl
        have n8 : Nod _ d { a with old := n, tt := a.term, tv := a.vote, tc := a.commit, applied := a.commit } := n7.set 18 (.bool false) rfl
        have n9 : Nod _ d { a with old := n, tt := a.term, tv := a.vote, tc := a.commit, applied := a.commit } := n8.set 19 (.slice none 0 0) rfl
        have nA : Nod _ d { a with old := n, tt := a.term, tv := a.vote, tc := a.commit, applied := a.commit, reads := .slice none 0 0 } := n9.set 20 (.slice none 0 0) rfl
        obtain ⟨W5, hW5⟩ : ∃ W5, W5 = (((((((W3.setCell ⟨d, 4, none⟩ (iv a.term)).setCell ⟨d, 5, none⟩ (iv a.vote)).setCell ⟨d, 6, none⟩ (iv a.commit)).setCell ⟨d, 15, none⟩ (iv a.commit)).setCell ⟨d, 18, none⟩ (.bool false)).setCell ⟨d, 19, none⟩ (.slice none 0 0)).setCell ⟨d, 20, none⟩ (.slice none 0 0)).drew := ⟨_, rfl⟩
        have N5 : Nod W5 d { a with old := n, tt := a.term, tv := a.vote, tc := a.commit, applied := a.commit, reads := .slice none 0 0 } := by rw [hW5]; exact nA.drw
        have u5 : Upd W3 W5 (fun z => z = d) := by rw [hW5]; exact ((((((((Upd.refl W3 (fun z => z = d)).setCell (p := ⟨d, 4, none⟩) (.inr rfl) _).setCell (p := ⟨d, 5, none⟩) (.inr rfl) _).setCell (p := ⟨d, 6, none⟩) (.inr rfl) _).setCell (p := ⟨d, 15, none⟩) (.inr rfl) _).setCell (p := ⟨d, 18, none⟩) (.inr rfl) _).setCell (p := ⟨d, 19, none⟩) (.inr rfl) _).setCell (p := ⟨d, 20, none⟩) (.inr rfl) _).drew
        have hR1 : W1.heap[w.heap.size]? = some (.cells zeroRd 40 (0, 0)) := by rw [HW.out]; exact row_alloc w _ 40
        have hdR : d < w.heap.size := HH.out.ln.nod.lt
        have q3 := (M3.out.upd.block w.heap.size (Array.getElem?_eq_some_iff.1 hR1).1 (fun e => by omega)).trans hR1
        have q5 : W5.heap[w.heap.size]? = some (.cells zeroRd 40 (0, 0)) := (u5.block w.heap.size (Array.getElem?_eq_some_iff.1 q3).1 (by omega)).trans q3
        have r5 := (u5.block X (Array.getElem?_eq_some_iff.1 M3.out.row).1 hXd).trans M3.out.row
        have hRX : w.heap.size < X := by have := M3.out.ge; have := HS1.out; omega
        rw [← hW5]
        obtain ⟨R, hR⟩ : ∃ R, R = w.heap.size := ⟨_, rfl⟩
        have HRR := Hid.mkW hR
        rw [← hR] at q5 hdR hRX
        rw [← hR]
        rw [e3] at r5
        have HQ : Hid ((W5.setRow R #[.bool true, iv a.term, iv a.vote, iv a.commit, .bool false, iv 0, iv 0, .slice none 0 0, .slice none 0 0, .slice p1 (n - m) k1, .slice none 0 0, .slice p2 (n - m) k2, .slice rp rn rc]).heap[R]? = some (.cells #[.bool true, iv a.term, iv a.vote, iv a.commit, .bool false, iv 0, iv 0, .slice none 0 0, .slice none 0 0, .slice p1 (n - m) k1, .slice none 0 0, .slice p2 (n - m) k2, .slice rp rn rc] 40 (0, 0))) := setRow_heap W5 R zeroRd _ 40 _ q5
        have UQ : Hid (Upd W5 (W5.setRow R #[.bool true, iv a.term, iv a.vote, iv a.commit, .bool false, iv 0, iv 0, .slice none 0 0, .slice none 0 0, .slice p1 (n - m) k1, .slice none 0 0, .slice p2 (n - m) k2, .slice rp rn rc]) (fun z => z = R)) := ⟨rfl, rfl, rfl, by simp, fun k _ hk => setRow_other W5 R k _ hk⟩
        have H5 := Hid.mkW (And.intro N5 (And.intro u5 (And.intro q5 (And.intro hdR hRX))))
        have hXR : ¬ X = R := by omega
        have hRX' : ¬ R = X := by omega
        clear n3 n4 n5 n6 n7 n8 n9 nA hW5 N5 u5 hR1 q3 hdR hRX hR d1 d2 d3 d4 d5 d6 d15 d18 d19 d20 fd hdX hXd
        go_wp2_with (first
          | (refine wpList_load_row rfl 40 _ rfl X rfl 40 _ (0, 0) _ r5 Try.underlying40 rfl (by kernel_rfl) ?_)
          | (refine wpList_store_row rfl 40 _ _ rfl R #[.bool true, iv a.term, iv a.vote, iv a.commit, .bool false, iv 0, iv 0, .slice none 0 0, .slice none 0 0, .slice p1 (n - m) k1, .slice none 0 0, .slice p2 (n - m) k2, .slice rp rn rc] rfl rfl 40 zeroRd q5 (by kernel_rfl) rfl (by kernel_rfl) ?_))
        refine bodyPost_ret (results_cell_row rfl _ _ R 40 #[.bool true, iv a.term, iv a.vote, iv a.commit, .bool false, iv 0, iv 0, .slice none 0 0, .slice none 0 0, .slice p1 (n - m) k1, .slice none 0 0, .slice p2 (n - m) k2, .slice rp rn rc] (0, 0) _ rfl HQ.out Try.underlying40 rfl (by kernel_rfl)) rfl ?_
        obtain ⟨N5, u5, q5, hdR, hRX⟩ := H5.out
        have hs1 : W1.heap.size = w.heap.size + 1 := HS1.out
        have hRw := HRR.out
        obtain ⟨lo, hi, g1, g2, -⟩ := M3.out.t1
        obtain ⟨lo', hi', g1', g2', -⟩ := M3.out.t2
        have hdw := HD.out
        refine ⟨.slice p1 (n - m) k1, .slice p2 (n - m) k2, ?_, ⟨N5.upd UQ.out (by omega), M3.out.ln.role, ownsRow_upd (ownsRow_upd M3.out.ln.vot u5 (fun z hz e => own_block M3.out.ln.vot M3.out.ln.nod (by decide) (e ▸ hz))) UQ.out (fun z hz e => own_block (ownsRow_upd M3.out.ln.vot u5 (fun z hz e => own_block M3.out.ln.vot M3.out.ln.nod (by decide) (e ▸ hz))) q5 (by decide) (e ▸ hz)), ownsRow_upd (ownsRow_upd M3.out.ln.ents u5 (fun z hz e => own_block M3.out.ln.ents M3.out.ln.nod (by decide) (e ▸ hz))) UQ.out (fun z hz e => own_block (ownsRow_upd M3.out.ln.ents u5 (fun z hz e => own_block M3.out.ln.ents M3.out.ln.nod (by decide) (e ▸ hz))) q5 (by decide) (e ▸ hz))⟩, ⟨lo, ⟨hi, (g1.upd u5 (fun z h1 h2 e => by omega)).upd UQ.out (fun z h1 h2 e => by omega)⟩, (by show w.heap.size ≤ lo; omega)⟩, ⟨lo', ⟨hi', (g1'.upd u5 (fun z h1 h2 e => by omega)).upd UQ.out (fun z h1 h2 e => by omega)⟩, (by show w.heap.size ≤ lo'; omega)⟩, ?_⟩
        · unfold outA
          rw [e3]
          rfl
        · have U1 : Upd w W5 (fun z => z = d) := ((Upd.ofBelow HB1.out).trans M3.out.upd (fun _ _ e => e)).trans u5 (fun _ _ e => e)
          exact U1.trans UQ.out (fun z hz e => by omega)
      | false =>
        have M3 := H2
        obtain ⟨W3, hW3⟩ : ∃ W3, W3 = W2 := ⟨_, rfl⟩
        have hdX : ¬ d = X := by have := HD.out; have := H2.out.ge; omega
        have hXd : ¬ X = d := fun e => hdX e.symm
        subst hW3
        clear H2
        have n3 := M3.out.ln.nod
        have d1 : W3.cell? ⟨d, 1, none⟩ = some (iv a.term) := n3.cell 1 rfl
        have d2 : W3.cell? ⟨d, 2, none⟩ = some (iv a.vote) := n3.cell 2 rfl
        have d3 : W3.cell? ⟨d, 3, none⟩ = some (iv a.commit) := n3.cell 3 rfl
        have d4 : W3.cell? ⟨d, 4, none⟩ = some (iv a.tt) := n3.cell 4 rfl
        have d5 : W3.cell? ⟨d, 5, none⟩ = some (iv a.tv) := n3.cell 5 rfl
        have d6 : W3.cell? ⟨d, 6, none⟩ = some (iv a.tc) := n3.cell 6 rfl
        have d15 : W3.cell? ⟨d, 15, none⟩ = some (iv a.applied) := n3.cell 15 rfl
        have d18 : W3.cell? ⟨d, 18, none⟩ = some (.bool false) := n3.cell 18 rfl
        have d19 : W3.cell? ⟨d, 19, none⟩ = some (.slice none 0 0) := n3.cell 19 rfl
        have d20 : W3.cell? ⟨d, 20, none⟩ = some a.reads := n3.cell 20 rfl
        have fd : ∀ j, W3.frozen? ⟨d, j, none⟩ = false := fun j => n3.free j
        clear n3
        go_upto_region 11 with fail
        go_region
        have n3 := M3.out.ln.nod
        have n4 : Nod (W3.setCell ⟨d, 4, none⟩ (iv a.term)) d { a with old := n, tt := a.term } := n3.set 4 _ rfl
        have n5 : Nod _ d { a with old := n, tt := a.term, tv := a.vote } := n4.set 5 (iv a.vote) rfl
        have n6 : Nod _ d { a with old := n, tt := a.term, tv := a.vote, tc := a.commit } := n5.set 6 (iv a.commit) rfl
        have n7 : Nod _ d { a with old := n, tt := a.term, tv := a.vote, tc := a.commit, applied := a.commit } := n6.set 15 (iv a.commit) rfl
        have n8 : Nod _ d { a with old := n, tt := a.term, tv := a.vote, tc := a.commit, applied := a.commit } := n7.set 18 (.bool false) rfl
        have n9 : Nod _ d { a with old := n, tt := a.term, tv := a.vote, tc := a.commit, applied := a.commit } := n8.set 19 (.slice none 0 0) rfl
        have nA : Nod _ d { a with old := n, tt := a.term, tv := a.vote, tc := a.commit, applied := a.commit, reads := .slice none 0 0 } := n9.set 20 (.slice none 0 0) rfl
        obtain ⟨W5, hW5⟩ : ∃ W5, W5 = (((((((W3.setCell ⟨d, 4, none⟩ (iv a.term)).setCell ⟨d, 5, none⟩ (iv a.vote)).setCell ⟨d, 6, none⟩ (iv a.commit)).setCell ⟨d, 15, none⟩ (iv a.commit)).setCell ⟨d, 18, none⟩ (.bool false)).setCell ⟨d, 19, none⟩ (.slice none 0 0)).setCell ⟨d, 20, none⟩ (.slice none 0 0)).drew := ⟨_, rfl⟩
        have N5 : Nod W5 d { a with old := n, tt := a.term, tv := a.vote, tc := a.commit, applied := a.commit, reads := .slice none 0 0 } := by rw [hW5]; exact nA.drw
        have u5 : Upd W3 W5 (fun z => z = d) := by rw [hW5]; exact ((((((((Upd.refl W3 (fun z => z = d)).setCell (p := ⟨d, 4, none⟩) (.inr rfl) _).setCell (p := ⟨d, 5, none⟩) (.inr rfl) _).setCell (p := ⟨d, 6, none⟩) (.inr rfl) _).setCell (p := ⟨d, 15, none⟩) (.inr rfl) _).setCell (p := ⟨d, 18, none⟩) (.inr rfl) _).setCell (p := ⟨d, 19, none⟩) (.inr rfl) _).setCell (p := ⟨d, 20, none⟩) (.inr rfl) _).drew
        have hR1 : W1.heap[w.heap.size]? = some (.cells zeroRd 40 (0, 0)) := by rw [HW.out]; exact row_alloc w _ 40
        have hdR : d < w.heap.size := HH.out.ln.nod.lt
        have q3 := (M3.out.upd.block w.heap.size (Array.getElem?_eq_some_iff.1 hR1).1 (fun e => by omega)).trans hR1
        have q5 : W5.heap[w.heap.size]? = some (.cells zeroRd 40 (0, 0)) := (u5.block w.heap.size (Array.getElem?_eq_some_iff.1 q3).1 (by omega)).trans q3
        have r5 := (u5.block X (Array.getElem?_eq_some_iff.1 M3.out.row).1 hXd).trans M3.out.row
        have hRX : w.heap.size < X := by have := M3.out.ge; have := HS1.out; omega
        rw [← hW5]
        obtain ⟨R, hR⟩ : ∃ R, R = w.heap.size := ⟨_, rfl⟩
        have HRR := Hid.mkW hR
        rw [← hR] at q5 hdR hRX
        rw [← hR]
        rw [e3] at r5
        have HQ : Hid ((W5.setRow R #[.bool false, iv 0, iv 0, iv 0, .bool false, iv 0, iv 0, .slice none 0 0, .slice none 0 0, .slice p1 (n - m) k1, .slice none 0 0, .slice p2 (n - m) k2, .slice rp rn rc]).heap[R]? = some (.cells #[.bool false, iv 0, iv 0, iv 0, .bool false, iv 0, iv 0, .slice none 0 0, .slice none 0 0, .slice p1 (n - m) k1, .slice none 0 0, .slice p2 (n - m) k2, .slice rp rn rc] 40 (0, 0))) := setRow_heap W5 R zeroRd _ 40 _ q5
        have UQ : Hid (Upd W5 (W5.setRow R #[.bool false, iv 0, iv 0, iv 0, .bool false, iv 0, iv 0, .slice none 0 0, .slice none 0 0, .slice p1 (n - m) k1, .slice none 0 0, .slice p2 (n - m) k2, .slice rp rn rc]) (fun z => z = R)) := ⟨rfl, rfl, rfl, by simp, fun k _ hk => setRow_other W5 R k _ hk⟩
        have H5 := Hid.mkW (And.intro N5 (And.intro u5 (And.intro q5 (And.intro hdR hRX))))
        have hXR : ¬ X = R := by omega
        have hRX' : ¬ R = X := by omega
        clear n3 n4 n5 n6 n7 n8 n9 nA hW5 N5 u5 hR1 q3 hdR hRX hR d1 d2 d3 d4 d5 d6 d15 d18 d19 d20 fd hdX hXd
        go_wp2_with (first
          | (refine wpList_load_row rfl 40 _ rfl X rfl 40 _ (0, 0) _ r5 Try.underlying40 rfl (by kernel_rfl) ?_)
          | (refine wpList_store_row rfl 40 _ _ rfl R #[.bool false, iv 0, iv 0, iv 0, .bool false, iv 0, iv 0, .slice none 0 0, .slice none 0 0, .slice p1 (n - m) k1, .slice none 0 0, .slice p2 (n - m) k2, .slice rp rn rc] rfl rfl 40 zeroRd q5 (by kernel_rfl) rfl (by kernel_rfl) ?_))
        refine bodyPost_ret (results_cell_row rfl _ _ R 40 #[.bool false, iv 0, iv 0, iv 0, .bool false, iv 0, iv 0, .slice none 0 0, .slice none 0 0, .slice p1 (n - m) k1, .slice none 0 0, .slice p2 (n - m) k2, .slice rp rn rc] (0, 0) _ rfl HQ.out Try.underlying40 rfl (by kernel_rfl)) rfl ?_
        obtain ⟨N5, u5, q5, hdR, hRX⟩ := H5.out
        have hs1 : W1.heap.size = w.heap.size + 1 := HS1.out
        have hRw := HRR.out
        obtain ⟨lo, hi, g1, g2, -⟩ := M3.out.t1
        obtain ⟨lo', hi', g1', g2', -⟩ := M3.out.t2
        have hdw := HD.out
        refine ⟨.slice p1 (n - m) k1, .slice p2 (n - m) k2, ?_, ⟨N5.upd UQ.out (by omega), M3.out.ln.role, ownsRow_upd (ownsRow_upd M3.out.ln.vot u5 (fun z hz e => own_block M3.out.ln.vot M3.out.ln.nod (by decide) (e ▸ hz))) UQ.out (fun z hz e => own_block (ownsRow_upd M3.out.ln.vot u5 (fun z hz e => own_block M3.out.ln.vot M3.out.ln.nod (by decide) (e ▸ hz))) q5 (by decide) (e ▸ hz)), ownsRow_upd (ownsRow_upd M3.out.ln.ents u5 (fun z hz e => own_block M3.out.ln.ents M3.out.ln.nod (by decide) (e ▸ hz))) UQ.out (fun z hz e => own_block (ownsRow_upd M3.out.ln.ents u5 (fun z hz e => own_block M3.out.ln.ents M3.out.ln.nod (by decide) (e ▸ hz))) q5 (by decide) (e ▸ hz))⟩, ⟨lo, ⟨hi, (g1.upd u5 (fun z h1 h2 e => by omega)).upd UQ.out (fun z h1 h2 e => by omega)⟩, (by show w.heap.size ≤ lo; omega)⟩, ⟨lo', ⟨hi', (g1'.upd u5 (fun z h1 h2 e => by omega)).upd UQ.out (fun z h1 h2 e => by omega)⟩, (by show w.heap.size ≤ lo'; omega)⟩, ?_⟩
        · unfold outA
          rw [e3]
          rfl
        · have U1 : Upd w W5 (fun z => z = d) := ((Upd.ofBelow HB1.out).trans M3.out.upd (fun _ _ e => e)).trans u5 (fun _ _ e => e)
          exact U1.trans UQ.out (fun z hz e => by omega)
end Go.Proofs.Ytfhdenobldkaiaa
