/- The net and the law's list, while one of them has gone on ahead of the other. -/
import Derived.Test.YtamgoknoapcnjaaDoorGXC
import Derived.Test.YtamgoknoapcnjaaDoorNPa
import Derived.Test.YtamgoknoapcnjaaDoorNV
import Derived.Great.BuildSlice
import Derived.Deep.MidRow
namespace Go.Proofs.YtamgoknoapcnjaaDoor
open Go Go.RowKit
/-- The net at d holds K's messages, the law's list is L; the call c lies at bc. -/
structure Pm (w0 W : World) (d base : Nat) (v : Value) (bs : List Nat) (vl : Value) (L K : List Mv) (bc : Nat) (c : Cv) : Prop where
  nn : Nn base (fun k => some k = vl.ownBlock) W d v (K.map (·.m)) bs
  row : W.ownsRow base 28 15 vl L.length (mvsC L)
  okL : ∀ x ∈ L, MvOk (fun k => k < w0.heap.size) W x ∧ Small x.m
  okK : ∀ x ∈ K, MvOk (fun k => k < w0.heap.size) W x ∧ Small x.m
  u : Below w0.heap.size w0 W
  hb : w0.heap.size ≤ base
  hd : w0.heap.size ≤ d
  hw : base ≤ W.heap.size
  bx : Bx bc #[iv c.k, iv c.n, c.lv] 49 W
section
variable {w0 W W' : World} {d base bc : Nat} {v v' vl vl' : Value} {bs bs' : List Nat} {L K K' : List Mv} {c : Cv}
theorem Pm.ps (h : Pm w0 W d base v bs vl L L bc c) : Ps w0 W d base v bs vl L := ⟨h.nn, h.row, h.okL, h.u, h.hb, h.hd, h.hw⟩
theorem Ps.pm (h : Ps w0 W d base v bs vl L) (hx : Bx bc #[iv c.k, iv c.n, c.lv] 49 W) : Pm w0 W d base v bs vl L L bc c := ⟨h.nn, h.row, h.ok, h.ok, h.u, h.hb, h.hd, h.hw, hx⟩
theorem Pm.below (h : Pm w0 W d base v bs vl L K bc c) (hb : Below W.heap.size W W') : Pm w0 W' d base v bs vl L K bc c :=
  ⟨h.nn.below hb, ownsRow_upd h.row (Upd.ofBelow (S := fun _ => False) hb) (fun _ _ h => h), fun x hx => ⟨(h.okL x hx).1.below hb, (h.okL x hx).2⟩, fun x hx => ⟨(h.okK x hx).1.below hb, (h.okK x hx).2⟩, h.u.trans (hb.mono h.u.size), h.hb, h.hd, Nat.le_trans h.hw hb.size, h.bx.below hb⟩
theorem Pm.cap {p : Option Addr} {cc : Nat} (h : Pm w0 W d base v bs (.slice p L.length cc) L K bc c) : L.length ≤ cc := by
  rcases h.row.2 with ⟨e, h0⟩ | ⟨g, cap, cur, e, _, _, h1, _⟩
  · simp only [Value.slice.injEq] at e; omega
  · cases e; exact h1
theorem Pm.xlt (h : Pm w0 W d base v bs vl L K bc c) : ∀ k, some k = vl.ownBlock → k < W.heap.size := fun k hk => (h.row.lt k hk.symm).2
/-- Behind a call of the net. -/
theorem Pm.call (h : Pm w0 W d base v bs vl L K bc c) (hn : Nn base (fun k => some k = vl.ownBlock) W' d v' (K'.map (·.m)) bs') (hu : Upd W W' (fun k => k = d ∨ some k = v.ownBlock)) (hK : ∀ x ∈ K', MvOk (fun k => k < w0.heap.size) W x ∧ Small x.m) : Pm w0 W' d base v' bs' vl L K' bc c := by
  have hnd := h.nn.nd
  have hnv := h.nn.nv
  have far : ∀ k, k < w0.heap.size → ¬ (k = d ∨ some k = v.ownBlock) := fun k hk e => by
    rcases e with e | e
    · have := h.hd
      omega
    · have h1 := (h.nn.row.lt e.symm).1
      have := h.hb
      omega
  refine ⟨hn, ownsRow_upd h.row hu (fun k hk e => ?_), fun x hx => ⟨(h.okL x hx).1.upd hu (fun k hk _ => far k hk), (h.okL x hx).2⟩, fun x hx => ⟨(hK x hx).1.upd hu (fun k hk _ => far k hk), (hK x hx).2⟩, h.u.trans (hu.below h.u.size far), h.hb, h.hd, Nat.le_trans h.hw hu.size, h.bx.upd hu (fun e => ?_)⟩
  · rcases e with e | e
    · exact hnd (by rw [← e]; exact hk.symm)
    · exact hnv k e.symm hk.symm
  · rcases e with e | e
    · exact bx_ne h.bx h.nn.x (by decide) e
    · exact rowO_ne h.nn.row h.bx (by decide) e
/-- The law's list goes after the net. -/
theorem Pm.list (h : Pm w0 W d base v bs vl L K bc c) {S : Nat → Prop} (q2 : Upd W W' S) (hS : ∀ k, k < W.heap.size → S k → some k = vl.ownBlock) (q1 : W'.ownsRow base 28 15 vl' K.length (mvsC K)) (q3 : ∀ k, vl'.ownBlock = some k → some k = vl.ownBlock ∨ W.heap.size ≤ k) :
    Pm w0 W' d base v bs vl' K K bc c := by
  have hp := Ps.list h.nn h.u h.hb h.hd (fun k hk => (h.row.lt k hk).1) h.okK h.hw q2 hS q1 q3
  exact hp.pm (h.bx.upd q2 (fun e => own_bx h.row h.bx (by decide) (hS bc h.bx.lt e)))
theorem map_erase (L : List Mv) (k : Nat) : (L.map (·.m)).eraseIdx k = (L.eraseIdx k).map (·.m) := by
  rw [List.eraseIdx_eq_take_drop_succ, List.eraseIdx_eq_take_drop_succ, List.map_append, List.map_take, List.map_drop]
/-! ### The calls -/
theorem Pm.new_msg (h : Pm w0 W d base v bs vl L L bc c) {x : Mv} (hx : MvOk (fun k => k < w0.heap.size) w0 x) (hs : Small x.m) (hl : L.length ≤ 1000) :
    Calls Tryd.prog 18 #[ptr d, .slice (some ⟨W.heap.size, 0, none⟩) 1 1] (W.alloc (.cells (mvC x).toArray 28)) fun e w' => e = .returned (.tuple #[]) ∧ ∃ v' b, Hid (Pm w0 w' d base v' (bs ++ [b]) vl L (L ++ [x]) bc c) := by
  have hb : Below W.heap.size W (W.alloc (.cells (mvC x).toArray 28)) := (Below.refl _ _).alloc (Nat.le_refl _) _
  have h1 := h.below hb
  have hx1 : MvOk (fun k => k < w0.heap.size) (W.alloc (.cells (mvC x).toArray 28)) x := hx.below h1.u
  have hg : Bx W.heap.size (mrow x.m x.e x.v x.d) 28 (W.alloc (.cells (mvC x).toArray 28)) := row_alloc W _ 28
  have hsend := h1.nn.send hg hx1 (fun k hk => Nat.lt_of_lt_of_le hk h1.u.size) hs h1.hw h1.xlt (by simpa using (by omega : L.length ≤ 100000))
  refine hsend.mono ?_
  rintro e w' ⟨rfl, v', b, hn, hu⟩
  refine ⟨rfl, v', b, h1.call (by simpa using hn) hu (fun y hy => ?_)⟩
  rcases List.mem_append.1 hy with h2 | h2
  · exact h1.okK y h2
  · obtain rfl := List.mem_singleton.1 h2
    exact ⟨hx1, hs⟩
theorem Pm.deliver (h : Pm w0 W d base v bs vl L L bc c) (i : Int) (k : Nat) (x : Mv) (hk : pickF i L.length = k) (hx : L[k]? = some x) (hl : L.length ≤ 1000) :
    Calls Tryd.prog 19 #[ptr d, iv i] W fun e w' => ∃ ve vv vd, e = .returned (.tuple #[.agg (mrow x.m ve vv vd), iv 0]) ∧ Hid (Ms (fun _ => True) w' ve vv vd x.m) ∧ ∃ v' bs', Hid (Pm w0 w' d base v' bs' vl L (L.eraseIdx k) bc c) := by
  have hc := h.nn.deliver i k x.m (by simpa using hk) (by rw [List.getElem?_map, hx]; rfl) (by simpa using (by omega : L.length ≤ 100000))
  refine hc.mono ?_
  rintro e w' ⟨ve, vv, vd, rfl, hm, v', hn, hu⟩
  exact ⟨ve, vv, vd, rfl, hm.mono (fun _ _ => trivial), v', _, h.call (map_erase L k ▸ hn) hu (fun y hy => h.okL y (List.mem_of_mem_eraseIdx hy))⟩
theorem Pm.drop (h : Pm w0 W d base v bs vl L L bc c) (i : Int) (k : Nat) (x : Mv) (hk : pickF i L.length = k) (hx : L[k]? = some x) (hl : L.length ≤ 1000) :
    Calls Tryd.prog 20 #[ptr d, iv i] W fun e w' => e = .returned (iv 0) ∧ ∃ v' bs', Hid (Pm w0 w' d base v' bs' vl L (L.eraseIdx k) bc c) := by
  have hc := h.nn.drop i k x.m (by simpa using hk) (by rw [List.getElem?_map, hx]; rfl) (by simpa using (by omega : L.length ≤ 100000))
  refine hc.mono ?_
  rintro e w' ⟨rfl, v', hn, hu⟩
  exact ⟨rfl, v', _, h.call (map_erase L k ▸ hn) hu (fun y hy => h.okL y (List.mem_of_mem_eraseIdx hy))⟩
theorem Pm.double (h : Pm w0 W d base v bs vl L L bc c) (i : Int) (k : Nat) (x : Mv) (hk : pickF i L.length = k) (hx : L[k]? = some x) (hl : L.length ≤ 1000) :
    Calls Tryd.prog 21 #[ptr d, iv i] W fun e w' => e = .returned (iv 0) ∧ ∃ v' bs', Hid (Pm w0 w' d base v' bs' vl L (L ++ [x]) bc c) := by
  have hok := h.okL x (List.mem_of_getElem? hx)
  have hc := h.nn.double i k x.m (by simpa using hk) (by rw [List.getElem?_map, hx]; rfl) hok.2 h.hw h.xlt (by simpa using (by omega : L.length ≤ 100000))
  refine hc.mono ?_
  rintro e w' ⟨rfl, v', b, hn, hu⟩
  refine ⟨rfl, v', _, h.call (by simpa using hn) hu (fun y hy => ?_)⟩
  rcases List.mem_append.1 hy with h2 | h2
  · exact h.okL y h2
  · obtain rfl := List.mem_singleton.1 h2
    exact hok
theorem Pm.nil (h : Pm w0 W d base v bs vl [] [] bc c) : bs = [] := List.eq_nil_of_length_eq_zero (by simpa using h.nn.len)
theorem Pm.deliver0 (h : Pm w0 W d base v bs vl [] [] bc c) (i : Int) : Calls Tryd.prog 19 #[ptr d, iv i] W fun e w' => e = .returned (.tuple #[.agg zrow, iv 2]) ∧ Hid (Pm w0 w' d base v bs vl [] [] bc c) := by
  obtain rfl := h.nil
  exact (h.nn.deliver_none i).mono (by rintro e w' ⟨rfl, hb⟩; exact ⟨rfl, h.below hb⟩)
theorem Pm.drop0 (h : Pm w0 W d base v bs vl [] [] bc c) (i : Int) : Calls Tryd.prog 20 #[ptr d, iv i] W fun e w' => e = .returned (iv 2) ∧ Hid (Pm w0 w' d base v bs vl [] [] bc c) := by
  obtain rfl := h.nil
  exact (h.nn.drop_none i).mono (by rintro e w' ⟨rfl, hb⟩; exact ⟨rfl, h.below hb⟩)
theorem Pm.double0 (h : Pm w0 W d base v bs vl [] [] bc c) (i : Int) : Calls Tryd.prog 21 #[ptr d, iv i] W fun e w' => e = .returned (iv 2) ∧ Hid (Pm w0 w' d base v bs vl [] [] bc c) := by
  obtain rfl := h.nil
  exact (h.nn.double_none i).mono (by rintro e w' ⟨rfl, rfl⟩; exact ⟨rfl, h⟩)
theorem Pm.len (h : Pm w0 W d base v bs vl L K bc c) : Calls Tryd.prog 22 #[ptr d] W fun e w' => e = .returned (iv (K.length : Nat)) ∧ w' = W := by
  have := h.nn.len_any
  simpa using this
/-! ### The law's list -/
theorem src_msg (w : World) (x : Mv) {Z : Nat → Prop} {W0 : World} (hx : MvOk Z W0 x) : Src Tryd.prog 15 47 (.slice (some ⟨w.heap.size, 0, none⟩) 1 1) 1 (mvC x) (w.alloc (.cells (mvC x).toArray 28)) :=
  Src.ofSlice _ Tryd.underlying47 ⟨w.heap.size, 0, none⟩ 1 1 _ rfl (fun j u hj => by
    rw [Addr.add_lit, cell_of_row _ _ _ _ _ _ (row_alloc w _ 28), Nat.zero_add]
    simpa using hj) (fun u hu => mvC_cell hx hu)
/-- A message behind the law's others. -/
theorem Pm.grow {w5 : World} {v5 : Value} {x : Mv} {o : Obj} (h : Pm w0 W d base v bs vl L (L ++ [x]) bc c) (q1 : w5.ownsRow base 28 15 v5 (L.length + 1) (mvsC L ++ mvC x)) (q2 : Upd (W.alloc o) w5 (fun k => some k = vl.ownBlock)) (q3 : v5.ownBlock = vl.ownBlock ∨ v5.ownBlock = some (W.alloc o).heap.size) :
    Pm w0 w5 d base v bs v5 (L ++ [x]) (L ++ [x]) bc c := by
  have hb : Below W.heap.size W (W.alloc o) := (Below.refl _ _).alloc (Nat.le_refl _) _
  refine (h.below hb).list q2 (fun k _ e => e) (by simpa [mvsC] using q1) (fun k hk => ?_)
  rcases q3 with q3 | q3
  · exact .inl (by rw [← q3]; exact hk.symm)
  · rw [q3] at hk
    cases hk
    exact .inr (Nat.le_refl _)
theorem ownsRow_lower {w : World} {B B' e s n : Nat} {v : Value} {xs : List Value} (h : w.ownsRow B e s v n xs) (hb : B' ≤ B) : w.ownsRow B' e s v n xs := by
  refine ⟨h.1, ?_⟩
  rcases h.2 with h2 | ⟨g, cap, cur, rfl, hg, r⟩
  · exact .inl h2
  · exact .inr ⟨g, cap, cur, rfl, Nat.le_trans hb hg, r⟩
/-- The law's list laid anew. -/
theorem Pm.fresh (h : Pm w0 W d base v bs vl L K bc c) {W1 w5 : World} {v5 : Value} {n : Nat} (hb : Below W.heap.size W W1) (_hl : W.heap.size < W1.heap.size) (q1 : w5.ownsRow W.heap.size 28 15 v5 n (mvsC K)) (hn : n = K.length) (q2 : Upd W1 w5 (fun k => W.heap.size ≤ k)) : Pm w0 w5 d base v bs v5 K K bc c := by
  subst hn
  have hu : Upd W w5 (fun _ => False) := (Upd.ofBelow hb).trans q2 (fun j hj e => by omega)
  have hw := h.hw
  refine h.list hu (fun k _ e => e.elim) (ownsRow_lower q1 hw) (fun k hk => .inr (q1.lt k hk).1)
/-- An empty row, and the list's first messages: ahead of the first copy. -/
theorem Pm.cutA {p : Option Addr} {cc : Nat} (h : Pm w0 W d base v bs (.slice p L.length cc) L K bc c) {k : Nat} (hk : k ≤ L.length) {V : World} (hV : Below W.heap.size W V) : Src Tryd.prog 15 47 (.slice p k cc) k (mvsC (L.take k)) V :=
  mv_take h.row (fun _ hu => mvsC_cell (fun x hx => (h.okL x hx).1) hu) hk V hV
/-- The messages behind one. -/
theorem Pm.cutB {p : Option Addr} {cc : Nat} (h : Pm w0 W d base v bs (.slice p L.length cc) L K bc c) {k : Nat} (hk : k ≤ L.length) :
    ∃ p', (∀ V, (Instr.sliceAt 47 (.slice p L.length cc) (some (.int .i64 k)) none none).run Tryd.prog V = .ok (.slice p' (L.length - k) (cc - k)) V) ∧ ∀ V, Below W.heap.size W V → Src Tryd.prog 15 47 (.slice p' (L.length - k) (cc - k)) (L.length - k) (mvsC (L.drop k)) V :=
  mv_drop h.row (fun _ hu => mvsC_cell (fun x hx => (h.okL x hx).1) hu) hk h.cap
theorem erase_cells (L : List Mv) (k : Nat) : mvsC (L.take k) ++ mvsC (L.drop (k + 1)) = mvsC (L.eraseIdx k) := by
  rw [List.eraseIdx_eq_take_drop_succ, mvsC_append]
/-- The list without one of its messages. -/
theorem Pm.erase {p : Option Addr} {cc k : Nat} (h : Pm w0 W d base v bs (.slice p L.length cc) L (L.eraseIdx k) bc c) (hk : k < L.length) {V V1 : World} {o : Obj} {v1 : Value} (hV : Below W.heap.size W V) (hv : V.heap.size = W.heap.size)
    (q2 : Upd (V.alloc o) V1 (fun j => some j = some W.heap.size)) (q3 : v1.ownBlock = some W.heap.size ∨ v1.ownBlock = some (V.alloc o).heap.size) :
    Below W.heap.size W V1 ∧ ∀ (v2 : Value) (V2 : World), V2.ownsRow W.heap.size 28 15 v2 (k + (L.length - (k + 1))) (mvsC (L.take k) ++ mvsC (L.drop (k + 1))) → Upd V1 V2 (fun j => some j = v1.ownBlock) → (v2.ownBlock = v1.ownBlock ∨ v2.ownBlock = some V1.heap.size) → ∃ p2 c2, v2 = .slice p2 (L.length - 1) c2 ∧ Hid (Pm w0 V2 d base v bs v2 (L.eraseIdx k) (L.eraseIdx k) bc c) := by
  have ha : Below W.heap.size W (V.alloc o) := hV.alloc (by omega) _
  have hb : Below W.heap.size W V1 := ha.trans (q2.below (by simp; omega) (fun j hj e => by cases e; omega))
  refine ⟨hb, fun v2 V2 p1 p2 p3 => ?_⟩
  rw [erase_cells, show k + (L.length - (k + 1)) = L.length - 1 by omega] at p1
  obtain ⟨pp, c2, rfl⟩ := owns_formB0 p1
  refine ⟨pp, c2, rfl, h.fresh hb (by have := q2.size; simp at this; omega) p1 (by rw [List.length_eraseIdx]; simp [hk]) (p2.mono (fun j _ e => ?_))⟩
  rcases q3 with q3 | q3
  · rw [q3] at e; cases e; exact Nat.le_refl _
  · rw [q3] at e; cases e; simp; omega
/-- The same, as the region meets it. -/
theorem Pm.eraseR {p : Option Addr} {cc k : Nat} (h : Pm w0 W d base v bs (.slice p L.length cc) L (L.eraseIdx k) bc c) (hk : k < L.length) {V1 : World} {v1 : Value}
    (q1 : V1.ownsRow W.heap.size 28 15 v1 (0 + k) ([] ++ mvsC (L.take k))) (q2 : Upd (W.alloc (.cells #[] 28)).drew V1 (fun j => some j = (Value.slice (some ⟨W.heap.size, 0, none⟩) 0 0).ownBlock)) (q3 : v1.ownBlock = (Value.slice (some ⟨W.heap.size, 0, none⟩) 0 0).ownBlock ∨ v1.ownBlock = some (W.alloc (.cells #[] 28)).drew.heap.size) :
    ∃ p1 c1, v1 = .slice p1 k c1 ∧ Hid (∀ X, X = V1 ∨ X = V1.drew → X.ownsRow W.heap.size 28 15 (.slice p1 k c1) k (mvsC (L.take k)) ∧ Below W.heap.size W X ∧ W.heap.size ≤ X.heap.size ∧ ∀ (v2 : Value) (V2 : World), V2.ownsRow W.heap.size 28 15 v2 (k + (L.length - (k + 1))) (mvsC (L.take k) ++ mvsC (L.drop (k + 1))) → Upd X V2 (fun j => some j = (Value.slice p1 k c1).ownBlock) → (v2.ownBlock = (Value.slice p1 k c1).ownBlock ∨ v2.ownBlock = some X.heap.size) → ∃ p2 c2, v2 = .slice p2 (L.length - 1) c2 ∧ Hid (Pm w0 V2 d base v bs v2 (L.eraseIdx k) (L.eraseIdx k) bc c)) := by
  rw [Nat.zero_add, List.nil_append] at q1
  have q2' : Upd (W.alloc (.cells #[] 28)) V1 (fun j => some j = some W.heap.size) := ⟨q2.os, q2.tape, q2.output, q2.size, q2.block⟩
  have q3' : v1.ownBlock = some W.heap.size ∨ v1.ownBlock = some (W.alloc (.cells #[] 28)).heap.size := q3
  obtain ⟨hb, her⟩ := h.erase hk (Below.refl _ _) rfl q2' q3'
  obtain ⟨p1, c1, rfl⟩ := owns_formB0 q1
  refine ⟨p1, c1, rfl, fun X hX => ?_⟩
  rcases hX with rfl | rfl
  · exact ⟨q1, hb, hb.size, her⟩
  · exact ⟨q1.drew, hb.drew, hb.size, fun v2 V2 p1 p2 p3 => her v2 V2 p1 ⟨p2.os, p2.tape, p2.output, p2.size, p2.block⟩ p3⟩
theorem Pm.deliverR (h : Pm w0 W d base v bs vl L L bc c) (i : Int) (k : Nat) (x : Mv) (hk : pickF i L.length = k) (hx : L[k]? = some x) (hl : L.length ≤ 1000) :
    Calls Tryd.prog 19 #[ptr d, iv i] W fun e w' => ∃ R1, e = .returned (.tuple #[.agg R1, iv 0]) ∧ Hid (R1.size = 15) ∧ R1.all (·.oneCell') = true ∧ Hid (∃ ve vv vd, R1 = mrow x.m ve vv vd ∧ Ms (fun _ => True) w' ve vv vd x.m) ∧ ∃ v' bs', Hid (Pm w0 w' d base v' bs' vl L (L.eraseIdx k) bc c) := by
  refine (h.deliver i k x hk hx hl).mono ?_
  rintro e w' ⟨ve, vv, vd, rfl, hm, v', bs', hp⟩
  refine ⟨_, rfl, rfl, ?_, ⟨ve, vv, vd, rfl, hm.out⟩, v', bs', hp⟩
  obtain ⟨pe, ce, rfl, -, -, -⟩ := hm.out.e
  obtain ⟨pv, cv, rfl, -, -, -⟩ := hm.out.v
  obtain ⟨pd, cd, rfl⟩ := hm.out.d.slice
  kernel_rfl
theorem same_zero (w : World) : Calls Tryd.prog 14 #[.agg zrow, .agg zrow] w fun e w' => e = .returned (.bool true) ∧ Below w.heap.size w w' := by
  have h : zrow = mrow zMd (.slice none 0 0) (.slice none 0 0) (.slice none 0 0) := by kernel_rfl
  rw [h]
  exact refSame_yes (zMs (fun _ => True) w) (zMs (fun _ => True) w) (Nat.zero_le _) (Nat.zero_le _)
/-! ### One of the list's messages behind it: all copied, then the one -/
theorem Pm.all {p : Option Addr} {cc : Nat} (h : Pm w0 W d base v bs (.slice p L.length cc) L K bc c) {V : World} (hV : Below W.heap.size W V) : Src Tryd.prog 15 47 (.slice p L.length cc) L.length (mvsC L) V := by
  have := h.cutA (Nat.le_refl _) hV
  rwa [List.take_length] at this
/-- Behind the first copy. -/
theorem dup_one {X V1 : World} {g n : Nat} {v1 : Value} {xs : List Value} (hX : Below W.heap.size W X) (hg : W.heap.size ≤ g) (q1 : V1.ownsRow W.heap.size 28 15 v1 (0 + n) ([] ++ xs)) (q2 : Upd X V1 (fun j => some j = (Value.slice (some ⟨g, 0, none⟩) 0 0).ownBlock)) :
    ∃ p1 c1, v1 = .slice p1 n c1 ∧ V1.ownsRow W.heap.size 28 15 (.slice p1 n c1) n xs ∧ Below W.heap.size W V1 := by
  rw [Nat.zero_add, List.nil_append] at q1
  obtain ⟨p1, c1, rfl⟩ := owns_formB0 q1
  refine ⟨p1, c1, rfl, q1, hX.trans (q2.below hX.size (fun j hj e => ?_))⟩
  have e1 : some j = some g := e
  cases e1
  omega
/-- Behind the second. -/
theorem Pm.dup {x : Mv} (h : Pm w0 W d base v bs vl L (L ++ [x]) bc c) {Y V2 : World} {va vb : Value} (hY : Below W.heap.size W Y) (hl : W.heap.size < Y.heap.size) (own : Y.ownsRow W.heap.size 28 15 va L.length (mvsC L)) (q1 : V2.ownsRow W.heap.size 28 15 vb (L.length + 1) (mvsC L ++ mvC x)) (q2 : Upd Y V2 (fun j => some j = va.ownBlock)) :
    ∃ p2 c2, vb = .slice p2 (L.length + 1) c2 ∧ Hid (Pm w0 V2 d base v bs vb (L ++ [x]) (L ++ [x]) bc c) := by
  obtain ⟨p2, c2, rfl⟩ := owns_formB0 q1
  exact ⟨p2, c2, rfl, h.fresh hY hl (n := L.length + 1) (by simpa [mvsC] using q1) (by simp) (q2.mono (fun j _ e => (own.lt j e.symm).1))⟩
theorem src_box {x : Mv} {Z : Nat → Prop} {W0 Y : World} (hx : MvOk Z W0 x) {g : Nat} {R : Array Value} (hR : R = mrow x.m x.e x.v x.d) (hg : Bx g R 28 Y) : Src Tryd.prog 15 47 (.slice (some ⟨g, 0, none⟩) 1 1) 1 (mvC x) Y :=
  Src.ofSlice _ Tryd.underlying47 ⟨g, 0, none⟩ 1 1 _ rfl (fun j u hj => by
    rw [Addr.add_lit, Nat.zero_add, hg.cell j, hR]
    simpa [mvC] using hj) (fun u hu => mvC_cell hx hu)
end
end Go.Proofs.YtamgoknoapcnjaaDoor
