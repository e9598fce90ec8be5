/- Lists of messages that came in, and calls of a net. -/
import Derived.Test.YtamgoknoapcnjaaDoorNX
import Derived.Test.YtamgoknoapcnjaaDoorNPK
namespace Go.Proofs.YtamgoknoapcnjaaDoor
open Go.ChangeShapes Go.WideShapes Go.ChangeAt Go.RowKit
theorem bytes28 : Tryd.prog.bytesOf 28 = 168 := by kernel_rfl
theorem cells49 : Tryd.prog.cellsOf 49 = 3 := by kernel_rfl
theorem cells47 : Tryd.prog.cellsOf 47 = 1 := by kernel_rfl
theorem bytes49 : Tryd.prog.bytesOf 49 = 40 := by kernel_rfl
/-- Messages that can be read, one behind the other. -/
def MsIn (W : World) (v : Value) (L : List Mv) : Prop :=
  ∃ p c, v = .slice p L.length c ∧ L.length ≤ c ∧ c ≤ maxLen ∧ ∀ i x, L[i]? = some x → ∃ g o, p = some ⟨g, o, none⟩ ∧ g < W.heap.size ∧ (∀ j u, (mvC x)[j]? = some u → W.cell? ⟨g, o + i * 15 + j, none⟩ = some u) ∧ MvOk (fun k => k < W.heap.size) W x ∧ Big x.m ∧ MOk x.m
/-- A call of a net. -/
structure Cv where
  k : Int
  n : Int
  L : List Mv
  lv : Value
/-- Calls that can be read. -/
def CsIn (W : World) (v : Value) (l : List Cv) : Prop :=
  ∃ p c, v = .slice p l.length c ∧ l.length ≤ c ∧ c ≤ maxLen ∧ ∀ i x, l[i]? = some x → ∃ g o, p = some ⟨g, o, none⟩ ∧ g < W.heap.size ∧ W.cell? ⟨g, o + i * 3, none⟩ = some (iv x.k) ∧ W.cell? ⟨g, o + i * 3 + 1, none⟩ = some (iv x.n) ∧ W.cell? ⟨g, o + i * 3 + 2, none⟩ = some x.lv ∧ MsIn W x.lv x.L ∧ isI x.k ∧ isI x.n ∧ x.L.length ≤ 140737488355328
section
variable {H : Type} {enc : TypeId × Value → H} {W : World} {base : Nat} {sp : Nat → Bool} {held : Bool}
def InM (W : World) (y : Addr) (i : Nat) (x : Mv) : Prop := (∀ j u, (mvC x)[j]? = some u → W.cell? (y.add (i * 15 + j)) = some u) ∧ MvOk (fun k => k < W.heap.size) W x ∧ Big x.m ∧ MOk x.m
set_option maxRecDepth 100000 in
theorem msgs_in {cs : List Value} {x : DataW H × List MemPlace} {fuel : Nat} (hf : DataW.trod enc Tryd.prog W base sp held fuel 47 cs = some x) (hw : ∀ n ∈ x.1.weights Tryd.prog 47, n ≤ reachBytes) :
    ∃ (v : Value) (l : List Mv), cs = [v] ∧ l.length ≤ 140737488355328 ∧ MsIn W v l := by
  rcases Deep.open_slice Tryd.underlying47 hf with ⟨hcs, _⟩ | ⟨y, len, cap, m, n, D, Pl, hcs, _, hl, hm, hmm, hx, hel⟩
  · exact ⟨_, [], hcs, by decide, none, 0, rfl, Nat.le_refl _, by decide, fun i x hi => by simp at hi⟩
  · have hlm : len ≤ m := by rw [hmm]; split <;> omega
    have hbd : len ≤ 140737488355328 := by
      have := hw ((((List.range len).map D).length + ((List.range (m - len)).map fun j => D (len + j)).length) * Tryd.prog.bytesOf 28) (by rw [hx]; simp [DataW.weights, Tryd.underlying47])
      rw [bytes28] at this
      simp at this
      unfold reachBytes at this
      omega
    have each : ∀ i, i < len → ∃ e : Mv, InM W y i e := by
      intro i hi
      obtain ⟨cs', h1, h2⟩ := hel i (by omega)
      have hwi : ∀ q ∈ (D i).weights Tryd.prog 28, q ≤ reachBytes := fun q hq => hw q (by
        rw [hx]
        simp only [DataW.weights, Tryd.underlying47, List.mem_cons, List.mem_append]
        exact .inr (.inl (weightsAll_mem (List.mem_map.2 ⟨i, List.mem_range.2 hi, rfl⟩) hq)))
      rw [cells28] at h1
      obtain ⟨xs, n', _, hD, hlen, hxl, hfs⟩ := DataW.trod_struct Tryd.underlying28 h2
      rw [cells28] at hlen
      obtain ⟨md, ve, vv, vd, hcs', hms, hbig, hmo⟩ := msg_in hlen h2 hwi
      obtain ⟨_, _, hc⟩ := World.cells?_some h1
      refine ⟨⟨md, ve, vv, vd⟩, fun j u hj => ?_, hms, hbig, hmo⟩
      have hjl : j < cs'.length := by
        have := (List.getElem?_eq_some_iff.1 hj).1
        rw [mvC_len] at this
        omega
      have hg := hc j (by omega)
      rw [Deep.add_add] at hg
      rw [hg, hcs']
      exact hj
    haveI : Inhabited Mv := ⟨⟨zMd, .slice none 0 0, .slice none 0 0, .slice none 0 0⟩⟩
    obtain ⟨f, hfn⟩ := Deep.choose_lt (α := Mv) (p := fun i c => InM W y i c) each
    refine ⟨_, (List.range len).map f, hcs, by simpa using hbd, some y, cap, by simp, by simpa using hl, hm, fun i e hi => ?_⟩
    obtain ⟨hi', rfl⟩ := getElem?_mapRange hi
    obtain ⟨g0, g1, g2, g3⟩ := hfn i hi'
    obtain ⟨b, off, rfl, hbl⟩ := add_blk (by have := (hfn 0 (by omega)).1 0 _ rfl; rwa [Nat.zero_mul, Nat.zero_add] at this)
    refine ⟨b, off, rfl, hbl, fun j u hj => ?_, g1, g2, g3⟩
    have := g0 j u hj
    rw [Addr.add_lit] at this
    rw [← this, Nat.add_assoc]
def InC (W : World) (y : Addr) (i : Nat) (x : Cv) : Prop := W.cell? (y.add (i * 3)) = some (iv x.k) ∧ W.cell? (y.add (i * 3 + 1)) = some (iv x.n) ∧ W.cell? (y.add (i * 3 + 2)) = some x.lv ∧ MsIn W x.lv x.L ∧ isI x.k ∧ isI x.n ∧ x.L.length ≤ 140737488355328
set_option maxRecDepth 100000 in
theorem plays_in {cs : List Value} {x : DataW H × List MemPlace} {fuel : Nat} (hf : DataW.trod enc Tryd.prog W base sp held fuel 44 cs = some x) (hw : ∀ n ∈ x.1.weights Tryd.prog 44, n ≤ reachBytes) :
    ∃ (v : Value) (l : List Cv), cs = [v] ∧ l.length ≤ 140737488355328 ∧ CsIn W v l := by
  rcases Deep.open_slice Tryd.underlying44 hf with ⟨hcs, _⟩ | ⟨y, len, cap, m, n, D, Pl, hcs, _, hl, hm, hmm, hx, hel⟩
  · exact ⟨_, [], hcs, by decide, none, 0, rfl, Nat.le_refl _, by decide, fun i x hi => by simp at hi⟩
  · have hlm : len ≤ m := by rw [hmm]; split <;> omega
    have hbd : len ≤ 140737488355328 := by
      have := hw ((((List.range len).map D).length + ((List.range (m - len)).map fun j => D (len + j)).length) * Tryd.prog.bytesOf 49) (by rw [hx]; simp [DataW.weights, Tryd.underlying44])
      rw [bytes49] at this
      simp at this
      unfold reachBytes at this
      omega
    have each : ∀ i, i < len → ∃ e : Cv, InC W y i e := by
      intro i hi
      obtain ⟨cs', h1, h2⟩ := hel i (by omega)
      have hwi : ∀ q ∈ (D i).weights Tryd.prog 49, q ≤ reachBytes := fun q hq => hw q (by
        rw [hx]
        simp only [DataW.weights, Tryd.underlying44, List.mem_cons, List.mem_append]
        exact .inr (.inl (weightsAll_mem (List.mem_map.2 ⟨i, List.mem_range.2 hi, rfl⟩) hq)))
      rw [cells49] at h1
      obtain ⟨xs, n', _, hD, hlen, hxl, hfs⟩ := DataW.trod_struct Tryd.underlying49 h2
      match xs, hxl with
      | [x0, x1, x2], _ =>
        have hD : D i = .agg [x0.1, x1.1, x2.1] := congrArg Prod.fst hD
        have hwj : ∀ (j : Nat) (t : TypeId) (d : DataW H), [3, 3, 47][j]? = some t → [x0.1, x1.1, x2.1][j]? = some d → ∀ q ∈ d.weights Tryd.prog t, q ≤ reachBytes := fun j t d ht hd q hq => hwi q (by
          rw [hD]
          simp only [DataW.weights, Tryd.underlying49]
          exact DataW.weights_mem_each ht hd q hq)
        have t0 : DataW.trod enc Tryd.prog W base sp held n' 3 ((cs'.drop 0).take (Tryd.prog.cellsOf 3)) = some x0 := hfs 0 _ rfl
        have t1 : DataW.trod enc Tryd.prog W base sp held n' 3 ((cs'.drop 1).take (Tryd.prog.cellsOf 3)) = some x1 := hfs 1 _ rfl
        have t2 : DataW.trod enc Tryd.prog W base sp held n' 47 ((cs'.drop 2).take (Tryd.prog.cellsOf 47)) = some x2 := hfs 2 _ rfl
        rw [cells49] at hlen
        obtain ⟨_, _, hc⟩ := World.cells?_some h1
        simp only [cells3, cells47] at t0 t1 t2
        match cs', hlen, t0, t1, t2, hc with
        | [q0, q1, q2], _, t0, t1, t2, hc =>
          obtain ⟨n0, e0, _, b0⟩ := DataW.trod_int Tryd.underlying3 t0
          obtain ⟨n1, e1, _, b1⟩ := DataW.trod_int Tryd.underlying3 t1
          obtain ⟨v, l, e2, hll, hms⟩ := msgs_in t2 (hwj 2 47 x2.1 rfl rfl)
          simp at e0 e1 e2
          subst e0 e1 e2
          have g0 := hc 0 (by omega)
          have g1 := hc 1 (by omega)
          have g2 := hc 2 (by omega)
          rw [Deep.add_add] at g0 g1 g2
          exact ⟨⟨n0, n1, l, q2⟩, by simpa using g0, by simpa using g1, by simpa using g2, hms, bounds_i64 b0, bounds_i64 b1, hll⟩
    haveI : Inhabited Cv := ⟨⟨0, 0, [], .slice none 0 0⟩⟩
    obtain ⟨f, hfn⟩ := Deep.choose_lt (α := Cv) (p := fun i c => InC W y i c) each
    refine ⟨_, (List.range len).map f, hcs, by simpa using hbd, some y, cap, by simp, by simpa using hl, hm, fun i e hi => ?_⟩
    obtain ⟨hi', rfl⟩ := getElem?_mapRange hi
    obtain ⟨g0, g1, g2, g3⟩ := hfn i hi'
    obtain ⟨b, off, rfl, hbl⟩ := add_blk (by have := (hfn 0 (by omega)).1; rwa [Nat.zero_mul] at this)
    rw [Addr.add_lit] at g0 g1 g2
    exact ⟨b, off, rfl, hbl, g0, g1, g2, g3⟩
end
end Go.Proofs.YtamgoknoapcnjaaDoor
/- A net and the law's own list, side by side. -/
namespace Go.Proofs.YtamgoknoapcnjaaDoor
open Go Go.RowKit
/-- The net at d, whose messages are those of the law's list vl. -/
structure Ps (w0 W : World) (d base : Nat) (v : Value) (bs : List Nat) (vl : Value) (L : List Mv) : Prop where
  nn : Nn base (fun k => some k = vl.ownBlock) W d v (L.map (·.m)) bs
  row : W.ownsRow base 28 15 vl L.length (mvsC L)
  ok : ∀ x ∈ L, MvOk (fun k => k < w0.heap.size) W x ∧ Small x.m
  u : Below w0.heap.size w0 W
  hb : w0.heap.size ≤ base
  hd : w0.heap.size ≤ d
  hw : base ≤ W.heap.size
section
variable {w0 W W' : World} {d base : Nat} {v v' vl vl' : Value} {bs bs' : List Nat} {L L' : List Mv}
theorem Ps.xlt (h : Ps w0 W d base v bs vl L) : ∀ k, some k = vl.ownBlock → k < W.heap.size := fun k hk => (h.row.lt k hk.symm).2
theorem Ps.below (h : Ps w0 W d base v bs vl L) (hb : Below W.heap.size W W') : Ps w0 W' d base v bs vl L :=
  ⟨h.nn.below hb, ownsRow_upd h.row (Upd.ofBelow (S := fun _ => False) hb) (fun _ _ h => h), fun x hx => ⟨(h.ok x hx).1.below hb, (h.ok x hx).2⟩, h.u.trans (hb.mono h.u.size), h.hb, h.hd, Nat.le_trans h.hw hb.size⟩
/-- A call of the net. -/
theorem Ps.net (h : Ps w0 W d base v bs vl L) (_hn : Nn base (fun k => some k = vl.ownBlock) W' d v' (L'.map (·.m)) bs') (hu : Upd W W' (fun k => k = d ∨ some k = v.ownBlock)) (_hL : ∀ (_q : List Mv → Prop), True → True) :
    (W'.ownsRow base 28 15 vl L.length (mvsC L)) ∧ (∀ x ∈ L, MvOk (fun k => k < w0.heap.size) W' x ∧ Small x.m) ∧ Below w0.heap.size w0 W' ∧ base ≤ W'.heap.size := by
  have hnd := h.nn.nd
  have hnv := h.nn.nv
  refine ⟨ownsRow_upd h.row hu (fun k hk e => ?_), fun x hx => ⟨(h.ok x hx).1.upd hu (fun k hk hl e => ?_), (h.ok x hx).2⟩, h.u.trans (hu.below h.u.size (fun k hk e => ?_)), Nat.le_trans h.hw hu.size⟩
  · rcases e with e | e
    · exact hnd (by rw [← e]; exact hk.symm)
    · exact hnv k e.symm hk.symm
  · rcases e with e | e
    · have := h.hd
      have hk' : k < w0.heap.size := hk
      omega
    · have h1 := (h.nn.row.lt e.symm).1
      have := h.hb
      have hk' : k < w0.heap.size := hk
      omega
  · rcases e with e | e
    · have := h.hd
      omega
    · have h1 := (h.nn.row.lt e.symm).1
      have := h.hb
      omega
/-- The law's list grew, or was laid anew. -/
theorem Ps.list {W1 : World} {K : List Mv} {bs1 : List Nat} {v1 : Value} (h : Nn base (fun k => some k = vl.ownBlock) W1 d v1 (K.map (·.m)) bs1) (hu : Below w0.heap.size w0 W1) (hb : w0.heap.size ≤ base) (hd : w0.heap.size ≤ d) (hvl : ∀ k, vl.ownBlock = some k → base ≤ k)
    (hok : ∀ x ∈ K, MvOk (fun k => k < w0.heap.size) W1 x ∧ Small x.m) (hw : base ≤ W1.heap.size) {S : Nat → Prop} (q2 : Upd W1 W' S) (hS : ∀ k, k < W1.heap.size → S k → some k = vl.ownBlock) (q1 : W'.ownsRow base 28 15 vl' K.length (mvsC K))
    (q3 : ∀ k, vl'.ownBlock = some k → some k = vl.ownBlock ∨ W1.heap.size ≤ k) : Ps w0 W' d base v1 bs1 vl' K := by
  have h1 := h.law q2 hS
  refine ⟨⟨h1.x, h1.row, h1.len, fun e => ?_, fun k hk e => ?_, fun b hb' e => ?_, fun i b m a1 a2 => ?_⟩, q1, fun x hx => ⟨(hok x hx).1.upd q2 (fun k hk hl e => ?_), (hok x hx).2⟩, hu.trans (q2.below hu.size (fun k hk e => ?_)), hb, hd, Nat.le_trans hw q2.size⟩
  · rcases q3 _ e.symm with e1 | e1
    · exact h.nd e1
    · have := h.x.lt
      omega
  · rcases q3 _ e.symm with e1 | e1
    · exact h.nv k hk e1
    · have := (h.row.lt hk).2
      omega
  · obtain ⟨i, hi⟩ := List.getElem?_of_mem hb'
    have hil := (List.getElem?_eq_some_iff.1 hi).1
    obtain ⟨_, _, _, hx, _⟩ := h.m i b _ hi (List.getElem?_eq_getElem (by rw [← h.len]; exact hil))
    rcases q3 _ e.symm with e1 | e1
    · exact h.nb b hb' e1
    · have := hx.lt
      omega
  · obtain ⟨ve, vv, vd, hx, hm⟩ := h.m i b m a1 a2
    refine ⟨ve, vv, vd, hx.upd q2 (fun e => h.nb b (List.mem_of_getElem? a1) (hS b hx.lt e)), (hm.upd q2 (fun k hk hl e => hk.2.2.1 (hS k hl e))).mono (fun k hk => ⟨hk.1, Nat.lt_of_lt_of_le hk.2.1 q2.size, fun e => ?_, hk.2.2.2⟩)⟩
    rcases q3 _ e.symm with e1 | e1
    · exact hk.2.2.1 e1
    · have := hk.2.1
      omega
  · have h2 := hvl k (hS k hl e).symm
    have hk' : k < w0.heap.size := hk
    omega
  · have h2 := hvl k (hS k (by have := hu.size; omega) e).symm
    omega
end
end Go.Proofs.YtamgoknoapcnjaaDoor
