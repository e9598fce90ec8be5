/- Calls that came in, with their replies. -/
import Derived.Test.YtcghaepjklmggaaFP2
import Derived.Test.YtcghaepjklmggaaFR
import Derived.Deep.Grids
import Derived.Deep.Strs
namespace Go.Proofs.Ytcghaepjklmggaa
open Go.ChangeShapes Go.WideShapes Go.ChangeAt Go.RowKit
theorem cells35 : Try.prog.cellsOf 35 = 8 := by kernel_rfl
theorem cells33 : Try.prog.cellsOf 33 = 5 := by kernel_rfl
theorem cells58 : Try.prog.cellsOf 58 = 2 := by kernel_rfl
theorem cells68 : Try.prog.cellsOf 68 = 6 := by kernel_rfl
theorem cells3 : Try.prog.cellsOf 3 = 1 := by kernel_rfl
theorem cells30 : Try.prog.cellsOf 30 = 1 := by kernel_rfl
theorem cells4 : Try.prog.cellsOf 4 = 1 := by kernel_rfl
theorem cells9 : Try.prog.cellsOf 9 = 1 := by kernel_rfl
theorem cells31 : Try.prog.cellsOf 31 = 1 := by kernel_rfl
theorem cells56 : Try.prog.cellsOf 56 = 1 := by kernel_rfl
theorem bytes68 : Try.prog.bytesOf 68 = 64 := by kernel_rfl
theorem str_len {H : Type} {s : ByteArray} (hw : ∀ n ∈ (DataW.lit (H := H) (.string s.data.toList)).weights Try.prog 9, n ≤ reachBytes) : s.size ≤ 140737488355328 := by
  have := hw s.data.toList.length (by simp [DataW.weights])
  rw [Array.length_toList] at this
  have h3 : s.size ≤ reachBytes := this
  unfold reachBytes at h3; omega
section
variable {H : Type} {enc : TypeId × Value → H} {W : World} {base : Nat} {sp : Nat → Bool} {held : Bool}
theorem weightsAll_mem {P : Program} {e : TypeId} {n : Nat} : ∀ {l : List (DataW H)} {d : DataW H}, d ∈ l → n ∈ d.weights P e → n ∈ DataW.weightsAll P e l
  | x :: r, d, hd, hn => by
    simp only [DataW.weightsAll, List.mem_append]
    rcases List.mem_cons.1 hd with rfl | hd
    · exact .inl hn
    · exact .inr (weightsAll_mem hd hn)
theorem add_blk {y : Addr} {u : Value} (h : W.cell? (y.add 0) = some u) : ∃ b off, y = ⟨b, off, none⟩ ∧ b < W.heap.size := by
  obtain ⟨b, off, spot⟩ := y
  have hspot : spot = none := by simpa [Addr.add] using World.cell?_spot h
  subst hspot
  have := World.block_lt_of_cell? _ _ h
  exact ⟨b, off, rfl, by simpa [Addr.add] using this⟩
theorem getElem?_mapRange {α : Type} {f : Nat → α} {len i : Nat} {c : α} (h : ((List.range len).map f)[i]? = some c) : i < len ∧ c = f i := by
  rw [List.getElem?_map] at h
  obtain ⟨k, hk, rfl⟩ := Option.map_eq_some_iff.1 h
  obtain ⟨h1, h2⟩ := List.getElem?_eq_some_iff.1 hk
  simp at h1 h2
  subst h2
  exact ⟨h1, rfl⟩
/-- A key and what is with it. -/
def InK (W : World) (y : Addr) (i : Nat) (kv : KVd) : Prop := W.cell? (y.add (i * 6)) = some (.string kv.key) ∧ W.cell? (y.add (i * 6 + 1)) = some (.string kv.value) ∧ W.cell? (y.add (i * 6 + 2)) = some (.int .i64 kv.create) ∧ W.cell? (y.add (i * 6 + 3)) = some (.int .i64 kv.mod) ∧ W.cell? (y.add (i * 6 + 4)) = some (.int .i64 kv.version) ∧ W.cell? (y.add (i * 6 + 5)) = some (.int .i64 kv.lease) ∧ kv.key.size ≤ 140737488355328 ∧ kv.value.size ≤ 140737488355328
set_option maxRecDepth 100000 in
theorem kvs_in {cs : List Value} {x : DataW H × List MemPlace} {fuel : Nat} (hf : DataW.trod enc Try.prog W base sp held fuel 56 cs = some x) (hw : ∀ n ∈ x.1.weights Try.prog 56, n ≤ reachBytes) :
    ∃ (v : Value) (l : List KVd), cs = [v] ∧ l.length ≤ 2199023255552 ∧ KVs (fun k => k < W.heap.size) W v l := by
  rcases Deep.open_slice Try.underlying56 hf with ⟨hcs, _⟩ | ⟨y, len, cap, m, n, D, Pl, hcs, _, hl, hm, hmm, hx, hel⟩
  · exact ⟨_, [], hcs, by decide, KVs.nil _ _⟩
  · have hlm : len ≤ m := by rw [hmm]; split <;> omega
    have hbd : len ≤ 2199023255552 := by
      have := hw ((((List.range len).map D).length + ((List.range (m - len)).map fun j => D (len + j)).length) * Try.prog.bytesOf 68) (by rw [hx]; simp [DataW.weights, Try.underlying56])
      rw [bytes68] at this
      simp at this
      unfold reachBytes at this
      omega
    have each : ∀ i, i < len → ∃ kv : KVd, InK W y i kv := by
      intro i hi
      obtain ⟨cs', h1, h2⟩ := hel i (by omega)
      have hwi : ∀ q ∈ (D i).weights Try.prog 68, q ≤ reachBytes := fun q hq => hw q (by
        rw [hx]
        simp only [DataW.weights, Try.underlying56, List.mem_cons, List.mem_append]
        exact .inr (.inl (weightsAll_mem (List.mem_map.2 ⟨i, List.mem_range.2 hi, rfl⟩) hq)))
      rw [cells68] at h1
      obtain ⟨xs, n', _, hD, hlen, hxl, hfs⟩ := DataW.trod_struct Try.underlying68 h2
      match xs, hxl with
      | [x0, x1, x2, x3, x4, x5], _ =>
        have hD : D i = .agg [x0.1, x1.1, x2.1, x3.1, x4.1, x5.1] := congrArg Prod.fst hD
        have hwj : ∀ (j : Nat) (t : TypeId) (d : DataW H), [9, 9, 3, 3, 3, 3][j]? = some t → [x0.1, x1.1, x2.1, x3.1, x4.1, x5.1][j]? = some d → ∀ q ∈ d.weights Try.prog t, q ≤ reachBytes := fun j t d ht hd q hq => hwi q (by
          rw [hD]
          simp only [DataW.weights, Try.underlying68]
          exact DataW.weights_mem_each ht hd q hq)
        have t0 : DataW.trod enc Try.prog W base sp held n' 9 ((cs'.drop 0).take (Try.prog.cellsOf 9)) = some x0 := hfs 0 _ rfl
        have t1 : DataW.trod enc Try.prog W base sp held n' 9 ((cs'.drop 1).take (Try.prog.cellsOf 9)) = some x1 := hfs 1 _ rfl
        have t2 : DataW.trod enc Try.prog W base sp held n' 3 ((cs'.drop 2).take (Try.prog.cellsOf 3)) = some x2 := hfs 2 _ rfl
        have t3 : DataW.trod enc Try.prog W base sp held n' 3 ((cs'.drop 3).take (Try.prog.cellsOf 3)) = some x3 := hfs 3 _ rfl
        have t4 : DataW.trod enc Try.prog W base sp held n' 3 ((cs'.drop 4).take (Try.prog.cellsOf 3)) = some x4 := hfs 4 _ rfl
        have t5 : DataW.trod enc Try.prog W base sp held n' 3 ((cs'.drop 5).take (Try.prog.cellsOf 3)) = some x5 := hfs 5 _ rfl
        rw [cells68] at hlen
        obtain ⟨_, _, hc⟩ := World.cells?_some h1
        simp only [cells3, cells9] at t0 t1 t2 t3 t4 t5
        match cs', hlen, t0, t1, t2, t3, t4, t5, hc with
        | [q0, q1, q2, q3, q4, q5], _, t0, t1, t2, t3, t4, t5, hc =>
          obtain ⟨sa, e0, z0, _⟩ := DataW.trod_string Try.underlying9 t0
          obtain ⟨sb, e1, z1, _⟩ := DataW.trod_string Try.underlying9 t1
          obtain ⟨n2, e2, _, _⟩ := DataW.trod_int Try.underlying3 t2
          obtain ⟨n3, e3, _, _⟩ := DataW.trod_int Try.underlying3 t3
          obtain ⟨n4, e4, _, _⟩ := DataW.trod_int Try.underlying3 t4
          obtain ⟨n5, e5, _, _⟩ := DataW.trod_int Try.underlying3 t5
          simp at e0 e1 e2 e3 e4 e5
          subst e0 e1 e2 e3 e4 e5
          have b0 : sa.size ≤ 140737488355328 := by
            have := hwj 0 9 x0.1 rfl rfl
            rw [z0] at this
            exact str_len this
          have b1 : sb.size ≤ 140737488355328 := by
            have := hwj 1 9 x1.1 rfl rfl
            rw [z1] at this
            exact str_len this
          have g0 := hc 0 (by omega)
          have g1 := hc 1 (by omega)
          have g2 := hc 2 (by omega)
          have g3 := hc 3 (by omega)
          have g4 := hc 4 (by omega)
          have g5 := hc 5 (by omega)
          rw [Deep.add_add] at g0 g1 g2 g3 g4 g5
          exact ⟨⟨sa, sb, n2, n3, n4, n5⟩, by simpa using g0, by simpa using g1, by simpa using g2, by simpa using g3, by simpa using g4, by simpa using g5, b0, b1⟩
    haveI : Inhabited KVd := ⟨⟨ByteArray.empty, ByteArray.empty, 0, 0, 0, 0⟩⟩
    obtain ⟨f, hfn⟩ := Deep.choose_lt (α := KVd) (p := fun i c => InK W y i c) each
    refine ⟨_, (List.range len).map f, hcs, by simpa using hbd, some y, cap, by simp, fun i kv hi => ?_⟩
    obtain ⟨hi', rfl⟩ := getElem?_mapRange hi
    obtain ⟨g0, g1, g2, g3, g4, g5, r0, r1⟩ := hfn i hi'
    obtain ⟨b, off, rfl, hbl⟩ := add_blk (by have := (hfn 0 (by omega)).1; rwa [Nat.zero_mul] at this)
    rw [Addr.add_lit] at g0 g1 g2 g3 g4 g5
    exact ⟨b, off, rfl, hbl, hbl, g0, g1, g2, g3, g4, g5, r0, r1⟩
def InR (W : World) (y : Addr) (i : Nat) (r : Rs) : Prop := W.cell? (y.add (i * 2)) = some (.int .i64 r.n) ∧ (∃ u, W.cell? (y.add (i * 2 + 1)) = some u ∧ KVs (fun k => k < W.heap.size) W u r.kvs) ∧ r.kvs.length ≤ 2199023255552
set_option maxRecDepth 100000 in
theorem ress_in {cs : List Value} {x : DataW H × List MemPlace} {fuel : Nat} (hf : DataW.trod enc Try.prog W base sp held fuel 31 cs = some x) (hw : ∀ n ∈ x.1.weights Try.prog 31, n ≤ reachBytes) :
    ∃ (p : Option Addr) (c : Nat) (l : List Rs), cs = [.slice p l.length c] ∧ RSs (fun k => k < W.heap.size) W (.slice p l.length c) l := by
  rcases Deep.open_slice Try.underlying31 hf with ⟨hcs, _⟩ | ⟨y, len, cap, m, n, D, Pl, hcs, _, hl, hm, hmm, hx, hel⟩
  · exact ⟨none, 0, [], hcs, RSs.nil _ _⟩
  · have hlm : len ≤ m := by rw [hmm]; split <;> omega
    have each : ∀ i, i < len → ∃ r : Rs, InR W y i r := by
      intro i hi
      obtain ⟨cs', h1, h2⟩ := hel i (by omega)
      have hwi : ∀ q ∈ (D i).weights Try.prog 58, q ≤ reachBytes := fun q hq => hw q (by
        rw [hx]
        simp only [DataW.weights, Try.underlying31, List.mem_cons, List.mem_append]
        exact .inr (.inl (weightsAll_mem (List.mem_map.2 ⟨i, List.mem_range.2 hi, rfl⟩) hq)))
      rw [cells58] at h1
      obtain ⟨xs, n', _, hD, hlen, hxl, hfs⟩ := DataW.trod_struct Try.underlying58 h2
      match xs, hxl with
      | [x0, x1], _ =>
        have hD : D i = .agg [x0.1, x1.1] := congrArg Prod.fst hD
        have hwj : ∀ (j : Nat) (t : TypeId) (d : DataW H), [3, 56][j]? = some t → [x0.1, x1.1][j]? = some d → ∀ q ∈ d.weights Try.prog t, q ≤ reachBytes := fun j t d ht hd q hq => hwi q (by
          rw [hD]
          simp only [DataW.weights, Try.underlying58]
          exact DataW.weights_mem_each ht hd q hq)
        have t0 : DataW.trod enc Try.prog W base sp held n' 3 ((cs'.drop 0).take (Try.prog.cellsOf 3)) = some x0 := hfs 0 _ rfl
        have t1 : DataW.trod enc Try.prog W base sp held n' 56 ((cs'.drop 1).take (Try.prog.cellsOf 56)) = some x1 := hfs 1 _ rfl
        rw [cells58] at hlen
        obtain ⟨_, _, hc⟩ := World.cells?_some h1
        simp only [cells3, cells56] at t0 t1
        match cs', hlen, t0, t1, hc with
        | [q0, q1], _, t0, t1, hc =>
          obtain ⟨n0, e0, _, _⟩ := DataW.trod_int Try.underlying3 t0
          obtain ⟨v, l, e1, hll, hkv⟩ := kvs_in t1 (hwj 1 56 x1.1 rfl rfl)
          simp at e0 e1
          subst e0 e1
          have g0 := hc 0 (by omega)
          have g1 := hc 1 (by omega)
          rw [Deep.add_add] at g0 g1
          exact ⟨⟨n0, l⟩, by simpa using g0, ⟨q1, by simpa using g1, hkv⟩, hll⟩
    haveI : Inhabited Rs := ⟨⟨0, []⟩⟩
    obtain ⟨f, hfn⟩ := Deep.choose_lt (α := Rs) (p := fun i c => InR W y i c) each
    have hll : ((List.range len).map f).length = len := by simp
    refine ⟨some y, cap, (List.range len).map f, by rw [hll]; exact hcs, some y, cap, rfl, fun i r hi => ?_⟩
    obtain ⟨hi', rfl⟩ := getElem?_mapRange hi
    obtain ⟨g0, ⟨u, g1, g2⟩, g3⟩ := hfn i hi'
    obtain ⟨b, off, rfl, hbl⟩ := add_blk (by have := (hfn 0 (by omega)).1; rwa [Nat.zero_mul] at this)
    rw [Addr.add_lit] at g0 g1
    exact ⟨b, off, rfl, hbl, hbl, g0, ⟨u, g1, g2⟩, g3⟩
def InC (W : World) (y : Addr) (i : Nat) (c : Cd) : Prop := isI c.client ∧ ∃ q n, W.cell? (y.add (i * 8)) = some (.int .i64 c.client) ∧ W.cell? (y.add (i * 8 + 1)) = some (.int .i64 c.seq) ∧ W.cell? (y.add (i * 8 + 2)) = some (.bool c.does) ∧ W.cell? (y.add (i * 8 + 3)) = some (.int .i64 c.rp.err) ∧ W.cell? (y.add (i * 8 + 4)) = some (.int .i64 c.rp.rev) ∧ W.cell? (y.add (i * 8 + 5)) = some (.bool c.rp.thn) ∧ W.cell? (y.add (i * 8 + 6)) = some (.slice q c.rs.length n) ∧ W.cell? (y.add (i * 8 + 7)) = some (.int .i64 c.rp.tim) ∧ RSs (fun k => k < W.heap.size) W (.slice q c.rs.length n) c.rs
set_option maxRecDepth 100000 in
theorem calls_in {a : Option Addr} {len cap : Nat} {x : DataW H × List MemPlace} {fuel : Nat}
    (hf : DataW.trod enc Try.prog W base sp held fuel 22 (Value.cells (.slice a len cap)).toList = some x) (hw : ∀ n ∈ x.1.weights Try.prog 22, n ≤ reachBytes) : ∃ cs : List Cd, cs.length ≤ maxLen ∧ SeesC W (.slice a len cap) cs := by
  rcases Deep.open_slice Try.underlying22 hf with ⟨hcs, _⟩ | ⟨y, l, c, m, n, D, Pl, hcs, _, hl, hm, hmm, hx, hel⟩
  · simp [Value.cells] at hcs
    obtain ⟨rfl, rfl, rfl⟩ := hcs
    exact ⟨[], by decide, none, 0, rfl, fun i c h => by simp at h⟩
  · simp [Value.cells] at hcs
    obtain ⟨rfl, rfl, rfl⟩ := hcs
    have hlm : len ≤ m := by rw [hmm]; split <;> omega
    have each : ∀ i, i < len → ∃ c : Cd, InC W y i c := by
      intro i hi
      obtain ⟨cs', h1, h2⟩ := hel i (by omega)
      have hwi : ∀ q ∈ (D i).weights Try.prog 35, q ≤ reachBytes := fun q hq => hw q (by
        rw [hx]
        simp only [DataW.weights, Try.underlying22, List.mem_cons, List.mem_append]
        exact .inr (.inl (weightsAll_mem (List.mem_map.2 ⟨i, List.mem_range.2 hi, rfl⟩) hq)))
      rw [cells35] at h1
      obtain ⟨xs, n', _, hD, hlen, hxl, hfs⟩ := DataW.trod_struct Try.underlying35 h2
      match xs, hxl with
      | [x0, x1, x2, x3], _ =>
        have hD : D i = .agg [x0.1, x1.1, x2.1, x3.1] := congrArg Prod.fst hD
        have hwj : ∀ (j : Nat) (t : TypeId) (d : DataW H), [3, 3, 4, 33][j]? = some t → [x0.1, x1.1, x2.1, x3.1][j]? = some d → ∀ q ∈ d.weights Try.prog t, q ≤ reachBytes := fun j t d ht hd q hq => hwi q (by
          rw [hD]
          simp only [DataW.weights, Try.underlying35]
          exact DataW.weights_mem_each ht hd q hq)
        have t0 : DataW.trod enc Try.prog W base sp held n' 3 ((cs'.drop 0).take (Try.prog.cellsOf 3)) = some x0 := hfs 0 _ rfl
        have t1 : DataW.trod enc Try.prog W base sp held n' 3 ((cs'.drop 1).take (Try.prog.cellsOf 3)) = some x1 := hfs 1 _ rfl
        have t2 : DataW.trod enc Try.prog W base sp held n' 4 ((cs'.drop 2).take (Try.prog.cellsOf 4)) = some x2 := hfs 2 _ rfl
        have t3 : DataW.trod enc Try.prog W base sp held n' 33 ((cs'.drop 3).take (Try.prog.cellsOf 33)) = some x3 := hfs 3 _ rfl
        rw [cells35] at hlen
        obtain ⟨_, _, hc⟩ := World.cells?_some h1
        simp only [cells3, cells4, cells33] at t0 t1 t2 t3
        match cs', hlen, t0, t1, t2, t3, hc with
        | [q0, q1, q2, q3, q4, q5, q6, q7], _, t0, t1, t2, t3, hc =>
          have t3' : DataW.trod enc Try.prog W base sp held n' 33 [q3, q4, q5, q6, q7] = some x3 := t3
          obtain ⟨ys, n'', _, hE, hlen2, hyl, hgs⟩ := DataW.trod_struct Try.underlying33 t3'
          match ys, hyl with
          | [w0, w1, w2, w3, w4], _ =>
            have hE : x3.1 = .agg [w0.1, w1.1, w2.1, w3.1, w4.1] := by rw [hE]; rfl
            have hwk : ∀ (j : Nat) (t : TypeId) (d : DataW H), [30, 3, 4, 31, 3][j]? = some t → [w0.1, w1.1, w2.1, w3.1, w4.1][j]? = some d → ∀ q ∈ d.weights Try.prog t, q ≤ reachBytes := fun j t d ht hd q hq => hwj 3 33 x3.1 rfl rfl q (by
              rw [hE]
              simp only [DataW.weights, Try.underlying33]
              exact DataW.weights_mem_each ht hd q hq)
            have s0 : DataW.trod enc Try.prog W base sp held n'' 30 (([q3, q4, q5, q6, q7].drop 0).take (Try.prog.cellsOf 30)) = some w0 := hgs 0 _ rfl
            have s1 : DataW.trod enc Try.prog W base sp held n'' 3 (([q3, q4, q5, q6, q7].drop 1).take (Try.prog.cellsOf 3)) = some w1 := hgs 1 _ rfl
            have s2 : DataW.trod enc Try.prog W base sp held n'' 4 (([q3, q4, q5, q6, q7].drop 2).take (Try.prog.cellsOf 4)) = some w2 := hgs 2 _ rfl
            have s3 : DataW.trod enc Try.prog W base sp held n'' 31 (([q3, q4, q5, q6, q7].drop 3).take (Try.prog.cellsOf 31)) = some w3 := hgs 3 _ rfl
            have s4 : DataW.trod enc Try.prog W base sp held n'' 3 (([q3, q4, q5, q6, q7].drop 4).take (Try.prog.cellsOf 3)) = some w4 := hgs 4 _ rfl
            simp only [cells3, cells4, cells30, cells31] at s0 s1 s2 s3 s4
            obtain ⟨m0, e0, _, hwf⟩ := DataW.trod_int Try.underlying3 t0
            obtain ⟨m1, e1, _, _⟩ := DataW.trod_int Try.underlying3 t1
            obtain ⟨m2, e2, _⟩ := DataW.trod_bool Try.underlying4 t2
            obtain ⟨k0, f0, _, _⟩ := DataW.trod_int Try.underlying30 s0
            obtain ⟨k1, f1, _, _⟩ := DataW.trod_int Try.underlying3 s1
            obtain ⟨k2, f2, _⟩ := DataW.trod_bool Try.underlying4 s2
            obtain ⟨rp, rc, rl, f3, hrs⟩ := ress_in s3 (hwk 3 31 w3.1 rfl rfl)
            obtain ⟨k4, f4, _, _⟩ := DataW.trod_int Try.underlying3 s4
            simp at e0 e1 e2 f0 f1 f2 f3 f4
            subst e0 e1 e2 f0 f1 f2 f3 f4
            have g0 := hc 0 (by omega)
            have g1 := hc 1 (by omega)
            have g2 := hc 2 (by omega)
            have g3 := hc 3 (by omega)
            have g4 := hc 4 (by omega)
            have g5 := hc 5 (by omega)
            have g6 := hc 6 (by omega)
            have g7 := hc 7 (by omega)
            rw [Deep.add_add] at g0 g1 g2 g3 g4 g5 g6 g7
            refine ⟨⟨m0, m1, m2, ⟨k0, k1, k2, k4⟩, rl⟩, ?_, rp, rc, by simpa using g0, by simpa using g1, by simpa using g2, by simpa using g3, by simpa using g4, by simpa using g5, by simpa using g6, by simpa using g7, hrs⟩
            exact bounds_i64 hwf
    haveI : Inhabited Cd := ⟨⟨0, 0, false, rp0, []⟩⟩
    obtain ⟨f, hfn⟩ := Deep.choose_lt (α := Cd) (p := fun i c => InC W y i c) each
    have hll : ((List.range len).map f).length = len := by simp
    refine ⟨(List.range len).map f, by rw [hll]; omega, some y, cap, by rw [hll], fun i c hi => ?_⟩
    obtain ⟨hi', rfl⟩ := getElem?_mapRange hi
    obtain ⟨hci, q, n, g0, g1, g2, g3, g4, g5, g6, g7, g8⟩ := hfn i hi'
    obtain ⟨b, off, rfl, hbl⟩ := add_blk (by obtain ⟨_, _, _, h0, _⟩ := hfn 0 (by omega); rwa [Nat.zero_mul] at h0)
    rw [Addr.add_lit] at g0 g1 g2 g3 g4 g5 g6 g7
    exact ⟨hci, b, off, q, n, rfl, hbl, g0, g1, g2, g3, g4, g5, g6, g7, g8⟩
end
end Go.Proofs.Ytcghaepjklmggaa
