/- A message that came in. -/
import Derived.Test.YtamgoknoapcnjaaDoorFrame
import Derived.Test.YtamgoknoapcnjaaDoorNL
import Derived.SizedLaws
import Derived.Deep.Grids
import Derived.Deep.Strs
namespace Go.Proofs.YtamgoknoapcnjaaDoor
open Go.ChangeShapes Go.WideShapes Go.ChangeAt Go.RowKit
theorem bytes5 : Tryd.prog.bytesOf 5 = 1 := by kernel_rfl
theorem bytes3 : Tryd.prog.bytesOf 3 = 8 := by kernel_rfl
theorem bytes58 : Tryd.prog.bytesOf 58 = 48 := by kernel_rfl
theorem cells58 : Tryd.prog.cellsOf 58 = 4 := by kernel_rfl
theorem cells28 : Tryd.prog.cellsOf 28 = 15 := by kernel_rfl
theorem cells25 : Tryd.prog.cellsOf 25 = 3 := by kernel_rfl
theorem cells3 : Tryd.prog.cellsOf 3 = 1 := by kernel_rfl
theorem cells4 : Tryd.prog.cellsOf 4 = 1 := by kernel_rfl
theorem cells22 : Tryd.prog.cellsOf 22 = 1 := by kernel_rfl
theorem cells23 : Tryd.prog.cellsOf 23 = 1 := by kernel_rfl
theorem cells26 : Tryd.prog.cellsOf 26 = 1 := by kernel_rfl
theorem lits_len (k : IntKind) (zs : List Int) {H : Type} : (lits (H := H) k zs).length = zs.length := by simp [lits]
theorem weigh {H : Type} {ts : List TypeId} {ds : List (DataW H)} (h : (DataW.weightsEach Tryd.prog ts ds).all (· ≤ reachBytes) = true) {j : Nat} {t : TypeId} {d : DataW H} (ht : ts[j]? = some t) (hd : ds[j]? = some d) : ∀ n ∈ d.weights Tryd.prog t, n ≤ reachBytes := fun n hn => by
  have := List.all_eq_true.1 h _ (DataW.weights_mem_each ht hd n hn)
  simpa using this
section
variable {H : Type} {enc : TypeId × Value → H} {W : World} {base : Nat} {sp : Nat → Bool} {held : Bool}
theorem weightsAll_mem {P : Program} {e : TypeId} {n : Nat} : ∀ {l : List (DataW H)} {d : DataW H}, d ∈ l → n ∈ d.weights P e → n ∈ DataW.weightsAll P e l
  | x :: r, d, hd, hn => by
    simp only [DataW.weightsAll, List.mem_append]
    rcases List.mem_cons.1 hd with rfl | hd
    · exact .inl hn
    · exact .inr (weightsAll_mem hd hn)
theorem add_blk {y : Addr} {u : Value} (h : W.cell? (y.add 0) = some u) : ∃ b off, y = ⟨b, off, none⟩ ∧ b < W.heap.size := by
  obtain ⟨b, off, spot⟩ := y
  have hspot : spot = none := by simpa [Addr.add] using World.cell?_spot h
  subst hspot
  have := World.block_lt_of_cell? _ _ h
  exact ⟨b, off, rfl, by simpa [Addr.add] using this⟩
theorem getElem?_mapRange {α : Type} {f : Nat → α} {len i : Nat} {c : α} (h : ((List.range len).map f)[i]? = some c) : i < len ∧ c = f i := by
  rw [List.getElem?_map] at h
  obtain ⟨k, hk, rfl⟩ := Option.map_eq_some_iff.1 h
  obtain ⟨h1, h2⟩ := List.getElem?_eq_some_iff.1 hk
  simp at h1 h2
  subst h2
  exact ⟨h1, rfl⟩
theorem by_in {cs : List Value} {x : DataW H × List MemPlace} {fuel : Nat} (hf : DataW.trod enc Tryd.prog W base sp held fuel 26 cs = some x) (hw : ∀ n ∈ x.1.weights Tryd.prog 26, n ≤ reachBytes) :
    ∃ (v : Value) (zs : List Int), cs = [v] ∧ zs.length ≤ 140737488355328 ∧ isB zs ∧ Bs (fun k => k < W.heap.size) W v zs := by
  rcases open_ints Tryd.underlying26 Tryd.underlying5 (by kernel_rfl) hf with ⟨hcs, _⟩ | ⟨y, len, cap, zs, hcs, _, hl, hm, hz, hx, hcell, hwz⟩
  · exact ⟨_, [], hcs, by decide, (fun _ h => by cases h), Bs.nil _ _⟩
  · have hz2 : len ≤ zs.length := by rw [hz]; split <;> omega
    have hlz : (zs.take len).length = len := by simp; omega
    have hbd : len ≤ 140737488355328 := by
      have := hw ((((lits (H := H) .u8 (zs.take len)).length + (lits (H := H) .u8 (zs.drop len)).length)) * Tryd.prog.bytesOf 5) (by rw [hx]; simp [DataW.weights, Tryd.underlying26])
      rw [bytes5, lits_len, lits_len] at this
      unfold reachBytes at this
      omega
    refine ⟨_, zs.take len, hcs, by omega, ?_, ?_⟩
    · intro z hz'
      have := hwz z (List.mem_of_mem_take hz')
      have := bounds_u8 this
      omega
    · by_cases h0 : len = 0
      · subst h0
        exact ⟨.inl ⟨by simp, _, _, rfl, (fun e => by cases e), hm⟩, fun k _ h => by simp at h⟩
      · obtain ⟨b, off, rfl, hc⟩ := ints_at hcell (by omega)
        have hcc : ∀ i, i < (zs.take len).length → W.cell? ⟨b, off + i, none⟩ = some (.int .u8 ((zs.take len).getD i 0)) := fun i hi => by
          rw [hc i (by omega)]
          have hi' : i < len := by omega
          simp [List.getD_eq_getElem?_getD, hi']
        have hbl : b < W.heap.size := World.block_lt_of_cell? _ _ (hcc 0 (by omega))
        refine ⟨.inr ⟨b, off, cap, by rw [hlz], by omega, by omega, hm, hcc⟩, fun k hk _ => ?_⟩
        have e : b = k := by simpa [Value.ownBlock] using hk
        omega
theorem int_in {cs : List Value} {x : DataW H × List MemPlace} {fuel : Nat} (hf : DataW.trod enc Tryd.prog W base sp held fuel 23 cs = some x) (hw : ∀ n ∈ x.1.weights Tryd.prog 23, n ≤ reachBytes) :
    ∃ (v : Value) (zs : List Int), cs = [v] ∧ zs.length ≤ 140737488355328 ∧ (∀ z ∈ zs, isI z) ∧ Is (fun k => k < W.heap.size) W v zs := by
  rcases open_ints Tryd.underlying23 Tryd.underlying3 (by kernel_rfl) hf with ⟨hcs, _⟩ | ⟨y, len, cap, zs, hcs, _, hl, hm, hz, hx, hcell, hwz⟩
  · exact ⟨_, [], hcs, by decide, (fun _ h => by cases h), Is.nil _ _⟩
  · have hz2 : len ≤ zs.length := by rw [hz]; split <;> omega
    have hlz : (zs.take len).length = len := by simp; omega
    have hbd : len ≤ 140737488355328 := by
      have := hw ((((lits (H := H) .i64 (zs.take len)).length + (lits (H := H) .i64 (zs.drop len)).length)) * Tryd.prog.bytesOf 3) (by rw [hx]; simp [DataW.weights, Tryd.underlying23])
      rw [bytes3, lits_len, lits_len] at this
      unfold reachBytes at this
      omega
    refine ⟨_, zs.take len, hcs, by omega, ?_, some y, cap, by rw [hlz], by omega, hm, fun i z hi => ?_⟩
    · intro z hz'
      exact bounds_i64 (hwz z (List.mem_of_mem_take hz'))
    · have hil : i < len := by have := (List.getElem?_eq_some_iff.1 hi).1; omega
      obtain ⟨b, off, rfl, hc⟩ := ints_at hcell (by omega)
      have hci := hc i (by omega)
      have hbl := World.block_lt_of_cell? _ _ hci
      refine ⟨b, off, rfl, hbl, ?_⟩
      rw [hci]
      rw [List.getElem?_take, if_pos hil] at hi
      rw [List.getD_eq_getElem?_getD, hi]
      rfl
def InE (W : World) (y : Addr) (i : Nat) (e : Ent) : Prop := W.cell? (y.add (i * 4)) = some (iv e.i) ∧ W.cell? (y.add (i * 4 + 1)) = some (iv e.t) ∧ W.cell? (y.add (i * 4 + 2)) = some (iv e.k) ∧ (∃ u, W.cell? (y.add (i * 4 + 3)) = some u ∧ Bs (fun k => k < W.heap.size) W u e.d) ∧ e.d.length ≤ 140737488355328 ∧ EOk e
set_option maxRecDepth 100000 in
theorem ent_in {cs : List Value} {x : DataW H × List MemPlace} {fuel : Nat} (hf : DataW.trod enc Tryd.prog W base sp held fuel 22 cs = some x) (hw : ∀ n ∈ x.1.weights Tryd.prog 22, n ≤ reachBytes) :
    ∃ (v : Value) (l : List Ent), cs = [v] ∧ l.length ≤ 140737488355328 ∧ (∀ e ∈ l, EOk e ∧ e.d.length ≤ 140737488355328) ∧ Es (fun k => k < W.heap.size) W v l := by
  rcases Deep.open_slice Tryd.underlying22 hf with ⟨hcs, _⟩ | ⟨y, len, cap, m, n, D, Pl, hcs, _, hl, hm, hmm, hx, hel⟩
  · exact ⟨_, [], hcs, by decide, (fun _ h => by cases h), Es.nil _ _⟩
  · have hlm : len ≤ m := by rw [hmm]; split <;> omega
    have hbd : len ≤ 140737488355328 := by
      have := hw ((((List.range len).map D).length + ((List.range (m - len)).map fun j => D (len + j)).length) * Tryd.prog.bytesOf 58) (by rw [hx]; simp [DataW.weights, Tryd.underlying22])
      rw [bytes58] at this
      simp at this
      unfold reachBytes at this
      omega
    have each : ∀ i, i < len → ∃ e : Ent, InE W y i e := by
      intro i hi
      obtain ⟨cs', h1, h2⟩ := hel i (by omega)
      have hwi : ∀ q ∈ (D i).weights Tryd.prog 58, q ≤ reachBytes := fun q hq => hw q (by
        rw [hx]
        simp only [DataW.weights, Tryd.underlying22, List.mem_cons, List.mem_append]
        exact .inr (.inl (weightsAll_mem (List.mem_map.2 ⟨i, List.mem_range.2 hi, rfl⟩) hq)))
      rw [cells58] at h1
      obtain ⟨xs, n', _, hD, hlen, hxl, hfs⟩ := DataW.trod_struct Tryd.underlying58 h2
      match xs, hxl with
      | [x0, x1, x2, x3], _ =>
        have hD : D i = .agg [x0.1, x1.1, x2.1, x3.1] := congrArg Prod.fst hD
        have hwj : ∀ (j : Nat) (t : TypeId) (d : DataW H), [3, 3, 3, 26][j]? = some t → [x0.1, x1.1, x2.1, x3.1][j]? = some d → ∀ q ∈ d.weights Tryd.prog t, q ≤ reachBytes := fun j t d ht hd q hq => hwi q (by
          rw [hD]
          simp only [DataW.weights, Tryd.underlying58]
          exact DataW.weights_mem_each ht hd q hq)
        have t0 : DataW.trod enc Tryd.prog W base sp held n' 3 ((cs'.drop 0).take (Tryd.prog.cellsOf 3)) = some x0 := hfs 0 _ rfl
        have t1 : DataW.trod enc Tryd.prog W base sp held n' 3 ((cs'.drop 1).take (Tryd.prog.cellsOf 3)) = some x1 := hfs 1 _ rfl
        have t2 : DataW.trod enc Tryd.prog W base sp held n' 3 ((cs'.drop 2).take (Tryd.prog.cellsOf 3)) = some x2 := hfs 2 _ rfl
        have t3 : DataW.trod enc Tryd.prog W base sp held n' 26 ((cs'.drop 3).take (Tryd.prog.cellsOf 26)) = some x3 := hfs 3 _ rfl
        rw [cells58] at hlen
        obtain ⟨_, _, hc⟩ := World.cells?_some h1
        simp only [cells3, cells26] at t0 t1 t2 t3
        match cs', hlen, t0, t1, t2, t3, hc with
        | [q0, q1, q2, q3], _, t0, t1, t2, t3, hc =>
          obtain ⟨n0, e0, _, b0⟩ := DataW.trod_int Tryd.underlying3 t0
          obtain ⟨n1, e1, _, b1⟩ := DataW.trod_int Tryd.underlying3 t1
          obtain ⟨n2, e2, _, b2⟩ := DataW.trod_int Tryd.underlying3 t2
          obtain ⟨v, zs, e3, hll, hib, hbs⟩ := by_in t3 (hwj 3 26 x3.1 rfl rfl)
          simp at e0 e1 e2 e3
          subst e0 e1 e2 e3
          have g0 := hc 0 (by omega)
          have g1 := hc 1 (by omega)
          have g2 := hc 2 (by omega)
          have g3 := hc 3 (by omega)
          rw [Deep.add_add] at g0 g1 g2 g3
          exact ⟨⟨n0, n1, n2, zs⟩, by simpa using g0, by simpa using g1, by simpa using g2, ⟨q3, by simpa using g3, hbs⟩, hll, ⟨bounds_i64 b0, bounds_i64 b1, bounds_i64 b2, hib⟩⟩
    haveI : Inhabited Ent := ⟨⟨0, 0, 0, []⟩⟩
    obtain ⟨f, hfn⟩ := Deep.choose_lt (α := Ent) (p := fun i c => InE W y i c) each
    refine ⟨_, (List.range len).map f, hcs, by simpa using hbd, fun e he => ?_, some y, cap, by simp, by simpa using hl, hm, fun i e hi => ?_⟩
    · obtain ⟨i, hi, rfl⟩ := List.mem_map.1 he
      obtain ⟨_, _, _, _, h5, h6⟩ := hfn i (List.mem_range.1 hi)
      exact ⟨h6, h5⟩
    · obtain ⟨hi', rfl⟩ := getElem?_mapRange hi
      obtain ⟨g0, g1, g2, ⟨u, g3, g4⟩, _, _⟩ := hfn i hi'
      obtain ⟨b, off, rfl, hbl⟩ := add_blk (by have := (hfn 0 (by omega)).1; rwa [Nat.zero_mul] at this)
      rw [Addr.add_lit] at g0 g1 g2 g3
      exact ⟨b, off, rfl, hbl, g0, g1, g2, u, g3, g4⟩
/-- A message that came in. -/
theorem msg_in {cs : List Value} {x : DataW H × List MemPlace} {fuel : Nat} (hsz : cs.length = 15)
    (h : DataW.trod enc Tryd.prog W base sp held fuel 28 cs = some x) (hw : ∀ n ∈ x.1.weights Tryd.prog 28, n ≤ reachBytes) :
    ∃ (m : Md) (ve vv vd : Value), cs = (mrow m ve vv vd).toList ∧ Ms (fun k => k < W.heap.size) W ve vv vd m ∧ Big m ∧ MOk m := by
  match cs, hsz with
  | [c0, c1, c2, c3, c4, c5, c6, c7, c8, c9, c10, c11, c12, c13, c14], _ =>
    obtain ⟨xs, n, _, hD, _, hlen, hf⟩ := DataW.trod_struct Tryd.underlying28 h
    match xs, hlen with
    | [x0, x1, x2, x3, x4, x5, x6, x7, x8, x9, x10, x11, x12], _ =>
      have hD : x.1 = .agg [x0.1, x1.1, x2.1, x3.1, x4.1, x5.1, x6.1, x7.1, x8.1, x9.1, x10.1, x11.1, x12.1] := by rw [hD]; rfl
      have hwj : ∀ (j : Nat) (t : TypeId) (d : DataW H), [3, 3, 3, 3, 3, 3, 22, 3, 3, 4, 3, 25, 26][j]? = some t → [x0.1, x1.1, x2.1, x3.1, x4.1, x5.1, x6.1, x7.1, x8.1, x9.1, x10.1, x11.1, x12.1][j]? = some d → ∀ q ∈ d.weights Tryd.prog t, q ≤ reachBytes := fun j t d ht hd q hq => hw q (by
        rw [hD]
        simp only [DataW.weights, Tryd.underlying28]
        exact DataW.weights_mem_each ht hd q hq)
      have f0 : DataW.trod enc Tryd.prog W base sp held n 3 (([c0, c1, c2, c3, c4, c5, c6, c7, c8, c9, c10, c11, c12, c13, c14].drop 0).take (Tryd.prog.cellsOf 3)) = some x0 := hf 0 _ rfl
      have f1 : DataW.trod enc Tryd.prog W base sp held n 3 (([c0, c1, c2, c3, c4, c5, c6, c7, c8, c9, c10, c11, c12, c13, c14].drop 1).take (Tryd.prog.cellsOf 3)) = some x1 := hf 1 _ rfl
      have f2 : DataW.trod enc Tryd.prog W base sp held n 3 (([c0, c1, c2, c3, c4, c5, c6, c7, c8, c9, c10, c11, c12, c13, c14].drop 2).take (Tryd.prog.cellsOf 3)) = some x2 := hf 2 _ rfl
      have f3 : DataW.trod enc Tryd.prog W base sp held n 3 (([c0, c1, c2, c3, c4, c5, c6, c7, c8, c9, c10, c11, c12, c13, c14].drop 3).take (Tryd.prog.cellsOf 3)) = some x3 := hf 3 _ rfl
      have f4 : DataW.trod enc Tryd.prog W base sp held n 3 (([c0, c1, c2, c3, c4, c5, c6, c7, c8, c9, c10, c11, c12, c13, c14].drop 4).take (Tryd.prog.cellsOf 3)) = some x4 := hf 4 _ rfl
      have f5 : DataW.trod enc Tryd.prog W base sp held n 3 (([c0, c1, c2, c3, c4, c5, c6, c7, c8, c9, c10, c11, c12, c13, c14].drop 5).take (Tryd.prog.cellsOf 3)) = some x5 := hf 5 _ rfl
      have f6 : DataW.trod enc Tryd.prog W base sp held n 22 (([c0, c1, c2, c3, c4, c5, c6, c7, c8, c9, c10, c11, c12, c13, c14].drop 6).take (Tryd.prog.cellsOf 22)) = some x6 := hf 6 _ rfl
      have f7 : DataW.trod enc Tryd.prog W base sp held n 3 (([c0, c1, c2, c3, c4, c5, c6, c7, c8, c9, c10, c11, c12, c13, c14].drop 7).take (Tryd.prog.cellsOf 3)) = some x7 := hf 7 _ rfl
      have f8 : DataW.trod enc Tryd.prog W base sp held n 3 (([c0, c1, c2, c3, c4, c5, c6, c7, c8, c9, c10, c11, c12, c13, c14].drop 8).take (Tryd.prog.cellsOf 3)) = some x8 := hf 8 _ rfl
      have f9 : DataW.trod enc Tryd.prog W base sp held n 4 (([c0, c1, c2, c3, c4, c5, c6, c7, c8, c9, c10, c11, c12, c13, c14].drop 9).take (Tryd.prog.cellsOf 4)) = some x9 := hf 9 _ rfl
      have f10 : DataW.trod enc Tryd.prog W base sp held n 3 (([c0, c1, c2, c3, c4, c5, c6, c7, c8, c9, c10, c11, c12, c13, c14].drop 10).take (Tryd.prog.cellsOf 3)) = some x10 := hf 10 _ rfl
      have f11 : DataW.trod enc Tryd.prog W base sp held n 25 (([c0, c1, c2, c3, c4, c5, c6, c7, c8, c9, c10, c11, c12, c13, c14].drop 11).take (Tryd.prog.cellsOf 25)) = some x11 := hf 11 _ rfl
      have f12 : DataW.trod enc Tryd.prog W base sp held n 26 (([c0, c1, c2, c3, c4, c5, c6, c7, c8, c9, c10, c11, c12, c13, c14].drop 14).take (Tryd.prog.cellsOf 26)) = some x12 := hf 12 _ rfl
      simp only [cells3, cells4, cells22, cells25, cells26, List.drop_zero, List.drop_succ_cons, List.take_succ_cons, List.take_zero] at f0 f1 f2 f3 f4 f5 f6 f7 f8 f9 f10 f11 f12
      obtain ⟨ys, n2, _, hE, _, hyl, hg⟩ := DataW.trod_struct Tryd.underlying25 f11
      match ys, hyl with
      | [y0, y1, y2], _ =>
        have hE : x11.1 = .agg [y0.1, y1.1, y2.1] := by rw [hE]; rfl
        have hwk : ∀ (j : Nat) (t : TypeId) (d : DataW H), [3, 3, 23][j]? = some t → [y0.1, y1.1, y2.1][j]? = some d → ∀ q ∈ d.weights Tryd.prog t, q ≤ reachBytes := fun j t d ht hd q hq => hwj 11 25 x11.1 rfl rfl q (by
          rw [hE]
          simp only [DataW.weights, Tryd.underlying25]
          exact DataW.weights_mem_each ht hd q hq)
        have g0 : DataW.trod enc Tryd.prog W base sp held n2 3 (([c11, c12, c13].drop 0).take (Tryd.prog.cellsOf 3)) = some y0 := hg 0 _ rfl
        have g1 : DataW.trod enc Tryd.prog W base sp held n2 3 (([c11, c12, c13].drop 1).take (Tryd.prog.cellsOf 3)) = some y1 := hg 1 _ rfl
        have g2 : DataW.trod enc Tryd.prog W base sp held n2 23 (([c11, c12, c13].drop 2).take (Tryd.prog.cellsOf 23)) = some y2 := hg 2 _ rfl
        simp only [cells3, cells23, List.drop_zero, List.drop_succ_cons, List.take_succ_cons, List.take_zero] at g0 g1 g2
        obtain ⟨a0, e0, _, b0⟩ := DataW.trod_int Tryd.underlying3 f0
        obtain ⟨a1, e1, _, b1⟩ := DataW.trod_int Tryd.underlying3 f1
        obtain ⟨a2, e2, _, b2⟩ := DataW.trod_int Tryd.underlying3 f2
        obtain ⟨a3, e3, _, b3⟩ := DataW.trod_int Tryd.underlying3 f3
        obtain ⟨a4, e4, _, b4⟩ := DataW.trod_int Tryd.underlying3 f4
        obtain ⟨a5, e5, _, b5⟩ := DataW.trod_int Tryd.underlying3 f5
        obtain ⟨ve, l, e6, hel, hee, hes⟩ := ent_in f6 (hwj 6 22 x6.1 rfl rfl)
        obtain ⟨a7, e7, _, b7⟩ := DataW.trod_int Tryd.underlying3 f7
        obtain ⟨a8, e8, _, b8⟩ := DataW.trod_int Tryd.underlying3 f8
        obtain ⟨a9, e9, _⟩ := DataW.trod_bool Tryd.underlying4 f9
        obtain ⟨a10, e10, _, b10⟩ := DataW.trod_int Tryd.underlying3 f10
        obtain ⟨a11, e11, _, b11⟩ := DataW.trod_int Tryd.underlying3 g0
        obtain ⟨a12, e12, _, b12⟩ := DataW.trod_int Tryd.underlying3 g1
        obtain ⟨vv, vs, e13, hvl, hvi, hvs⟩ := int_in g2 (hwk 2 23 y2.1 rfl rfl)
        obtain ⟨vd, zs, e14, hdl, hdb, hds⟩ := by_in f12 (hwj 12 26 x12.1 rfl rfl)
        simp at e0 e1 e2 e3 e4 e5 e6 e7 e8 e9 e10 e11 e12 e13 e14
        subst e0 e1 e2 e3 e4 e5 e6 e7 e8 e9 e10 e11 e12 e13 e14
        refine ⟨⟨a0, a1, a2, a3, a4, a5, l, a7, a8, a9, a10, a11, a12, vs, zs⟩, _, _, _, rfl, ⟨hes, hvs, hds⟩, ⟨hel, hvl, hdl, fun e he => (hee e he).2⟩, ⟨?_, fun e he => (hee e he).1, hvi, hdb⟩⟩
        intro z hz
        simp only [List.mem_cons, List.not_mem_nil, or_false] at hz
        rcases hz with rfl | rfl | rfl | rfl | rfl | rfl | rfl | rfl | rfl | rfl | rfl
        · exact bounds_i64 b0
        · exact bounds_i64 b1
        · exact bounds_i64 b2
        · exact bounds_i64 b3
        · exact bounds_i64 b4
        · exact bounds_i64 b5
        · exact bounds_i64 b7
        · exact bounds_i64 b8
        · exact bounds_i64 b10
        · exact bounds_i64 b11
        · exact bounds_i64 b12
end
end Go.Proofs.YtamgoknoapcnjaaDoor
