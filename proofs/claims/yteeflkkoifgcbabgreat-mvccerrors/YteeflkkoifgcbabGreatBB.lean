/- Rows as lists: an element put in, some taken out. -/
import Derived.Test.YteeflkkoifgcbabGreatRW
import Derived.Lib.AppendZerosOnto
import Derived.Lib.Overlaps
import Derived.Lib.SliceRun
import Derived.Laws.MakeOwn
import Derived.Test.YteeflkkoifgcbabGreatA1
namespace Go.Proofs.YteeflkkoifgcbabGreat
theorem row_ins {α : Type} (cur ys : List α) (a b s : Nat) (hy : ys.length = s) (hab : a ≤ b) (hl : b + s ≤ cur.length) (c1 : List α) (hc : c1 = cur.take (a + s) ++ (cur.take b).drop a ++ cur.drop (a + s + ((cur.take b).drop a).length)) :
    (c1.take a ++ ys ++ c1.drop (a + s)).take (b + s) = (cur.take b).take a ++ ys ++ (cur.take b).drop a ∧ (c1.take a ++ ys ++ c1.drop (a + s)).length = cur.length := by
  have hd : ((cur.take b).drop a).length = b - a := by simp; omega
  have h1 : c1.take a = cur.take a := by
    rw [hc, List.append_assoc, List.take_append_of_le_length (by simp; omega), List.take_take]; congr 1; omega
  have h2 : c1.drop (a + s) = (cur.take b).drop a ++ cur.drop (b + s) := by
    rw [hc, List.append_assoc, List.drop_append_of_le_length (by simp; omega), List.drop_eq_nil_of_le (by simp; omega), List.nil_append, hd, show a + s + (b - a) = b + s by omega]
  have h3 : (cur.take b).take a = cur.take a := by rw [List.take_take]; congr 1; omega
  rw [h1, h2, h3]
  constructor
  · rw [← List.append_assoc, List.take_append_of_le_length (by simp; omega), List.take_of_length_le (by simp; omega)]
  · simp; omega
/-- A row that grew: what stood ahead, the new one, what stood behind. -/
theorem row_grow {α : Type} (cur ys z : List α) (a b s : Nat) (hy : ys.length = s) (hab : a ≤ b) (hl : b ≤ cur.length) (hz : b + s ≤ z.length) (hza : z.take a = cur.take a) (c1 : List α) (hc : c1 = z.take a ++ ys ++ z.drop (a + ys.length)) :
    (c1.take (a + s) ++ (cur.take b).drop a ++ c1.drop (a + s + ((cur.take b).drop a).length)).take (b + s) = (cur.take b).take a ++ ys ++ (cur.take b).drop a ∧
    (c1.take (a + s) ++ (cur.take b).drop a ++ c1.drop (a + s + ((cur.take b).drop a).length)).length = z.length := by
  have hd : ((cur.take b).drop a).length = b - a := by simp; omega
  have h1 : c1.take (a + s) = cur.take a ++ ys := by
    rw [hc, hza, List.take_append_of_le_length (by simp; omega), List.take_of_length_le (by simp; omega)]
  have h3 : (cur.take b).take a = cur.take a := by rw [List.take_take]; congr 1; omega
  have h4 : c1.length = z.length := by rw [hc]; simp; omega
  rw [h1, h3]
  constructor
  · rw [List.take_append_of_le_length (by simp; omega), List.take_of_length_le (by simp; omega)]
  · simp; omega
/-- Elements from a to b taken out, the end cleared. -/
theorem row_del {α : Type} (cur zs : List α) (a b n c : Nat) (hab : a ≤ b) (hbn : b ≤ n) (hl : n ≤ cur.length) (c1 : List α) (hc : c1 = cur.take a ++ (cur.take n).drop b ++ cur.drop (a + ((cur.take n).drop b).length)) (hz : zs.length = b - a) (hcc : c = a + (n - b)) :
    (c1.take c ++ zs ++ c1.drop (c + zs.length)).take c = (cur.take n).take a ++ (cur.take n).drop b ∧ (c1.take c ++ zs ++ c1.drop (c + zs.length)).length = cur.length := by
  have hd : ((cur.take n).drop b).length = n - b := by simp; omega
  have h3 : (cur.take n).take a = cur.take a := by rw [List.take_take]; congr 1; omega
  have h1 : c1.take c = cur.take a ++ (cur.take n).drop b := by
    rw [hc, List.take_append_of_le_length (by simp; omega), List.take_of_length_le (by simp; omega)]
  have h4 : c1.length = cur.length := by rw [hc]; simp; omega
  rw [h1, h3]
  constructor
  · rw [List.append_assoc, List.take_append_of_le_length (by simp; omega), List.take_of_length_le (by simp; omega)]
  · simp; omega
end Go.Proofs.YteeflkkoifgcbabGreat
/- Rows of elements of several cells: copy, clear, cut: what becomes of the row. Laws of no program. -/
namespace Go.Proofs.YteeflkkoifgcbabGreat
open Go Go.RowKit
section
variable {P : Program}
theorem run_copyS (w : World) (dT sT ty e et : TypeId) (i : TypeInfo) (ht : P.underlying dT = some (.slice e)) (hi : P.info? e = some i) (g o dLen dCap : Nat) (cur : Array Value) (hg : w.heap[g]? = some (.cells cur et (0, 0)))
    (a : Addr) (sLen sCap : Nat) (news : List Value) (hn : news.length = min sLen dLen * i.size) (hsrc : ∀ j v, news[j]? = some v → w.cell? (a.add j) = some v) (hfit : o + news.length ≤ cur.size) (h1 : ∀ v ∈ news, v.oneCell' = true) :
    (Builtin.copy_ #[dT, sT] ty #[.slice (some ⟨g, o, none⟩) dLen dCap, .slice (some a) sLen sCap]).run P w = .ok (goInt (Nat.min sLen dLen : Nat)) (w.setRow g (cur.toList.take o ++ news ++ cur.toList.drop (o + news.length)).toArray) := by
  have hl := run_loadCells_list (P := P) w a news hsrc
  have hst := run_storeCells_at P g o et news 0 cur w hg (by rw [Nat.add_zero]; exact hfit) h1
  rw [hn] at hl
  simp only [Nat.add_zero] at hst
  have hmin : Nat.min sLen dLen = min sLen dLen := rfl
  simp [Builtin.copy_, run_underlying ht, Builtin.lenOf, Builtin.firstCells, sizeOf, typeInfo, hi, hmin, hl, hst]
theorem run_copyS_none (w : World) (dT sT ty e : TypeId) (i : TypeInfo) (ht : P.underlying dT = some (.slice e)) (hi : P.info? e = some i) (d : Option Addr) (dLen dCap : Nat) (a : Addr) (sLen sCap : Nat) (hn : min sLen dLen = 0) :
    (Builtin.copy_ #[dT, sT] ty #[.slice d dLen dCap, .slice (some a) sLen sCap]).run P w = .ok (goInt 0) w := by
  have hl := run_loadCells_list (P := P) w a [] (fun j v h => by simp at h)
  have hmin : Nat.min sLen dLen = 0 := hn
  cases d <;> simp [Builtin.copy_, run_underlying ht, Builtin.lenOf, Builtin.firstCells, sizeOf, typeInfo, hi, hmin] <;> simp at hl <;> simp [hl, storeCells]
/-- What clear does to the end of a row. -/
theorem run_clearS (w : World) (t ty e et : TypeId) (i : TypeInfo) (z : Value) (ht : P.underlying t = some (.slice e)) (hi : P.info? e = some i) (hz : i.zero = some z) (g o n c : Nat) (cur : Array Value) (hg : w.heap[g]? = some (.cells cur et (0, 0)))
    (hfit : o + n * z.cells.size ≤ cur.size) (h1 : ∀ v ∈ (Builtin.zeroCells z.cells n).toList, v.oneCell' = true) :
    ∃ zs : List Value, zs.length = n * z.cells.size ∧ (Builtin.clear_ #[t] ty #[.slice (some ⟨g, o, none⟩) n c]).run P w = .ok (.tuple #[]) (if n = 0 then w else w.setRow g (cur.toList.take o ++ zs ++ cur.toList.drop (o + n * z.cells.size)).toArray) := by
  refine ⟨(Builtin.zeroCells z.cells n).toList, by simp [Builtin.zeroCells], ?_⟩
  have hzl : (Builtin.zeroCells z.cells n).toList.length = n * z.cells.size := by simp [Builtin.zeroCells]
  have hst := run_storeCells_at P g o et (Builtin.zeroCells z.cells n).toList 0 cur w hg (by rw [hzl, Nat.add_zero]; exact hfit) h1
  simp only [Nat.add_zero, hzl] at hst
  cases n with
  | zero => simp [Builtin.clear_, run_underlying ht]
  | succ n => simp [Builtin.clear_, run_underlying ht, zeroValue, typeInfo, hi, hz, hst]
theorem wp_copy_run (w : World) {o : Oper} {a : Act} {K : Act → World → Prop} {Q : Exit → Act → World → Prop} (d s : Operand) (t t' : TypeId)
    (ho : o.op = .call { callee := .builtin .copy, args := #[d, s], argTypes := #[t, t'] }) (v u : Value) (hd : a.eval d = v) (hs : a.eval s = u) {v' : Value} {w' : World}
    (hr : (Builtin.copy_ #[t, t'] o.type #[v, u]).run P w = .ok v' w') (h : K (a.put o.dst v') w') : o.wp P a w K Q := by
  unfold Oper.wp execOp
  simp only [ho, resolve, invoke, builtin, Sem.run_bind, Sem.run_pure, Result.andThen_ok, List.map_toArray, List.map_cons, List.map_nil, hd, hs, hr]
  exact h
theorem wpList_copy_run (w : World) {ops : Array Oper} {rest : List Oper} {o : Oper} {a : Act} {Q : Exit → Act → World → Prop} (hgd : o.guard = none) (d s : Operand) (t t' : TypeId)
    (ho : o.op = .call { callee := .builtin .copy, args := #[d, s], argTypes := #[t, t'] }) (v u : Value) (hd : a.eval d = v) (hs : a.eval s = u) {v' : Value} {w' : World}
    (hr : (Builtin.copy_ #[t, t'] o.type #[v, u]).run P w = .ok v' w') (h : wpList P ops Q rest (a.put o.dst v') w') : wpList P ops Q (o :: rest) a w :=
  wpList_plain hgd fun _ hK => wp_copy_run w d s t t' ho v u hd hs hr (hK _ _ h)
theorem step_copy_run {ops : Array Oper} {o : Oper} {a : Act} {w : World} {K : Act → World → Prop} {Q : Exit → Act → World → Prop} {E : Prop}
    (hg : o.guard = none) (d x : Operand) (dT sT : TypeId) (hop : o.op = Op.call { callee := Callee.builtin Builtin.copy, args := #[d, x], argTypes := #[dT, sT] })
    (v u : Value) (hd : a.eval d = v) (hx : a.eval x = u) {v' : Value} {w' : World} (hr : (Builtin.copy_ #[dT, sT] o.type #[v, u]).run P w = .ok v' w') (hK : K (a.put o.dst v') w') :
    if Region.wanted o (yielded ops a.tmps) = true then Oper.wp P o a w K Q else E := by
  have hw : Region.wanted o (yielded ops a.tmps) = true := by simp [Region.wanted, hg]
  rw [if_pos hw]
  exact wp_copy_run w d x dT sT hop v u hd hx hr hK
theorem step_append_run {ops : Array Oper} {o : Oper} {a : Act} {w : World} {K : Act → World → Prop} {Q : Exit → Act → World → Prop} {E : Prop}
    (hg : o.guard = none) (d x : Operand) (dT sT : TypeId) (hop : o.op = Op.call { callee := Callee.builtin Builtin.append, args := #[d, x], argTypes := #[dT, sT] })
    (v u : Value) (hd : a.eval d = v) (hx : a.eval x = u) {v' : Value} {w' : World} (hr : (Builtin.append_ #[dT, sT] o.type #[v, u]).run P w = .ok v' w') (hK : K (a.put o.dst v') w') :
    if Region.wanted o (yielded ops a.tmps) = true then Oper.wp P o a w K Q else E := by
  have hw : Region.wanted o (yielded ops a.tmps) = true := by simp [Region.wanted, hg]
  rw [if_pos hw]
  unfold Oper.wp execOp
  simp only [hop, resolve, invoke, builtin, Sem.run_bind, Sem.run_pure, Result.andThen_ok, List.map_toArray, List.map_cons, List.map_nil, hd, hx, hr]
  exact hK
theorem wpList_clear_run (w : World) {ops : Array Oper} {rest : List Oper} {o : Oper} {a : Act} {Q : Exit → Act → World → Prop} (hgd : o.guard = none) (d : Operand) (t : TypeId)
    (ho : o.op = .call { callee := .builtin .clear, args := #[d], argTypes := #[t] }) (v : Value) (hd : a.eval d = v) {v' : Value} {w' : World}
    (hr : (Builtin.clear_ #[t] o.type #[v]).run P w = .ok v' w') (h : wpList P ops Q rest (a.put o.dst v') w') : wpList P ops Q (o :: rest) a w :=
  wpList_plain hgd fun _ hK => by
    unfold Oper.wp execOp
    simp only [ho, resolve, invoke, builtin, Sem.run_bind, Sem.run_pure, Result.andThen_ok, List.map_toArray, List.map_cons, List.map_nil, hd, hr]
    exact hK _ _ h
end
/-- A row that lies in a block, whole, is owned. -/
theorem owns_of_row {w : World} {g : Nat} {e : TypeId} {s n c : Nat} {cur : Array Value} {xs : List Value} (hg : w.heap[g]? = some (.cells cur e (0, 0))) (hnc : n ≤ c) (hc : c ≤ maxLen) (hs : cur.size = c * s) (ht : cur.toList.take (n * s) = xs) (hx : xs.length = n * s) :
    w.ownsRow 0 e s (.slice (some ⟨g, 0, none⟩) n c) n xs := ⟨hx, .inr ⟨g, c, cur, rfl, Nat.zero_le _, hg, hnc, hc, hs, ht⟩⟩
theorem upd_setRow (w : World) (g : Nat) (cs : Array Value) (S : Nat → Prop) (h : S g) : Upd w (w.setRow g cs) S :=
  ⟨rfl, rfl, rfl, by simp, fun k _ hk => setRow_other w g k _ (fun e => hk (e ▸ h))⟩
end Go.Proofs.YteeflkkoifgcbabGreat
/- fresh: a copy of a row. -/
namespace Go.Proofs.YteeflkkoifgcbabGreat
open Go Go.RowKit

theorem info66 : (Tryz.prog.info? 97).map (fun i => (i.zero, i.size, i.bytes)) = some (some (.agg #[.string ⟨#[]⟩, .slice none 0 0]), 2, 40) := by kernel_rfl

set_option maxRecDepth 100000 in
set_option maxHeartbeats 1000000 in
/-- fresh: a copy, without spare room. -/
theorem freshI (g off n c : Nat) (xs : List Value) (w : World) (hn : n ≤ 1000000) (h0 : 0 < n) (hx : xs.length = n * 2) (hc : ∀ j v, xs[j]? = some v → w.cell? ⟨g, off + j, none⟩ = some v) (h1 : ∀ u ∈ xs, u.oneCell' = true) :
    Calls Tryz.prog 89 #[.slice (some ⟨g, off, none⟩) n c] w fun e w' => e = .returned (.slice (some ⟨w.heap.size, 0, none⟩) n n) ∧ w'.heap[w.heap.size]? = some (.cells xs.toArray 97 (0, 0)) ∧ w'.heap.size = w.heap.size + 1 ∧ Below w.heap.size w w' := by
  obtain ⟨i0, hi, hz0, hz1, hz2⟩ := info_parts info66
  have hg : g < w.heap.size := World.block_lt_of_cell? _ _ (hc 0 _ (List.getElem?_eq_getElem (by omega)))
  obtain ⟨ROW, hRS, hmk⟩ : ∃ ROW : Array Value, ROW.size = n * 2 ∧ (Instr.makeSlice 122 (.int .i64 n) (.int .i64 n)).run Tryz.prog w = .ok (.slice (some ⟨w.heap.size, 0, none⟩) n n) (w.alloc (.cells ROW 97)) := by
    have := run_make (P := Tryz.prog) w 122 97 i0 _ Tryz.underlying122 hi hz0 .i64 .i64 n n (by omega) (by omega) (by rw [hz2]; omega) (by omega)
    simp only [Int.toNat_natCast] at this
    exact ⟨_, by rw [size_madeCells, hz1], this⟩
  have hgn : (w.alloc (.cells ROW 97)).heap[w.heap.size]? = some (.cells ROW 97 (0, 0)) := heap_alloc_new w _
  have hcp : ∀ ty, (Builtin.copy_ #[122, 122] ty #[.slice (some ⟨w.heap.size, 0, none⟩) n n, .slice (some ⟨g, off, none⟩) n c]).run Tryz.prog (w.alloc (.cells ROW 97)) = .ok (goInt (Nat.min n n : Nat)) ((w.alloc (.cells ROW 97)).setRow w.heap.size xs.toArray) := fun ty => by
    have := run_copyS (P := Tryz.prog) (w.alloc (.cells ROW 97)) 122 122 ty 97 97 i0 Tryz.underlying122 hi w.heap.size 0 n n ROW hgn ⟨g, off, none⟩ n c xs (by rw [hx, hz1, Nat.min_self]) (fun j v hj => by
      rw [Addr.add_lit]
      exact ((Below.refl _ w).alloc (Nat.le_refl _) _ |>.cell (p := ⟨g, off + j, none⟩) hg).trans (hc j v hj)) (by omega) h1
    rw [List.take_zero, List.drop_eq_nil_of_le (by simp; omega), List.nil_append, List.append_nil] at this
    exact this
  clear hc
  go_enter Tryz.func89, Tryz.ntmps89
  go_wp2_with (at_builtin; refine wpList_copy_run _ rfl _ _ 122 122 rfl _ _ rfl rfl (hcp _) ?_)
  go_ret
  refine ⟨rfl, setRow_heap _ _ _ _ _ _ hgn, by simp, ?_⟩
  exact ((Below.refl _ w).alloc (Nat.le_refl _) _).trans (upd_setRow _ _ _ (fun k => k = w.heap.size) rfl |>.below (by simp) (fun k hk => by omega))
end Go.Proofs.YteeflkkoifgcbabGreat
/- Insert: an element put into a row. -/
namespace Go.Proofs.YteeflkkoifgcbabGreat
open Go Go.RowKit


theorem size66 : ∀ w, (Go.sizeOf 97).run Tryz.prog w = .ok 2 w := fun w => by
  obtain ⟨i0, hi, hz0, hz1, hz2⟩ := info_parts info66
  simp [Go.sizeOf, typeInfo, hi, hz1]
theorem row_cellsI {w : World} {g : Nat} {cur : Array Value} (hg : w.heap[g]? = some (.cells cur 97 (0, 0))) (j : Nat) (v : Value) (h : cur.toList[j]? = some v) : w.cell? ⟨g, j, none⟩ = some v := by
  simp only [World.cell?, hg]; simpa using h
set_option maxRecDepth 100000 in
set_option maxHeartbeats 2000000 in
/-- Insert: there is room, within the row. -/
theorem insI_room (g n c i vb : Nat) (cur : Array Value) (ys : List Value) (w : World) (hg : w.heap[g]? = some (.cells cur 97 (0, 0))) (hi : i < n) (hroom : n + 1 ≤ c) (_hc63 : c ≤ 9223372036854775807) (hcs : cur.size = c * 2) (hn : n ≤ 1000)
    (hvb : w.heap[vb]? = some (.cells ys.toArray 97 (0, 0))) (hyl : ys.length = 2) (hne : vb ≠ g) (h1 : ∀ u ∈ cur.toList.take (n * 2), u.oneCell' = true) (h1y : ∀ u ∈ ys, u.oneCell' = true) :
    Calls Tryz.prog 88 #[.slice (some ⟨g, 0, none⟩) n c, .int .i64 i, .slice (some ⟨vb, 0, none⟩) 1 1] w fun e w' => e = .returned (.slice (some ⟨g, 0, none⟩) (n + 1) c) ∧
      ∃ cur' : Array Value, w'.heap[g]? = some (.cells cur' 97 (0, 0)) ∧ cur'.size = cur.size ∧ cur'.toList.take ((n + 1) * 2) = (cur.toList.take (n * 2)).take (i * 2) ++ ys ++ (cur.toList.take (n * 2)).drop (i * 2) ∧ Upd w w' (fun k => k = g) ∧ w'.heap.size = w.heap.size := by
  obtain ⟨ti, hti, hz0, hz1, hz2⟩ := info_parts info66
  have hz3 : ¬ ((i : Int) = (n : Int)) := by omega
  have hov : ∀ lb cb, (callFunc 94 #[.slice (some ⟨vb, 0, none⟩) 1 1, .slice (some ⟨g, (i + 1) * 2, none⟩) lb cb]).run Tryz.prog w = .ok (.value (.bool false)) w := fun lb cb => by
    rw [run_callFunc_extern Tryz.func94 (by kernel_rfl) (by kernel_rfl) (by kernel_rfl) (e := Extern.SlicesOverlaps.overlaps #[122, 122] #[4]) (by kernel_rfl),
      Lib.run_overlaps_apart w 122 4 97 Tryz.underlying122 2 size66 ⟨vb, 0, none⟩ ⟨g, (i + 1) * 2, none⟩ 1 1 lb cb hne 97 97 2 cur.size (by simp [World.shape?, hvb, hyl]) (by simp [World.shape?, hg]) (by omega) (by simp [World.frozen?, hvb]) (by simp [World.frozen?, hvb])]
    rfl
  obtain ⟨L, hL⟩ : ∃ L, L = cur.toList := ⟨_, rfl⟩
  have hLl : L.length = c * 2 := by rw [hL]; simpa using hcs
  have hdl : ((L.take (n * 2)).drop (i * 2)).length = (n - i) * 2 := by rw [List.length_drop, List.length_take, hLl]; omega
  obtain ⟨c1, hc1⟩ : ∃ c1, c1 = L.take (i * 2 + 2) ++ (L.take (n * 2)).drop (i * 2) ++ L.drop (i * 2 + 2 + ((L.take (n * 2)).drop (i * 2)).length) := ⟨_, rfl⟩
  obtain ⟨r1, r2⟩ := row_ins L ys (i * 2) (n * 2) 2 hyl (by omega) (by omega) c1 hc1
  have hc1l : c1.length = L.length := by rw [hc1]; simp [hLl]; omega
  set_option maxRecDepth 10000 in
  have hcp1 : ∀ ty dc sc, (Builtin.copy_ #[122, 122] ty #[.slice (some ⟨g, (i + 1) * 2, none⟩) (n - i) dc, .slice (some ⟨g, i * 2, none⟩) (n + 1 - i) sc]).run Tryz.prog w.drew = .ok (goInt (Nat.min (n + 1 - i) (n - i) : Nat)) (w.drew.setRow g c1.toArray) := fun ty dc sc => by
    have := run_copyS (P := Tryz.prog) w.drew 122 122 ty 97 97 ti Tryz.underlying122 hti g (i * 2 + 2) (n - i) dc cur hg ⟨g, i * 2, none⟩ (n + 1 - i) sc ((L.take (n * 2)).drop (i * 2)) (by rw [hdl, hz1, Nat.min_def]; split <;> congr 1 <;> omega) (fun j v hj => by
      rw [Addr.add_lit]
      refine row_cellsI (w := w.drew) hg _ v ?_
      rw [List.getElem?_drop, List.getElem?_take] at hj
      split at hj
      · rw [← hL]; exact hj
      · cases hj) (by rw [hdl, hcs]; omega) (fun v hv => h1 v (by rw [← hL]; exact List.mem_of_mem_drop hv))
    rw [← hL, ← hc1] at this
    simpa [Nat.add_mul] using this
  obtain ⟨W1, hW1⟩ : ∃ W1, W1 = w.drew.setRow g c1.toArray := ⟨_, rfl⟩
  have hg1 : W1.heap[g]? = some (.cells c1.toArray 97 (0, 0)) := by rw [hW1]; exact setRow_heap w.drew g cur _ 97 _ hg
  have hv1 : W1.heap[vb]? = some (.cells ys.toArray 97 (0, 0)) := by rw [hW1, setRow_other w.drew g vb _ hne]; exact hvb
  have hcp2 : ∀ ty dc, (Builtin.copy_ #[122, 122] ty #[.slice (some ⟨g, i * 2, none⟩) (n + 1 - i) dc, .slice (some ⟨vb, 0, none⟩) 1 1]).run Tryz.prog W1 = .ok (goInt (Nat.min 1 (n + 1 - i) : Nat)) (W1.setRow g (c1.take (i * 2) ++ ys ++ c1.drop (i * 2 + 2)).toArray) := fun ty dc => by
    have := run_copyS (P := Tryz.prog) W1 122 122 ty 97 97 ti Tryz.underlying122 hti g (i * 2) (n + 1 - i) dc c1.toArray hg1 ⟨vb, 0, none⟩ 1 1 ys (by rw [hyl, hz1, Nat.min_def]; split <;> omega) (fun j v hj => by
      rw [Addr.add_lit, Nat.zero_add]
      exact row_cellsI hv1 _ v (by simpa using hj)) (by simp [hc1l, hLl, hyl]; omega) h1y
    rw [hyl] at this
    simpa using this
  have HF : Hid (∀ w' : World, w' = W1.setRow g (c1.take (i * 2) ++ ys ++ c1.drop (i * 2 + 2)).toArray → ∃ cur' : Array Value, w'.heap[g]? = some (.cells cur' 97 (0, 0)) ∧ cur'.size = cur.size ∧ cur'.toList.take ((n + 1) * 2) = (cur.toList.take (n * 2)).take (i * 2) ++ ys ++ (cur.toList.take (n * 2)).drop (i * 2) ∧ Upd w w' (fun k => k = g) ∧ w'.heap.size = w.heap.size) := fun w' hw' => by
    subst hw'
    refine ⟨_, setRow_heap W1 g _ _ 97 _ hg1, ?_, ?_, ?_, ?_⟩
    · simp only [List.size_toArray, r2]; rw [hL]; simp
    · rw [← hL, Nat.add_mul, Nat.one_mul]; exact r1
    · have u1 : Upd w W1 (fun k => k = g) := by rw [hW1]; exact (Upd.refl w _).drew.trans (upd_setRow w.drew g _ (fun k => k = g) rfl) (fun _ _ h => h)
      exact u1.trans (upd_setRow W1 g _ (fun k => k = g) rfl) (fun _ _ h => h)
    · rw [hW1]; simp
  rw [← hW1] at hcp1
  clear hL hLl hdl hc1 r1 r2 hc1l hg1 hv1 hW1 h1 h1y
  have hw1 : IntKind.i64.wrap ((i : Int) + 1) = (i : Int) + 1 := by rw [IntKind.wrap_i64]; omega
  have hb1 : (0 : Int) ≤ (i : Int) + 1 := by omega
  have hin : i ≤ n := by omega
  have htn : ((i : Int) + 1).toNat = i + 1 := by omega
  have hb2 : ¬ (c = i + 1) := by omega
  have hb3 : (i : Int) ≤ (n : Int) + 1 := by omega
  have hb4 : ¬ (c = i) := by omega
  go_enter Tryz.func88, Tryz.ntmps88
  go_wp2_with (simp only [hov])
  go_region_law (refine step_copy_run rfl _ _ 122 122 rfl _ _ (by simp [Act.eval, Act.put]) (by simp [Act.eval, Act.put]) (hcp1 _ _ _) ?_)
  go_wp2_with (at_builtin; refine wpList_copy_run _ rfl _ _ 122 122 rfl _ _ rfl rfl (hcp2 _ _) ?_)
  go_ret
  exact ⟨rfl, HF.out _ (by simp [List.append_assoc])⟩

set_option maxRecDepth 100000 in
set_option maxHeartbeats 2000000 in
/-- Insert at the end of a row. -/
theorem insI_end (v : Value) (n vb : Nat) (xs ys : List Value) (w : World) (hown : w.ownsRow 0 97 2 v n xs) (hn : n ≤ 1000)
    (hvb : w.heap[vb]? = some (.cells ys.toArray 97 (0, 0))) (hyl : ys.length = 2) (h1y : ∀ u ∈ ys, u.oneCell' = true) :
    Calls Tryz.prog 88 #[v, .int .i64 n, .slice (some ⟨vb, 0, none⟩) 1 1] w fun e w' => ∃ v', e = .returned v' ∧ w'.ownsRow 0 97 2 v' (n + 1) (xs ++ ys) ∧ Upd w w' (fun k => some k = v.ownBlock) ∧ (v'.ownBlock = v.ownBlock ∨ v'.ownBlock = some w.heap.size) := by
  obtain ⟨ti, hti, hz0, hz1, hz2⟩ := info_parts info66
  have hsrc : Src Tryz.prog 2 122 (.slice (some ⟨vb, 0, none⟩) 1 1) 1 ys w := Src.ofSlice w Tryz.underlying122 ⟨vb, 0, none⟩ 1 1 ys (by omega) (fun j u hj => by
    rw [Addr.add_lit, Nat.zero_add]
    exact row_cellsI hvb _ u (by simpa using hj)) h1y
  have HO : Hid (w.ownsRow 0 97 2 v n xs) := hown
  obtain ⟨p, c, hf, hnc, hcm⟩ : ∃ p c, v = .slice p n c ∧ n ≤ c ∧ c ≤ 9223372036854775807 := by
    rcases hown.2 with ⟨rfl, rfl⟩ | ⟨g, cap, cur, rfl, _, _, h1, h2, _⟩
    · exact ⟨_, _, rfl, Nat.le_refl _, by omega⟩
    · refine ⟨_, _, rfl, h1, ?_⟩
      unfold maxLen at h2; omega
  subst hf
  clear hown h1y hvb
  cases p with
  | none =>
    go_enter Tryz.func88, Tryz.ntmps88
    go_wp2_with (at_builtin; refine wpList_appS _ rfl _ _ 122 122 rfl 0 97 ti _ 2 Tryz.underlying122 hti hz0 hz1 rfl (by rw [hz2]; omega) _ n xs rfl HO.out _ rfl 1 ys hsrc (by omega) (Nat.zero_le _) ?_; intro v' w' q1 q2 q3 q4)
    all_goals
      go_ret
      exact ⟨_, rfl, q1, q2, q3⟩
  | some a =>
    obtain ⟨ab, ao, asp⟩ := a
    go_enter Tryz.func88, Tryz.ntmps88
    go_wp2_with (at_builtin; refine wpList_appS _ rfl _ _ 122 122 rfl 0 97 ti _ 2 Tryz.underlying122 hti hz0 hz1 rfl (by rw [hz2]; omega) _ n xs rfl HO.out _ rfl 1 ys hsrc (by omega) (Nat.zero_le _) ?_; intro v' w' q1 q2 q3 q4)
    all_goals
      go_ret
      exact ⟨_, rfl, q1, q2, q3⟩
set_option maxRecDepth 100000 in
set_option maxHeartbeats 2000000 in
/-- Insert within a row that has no room. -/
theorem insI_grow (g n i vb : Nat) (cur : Array Value) (ys : List Value) (w : World) (hg : w.heap[g]? = some (.cells cur 97 (0, 0))) (hi : i < n) (hcs : cur.size = n * 2) (hn : n ≤ 1000)
    (hvb : w.heap[vb]? = some (.cells ys.toArray 97 (0, 0))) (hyl : ys.length = 2) (h1 : ∀ u ∈ cur.toList, u.oneCell' = true) (h1y : ∀ u ∈ ys, u.oneCell' = true) :
    Calls Tryz.prog 88 #[.slice (some ⟨g, 0, none⟩) n n, .int .i64 i, .slice (some ⟨vb, 0, none⟩) 1 1] w fun e w' => ∃ v', e = .returned v' ∧ w'.ownsRow 0 97 2 v' (n + 1) (cur.toList.take (i * 2) ++ ys ++ cur.toList.drop (i * 2)) ∧ Upd w w' (fun _ => False) ∧ v'.ownBlock = some w.heap.size := by
  obtain ⟨ti, hti, hz0, hz1, hz2⟩ := info_parts info66
  have hz3 : ¬ ((i : Int) = (n : Int)) := by omega
  have hgw : g < w.heap.size := (Array.getElem?_eq_some_iff.1 hg).1
  have hvw : vb < w.heap.size := (Array.getElem?_eq_some_iff.1 hvb).1
  obtain ⟨L, hL⟩ : ∃ L, L = cur.toList := ⟨_, rfl⟩
  have hLl : L.length = n * 2 := by rw [hL]; simpa using hcs
  have hold : (Builtin.firstCells ti.size i (.slice (some ⟨g, 0, none⟩) i n)).run Tryz.prog w.drew = .ok (L.take (i * 2)).toArray w.drew := by
    rw [hz1]
    refine run_firstCells_some w.drew 2 i ⟨g, 0, none⟩ i n (L.take (i * 2)) (by simp [hLl]; omega) (fun j v hj => ?_)
    rw [Addr.add_lit, Nat.zero_add]
    rw [List.getElem?_take] at hj
    split at hj
    · exact row_cellsI (w := w.drew) hg _ v (by rw [← hL]; exact hj)
    · cases hj
  have hkk : (n : Int) + 1 - (i : Int) = ((n + 1 - i : Nat) : Int) := by omega
  obtain ⟨G, hG⟩ : ∃ G, G = grownCap w (n + 1) n 97 := ⟨_, rfl⟩
  have hGn : n + 1 ≤ G := by rw [hG]; exact grownCap_ge w _ _ _
  have hGm : G ≤ maxLen := by rw [hG]; exact grownCap_le_maxLen w (n + 1) n 97 (by unfold maxLen; omega)
  have hG63 : G ≤ 9223372036854775807 := by unfold maxLen at hGm; omega
  obtain ⟨ROW, hROW, hRS, hRT⟩ : ∃ ROW : Array Value, (∀ ty, (Builtin.append_ #[122, 3] ty #[.slice (some ⟨g, 0, none⟩) i n, .int .i64 ((n : Int) + 1 - (i : Int))]).run Tryz.prog w = .ok (.slice (some ⟨w.heap.size, 0, none⟩) (n + 1) G) (w.drew.alloc (.cells ROW 97))) ∧ ROW.size = G * 2 ∧ ROW.toList.take (i * 2) = L.take (i * 2) := by
    have hik : i + (n + 1 - i) = n + 1 := by omega
    have h := fun ty => Lib.run_append_grow_zeros w 122 3 ty 97 ti _ .i64 .i64 Tryz.underlying122 Tryz.underlying3 hti hz0 (some ⟨g, 0, none⟩) i n (L.take (i * 2)) hold (n + 1 - i) (by omega) (by omega) (by omega) (by omega) (by rw [hz2]; omega) (by rw [hz2, hik]; exact growslice_fits (by omega) (by omega))
    rw [hik, ← hG] at h
    refine ⟨_, fun ty => by rw [hkk]; exact h ty, ?_, ?_⟩
    · simp [Builtin.zeroCells, Value.cells, hLl]; omega
    · rw [Array.toList_append, Array.toList_append, List.append_assoc, List.take_append_of_le_length (by simp [hLl]; omega)]
      show (L.take (i * 2)).take (i * 2) = L.take (i * 2)
      rw [List.take_take, Nat.min_self]
  have hdl : ((L.take (n * 2)).drop (i * 2)).length = (n - i) * 2 := by rw [List.length_drop, List.length_take, hLl]; omega
  have hLt : L.take (n * 2) = L := List.take_of_length_le (by omega)
  obtain ⟨c1, hc1⟩ : ∃ c1, c1 = ROW.toList.take (i * 2) ++ ys ++ ROW.toList.drop (i * 2 + ys.length) := ⟨_, rfl⟩
  obtain ⟨r1, r2⟩ := row_grow L ys ROW.toList (i * 2) (n * 2) 2 hyl (by omega) (by omega) (by simp [hRS]; omega) hRT c1 hc1
  have hc1l : c1.length = G * 2 := by rw [hc1]; simp [hRS, hyl]; omega
  obtain ⟨W1, hW1⟩ : ∃ W1, W1 = w.drew.alloc (.cells ROW 97) := ⟨_, rfl⟩
  have hb1 : Below w.heap.size w W1 := by rw [hW1]; exact ((Below.refl w.heap.size w).drew).alloc (Nat.le_refl _) _
  have hg1 : W1.heap[w.heap.size]? = some (.cells ROW 97 (0, 0)) := by rw [hW1]; exact heap_alloc_new w.drew _
  have hv1 : W1.heap[vb]? = some (.cells ys.toArray 97 (0, 0)) := (hb1.block vb hvw).trans hvb
  have hcpA : ∀ ty dc, (Builtin.copy_ #[122, 122] ty #[.slice (some ⟨w.heap.size, i * 2, none⟩) (n + 1 - i) dc, .slice (some ⟨vb, 0, none⟩) 1 1]).run Tryz.prog W1 = .ok (goInt (Nat.min 1 (n + 1 - i) : Nat)) (W1.setRow w.heap.size c1.toArray) := fun ty dc => by
    have := run_copyS (P := Tryz.prog) W1 122 122 ty 97 97 ti Tryz.underlying122 hti w.heap.size (i * 2) (n + 1 - i) dc ROW hg1 ⟨vb, 0, none⟩ 1 1 ys (by rw [hyl, hz1, Nat.min_def]; split <;> omega) (fun j v hj => by
      rw [Addr.add_lit, Nat.zero_add]
      exact row_cellsI hv1 _ v (by simpa using hj)) (by rw [hRS, hyl]; omega) h1y
    rw [← hc1] at this
    simpa using this
  obtain ⟨W2, hW2⟩ : ∃ W2, W2 = W1.setRow w.heap.size c1.toArray := ⟨_, rfl⟩
  have hg2 : W2.heap[w.heap.size]? = some (.cells c1.toArray 97 (0, 0)) := by rw [hW2]; exact setRow_heap W1 _ _ _ 97 _ hg1
  have hgg : W2.heap[g]? = some (.cells cur 97 (0, 0)) := by rw [hW2, setRow_other W1 _ g _ (by omega)]; exact (hb1.block g hgw).trans hg
  have hcpB : ∀ ty dc sc, (Builtin.copy_ #[122, 122] ty #[.slice (some ⟨w.heap.size, (i + 1) * 2, none⟩) (n - i) dc, .slice (some ⟨g, i * 2, none⟩) (n - i) sc]).run Tryz.prog W2.drew = .ok (goInt (Nat.min (n - i) (n - i) : Nat)) (W2.drew.setRow w.heap.size (c1.take (i * 2 + 2) ++ (L.take (n * 2)).drop (i * 2) ++ c1.drop (i * 2 + 2 + ((L.take (n * 2)).drop (i * 2)).length)).toArray) := fun ty dc sc => by
    have := run_copyS (P := Tryz.prog) W2.drew 122 122 ty 97 97 ti Tryz.underlying122 hti w.heap.size (i * 2 + 2) (n - i) dc c1.toArray hg2 ⟨g, i * 2, none⟩ (n - i) sc ((L.take (n * 2)).drop (i * 2)) (by rw [hdl, hz1, Nat.min_self]) (fun j v hj => by
      rw [Addr.add_lit]
      refine row_cellsI (w := W2.drew) hgg _ v ?_
      rw [List.getElem?_drop, hLt] at hj
      rw [← hL]; exact hj) (by rw [hdl]; simp [hc1l]; omega) (fun v hv => h1 v (by rw [← hL]; exact List.mem_of_mem_take (List.mem_of_mem_drop hv)))
    simpa [Nat.add_mul] using this
  have HF : Hid (∀ w' : World, w' = W2.drew.setRow w.heap.size (c1.take (i * 2 + 2) ++ (L.take (n * 2)).drop (i * 2) ++ c1.drop (i * 2 + 2 + ((L.take (n * 2)).drop (i * 2)).length)).toArray → w'.ownsRow 0 97 2 (.slice (some ⟨w.heap.size, 0, none⟩) (n + 1) G) (n + 1) (cur.toList.take (i * 2) ++ ys ++ cur.toList.drop (i * 2)) ∧ Upd w w' (fun _ => False)) := fun w' hw' => by
    subst hw'
    refine ⟨owns_of_row (setRow_heap W2.drew _ _ _ 97 _ hg2) hGn hGm ?_ ?_ ?_, ?_⟩
    · rw [List.size_toArray, r2]; simp [hRS]
    · rw [← hL, Nat.add_mul, Nat.one_mul, r1, hLt]
    · rw [← hL]; simp [hLl, hyl]; omega
    · have u2 : Upd w W2 (fun k => k = w.heap.size) := by rw [hW2]; exact (Upd.ofBelow hb1).trans (upd_setRow W1 _ _ (fun k => k = w.heap.size) rfl) (fun _ _ h => h)
      have u3 := u2.drew.trans (upd_setRow W2.drew w.heap.size (c1.take (i * 2 + 2) ++ (L.take (n * 2)).drop (i * 2) ++ c1.drop (i * 2 + 2 + ((L.take (n * 2)).drop (i * 2)).length)).toArray (fun k => k = w.heap.size) rfl) (fun _ _ h => h)
      exact u3.mono (fun k hk e => by omega)
  rw [← hW1] at hROW
  rw [← hW2] at hcpA
  clear hL hLl hdl hc1 r1 r2 hc1l hg1 hv1 hW1 hW2 hg2 hgg h1 h1y hold hLt hRT hRS hG hGm hkk hb1
  have hw1 : IntKind.i64.wrap ((i : Int) + 1) = (i : Int) + 1 := by rw [IntKind.wrap_i64]; omega
  have hb1 : (0 : Int) ≤ (i : Int) + 1 := by omega
  have hin : i ≤ n := by omega
  have htn : ((i : Int) + 1).toNat = i + 1 := by omega
  have hb2 : ¬ (G = i + 1) := by omega
  have hb3 : (i : Int) ≤ (n : Int) := by omega
  have hb4 : ¬ (n = i) := by omega
  have hb5 : ¬ (G = i) := by omega
  have hb6 : (n : Int) < (n : Int) + 1 := by omega
  go_enter Tryz.func88, Tryz.ntmps88
  go_wp2_with (first
    | (at_builtin; refine Lib.wpList_append_run _ rfl _ _ _ _ rfl _ _ rfl rfl _ _ (hROW _) ?_)
    | (at_builtin; refine wpList_copy_run _ rfl _ _ 122 122 rfl _ _ rfl rfl (hcpA _ _) ?_))
  go_region_law (refine step_copy_run rfl _ _ 122 122 rfl _ _ (by simp [Act.eval, Act.put]) (by simp [Act.eval, Act.put]) (hcpB _ _ _) ?_)
  go_wp2
  go_ret
  exact ⟨_, rfl, (HF.out _ (by simp [List.append_assoc])).1, (HF.out _ (by simp [List.append_assoc])).2, rfl⟩
/-- Insert, whatever room there is. -/
theorem insI_any (v : Value) (n i vb : Nat) (xs ys : List Value) (w : World) (hown : w.ownsRow 0 97 2 v n xs) (hi : i ≤ n) (hn : n ≤ 1000)
    (hvb : w.heap[vb]? = some (.cells ys.toArray 97 (0, 0))) (hyl : ys.length = 2) (hne : v.ownBlock ≠ some vb) (h1 : ∀ u ∈ xs, u.oneCell' = true) (h1y : ∀ u ∈ ys, u.oneCell' = true) :
    Calls Tryz.prog 88 #[v, .int .i64 i, .slice (some ⟨vb, 0, none⟩) 1 1] w fun e w' => ∃ v', e = .returned v' ∧ w'.ownsRow 0 97 2 v' (n + 1) (xs.take (i * 2) ++ ys ++ xs.drop (i * 2)) ∧ Upd w w' (fun k => some k = v.ownBlock) ∧ (v'.ownBlock = v.ownBlock ∨ v'.ownBlock = some w.heap.size) := by
  have hxl := hown.1
  by_cases hin : i = n
  · subst hin
    rw [List.take_of_length_le (by omega), List.drop_eq_nil_of_le (by omega), List.append_nil]
    exact insI_end v i vb xs ys w hown hn hvb hyl h1y
  · rcases hown.2 with ⟨rfl, rfl⟩ | ⟨g, cap, cur, rfl, _, hg, hnc, hcm, hcs, htake⟩
    · omega
    · by_cases hroom : n + 1 ≤ cap
      · refine (insI_room g n cap i vb cur ys w hg (by omega) hroom (by unfold maxLen at hcm; omega) hcs hn hvb hyl (fun e => hne (by rw [e]; rfl)) (by rw [htake]; exact h1) h1y).mono ?_
        rintro e w' ⟨rfl, cur', hg', hs', ht', hu, _⟩
        rw [htake] at ht'
        exact ⟨_, rfl, owns_of_row hg' hroom hcm (by rw [hs', hcs]) ht' (by simp [hxl, hyl]; omega), hu.mono (fun k _ e => by rw [e]; rfl), .inl rfl⟩
      · obtain rfl : cap = n := by omega
        have hct : cur.toList = xs := by rw [← htake, List.take_of_length_le (by simp [hcs])]
        refine (insI_grow g cap i vb cur ys w hg (by omega) hcs hn hvb hyl (by rw [hct]; exact h1) h1y).mono ?_
        rintro e w' ⟨v', rfl, ho, hu, hb⟩
        rw [hct] at ho
        exact ⟨_, rfl, ho, hu.mono (fun _ _ h => h.elim), .inr hb⟩
end Go.Proofs.YteeflkkoifgcbabGreat
/- Delete: elements taken out of a row. -/
namespace Go.Proofs.YteeflkkoifgcbabGreat
open Go Go.RowKit


set_option maxRecDepth 100000 in
set_option maxHeartbeats 2000000 in
/-- Delete: elements taken out of a row. -/
theorem delI_row (g n c i j : Nat) (cur : Array Value) (w : World) (hg : w.heap[g]? = some (.cells cur 97 (0, 0))) (hij : i < j) (hj : j ≤ n) (hnc : n ≤ c) (hcm : c ≤ maxLen) (hcs : cur.size = c * 2) (hn : n ≤ 1000) (h1 : ∀ u ∈ cur.toList.take (n * 2), u.oneCell' = true) :
    Calls Tryz.prog 76 #[.slice (some ⟨g, 0, none⟩) n c, .int .i64 i, .int .i64 j] w fun e w' => e = .returned (.slice (some ⟨g, 0, none⟩) (i + (n - j)) c) ∧
      w'.ownsRow 0 97 2 (.slice (some ⟨g, 0, none⟩) (i + (n - j)) c) (i + (n - j)) ((cur.toList.take (n * 2)).take (i * 2) ++ (cur.toList.take (n * 2)).drop (j * 2)) ∧ Upd w w' (fun k => k = g) ∧ w'.heap.size = w.heap.size := by
  obtain ⟨ti, hti, hz0, hz1, hz2⟩ := info_parts info66
  have hc63 : c ≤ 9223372036854775807 := by unfold maxLen at hcm; omega
  obtain ⟨L, hL⟩ : ∃ L, L = cur.toList := ⟨_, rfl⟩
  rw [← hL] at h1 ⊢
  have hLl : L.length = c * 2 := by rw [hL]; simpa using hcs
  have hdl : ((L.take (n * 2)).drop (j * 2)).length = (n - j) * 2 := by rw [List.length_drop, List.length_take, hLl]; omega
  obtain ⟨c1, hc1⟩ : ∃ c1, c1 = L.take (i * 2) ++ (L.take (n * 2)).drop (j * 2) ++ L.drop (i * 2 + ((L.take (n * 2)).drop (j * 2)).length) := ⟨_, rfl⟩
  have hc1l : c1.length = L.length := by rw [hc1, List.length_append, List.length_append, hdl, List.length_take, List.length_drop, hLl]; omega
  have hsrc : ∀ (a : Addr) (sc : Nat), (a = ⟨g, j * 2, none⟩ ∨ n - j = 0) → Src Tryz.prog 2 122 (.slice (some a) (n - j) sc) (n - j) ((L.take (n * 2)).drop (j * 2)) w.drew := fun a sc ha => Src.ofSlice w.drew Tryz.underlying122 a (n - j) sc _ hdl (fun k u hk => by
    rcases ha with rfl | ha
    · rw [Addr.add_lit]
      refine row_cellsI (w := w.drew) hg _ u ?_
      rw [List.getElem?_drop, List.getElem?_take] at hk
      split at hk
      · rw [← hL]; simpa using hk
      · cases hk
    · rw [ha] at hdl
      have hnil := List.eq_nil_of_length_eq_zero (show ((L.take (n * 2)).drop (j * 2)).length = 0 by omega)
      rw [hnil] at hk
      simp at hk) (fun v hv => h1 v (List.mem_of_mem_drop hv))
  have hap : ∀ ty (a : Addr) (sc : Nat), (a = ⟨g, j * 2, none⟩ ∨ n - j = 0) → (Builtin.append_ #[122, 122] ty #[.slice (some ⟨g, 0, none⟩) i c, .slice (some a) (n - j) sc]).run Tryz.prog w.drew = .ok (.slice (some ⟨g, 0, none⟩) (i + (n - j)) c) (w.drew.setRow g c1.toArray) := fun ty a sc ha => by
    have := run_appS_room (P := Tryz.prog) w.drew 122 122 ty 97 ti Tryz.underlying122 hti g i c cur hg _ (n - j) _ (by rw [hz1]; exact hsrc a sc ha) (by omega) (by rw [hz1, hcs]; omega)
    rw [hz1, ← hL] at this
    rw [this, hc1, hdl]
  obtain ⟨W1, hW1⟩ : ∃ W1, W1 = w.drew.setRow g c1.toArray := ⟨_, rfl⟩
  have hg1 : W1.heap[g]? = some (.cells c1.toArray 97 (0, 0)) := by rw [hW1]; exact setRow_heap w.drew g cur _ 97 _ hg
  obtain ⟨zs, hzl, hcl⟩ := run_clearS (P := Tryz.prog) W1 122 0 97 97 ti _ Tryz.underlying122 hti hz0 g ((i + (n - j)) * 2) (j - i) (c - (i + (n - j))) c1.toArray hg1 (by show _ + (j - i) * 2 ≤ _; simp [hc1l, hLl]; omega) (fun v hv => by
    simp only [Builtin.zeroCells, Array.toList_map, List.mem_map] at hv
    obtain ⟨k, _, rfl⟩ := hv
    have hk : k % 2 < 2 := Nat.mod_lt _ (by decide)
    show ((Value.cells (.agg #[.string ⟨#[]⟩, .slice none 0 0]))[k % 2]!).oneCell' = true
    rcases (show k % 2 = 0 ∨ k % 2 = 1 by omega) with h | h <;> rw [h] <;> rfl)
  have hzl' : zs.length = (j - i) * 2 := hzl
  rw [if_neg (by omega)] at hcl
  obtain ⟨r1, r2⟩ := row_del L zs (i * 2) (j * 2) (n * 2) ((i + (n - j)) * 2) (by omega) (by omega) (by omega) c1 hc1 (by omega) (by omega)
  have hcl' : ∀ ty k, k = c - (i + (n - j)) → (Builtin.clear_ #[122] ty #[.slice (some ⟨g, (i + (n - j)) * 2, none⟩) (j - i) k]).run Tryz.prog W1 = .ok (.tuple #[]) (W1.setRow g (c1.take ((i + (n - j)) * 2) ++ zs ++ c1.drop ((i + (n - j)) * 2 + zs.length)).toArray) := fun ty k hk => by
    subst hk
    rw [hzl']
    exact hcl
  have HF : Hid (∀ w' : World, w' = W1.setRow g (c1.take ((i + (n - j)) * 2) ++ zs ++ c1.drop ((i + (n - j)) * 2 + zs.length)).toArray →
      w'.ownsRow 0 97 2 (.slice (some ⟨g, 0, none⟩) (i + (n - j)) c) (i + (n - j)) ((L.take (n * 2)).take (i * 2) ++ (L.take (n * 2)).drop (j * 2)) ∧ Upd w w' (fun k => k = g) ∧ w'.heap.size = w.heap.size) := fun w' hw' => by
    subst hw'
    refine ⟨owns_of_row (setRow_heap W1 g _ _ 97 _ hg1) (by omega) hcm ?_ r1 ?_, ?_, ?_⟩
    · rw [List.size_toArray, r2, hLl]
    · rw [List.length_append, hdl, List.length_take, List.length_take, hLl]; omega
    · have u1 : Upd w W1 (fun k => k = g) := by rw [hW1]; exact (Upd.refl w _).drew.trans (upd_setRow w.drew g _ (fun k => k = g) rfl) (fun _ _ h => h)
      exact u1.trans (upd_setRow W1 g _ (fun k => k = g) rfl) (fun _ _ h => h)
    · rw [hW1]; simp
  rw [← hW1] at hap
  have hq1 : IntKind.i64.wrap ((i : Int) - (j : Int)) = (i : Int) - (j : Int) := by rw [IntKind.wrap_i64]; omega
  have hq2 : ¬ ((i : Int) = (j : Int)) := by omega
  have hq3 : (j : Int) ≤ (n : Int) := by omega
  have hq4 : (i : Int) ≤ (j : Int) := by omega
  have hq5 : (i : Int) ≤ (n : Int) := by omega
  have hq6 : (j : Int) ≤ (c : Int) := by omega
  have hq7 : (n : Int) ≤ (c : Int) := by omega
  have hq8 : (i : Int) ≤ (c : Int) := by omega
  have hq9 : n - (i + (n - j)) = j - i := by omega
  clear hL hLl hdl hc1 r1 r2 hc1l hg1 hW1 h1 hcl hzl hzl' hsrc
  have hqa : ¬ (c = i) := by omega
  have hqb : ¬ (c = i + (n - j)) := by omega
  have hqc : ¬ (n = i) := by omega
  have hqd : (0 : Int) ≤ (i : Int) + ((n - j : Nat) : Int) := by omega
  have hqe : i + (n - j) ≤ n := by omega
  by_cases hcj : c = j
  · have hjn : n - j = 0 := by omega
    have hap' := fun ty => hap ty ⟨g, 0, none⟩ 0 (.inr hjn)
    rw [hjn] at hap' hcl' HF hqb hqd hqe hq9 ⊢
    simp only [Nat.add_zero] at hap' hcl' HF hqb hqe hq9 ⊢
    subst hcj
    clear hap
    go_enter Tryz.func76, Tryz.ntmps76
    go_wp2
    go_region_law (refine step_append_run rfl _ _ 122 122 rfl _ _ (by simp [Act.eval, Act.put]; first | done | rfl) (by simp [Act.eval, Act.put]; first | done | rfl) (hap' _) ?_)
    go_wp2_with (at_builtin; refine wpList_clear_run _ rfl _ 122 rfl _ rfl (hcl' _ _ (by omega)) ?_)
    go_ret
    exact ⟨rfl, HF.out _ (by simp)⟩
  · have hap' := fun ty => hap ty ⟨g, j * 2, none⟩ (c - j) (.inl rfl)
    clear hap
    go_enter Tryz.func76, Tryz.ntmps76
    go_wp2
    go_region_law (refine step_append_run rfl _ _ 122 122 rfl _ _ (by simp [Act.eval, Act.put]; first | done | rfl) (by simp [Act.eval, Act.put]; first | done | rfl) (hap' _) ?_)
    go_wp2_with (at_builtin; refine wpList_clear_run _ rfl _ 122 rfl _ rfl (hcl' _ _ (by omega)) ?_)
    go_ret
    exact ⟨rfl, HF.out _ (by simp)⟩
/-- Delete, of a row that is owned. -/
theorem delI_any (v : Value) (n i j : Nat) (xs : List Value) (w : World) (hown : w.ownsRow 0 97 2 v n xs) (hij : i < j) (hj : j ≤ n) (hn : n ≤ 1000) (h1 : ∀ u ∈ xs, u.oneCell' = true) :
    Calls Tryz.prog 76 #[v, .int .i64 i, .int .i64 j] w fun e w' => ∃ v', e = .returned v' ∧ w'.ownsRow 0 97 2 v' (i + (n - j)) (xs.take (i * 2) ++ xs.drop (j * 2)) ∧ Upd w w' (fun k => some k = v.ownBlock) ∧ v'.ownBlock = v.ownBlock ∧ w'.heap.size = w.heap.size := by
  rcases hown.2 with ⟨rfl, rfl⟩ | ⟨g, cap, cur, rfl, _, hg, hnc, hcm, hcs, htake⟩
  · omega
  · refine (delI_row g n cap i j cur w hg hij hj hnc hcm hcs hn (by rw [htake]; exact h1)).mono ?_
    rintro e w' ⟨rfl, ho, hu, hz⟩
    rw [htake] at ho
    exact ⟨_, rfl, ho, hu.mono (fun k _ e => by rw [e]; rfl), rfl, hz⟩
end Go.Proofs.YteeflkkoifgcbabGreat
/- fresh: a copy of a row. -/
namespace Go.Proofs.YteeflkkoifgcbabGreat
open Go Go.RowKit

theorem info57 : (Tryz.prog.info? 78).map (fun i => (i.zero, i.size, i.bytes)) = some (some (.pointer none), 1, 8) := by kernel_rfl

set_option maxRecDepth 100000 in
set_option maxHeartbeats 1000000 in
/-- fresh: a copy, without spare room. -/
theorem freshK (g off n c : Nat) (xs : List Value) (w : World) (hn : n ≤ 1000000) (h0 : 0 < n) (hx : xs.length = n * 1) (hc : ∀ j v, xs[j]? = some v → w.cell? ⟨g, off + j, none⟩ = some v) (h1 : ∀ u ∈ xs, u.oneCell' = true) :
    Calls Tryz.prog 90 #[.slice (some ⟨g, off, none⟩) n c] w fun e w' => e = .returned (.slice (some ⟨w.heap.size, 0, none⟩) n n) ∧ w'.heap[w.heap.size]? = some (.cells xs.toArray 78 (0, 0)) ∧ w'.heap.size = w.heap.size + 1 ∧ Below w.heap.size w w' := by
  obtain ⟨i0, hi, hz0, hz1, hz2⟩ := info_parts info57
  have hg : g < w.heap.size := World.block_lt_of_cell? _ _ (hc 0 _ (List.getElem?_eq_getElem (by omega)))
  obtain ⟨ROW, hRS, hmk⟩ : ∃ ROW : Array Value, ROW.size = n * 1 ∧ (Instr.makeSlice 123 (.int .i64 n) (.int .i64 n)).run Tryz.prog w = .ok (.slice (some ⟨w.heap.size, 0, none⟩) n n) (w.alloc (.cells ROW 78)) := by
    have := run_make (P := Tryz.prog) w 123 78 i0 _ Tryz.underlying123 hi hz0 .i64 .i64 n n (by omega) (by omega) (by rw [hz2]; omega) (by omega)
    simp only [Int.toNat_natCast] at this
    exact ⟨_, by rw [size_madeCells, hz1], this⟩
  have hgn : (w.alloc (.cells ROW 78)).heap[w.heap.size]? = some (.cells ROW 78 (0, 0)) := heap_alloc_new w _
  have hcp : ∀ ty, (Builtin.copy_ #[123, 123] ty #[.slice (some ⟨w.heap.size, 0, none⟩) n n, .slice (some ⟨g, off, none⟩) n c]).run Tryz.prog (w.alloc (.cells ROW 78)) = .ok (goInt (Nat.min n n : Nat)) ((w.alloc (.cells ROW 78)).setRow w.heap.size xs.toArray) := fun ty => by
    have := run_copyS (P := Tryz.prog) (w.alloc (.cells ROW 78)) 123 123 ty 78 78 i0 Tryz.underlying123 hi w.heap.size 0 n n ROW hgn ⟨g, off, none⟩ n c xs (by rw [hx, hz1, Nat.min_self]) (fun j v hj => by
      rw [Addr.add_lit]
      exact ((Below.refl _ w).alloc (Nat.le_refl _) _ |>.cell (p := ⟨g, off + j, none⟩) hg).trans (hc j v hj)) (by omega) h1
    rw [List.take_zero, List.drop_eq_nil_of_le (by simp; omega), List.nil_append, List.append_nil] at this
    exact this
  clear hc
  go_enter Tryz.func90, Tryz.ntmps90
  go_wp2_with (at_builtin; refine wpList_copy_run _ rfl _ _ 123 123 rfl _ _ rfl rfl (hcp _) ?_)
  go_ret
  refine ⟨rfl, setRow_heap _ _ _ _ _ _ hgn, by simp, ?_⟩
  exact ((Below.refl _ w).alloc (Nat.le_refl _) _).trans (upd_setRow _ _ _ (fun k => k = w.heap.size) rfl |>.below (by simp) (fun k hk => by omega))
end Go.Proofs.YteeflkkoifgcbabGreat
/- Insert: an element put into a row. -/
namespace Go.Proofs.YteeflkkoifgcbabGreat
open Go Go.RowKit


theorem size57 : ∀ w, (Go.sizeOf 78).run Tryz.prog w = .ok 1 w := fun w => by
  obtain ⟨i0, hi, hz0, hz1, hz2⟩ := info_parts info57
  simp [Go.sizeOf, typeInfo, hi, hz1]
theorem row_cellsK {w : World} {g : Nat} {cur : Array Value} (hg : w.heap[g]? = some (.cells cur 78 (0, 0))) (j : Nat) (v : Value) (h : cur.toList[j]? = some v) : w.cell? ⟨g, j, none⟩ = some v := by
  simp only [World.cell?, hg]; simpa using h
set_option maxRecDepth 100000 in
set_option maxHeartbeats 2000000 in
/-- Insert: there is room, within the row. -/
theorem insK_room (g n c i vb : Nat) (cur : Array Value) (ys : List Value) (w : World) (hg : w.heap[g]? = some (.cells cur 78 (0, 0))) (hi : i < n) (hroom : n + 1 ≤ c) (_hc63 : c ≤ 9223372036854775807) (hcs : cur.size = c * 1) (hn : n ≤ 1000)
    (hvb : w.heap[vb]? = some (.cells ys.toArray 78 (0, 0))) (hyl : ys.length = 1) (hne : vb ≠ g) (h1 : ∀ u ∈ cur.toList.take (n * 1), u.oneCell' = true) (h1y : ∀ u ∈ ys, u.oneCell' = true) :
    Calls Tryz.prog 92 #[.slice (some ⟨g, 0, none⟩) n c, .int .i64 i, .slice (some ⟨vb, 0, none⟩) 1 1] w fun e w' => e = .returned (.slice (some ⟨g, 0, none⟩) (n + 1) c) ∧
      ∃ cur' : Array Value, w'.heap[g]? = some (.cells cur' 78 (0, 0)) ∧ cur'.size = cur.size ∧ cur'.toList.take ((n + 1) * 1) = (cur.toList.take (n * 1)).take (i * 1) ++ ys ++ (cur.toList.take (n * 1)).drop (i * 1) ∧ Upd w w' (fun k => k = g) ∧ w'.heap.size = w.heap.size := by
  obtain ⟨ti, hti, hz0, hz1, hz2⟩ := info_parts info57
  have hz3 : ¬ ((i : Int) = (n : Int)) := by omega
  have hov : ∀ lb cb, (callFunc 96 #[.slice (some ⟨vb, 0, none⟩) 1 1, .slice (some ⟨g, i + 1, none⟩) lb cb]).run Tryz.prog w = .ok (.value (.bool false)) w := fun lb cb => by
    rw [run_callFunc_extern Tryz.func96 (by kernel_rfl) (by kernel_rfl) (by kernel_rfl) (e := Extern.SlicesOverlaps.overlaps #[123, 123] #[4]) (by kernel_rfl),
      Lib.run_overlaps_apart w 123 4 78 Tryz.underlying123 1 size57 ⟨vb, 0, none⟩ ⟨g, i + 1, none⟩ 1 1 lb cb hne 78 78 1 cur.size (by simp [World.shape?, hvb, hyl]) (by simp [World.shape?, hg]) (by omega) (by simp [World.frozen?, hvb]) (by simp [World.frozen?, hvb])]
    rfl
  obtain ⟨L, hL⟩ : ∃ L, L = cur.toList := ⟨_, rfl⟩
  have hLl : L.length = c * 1 := by rw [hL]; simpa using hcs
  have hdl : ((L.take (n * 1)).drop (i * 1)).length = (n - i) * 1 := by rw [List.length_drop, List.length_take, hLl]; omega
  obtain ⟨c1, hc1⟩ : ∃ c1, c1 = L.take (i * 1 + 1) ++ (L.take (n * 1)).drop (i * 1) ++ L.drop (i * 1 + 1 + ((L.take (n * 1)).drop (i * 1)).length) := ⟨_, rfl⟩
  obtain ⟨r1, r2⟩ := row_ins L ys (i * 1) (n * 1) 1 hyl (by omega) (by omega) c1 hc1
  have hc1l : c1.length = L.length := by rw [hc1]; simp [hLl]; omega
  set_option maxRecDepth 10000 in
  have hcp1 : ∀ ty dc sc, (Builtin.copy_ #[123, 123] ty #[.slice (some ⟨g, i + 1, none⟩) (n - i) dc, .slice (some ⟨g, i, none⟩) (n + 1 - i) sc]).run Tryz.prog w.drew = .ok (goInt (Nat.min (n + 1 - i) (n - i) : Nat)) (w.drew.setRow g c1.toArray) := fun ty dc sc => by
    have := run_copyS (P := Tryz.prog) w.drew 123 123 ty 78 78 ti Tryz.underlying123 hti g (i * 1 + 1) (n - i) dc cur hg ⟨g, i * 1, none⟩ (n + 1 - i) sc ((L.take (n * 1)).drop (i * 1)) (by rw [hdl, hz1, Nat.min_def]; split <;> congr 1 <;> omega) (fun j v hj => by
      rw [Addr.add_lit]
      refine row_cellsK (w := w.drew) hg _ v ?_
      rw [List.getElem?_drop, List.getElem?_take] at hj
      split at hj
      · rw [← hL]; exact hj
      · cases hj) (by rw [hdl, hcs]; omega) (fun v hv => h1 v (by rw [← hL]; exact List.mem_of_mem_drop hv))
    rw [← hL, ← hc1] at this
    simpa [Nat.add_mul] using this
  obtain ⟨W1, hW1⟩ : ∃ W1, W1 = w.drew.setRow g c1.toArray := ⟨_, rfl⟩
  have hg1 : W1.heap[g]? = some (.cells c1.toArray 78 (0, 0)) := by rw [hW1]; exact setRow_heap w.drew g cur _ 78 _ hg
  have hv1 : W1.heap[vb]? = some (.cells ys.toArray 78 (0, 0)) := by rw [hW1, setRow_other w.drew g vb _ hne]; exact hvb
  have hcp2 : ∀ ty dc, (Builtin.copy_ #[123, 123] ty #[.slice (some ⟨g, i, none⟩) (n + 1 - i) dc, .slice (some ⟨vb, 0, none⟩) 1 1]).run Tryz.prog W1 = .ok (goInt (Nat.min 1 (n + 1 - i) : Nat)) (W1.setRow g (c1.take (i * 1) ++ ys ++ c1.drop (i * 1 + 1)).toArray) := fun ty dc => by
    have := run_copyS (P := Tryz.prog) W1 123 123 ty 78 78 ti Tryz.underlying123 hti g (i * 1) (n + 1 - i) dc c1.toArray hg1 ⟨vb, 0, none⟩ 1 1 ys (by rw [hyl, hz1, Nat.min_def]; split <;> omega) (fun j v hj => by
      rw [Addr.add_lit, Nat.zero_add]
      exact row_cellsK hv1 _ v (by simpa using hj)) (by simp [hc1l, hLl, hyl]; omega) h1y
    rw [hyl] at this
    simpa using this
  have HF : Hid (∀ w' : World, w' = W1.setRow g (c1.take (i * 1) ++ ys ++ c1.drop (i * 1 + 1)).toArray → ∃ cur' : Array Value, w'.heap[g]? = some (.cells cur' 78 (0, 0)) ∧ cur'.size = cur.size ∧ cur'.toList.take ((n + 1) * 1) = (cur.toList.take (n * 1)).take (i * 1) ++ ys ++ (cur.toList.take (n * 1)).drop (i * 1) ∧ Upd w w' (fun k => k = g) ∧ w'.heap.size = w.heap.size) := fun w' hw' => by
    subst hw'
    refine ⟨_, setRow_heap W1 g _ _ 78 _ hg1, ?_, ?_, ?_, ?_⟩
    · simp only [List.size_toArray, r2]; rw [hL]; simp
    · rw [← hL, Nat.add_mul, Nat.one_mul]; exact r1
    · have u1 : Upd w W1 (fun k => k = g) := by rw [hW1]; exact (Upd.refl w _).drew.trans (upd_setRow w.drew g _ (fun k => k = g) rfl) (fun _ _ h => h)
      exact u1.trans (upd_setRow W1 g _ (fun k => k = g) rfl) (fun _ _ h => h)
    · rw [hW1]; simp
  rw [← hW1] at hcp1
  clear hL hLl hdl hc1 r1 r2 hc1l hg1 hv1 hW1 h1 h1y
  have hw1 : IntKind.i64.wrap ((i : Int) + 1) = (i : Int) + 1 := by rw [IntKind.wrap_i64]; omega
  have hb1 : (0 : Int) ≤ (i : Int) + 1 := by omega
  have hin : i ≤ n := by omega
  have htn : ((i : Int) + 1).toNat = i + 1 := by omega
  have hb2 : ¬ (c = i + 1) := by omega
  have hb3 : (i : Int) ≤ (n : Int) + 1 := by omega
  have hb4 : ¬ (c = i) := by omega
  go_enter Tryz.func92, Tryz.ntmps92
  go_wp2_with (simp only [hov])
  go_region_law (refine step_copy_run rfl _ _ 123 123 rfl _ _ (by simp [Act.eval, Act.put]) (by simp [Act.eval, Act.put]) (hcp1 _ _ _) ?_)
  go_wp2_with (at_builtin; refine wpList_copy_run _ rfl _ _ 123 123 rfl _ _ rfl rfl (hcp2 _ _) ?_)
  go_ret
  exact ⟨rfl, HF.out _ (by simp [List.append_assoc])⟩

set_option maxRecDepth 100000 in
set_option maxHeartbeats 2000000 in
/-- Insert at the end of a row. -/
theorem insK_end (v : Value) (n vb : Nat) (xs ys : List Value) (w : World) (hown : w.ownsRow 0 78 1 v n xs) (hn : n ≤ 1000)
    (hvb : w.heap[vb]? = some (.cells ys.toArray 78 (0, 0))) (hyl : ys.length = 1) (h1y : ∀ u ∈ ys, u.oneCell' = true) :
    Calls Tryz.prog 92 #[v, .int .i64 n, .slice (some ⟨vb, 0, none⟩) 1 1] w fun e w' => ∃ v', e = .returned v' ∧ w'.ownsRow 0 78 1 v' (n + 1) (xs ++ ys) ∧ Upd w w' (fun k => some k = v.ownBlock) ∧ (v'.ownBlock = v.ownBlock ∨ v'.ownBlock = some w.heap.size) := by
  obtain ⟨ti, hti, hz0, hz1, hz2⟩ := info_parts info57
  have hsrc : Src Tryz.prog 1 123 (.slice (some ⟨vb, 0, none⟩) 1 1) 1 ys w := Src.ofSlice w Tryz.underlying123 ⟨vb, 0, none⟩ 1 1 ys (by omega) (fun j u hj => by
    rw [Addr.add_lit, Nat.zero_add]
    exact row_cellsK hvb _ u (by simpa using hj)) h1y
  have HO : Hid (w.ownsRow 0 78 1 v n xs) := hown
  obtain ⟨p, c, hf, hnc, hcm⟩ : ∃ p c, v = .slice p n c ∧ n ≤ c ∧ c ≤ 9223372036854775807 := by
    rcases hown.2 with ⟨rfl, rfl⟩ | ⟨g, cap, cur, rfl, _, _, h1, h2, _⟩
    · exact ⟨_, _, rfl, Nat.le_refl _, by omega⟩
    · refine ⟨_, _, rfl, h1, ?_⟩
      unfold maxLen at h2; omega
  subst hf
  clear hown h1y hvb
  cases p with
  | none =>
    go_enter Tryz.func92, Tryz.ntmps92
    go_wp2_with (at_builtin; refine wpList_appS _ rfl _ _ 123 123 rfl 0 78 ti _ 1 Tryz.underlying123 hti hz0 hz1 rfl (by rw [hz2]; omega) _ n xs rfl HO.out _ rfl 1 ys hsrc (by omega) (Nat.zero_le _) ?_; intro v' w' q1 q2 q3 q4)
    all_goals
      go_ret
      exact ⟨_, rfl, q1, q2, q3⟩
  | some a =>
    obtain ⟨ab, ao, asp⟩ := a
    go_enter Tryz.func92, Tryz.ntmps92
    go_wp2_with (at_builtin; refine wpList_appS _ rfl _ _ 123 123 rfl 0 78 ti _ 1 Tryz.underlying123 hti hz0 hz1 rfl (by rw [hz2]; omega) _ n xs rfl HO.out _ rfl 1 ys hsrc (by omega) (Nat.zero_le _) ?_; intro v' w' q1 q2 q3 q4)
    all_goals
      go_ret
      exact ⟨_, rfl, q1, q2, q3⟩
set_option maxRecDepth 100000 in
set_option maxHeartbeats 2000000 in
/-- Insert within a row that has no room. -/
theorem insK_grow (g n i vb : Nat) (cur : Array Value) (ys : List Value) (w : World) (hg : w.heap[g]? = some (.cells cur 78 (0, 0))) (hi : i < n) (hcs : cur.size = n * 1) (hn : n ≤ 1000)
    (hvb : w.heap[vb]? = some (.cells ys.toArray 78 (0, 0))) (hyl : ys.length = 1) (h1 : ∀ u ∈ cur.toList, u.oneCell' = true) (h1y : ∀ u ∈ ys, u.oneCell' = true) :
    Calls Tryz.prog 92 #[.slice (some ⟨g, 0, none⟩) n n, .int .i64 i, .slice (some ⟨vb, 0, none⟩) 1 1] w fun e w' => ∃ v', e = .returned v' ∧ w'.ownsRow 0 78 1 v' (n + 1) (cur.toList.take (i * 1) ++ ys ++ cur.toList.drop (i * 1)) ∧ Upd w w' (fun _ => False) ∧ v'.ownBlock = some w.heap.size := by
  obtain ⟨ti, hti, hz0, hz1, hz2⟩ := info_parts info57
  have hz3 : ¬ ((i : Int) = (n : Int)) := by omega
  have hgw : g < w.heap.size := (Array.getElem?_eq_some_iff.1 hg).1
  have hvw : vb < w.heap.size := (Array.getElem?_eq_some_iff.1 hvb).1
  obtain ⟨L, hL⟩ : ∃ L, L = cur.toList := ⟨_, rfl⟩
  have hLl : L.length = n * 1 := by rw [hL]; simpa using hcs
  have hold : (Builtin.firstCells ti.size i (.slice (some ⟨g, 0, none⟩) i n)).run Tryz.prog w.drew = .ok (L.take (i * 1)).toArray w.drew := by
    rw [hz1]
    refine run_firstCells_some w.drew 1 i ⟨g, 0, none⟩ i n (L.take (i * 1)) (by simp [hLl]; omega) (fun j v hj => ?_)
    rw [Addr.add_lit, Nat.zero_add]
    rw [List.getElem?_take] at hj
    split at hj
    · exact row_cellsK (w := w.drew) hg _ v (by rw [← hL]; exact hj)
    · cases hj
  have hkk : (n : Int) + 1 - (i : Int) = ((n + 1 - i : Nat) : Int) := by omega
  obtain ⟨G, hG⟩ : ∃ G, G = grownCap w (n + 1) n 78 := ⟨_, rfl⟩
  have hGn : n + 1 ≤ G := by rw [hG]; exact grownCap_ge w _ _ _
  have hGm : G ≤ maxLen := by rw [hG]; exact grownCap_le_maxLen w (n + 1) n 78 (by unfold maxLen; omega)
  have hG63 : G ≤ 9223372036854775807 := by unfold maxLen at hGm; omega
  obtain ⟨ROW, hROW, hRS, hRT⟩ : ∃ ROW : Array Value, (∀ ty, (Builtin.append_ #[123, 3] ty #[.slice (some ⟨g, 0, none⟩) i n, .int .i64 ((n : Int) + 1 - (i : Int))]).run Tryz.prog w = .ok (.slice (some ⟨w.heap.size, 0, none⟩) (n + 1) G) (w.drew.alloc (.cells ROW 78))) ∧ ROW.size = G * 1 ∧ ROW.toList.take (i * 1) = L.take (i * 1) := by
    have hik : i + (n + 1 - i) = n + 1 := by omega
    have h := fun ty => Lib.run_append_grow_zeros w 123 3 ty 78 ti _ .i64 .i64 Tryz.underlying123 Tryz.underlying3 hti hz0 (some ⟨g, 0, none⟩) i n (L.take (i * 1)) hold (n + 1 - i) (by omega) (by omega) (by omega) (by omega) (by rw [hz2]; omega) (by rw [hz2, hik]; exact growslice_fits (by omega) (by omega))
    rw [hik, ← hG] at h
    refine ⟨_, fun ty => by rw [hkk]; exact h ty, ?_, ?_⟩
    · simp [Builtin.zeroCells, Value.cells, hLl]; omega
    · rw [Array.toList_append, Array.toList_append, List.append_assoc, List.take_append_of_le_length (by simp [hLl]; omega)]
      show (L.take (i * 1)).take (i * 1) = L.take (i * 1)
      rw [List.take_take, Nat.min_self]
  have hdl : ((L.take (n * 1)).drop (i * 1)).length = (n - i) * 1 := by rw [List.length_drop, List.length_take, hLl]; omega
  have hLt : L.take (n * 1) = L := List.take_of_length_le (by omega)
  obtain ⟨c1, hc1⟩ : ∃ c1, c1 = ROW.toList.take (i * 1) ++ ys ++ ROW.toList.drop (i * 1 + ys.length) := ⟨_, rfl⟩
  obtain ⟨r1, r2⟩ := row_grow L ys ROW.toList (i * 1) (n * 1) 1 hyl (by omega) (by omega) (by simp [hRS]; omega) hRT c1 hc1
  have hc1l : c1.length = G * 1 := by rw [hc1]; simp [hRS, hyl]; omega
  obtain ⟨W1, hW1⟩ : ∃ W1, W1 = w.drew.alloc (.cells ROW 78) := ⟨_, rfl⟩
  have hb1 : Below w.heap.size w W1 := by rw [hW1]; exact ((Below.refl w.heap.size w).drew).alloc (Nat.le_refl _) _
  have hg1 : W1.heap[w.heap.size]? = some (.cells ROW 78 (0, 0)) := by rw [hW1]; exact heap_alloc_new w.drew _
  have hv1 : W1.heap[vb]? = some (.cells ys.toArray 78 (0, 0)) := (hb1.block vb hvw).trans hvb
  have hcpA : ∀ ty dc, (Builtin.copy_ #[123, 123] ty #[.slice (some ⟨w.heap.size, i, none⟩) (n + 1 - i) dc, .slice (some ⟨vb, 0, none⟩) 1 1]).run Tryz.prog W1 = .ok (goInt (Nat.min 1 (n + 1 - i) : Nat)) (W1.setRow w.heap.size c1.toArray) := fun ty dc => by
    have := run_copyS (P := Tryz.prog) W1 123 123 ty 78 78 ti Tryz.underlying123 hti w.heap.size (i * 1) (n + 1 - i) dc ROW hg1 ⟨vb, 0, none⟩ 1 1 ys (by rw [hyl, hz1, Nat.min_def]; split <;> omega) (fun j v hj => by
      rw [Addr.add_lit, Nat.zero_add]
      exact row_cellsK hv1 _ v (by simpa using hj)) (by rw [hRS, hyl]; omega) h1y
    rw [← hc1] at this
    simpa using this
  obtain ⟨W2, hW2⟩ : ∃ W2, W2 = W1.setRow w.heap.size c1.toArray := ⟨_, rfl⟩
  have hg2 : W2.heap[w.heap.size]? = some (.cells c1.toArray 78 (0, 0)) := by rw [hW2]; exact setRow_heap W1 _ _ _ 78 _ hg1
  have hgg : W2.heap[g]? = some (.cells cur 78 (0, 0)) := by rw [hW2, setRow_other W1 _ g _ (by omega)]; exact (hb1.block g hgw).trans hg
  have hcpB : ∀ ty dc sc, (Builtin.copy_ #[123, 123] ty #[.slice (some ⟨w.heap.size, i + 1, none⟩) (n - i) dc, .slice (some ⟨g, i, none⟩) (n - i) sc]).run Tryz.prog W2.drew = .ok (goInt (Nat.min (n - i) (n - i) : Nat)) (W2.drew.setRow w.heap.size (c1.take (i * 1 + 1) ++ (L.take (n * 1)).drop (i * 1) ++ c1.drop (i * 1 + 1 + ((L.take (n * 1)).drop (i * 1)).length)).toArray) := fun ty dc sc => by
    have := run_copyS (P := Tryz.prog) W2.drew 123 123 ty 78 78 ti Tryz.underlying123 hti w.heap.size (i * 1 + 1) (n - i) dc c1.toArray hg2 ⟨g, i * 1, none⟩ (n - i) sc ((L.take (n * 1)).drop (i * 1)) (by rw [hdl, hz1, Nat.min_self]) (fun j v hj => by
      rw [Addr.add_lit]
      refine row_cellsK (w := W2.drew) hgg _ v ?_
      rw [List.getElem?_drop, hLt] at hj
      rw [← hL]; exact hj) (by rw [hdl]; simp [hc1l]; omega) (fun v hv => h1 v (by rw [← hL]; exact List.mem_of_mem_take (List.mem_of_mem_drop hv)))
    simpa [Nat.add_mul] using this
  have HF : Hid (∀ w' : World, w' = W2.drew.setRow w.heap.size (c1.take (i * 1 + 1) ++ (L.take (n * 1)).drop (i * 1) ++ c1.drop (i * 1 + 1 + ((L.take (n * 1)).drop (i * 1)).length)).toArray → w'.ownsRow 0 78 1 (.slice (some ⟨w.heap.size, 0, none⟩) (n + 1) G) (n + 1) (cur.toList.take (i * 1) ++ ys ++ cur.toList.drop (i * 1)) ∧ Upd w w' (fun _ => False)) := fun w' hw' => by
    subst hw'
    refine ⟨owns_of_row (setRow_heap W2.drew _ _ _ 78 _ hg2) hGn hGm ?_ ?_ ?_, ?_⟩
    · rw [List.size_toArray, r2]; simp [hRS]
    · rw [← hL, Nat.add_mul, Nat.one_mul, r1, hLt]
    · rw [← hL]; simp [hLl, hyl]; omega
    · have u2 : Upd w W2 (fun k => k = w.heap.size) := by rw [hW2]; exact (Upd.ofBelow hb1).trans (upd_setRow W1 _ _ (fun k => k = w.heap.size) rfl) (fun _ _ h => h)
      have u3 := u2.drew.trans (upd_setRow W2.drew w.heap.size (c1.take (i * 1 + 1) ++ (L.take (n * 1)).drop (i * 1) ++ c1.drop (i * 1 + 1 + ((L.take (n * 1)).drop (i * 1)).length)).toArray (fun k => k = w.heap.size) rfl) (fun _ _ h => h)
      exact u3.mono (fun k hk e => by omega)
  rw [← hW1] at hROW
  rw [← hW2] at hcpA
  clear hL hLl hdl hc1 r1 r2 hc1l hg1 hv1 hW1 hW2 hg2 hgg h1 h1y hold hLt hRT hRS hG hGm hkk hb1
  have hw1 : IntKind.i64.wrap ((i : Int) + 1) = (i : Int) + 1 := by rw [IntKind.wrap_i64]; omega
  have hb1 : (0 : Int) ≤ (i : Int) + 1 := by omega
  have hin : i ≤ n := by omega
  have htn : ((i : Int) + 1).toNat = i + 1 := by omega
  have hb2 : ¬ (G = i + 1) := by omega
  have hb3 : (i : Int) ≤ (n : Int) := by omega
  have hb4 : ¬ (n = i) := by omega
  have hb5 : ¬ (G = i) := by omega
  have hb6 : (n : Int) < (n : Int) + 1 := by omega
  go_enter Tryz.func92, Tryz.ntmps92
  go_wp2_with (first
    | (at_builtin; refine Lib.wpList_append_run _ rfl _ _ _ _ rfl _ _ rfl rfl _ _ (hROW _) ?_)
    | (at_builtin; refine wpList_copy_run _ rfl _ _ 123 123 rfl _ _ rfl rfl (hcpA _ _) ?_))
  go_region_law (refine step_copy_run rfl _ _ 123 123 rfl _ _ (by simp [Act.eval, Act.put]) (by simp [Act.eval, Act.put]) (hcpB _ _ _) ?_)
  go_wp2
  go_ret
  exact ⟨_, rfl, (HF.out _ (by simp [List.append_assoc])).1, (HF.out _ (by simp [List.append_assoc])).2, rfl⟩
/-- Insert, whatever room there is. -/
theorem insK_any (v : Value) (n i vb : Nat) (xs ys : List Value) (w : World) (hown : w.ownsRow 0 78 1 v n xs) (hi : i ≤ n) (hn : n ≤ 1000)
    (hvb : w.heap[vb]? = some (.cells ys.toArray 78 (0, 0))) (hyl : ys.length = 1) (hne : v.ownBlock ≠ some vb) (h1 : ∀ u ∈ xs, u.oneCell' = true) (h1y : ∀ u ∈ ys, u.oneCell' = true) :
    Calls Tryz.prog 92 #[v, .int .i64 i, .slice (some ⟨vb, 0, none⟩) 1 1] w fun e w' => ∃ v', e = .returned v' ∧ w'.ownsRow 0 78 1 v' (n + 1) (xs.take (i * 1) ++ ys ++ xs.drop (i * 1)) ∧ Upd w w' (fun k => some k = v.ownBlock) ∧ (v'.ownBlock = v.ownBlock ∨ v'.ownBlock = some w.heap.size) := by
  have hxl := hown.1
  by_cases hin : i = n
  · subst hin
    rw [List.take_of_length_le (by omega), List.drop_eq_nil_of_le (by omega), List.append_nil]
    exact insK_end v i vb xs ys w hown hn hvb hyl h1y
  · rcases hown.2 with ⟨rfl, rfl⟩ | ⟨g, cap, cur, rfl, _, hg, hnc, hcm, hcs, htake⟩
    · omega
    · by_cases hroom : n + 1 ≤ cap
      · refine (insK_room g n cap i vb cur ys w hg (by omega) hroom (by unfold maxLen at hcm; omega) hcs hn hvb hyl (fun e => hne (by rw [e]; rfl)) (by rw [htake]; exact h1) h1y).mono ?_
        rintro e w' ⟨rfl, cur', hg', hs', ht', hu, _⟩
        rw [htake] at ht'
        exact ⟨_, rfl, owns_of_row hg' hroom hcm (by rw [hs', hcs]) ht' (by simp [hxl, hyl]; omega), hu.mono (fun k _ e => by rw [e]; rfl), .inl rfl⟩
      · obtain rfl : cap = n := by omega
        have hct : cur.toList = xs := by rw [← htake, List.take_of_length_le (by simp [hcs])]
        refine (insK_grow g cap i vb cur ys w hg (by omega) hcs hn hvb hyl (by rw [hct]; exact h1) h1y).mono ?_
        rintro e w' ⟨v', rfl, ho, hu, hb⟩
        rw [hct] at ho
        exact ⟨_, rfl, ho, hu.mono (fun _ _ h => h.elim), .inr hb⟩
end Go.Proofs.YteeflkkoifgcbabGreat
/- Delete: elements taken out of a row. -/
namespace Go.Proofs.YteeflkkoifgcbabGreat
open Go Go.RowKit


set_option maxRecDepth 100000 in
set_option maxHeartbeats 2000000 in
/-- Delete: elements taken out of a row. -/
theorem delK_row (g n c i j : Nat) (cur : Array Value) (w : World) (hg : w.heap[g]? = some (.cells cur 78 (0, 0))) (hij : i < j) (hj : j ≤ n) (hnc : n ≤ c) (hcm : c ≤ maxLen) (hcs : cur.size = c * 1) (hn : n ≤ 1000) (h1 : ∀ u ∈ cur.toList.take (n * 1), u.oneCell' = true) :
    Calls Tryz.prog 91 #[.slice (some ⟨g, 0, none⟩) n c, .int .i64 i, .int .i64 j] w fun e w' => e = .returned (.slice (some ⟨g, 0, none⟩) (i + (n - j)) c) ∧
      w'.ownsRow 0 78 1 (.slice (some ⟨g, 0, none⟩) (i + (n - j)) c) (i + (n - j)) ((cur.toList.take (n * 1)).take (i * 1) ++ (cur.toList.take (n * 1)).drop (j * 1)) ∧ Upd w w' (fun k => k = g) ∧ w'.heap.size = w.heap.size := by
  obtain ⟨ti, hti, hz0, hz1, hz2⟩ := info_parts info57
  have hc63 : c ≤ 9223372036854775807 := by unfold maxLen at hcm; omega
  obtain ⟨L, hL⟩ : ∃ L, L = cur.toList := ⟨_, rfl⟩
  rw [← hL] at h1 ⊢
  have hLl : L.length = c * 1 := by rw [hL]; simpa using hcs
  have hdl : ((L.take (n * 1)).drop (j * 1)).length = (n - j) * 1 := by rw [List.length_drop, List.length_take, hLl]; omega
  obtain ⟨c1, hc1⟩ : ∃ c1, c1 = L.take (i * 1) ++ (L.take (n * 1)).drop (j * 1) ++ L.drop (i * 1 + ((L.take (n * 1)).drop (j * 1)).length) := ⟨_, rfl⟩
  have hc1l : c1.length = L.length := by rw [hc1, List.length_append, List.length_append, hdl, List.length_take, List.length_drop, hLl]; omega
  have hsrc : ∀ (a : Addr) (sc : Nat), (a = ⟨g, j, none⟩ ∨ n - j = 0) → Src Tryz.prog 1 123 (.slice (some a) (n - j) sc) (n - j) ((L.take (n * 1)).drop (j * 1)) w.drew := fun a sc ha => Src.ofSlice w.drew Tryz.underlying123 a (n - j) sc _ hdl (fun k u hk => by
    rcases ha with rfl | ha
    · rw [Addr.add_lit]
      refine row_cellsK (w := w.drew) hg _ u ?_
      rw [List.getElem?_drop, List.getElem?_take] at hk
      split at hk
      · rw [← hL]; simpa using hk
      · cases hk
    · rw [ha] at hdl
      have hnil := List.eq_nil_of_length_eq_zero (show ((L.take (n * 1)).drop (j * 1)).length = 0 by omega)
      rw [hnil] at hk
      simp at hk) (fun v hv => h1 v (List.mem_of_mem_drop hv))
  have hap : ∀ ty (a : Addr) (sc : Nat), (a = ⟨g, j, none⟩ ∨ n - j = 0) → (Builtin.append_ #[123, 123] ty #[.slice (some ⟨g, 0, none⟩) i c, .slice (some a) (n - j) sc]).run Tryz.prog w.drew = .ok (.slice (some ⟨g, 0, none⟩) (i + (n - j)) c) (w.drew.setRow g c1.toArray) := fun ty a sc ha => by
    have := run_appS_room (P := Tryz.prog) w.drew 123 123 ty 78 ti Tryz.underlying123 hti g i c cur hg _ (n - j) _ (by rw [hz1]; exact hsrc a sc ha) (by omega) (by rw [hz1, hcs]; omega)
    rw [hz1, ← hL] at this
    rw [this, hc1, hdl]
  obtain ⟨W1, hW1⟩ : ∃ W1, W1 = w.drew.setRow g c1.toArray := ⟨_, rfl⟩
  have hg1 : W1.heap[g]? = some (.cells c1.toArray 78 (0, 0)) := by rw [hW1]; exact setRow_heap w.drew g cur _ 78 _ hg
  obtain ⟨zs, hzl, hcl⟩ := run_clearS (P := Tryz.prog) W1 123 0 78 78 ti _ Tryz.underlying123 hti hz0 g ((i + (n - j)) * 1) (j - i) (c - (i + (n - j))) c1.toArray hg1 (by show _ + (j - i) * 1 ≤ _; simp [hc1l, hLl]; omega) (fun v hv => by
    simp only [Builtin.zeroCells, Array.toList_map, List.mem_map] at hv
    obtain ⟨k, _, rfl⟩ := hv
    have hk : k % 1 < 1 := Nat.mod_lt _ (by decide)
    show ((Value.cells (.pointer none))[k % 1]!).oneCell' = true
    rw [show k % 1 = 0 by omega]; rfl)
  have hzl' : zs.length = (j - i) * 1 := hzl
  rw [if_neg (by omega)] at hcl
  obtain ⟨r1, r2⟩ := row_del L zs (i * 1) (j * 1) (n * 1) ((i + (n - j)) * 1) (by omega) (by omega) (by omega) c1 hc1 (by omega) (by omega)
  have hcl' : ∀ ty k, k = c - (i + (n - j)) → (Builtin.clear_ #[123] ty #[.slice (some ⟨g, i + (n - j), none⟩) (j - i) k]).run Tryz.prog W1 = .ok (.tuple #[]) (W1.setRow g (c1.take ((i + (n - j)) * 1) ++ zs ++ c1.drop ((i + (n - j)) * 1 + zs.length)).toArray) := fun ty k hk => by
    subst hk
    rw [hzl']
    change _ = Result.ok _ (W1.setRow g (c1.take ((i + (n - j)) * 1) ++ zs ++ c1.drop ((i + (n - j)) * 1 + (j - i) * 1)).toArray) at hcl; simp only [Nat.mul_one] at hcl ⊢; exact hcl
  have HF : Hid (∀ w' : World, w' = W1.setRow g (c1.take ((i + (n - j)) * 1) ++ zs ++ c1.drop ((i + (n - j)) * 1 + zs.length)).toArray →
      w'.ownsRow 0 78 1 (.slice (some ⟨g, 0, none⟩) (i + (n - j)) c) (i + (n - j)) ((L.take (n * 1)).take (i * 1) ++ (L.take (n * 1)).drop (j * 1)) ∧ Upd w w' (fun k => k = g) ∧ w'.heap.size = w.heap.size) := fun w' hw' => by
    subst hw'
    refine ⟨owns_of_row (setRow_heap W1 g _ _ 78 _ hg1) (by omega) hcm ?_ r1 ?_, ?_, ?_⟩
    · rw [List.size_toArray, r2, hLl]
    · rw [List.length_append, hdl, List.length_take, List.length_take, hLl]; omega
    · have u1 : Upd w W1 (fun k => k = g) := by rw [hW1]; exact (Upd.refl w _).drew.trans (upd_setRow w.drew g _ (fun k => k = g) rfl) (fun _ _ h => h)
      exact u1.trans (upd_setRow W1 g _ (fun k => k = g) rfl) (fun _ _ h => h)
    · rw [hW1]; simp
  rw [← hW1] at hap
  have hq1 : IntKind.i64.wrap ((i : Int) - (j : Int)) = (i : Int) - (j : Int) := by rw [IntKind.wrap_i64]; omega
  have hq2 : ¬ ((i : Int) = (j : Int)) := by omega
  have hq3 : (j : Int) ≤ (n : Int) := by omega
  have hq4 : (i : Int) ≤ (j : Int) := by omega
  have hq5 : (i : Int) ≤ (n : Int) := by omega
  have hq6 : (j : Int) ≤ (c : Int) := by omega
  have hq7 : (n : Int) ≤ (c : Int) := by omega
  have hq8 : (i : Int) ≤ (c : Int) := by omega
  have hq9 : n - (i + (n - j)) = j - i := by omega
  clear hL hLl hdl hc1 r1 r2 hc1l hg1 hW1 h1 hcl hzl hzl' hsrc
  have hqa : ¬ (c = i) := by omega
  have hqb : ¬ (c = i + (n - j)) := by omega
  have hqc : ¬ (n = i) := by omega
  have hqd : (0 : Int) ≤ (i : Int) + ((n - j : Nat) : Int) := by omega
  have hqe : i + (n - j) ≤ n := by omega
  by_cases hcj : c = j
  · have hjn : n - j = 0 := by omega
    have hap' := fun ty => hap ty ⟨g, 0, none⟩ 0 (.inr hjn)
    rw [hjn] at hap' hcl' HF hqb hqd hqe hq9 ⊢
    simp only [Nat.add_zero] at hap' hcl' HF hqb hqe hq9 ⊢
    subst hcj
    clear hap
    go_enter Tryz.func91, Tryz.ntmps91
    go_wp2
    go_region_law (refine step_append_run rfl _ _ 123 123 rfl _ _ (by simp [Act.eval, Act.put]; first | done | rfl) (by simp [Act.eval, Act.put]; first | done | rfl) (hap' _) ?_)
    go_wp2_with (at_builtin; refine wpList_clear_run _ rfl _ 123 rfl _ rfl (hcl' _ _ (by omega)) ?_)
    go_ret
    exact ⟨rfl, HF.out _ (by simp)⟩
  · have hap' := fun ty => hap ty ⟨g, j, none⟩ (c - j) (.inl rfl)
    clear hap
    go_enter Tryz.func91, Tryz.ntmps91
    go_wp2
    go_region_law (refine step_append_run rfl _ _ 123 123 rfl _ _ (by simp [Act.eval, Act.put]; first | done | rfl) (by simp [Act.eval, Act.put]; first | done | rfl) (hap' _) ?_)
    go_wp2_with (at_builtin; refine wpList_clear_run _ rfl _ 123 rfl _ rfl (hcl' _ _ (by omega)) ?_)
    go_ret
    exact ⟨rfl, HF.out _ (by simp)⟩
/-- Delete, of a row that is owned. -/
theorem delK_any (v : Value) (n i j : Nat) (xs : List Value) (w : World) (hown : w.ownsRow 0 78 1 v n xs) (hij : i < j) (hj : j ≤ n) (hn : n ≤ 1000) (h1 : ∀ u ∈ xs, u.oneCell' = true) :
    Calls Tryz.prog 91 #[v, .int .i64 i, .int .i64 j] w fun e w' => ∃ v', e = .returned v' ∧ w'.ownsRow 0 78 1 v' (i + (n - j)) (xs.take (i * 1) ++ xs.drop (j * 1)) ∧ Upd w w' (fun k => some k = v.ownBlock) ∧ v'.ownBlock = v.ownBlock ∧ w'.heap.size = w.heap.size := by
  rcases hown.2 with ⟨rfl, rfl⟩ | ⟨g, cap, cur, rfl, _, hg, hnc, hcm, hcs, htake⟩
  · omega
  · refine (delK_row g n cap i j cur w hg hij hj hnc hcm hcs hn (by rw [htake]; exact h1)).mono ?_
    rintro e w' ⟨rfl, ho, hu, hz⟩
    rw [htake] at ho
    exact ⟨_, rfl, ho, hu.mono (fun k _ e => by rw [e]; rfl), rfl, hz⟩
end Go.Proofs.YteeflkkoifgcbabGreat
/- fresh: a copy of a row. -/
namespace Go.Proofs.YteeflkkoifgcbabGreat
open Go Go.RowKit

theorem info35 : (Tryz.prog.info? 90).map (fun i => (i.zero, i.size, i.bytes)) = some (some (.agg #[.int .i64 0, .bool false]), 2, 16) := by kernel_rfl

set_option maxRecDepth 100000 in
set_option maxHeartbeats 1000000 in
/-- fresh: a copy, without spare room. -/
theorem freshM (g off n c : Nat) (xs : List Value) (w : World) (hn : n ≤ 1000000) (h0 : 0 < n) (hx : xs.length = n * 2) (hc : ∀ j v, xs[j]? = some v → w.cell? ⟨g, off + j, none⟩ = some v) (h1 : ∀ u ∈ xs, u.oneCell' = true) :
    Calls Tryz.prog 57 #[.slice (some ⟨g, off, none⟩) n c] w fun e w' => e = .returned (.slice (some ⟨w.heap.size, 0, none⟩) n n) ∧ w'.heap[w.heap.size]? = some (.cells xs.toArray 90 (0, 0)) ∧ w'.heap.size = w.heap.size + 1 ∧ Below w.heap.size w w' := by
  obtain ⟨i0, hi, hz0, hz1, hz2⟩ := info_parts info35
  have hg : g < w.heap.size := World.block_lt_of_cell? _ _ (hc 0 _ (List.getElem?_eq_getElem (by omega)))
  obtain ⟨ROW, hRS, hmk⟩ : ∃ ROW : Array Value, ROW.size = n * 2 ∧ (Instr.makeSlice 87 (.int .i64 n) (.int .i64 n)).run Tryz.prog w = .ok (.slice (some ⟨w.heap.size, 0, none⟩) n n) (w.alloc (.cells ROW 90)) := by
    have := run_make (P := Tryz.prog) w 87 90 i0 _ Tryz.underlying87 hi hz0 .i64 .i64 n n (by omega) (by omega) (by rw [hz2]; omega) (by omega)
    simp only [Int.toNat_natCast] at this
    exact ⟨_, by rw [size_madeCells, hz1], this⟩
  have hgn : (w.alloc (.cells ROW 90)).heap[w.heap.size]? = some (.cells ROW 90 (0, 0)) := heap_alloc_new w _
  have hcp : ∀ ty, (Builtin.copy_ #[87, 87] ty #[.slice (some ⟨w.heap.size, 0, none⟩) n n, .slice (some ⟨g, off, none⟩) n c]).run Tryz.prog (w.alloc (.cells ROW 90)) = .ok (goInt (Nat.min n n : Nat)) ((w.alloc (.cells ROW 90)).setRow w.heap.size xs.toArray) := fun ty => by
    have := run_copyS (P := Tryz.prog) (w.alloc (.cells ROW 90)) 87 87 ty 90 90 i0 Tryz.underlying87 hi w.heap.size 0 n n ROW hgn ⟨g, off, none⟩ n c xs (by rw [hx, hz1, Nat.min_self]) (fun j v hj => by
      rw [Addr.add_lit]
      exact ((Below.refl _ w).alloc (Nat.le_refl _) _ |>.cell (p := ⟨g, off + j, none⟩) hg).trans (hc j v hj)) (by omega) h1
    rw [List.take_zero, List.drop_eq_nil_of_le (by simp; omega), List.nil_append, List.append_nil] at this
    exact this
  clear hc
  go_enter Tryz.func57, Tryz.ntmps57
  go_wp2_with (at_builtin; refine wpList_copy_run _ rfl _ _ 87 87 rfl _ _ rfl rfl (hcp _) ?_)
  go_ret
  refine ⟨rfl, setRow_heap _ _ _ _ _ _ hgn, by simp, ?_⟩
  exact ((Below.refl _ w).alloc (Nat.le_refl _) _).trans (upd_setRow _ _ _ (fun k => k = w.heap.size) rfl |>.below (by simp) (fun k hk => by omega))
end Go.Proofs.YteeflkkoifgcbabGreat
