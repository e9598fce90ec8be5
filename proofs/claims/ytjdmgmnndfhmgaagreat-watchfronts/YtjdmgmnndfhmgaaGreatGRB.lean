/- Rows as lists: an element put in, some taken out. -/
import Derived.Test.YtjdmgmnndfhmgaaGreatGRA
import Derived.Lib.AppendZerosOnto
import Derived.Lib.Overlaps
import Derived.Lib.SliceRun
import Derived.Laws.MakeOwn
import Derived.Deep.CutRange
import Derived.Deep.RegionWith
import Derived.Deep.RegionHeldLaw
namespace Go.Proofs.YtjdmgmnndfhmgaaGreat
theorem row_ins {α : Type} (cur ys : List α) (a b s : Nat) (hy : ys.length = s) (hab : a ≤ b) (hl : b + s ≤ cur.length) (c1 : List α) (hc : c1 = cur.take (a + s) ++ (cur.take b).drop a ++ cur.drop (a + s + ((cur.take b).drop a).length)) :
    (c1.take a ++ ys ++ c1.drop (a + s)).take (b + s) = (cur.take b).take a ++ ys ++ (cur.take b).drop a ∧ (c1.take a ++ ys ++ c1.drop (a + s)).length = cur.length := by
  have hd : ((cur.take b).drop a).length = b - a := by simp; omega
  have h1 : c1.take a = cur.take a := by
    rw [hc, List.append_assoc, List.take_append_of_le_length (by simp; omega), List.take_take]; congr 1; omega
  have h2 : c1.drop (a + s) = (cur.take b).drop a ++ cur.drop (b + s) := by
    rw [hc, List.append_assoc, List.drop_append_of_le_length (by simp; omega), List.drop_eq_nil_of_le (by simp; omega), List.nil_append, hd, show a + s + (b - a) = b + s by omega]
  have h3 : (cur.take b).take a = cur.take a := by rw [List.take_take]; congr 1; omega
  rw [h1, h2, h3]
  constructor
  · rw [← List.append_assoc, List.take_append_of_le_length (by simp; omega), List.take_of_length_le (by simp; omega)]
  · simp; omega
/-- A row that grew: what stood ahead, the new one, what stood behind. -/
theorem row_grow {α : Type} (cur ys z : List α) (a b s : Nat) (hy : ys.length = s) (hab : a ≤ b) (hl : b ≤ cur.length) (hz : b + s ≤ z.length) (hza : z.take a = cur.take a) (c1 : List α) (hc : c1 = z.take a ++ ys ++ z.drop (a + ys.length)) :
    (c1.take (a + s) ++ (cur.take b).drop a ++ c1.drop (a + s + ((cur.take b).drop a).length)).take (b + s) = (cur.take b).take a ++ ys ++ (cur.take b).drop a ∧
    (c1.take (a + s) ++ (cur.take b).drop a ++ c1.drop (a + s + ((cur.take b).drop a).length)).length = z.length := by
  have hd : ((cur.take b).drop a).length = b - a := by simp; omega
  have h1 : c1.take (a + s) = cur.take a ++ ys := by
    rw [hc, hza, List.take_append_of_le_length (by simp; omega), List.take_of_length_le (by simp; omega)]
  have h3 : (cur.take b).take a = cur.take a := by rw [List.take_take]; congr 1; omega
  have h4 : c1.length = z.length := by rw [hc]; simp; omega
  rw [h1, h3]
  constructor
  · rw [List.take_append_of_le_length (by simp; omega), List.take_of_length_le (by simp; omega)]
  · simp; omega
/-- Elements from a to b taken out, the end cleared. -/
theorem row_del {α : Type} (cur zs : List α) (a b n c : Nat) (hab : a ≤ b) (hbn : b ≤ n) (hl : n ≤ cur.length) (c1 : List α) (hc : c1 = cur.take a ++ (cur.take n).drop b ++ cur.drop (a + ((cur.take n).drop b).length)) (hz : zs.length = b - a) (hcc : c = a + (n - b)) :
    (c1.take c ++ zs ++ c1.drop (c + zs.length)).take c = (cur.take n).take a ++ (cur.take n).drop b ∧ (c1.take c ++ zs ++ c1.drop (c + zs.length)).length = cur.length := by
  have hd : ((cur.take n).drop b).length = n - b := by simp; omega
  have h3 : (cur.take n).take a = cur.take a := by rw [List.take_take]; congr 1; omega
  have h1 : c1.take c = cur.take a ++ (cur.take n).drop b := by
    rw [hc, List.take_append_of_le_length (by simp; omega), List.take_of_length_le (by simp; omega)]
  have h4 : c1.length = cur.length := by rw [hc]; simp; omega
  rw [h1, h3]
  constructor
  · rw [List.append_assoc, List.take_append_of_le_length (by simp; omega), List.take_of_length_le (by simp; omega)]
  · simp; omega
end Go.Proofs.YtjdmgmnndfhmgaaGreat
/- Rows of elements of several cells: copy, clear, cut: what becomes of the row. Laws of no program. -/
namespace Go.Proofs.YtjdmgmnndfhmgaaGreat
open Go Go.RowKit
section
variable {P : Program}
theorem run_copyS (w : World) (dT sT ty e et : TypeId) (i : TypeInfo) (ht : P.underlying dT = some (.slice e)) (hi : P.info? e = some i) (g o dLen dCap : Nat) (cur : Array Value) (hg : w.heap[g]? = some (.cells cur et (0, 0)))
    (a : Addr) (sLen sCap : Nat) (news : List Value) (hn : news.length = min sLen dLen * i.size) (hsrc : ∀ j v, news[j]? = some v → w.cell? (a.add j) = some v) (hfit : o + news.length ≤ cur.size) (h1 : ∀ v ∈ news, v.oneCell' = true) :
    (Builtin.copy_ #[dT, sT] ty #[.slice (some ⟨g, o, none⟩) dLen dCap, .slice (some a) sLen sCap]).run P w = .ok (goInt (Nat.min sLen dLen : Nat)) (w.setRow g (cur.toList.take o ++ news ++ cur.toList.drop (o + news.length)).toArray) := by
  have hl := run_loadCells_list (P := P) w a news hsrc
  have hst := run_storeCells_at P g o et news 0 cur w hg (by rw [Nat.add_zero]; exact hfit) h1
  rw [hn] at hl
  simp only [Nat.add_zero] at hst
  have hmin : Nat.min sLen dLen = min sLen dLen := rfl
  simp [Builtin.copy_, run_underlying ht, Builtin.lenOf, Builtin.firstCells, sizeOf, typeInfo, hi, hmin, hl, hst]
theorem run_copyS_none (w : World) (dT sT ty e : TypeId) (i : TypeInfo) (ht : P.underlying dT = some (.slice e)) (hi : P.info? e = some i) (d : Option Addr) (dLen dCap : Nat) (a : Addr) (sLen sCap : Nat) (hn : min sLen dLen = 0) :
    (Builtin.copy_ #[dT, sT] ty #[.slice d dLen dCap, .slice (some a) sLen sCap]).run P w = .ok (goInt 0) w := by
  have hl := run_loadCells_list (P := P) w a [] (fun j v h => by simp at h)
  have hmin : Nat.min sLen dLen = 0 := hn
  cases d <;> simp [Builtin.copy_, run_underlying ht, Builtin.lenOf, Builtin.firstCells, sizeOf, typeInfo, hi, hmin] <;> simp at hl <;> simp [hl, storeCells]
/-- What clear does to the end of a row. -/
theorem run_clearS (w : World) (t ty e et : TypeId) (i : TypeInfo) (z : Value) (ht : P.underlying t = some (.slice e)) (hi : P.info? e = some i) (hz : i.zero = some z) (g o n c : Nat) (cur : Array Value) (hg : w.heap[g]? = some (.cells cur et (0, 0)))
    (hfit : o + n * z.cells.size ≤ cur.size) (h1 : ∀ v ∈ (Builtin.zeroCells z.cells n).toList, v.oneCell' = true) :
    ∃ zs : List Value, zs.length = n * z.cells.size ∧ (Builtin.clear_ #[t] ty #[.slice (some ⟨g, o, none⟩) n c]).run P w = .ok (.tuple #[]) (if n = 0 then w else w.setRow g (cur.toList.take o ++ zs ++ cur.toList.drop (o + n * z.cells.size)).toArray) := by
  refine ⟨(Builtin.zeroCells z.cells n).toList, by simp [Builtin.zeroCells], ?_⟩
  have hzl : (Builtin.zeroCells z.cells n).toList.length = n * z.cells.size := by simp [Builtin.zeroCells]
  have hst := run_storeCells_at P g o et (Builtin.zeroCells z.cells n).toList 0 cur w hg (by rw [hzl, Nat.add_zero]; exact hfit) h1
  simp only [Nat.add_zero, hzl] at hst
  cases n with
  | zero => simp [Builtin.clear_, run_underlying ht]
  | succ n => simp [Builtin.clear_, run_underlying ht, zeroValue, typeInfo, hi, hz, hst]
theorem wp_copy_run (w : World) {o : Oper} {a : Act} {K : Act → World → Prop} {Q : Exit → Act → World → Prop} (d s : Operand) (t t' : TypeId)
    (ho : o.op = .call { callee := .builtin .copy, args := #[d, s], argTypes := #[t, t'] }) (v u : Value) (hd : a.eval d = v) (hs : a.eval s = u) {v' : Value} {w' : World}
    (hr : (Builtin.copy_ #[t, t'] o.type #[v, u]).run P w = .ok v' w') (h : K (a.put o.dst v') w') : o.wp P a w K Q := by
  unfold Oper.wp execOp
  simp only [ho, resolve, invoke, builtin, Sem.run_bind, Sem.run_pure, Result.andThen_ok, List.map_toArray, List.map_cons, List.map_nil, hd, hs, hr]
  exact h
theorem wpList_copy_run (w : World) {ops : Array Oper} {rest : List Oper} {o : Oper} {a : Act} {Q : Exit → Act → World → Prop} (hgd : o.guard = none) (d s : Operand) (t t' : TypeId)
    (ho : o.op = .call { callee := .builtin .copy, args := #[d, s], argTypes := #[t, t'] }) (v u : Value) (hd : a.eval d = v) (hs : a.eval s = u) {v' : Value} {w' : World}
    (hr : (Builtin.copy_ #[t, t'] o.type #[v, u]).run P w = .ok v' w') (h : wpList P ops Q rest (a.put o.dst v') w') : wpList P ops Q (o :: rest) a w :=
  wpList_plain hgd fun _ hK => wp_copy_run w d s t t' ho v u hd hs hr (hK _ _ h)
theorem step_copy_run {ops : Array Oper} {o : Oper} {a : Act} {w : World} {K : Act → World → Prop} {Q : Exit → Act → World → Prop} {E : Prop}
    (hg : o.guard = none) (d x : Operand) (dT sT : TypeId) (hop : o.op = Op.call { callee := Callee.builtin Builtin.copy, args := #[d, x], argTypes := #[dT, sT] })
    (v u : Value) (hd : a.eval d = v) (hx : a.eval x = u) {v' : Value} {w' : World} (hr : (Builtin.copy_ #[dT, sT] o.type #[v, u]).run P w = .ok v' w') (hK : K (a.put o.dst v') w') :
    if Region.wanted o (yielded ops a.tmps) = true then Oper.wp P o a w K Q else E := by
  have hw : Region.wanted o (yielded ops a.tmps) = true := by simp [Region.wanted, hg]
  rw [if_pos hw]
  exact wp_copy_run w d x dT sT hop v u hd hx hr hK
theorem step_append_run {ops : Array Oper} {o : Oper} {a : Act} {w : World} {K : Act → World → Prop} {Q : Exit → Act → World → Prop} {E : Prop}
    (hg : o.guard = none) (d x : Operand) (dT sT : TypeId) (hop : o.op = Op.call { callee := Callee.builtin Builtin.append, args := #[d, x], argTypes := #[dT, sT] })
    (v u : Value) (hd : a.eval d = v) (hx : a.eval x = u) {v' : Value} {w' : World} (hr : (Builtin.append_ #[dT, sT] o.type #[v, u]).run P w = .ok v' w') (hK : K (a.put o.dst v') w') :
    if Region.wanted o (yielded ops a.tmps) = true then Oper.wp P o a w K Q else E := by
  have hw : Region.wanted o (yielded ops a.tmps) = true := by simp [Region.wanted, hg]
  rw [if_pos hw]
  unfold Oper.wp execOp
  simp only [hop, resolve, invoke, builtin, Sem.run_bind, Sem.run_pure, Result.andThen_ok, List.map_toArray, List.map_cons, List.map_nil, hd, hx, hr]
  exact hK
theorem wpList_clear_run (w : World) {ops : Array Oper} {rest : List Oper} {o : Oper} {a : Act} {Q : Exit → Act → World → Prop} (hgd : o.guard = none) (d : Operand) (t : TypeId)
    (ho : o.op = .call { callee := .builtin .clear, args := #[d], argTypes := #[t] }) (v : Value) (hd : a.eval d = v) {v' : Value} {w' : World}
    (hr : (Builtin.clear_ #[t] o.type #[v]).run P w = .ok v' w') (h : wpList P ops Q rest (a.put o.dst v') w') : wpList P ops Q (o :: rest) a w :=
  wpList_plain hgd fun _ hK => by
    unfold Oper.wp execOp
    simp only [ho, resolve, invoke, builtin, Sem.run_bind, Sem.run_pure, Result.andThen_ok, List.map_toArray, List.map_cons, List.map_nil, hd, hr]
    exact hK _ _ h
end
/-- A row that lies in a block, whole, is owned. -/
theorem owns_of_row {w : World} {g : Nat} {e : TypeId} {s n c : Nat} {cur : Array Value} {xs : List Value} (hg : w.heap[g]? = some (.cells cur e (0, 0))) (hnc : n ≤ c) (hc : c ≤ maxLen) (hs : cur.size = c * s) (ht : cur.toList.take (n * s) = xs) (hx : xs.length = n * s) :
    w.ownsRow 0 e s (.slice (some ⟨g, 0, none⟩) n c) n xs := ⟨hx, .inr ⟨g, c, cur, rfl, Nat.zero_le _, hg, hnc, hc, hs, ht⟩⟩
theorem upd_setRow (w : World) (g : Nat) (cs : Array Value) (S : Nat → Prop) (h : S g) : Upd w (w.setRow g cs) S :=
  ⟨rfl, rfl, rfl, by simp, fun k _ hk => setRow_other w g k _ (fun e => hk (e ▸ h))⟩
end Go.Proofs.YtjdmgmnndfhmgaaGreat
/- fresh: a copy of a row. -/
namespace Go.Proofs.YtjdmgmnndfhmgaaGreat
open Go Go.RowKit

theorem info66 : (Tryz.prog.info? 151).map (fun i => (i.zero, i.size, i.bytes)) = some (some (.agg #[.string ⟨#[]⟩, .slice none 0 0]), 2, 40) := by kernel_rfl

set_option maxRecDepth 100000 in
set_option maxHeartbeats 1000000 in
/-- fresh: a copy, without spare room. -/
theorem freshI (g off n c : Nat) (xs : List Value) (w : World) (hn : n ≤ 1000000) (h0 : 0 < n) (hx : xs.length = n * 2) (hc : ∀ j v, xs[j]? = some v → w.cell? ⟨g, off + j, none⟩ = some v) (h1 : ∀ u ∈ xs, u.oneCell' = true) :
    Calls Tryz.prog 129 #[.slice (some ⟨g, off, none⟩) n c] w fun e w' => e = .returned (.slice (some ⟨w.heap.size, 0, none⟩) n n) ∧ w'.heap[w.heap.size]? = some (.cells xs.toArray 151 (0, 0)) ∧ w'.heap.size = w.heap.size + 1 ∧ Below w.heap.size w w' := by
  obtain ⟨i0, hi, hz0, hz1, hz2⟩ := info_parts info66
  have hg : g < w.heap.size := World.block_lt_of_cell? _ _ (hc 0 _ (List.getElem?_eq_getElem (by omega)))
  obtain ⟨ROW, hRS, hmk⟩ : ∃ ROW : Array Value, ROW.size = n * 2 ∧ (Instr.makeSlice 183 (.int .i64 n) (.int .i64 n)).run Tryz.prog w = .ok (.slice (some ⟨w.heap.size, 0, none⟩) n n) (w.alloc (.cells ROW 151)) := by
    have := run_make (P := Tryz.prog) w 183 151 i0 _ Tryz.underlying183 hi hz0 .i64 .i64 n n (by omega) (by omega) (by rw [hz2]; omega) (by omega)
    simp only [Int.toNat_natCast] at this
    exact ⟨_, by rw [size_madeCells, hz1], this⟩
  have hgn : (w.alloc (.cells ROW 151)).heap[w.heap.size]? = some (.cells ROW 151 (0, 0)) := heap_alloc_new w _
  have hcp : ∀ ty, (Builtin.copy_ #[183, 183] ty #[.slice (some ⟨w.heap.size, 0, none⟩) n n, .slice (some ⟨g, off, none⟩) n c]).run Tryz.prog (w.alloc (.cells ROW 151)) = .ok (goInt (Nat.min n n : Nat)) ((w.alloc (.cells ROW 151)).setRow w.heap.size xs.toArray) := fun ty => by
    have := run_copyS (P := Tryz.prog) (w.alloc (.cells ROW 151)) 183 183 ty 151 151 i0 Tryz.underlying183 hi w.heap.size 0 n n ROW hgn ⟨g, off, none⟩ n c xs (by rw [hx, hz1, Nat.min_self]) (fun j v hj => by
      rw [Addr.add_lit]
      exact ((Below.refl _ w).alloc (Nat.le_refl _) _ |>.cell (p := ⟨g, off + j, none⟩) hg).trans (hc j v hj)) (by omega) h1
    rw [List.take_zero, List.drop_eq_nil_of_le (by simp; omega), List.nil_append, List.append_nil] at this
    exact this
  clear hc
  go_enter Tryz.func129, Tryz.ntmps129
  go_wp2_with (at_builtin; refine wpList_copy_run _ rfl _ _ 183 183 rfl _ _ rfl rfl (hcp _) ?_)
  go_ret
  refine ⟨rfl, setRow_heap _ _ _ _ _ _ hgn, by simp, ?_⟩
  exact ((Below.refl _ w).alloc (Nat.le_refl _) _).trans (upd_setRow _ _ _ (fun k => k = w.heap.size) rfl |>.below (by simp) (fun k hk => by omega))
end Go.Proofs.YtjdmgmnndfhmgaaGreat
/- Insert: an element put into a row. -/
namespace Go.Proofs.YtjdmgmnndfhmgaaGreat
open Go Go.RowKit


theorem size66 : ∀ w, (Go.sizeOf 151).run Tryz.prog w = .ok 2 w := fun w => by
  obtain ⟨i0, hi, hz0, hz1, hz2⟩ := info_parts info66
  simp [Go.sizeOf, typeInfo, hi, hz1]
theorem row_cellsI {w : World} {g : Nat} {cur : Array Value} (hg : w.heap[g]? = some (.cells cur 151 (0, 0))) (j : Nat) (v : Value) (h : cur.toList[j]? = some v) : w.cell? ⟨g, j, none⟩ = some v := by
  simp only [World.cell?, hg]; simpa using h
set_option maxRecDepth 100000 in
set_option maxHeartbeats 2000000 in
/-- Insert: there is room, within the row. -/
theorem insI_room (g n c i vb : Nat) (cur : Array Value) (ys : List Value) (w : World) (hg : w.heap[g]? = some (.cells cur 151 (0, 0))) (hi : i < n) (hroom : n + 1 ≤ c) (_hc63 : c ≤ 9223372036854775807) (hcs : cur.size = c * 2) (hn : n ≤ 1000)
    (hvb : w.heap[vb]? = some (.cells ys.toArray 151 (0, 0))) (hyl : ys.length = 2) (hne : vb ≠ g) (h1 : ∀ u ∈ cur.toList.take (n * 2), u.oneCell' = true) (h1y : ∀ u ∈ ys, u.oneCell' = true) :
    Calls Tryz.prog 128 #[.slice (some ⟨g, 0, none⟩) n c, .int .i64 i, .slice (some ⟨vb, 0, none⟩) 1 1] w fun e w' => e = .returned (.slice (some ⟨g, 0, none⟩) (n + 1) c) ∧
      ∃ cur' : Array Value, w'.heap[g]? = some (.cells cur' 151 (0, 0)) ∧ cur'.size = cur.size ∧ cur'.toList.take ((n + 1) * 2) = (cur.toList.take (n * 2)).take (i * 2) ++ ys ++ (cur.toList.take (n * 2)).drop (i * 2) ∧ Upd w w' (fun k => k = g) ∧ w'.heap.size = w.heap.size := by
  obtain ⟨ti, hti, hz0, hz1, hz2⟩ := info_parts info66
  have hz3 : ¬ ((i : Int) = (n : Int)) := by omega
  have hov : ∀ lb cb, (callFunc 134 #[.slice (some ⟨vb, 0, none⟩) 1 1, .slice (some ⟨g, (i + 1) * 2, none⟩) lb cb]).run Tryz.prog w = .ok (.value (.bool false)) w := fun lb cb => by
    rw [run_callFunc_extern Tryz.func134 (by kernel_rfl) (by kernel_rfl) (by kernel_rfl) (e := Extern.SlicesOverlaps.overlaps #[183, 183] #[4]) (by kernel_rfl),
      Lib.run_overlaps_apart w 183 4 151 Tryz.underlying183 2 size66 ⟨vb, 0, none⟩ ⟨g, (i + 1) * 2, none⟩ 1 1 lb cb hne 151 151 2 cur.size (by simp [World.shape?, hvb, hyl]) (by simp [World.shape?, hg]) (by omega) (by simp [World.frozen?, hvb]) (by simp [World.frozen?, hvb])]
    rfl
  obtain ⟨L, hL⟩ : ∃ L, L = cur.toList := ⟨_, rfl⟩
  have hLl : L.length = c * 2 := by rw [hL]; simpa using hcs
  have hdl : ((L.take (n * 2)).drop (i * 2)).length = (n - i) * 2 := by rw [List.length_drop, List.length_take, hLl]; omega
  obtain ⟨c1, hc1⟩ : ∃ c1, c1 = L.take (i * 2 + 2) ++ (L.take (n * 2)).drop (i * 2) ++ L.drop (i * 2 + 2 + ((L.take (n * 2)).drop (i * 2)).length) := ⟨_, rfl⟩
  obtain ⟨r1, r2⟩ := row_ins L ys (i * 2) (n * 2) 2 hyl (by omega) (by omega) c1 hc1
  have hc1l : c1.length = L.length := by rw [hc1]; simp [hLl]; omega
  set_option maxRecDepth 10000 in
  have hcp1 : ∀ ty dc sc, (Builtin.copy_ #[183, 183] ty #[.slice (some ⟨g, (i + 1) * 2, none⟩) (n - i) dc, .slice (some ⟨g, i * 2, none⟩) (n + 1 - i) sc]).run Tryz.prog w.drew = .ok (goInt (Nat.min (n + 1 - i) (n - i) : Nat)) (w.drew.setRow g c1.toArray) := fun ty dc sc => by
    have := run_copyS (P := Tryz.prog) w.drew 183 183 ty 151 151 ti Tryz.underlying183 hti g (i * 2 + 2) (n - i) dc cur hg ⟨g, i * 2, none⟩ (n + 1 - i) sc ((L.take (n * 2)).drop (i * 2)) (by rw [hdl, hz1, Nat.min_def]; split <;> congr 1 <;> omega) (fun j v hj => by
      rw [Addr.add_lit]
      refine row_cellsI (w := w.drew) hg _ v ?_
      rw [List.getElem?_drop, List.getElem?_take] at hj
      split at hj
      · rw [← hL]; exact hj
      · cases hj) (by rw [hdl, hcs]; omega) (fun v hv => h1 v (by rw [← hL]; exact List.mem_of_mem_drop hv))
    rw [← hL, ← hc1] at this
    simpa [Nat.add_mul] using this
  obtain ⟨W1, hW1⟩ : ∃ W1, W1 = w.drew.setRow g c1.toArray := ⟨_, rfl⟩
  have hg1 : W1.heap[g]? = some (.cells c1.toArray 151 (0, 0)) := by rw [hW1]; exact setRow_heap w.drew g cur _ 151 _ hg
  have hv1 : W1.heap[vb]? = some (.cells ys.toArray 151 (0, 0)) := by rw [hW1, setRow_other w.drew g vb _ hne]; exact hvb
  have hcp2 : ∀ ty dc, (Builtin.copy_ #[183, 183] ty #[.slice (some ⟨g, i * 2, none⟩) (n + 1 - i) dc, .slice (some ⟨vb, 0, none⟩) 1 1]).run Tryz.prog W1 = .ok (goInt (Nat.min 1 (n + 1 - i) : Nat)) (W1.setRow g (c1.take (i * 2) ++ ys ++ c1.drop (i * 2 + 2)).toArray) := fun ty dc => by
    have := run_copyS (P := Tryz.prog) W1 183 183 ty 151 151 ti Tryz.underlying183 hti g (i * 2) (n + 1 - i) dc c1.toArray hg1 ⟨vb, 0, none⟩ 1 1 ys (by rw [hyl, hz1, Nat.min_def]; split <;> omega) (fun j v hj => by
      rw [Addr.add_lit, Nat.zero_add]
      exact row_cellsI hv1 _ v (by simpa using hj)) (by simp [hc1l, hLl, hyl]; omega) h1y
    rw [hyl] at this
    simpa using this
  have HF : Hid (∀ w' : World, w' = W1.setRow g (c1.take (i * 2) ++ ys ++ c1.drop (i * 2 + 2)).toArray → ∃ cur' : Array Value, w'.heap[g]? = some (.cells cur' 151 (0, 0)) ∧ cur'.size = cur.size ∧ cur'.toList.take ((n + 1) * 2) = (cur.toList.take (n * 2)).take (i * 2) ++ ys ++ (cur.toList.take (n * 2)).drop (i * 2) ∧ Upd w w' (fun k => k = g) ∧ w'.heap.size = w.heap.size) := fun w' hw' => by
    subst hw'
    refine ⟨_, setRow_heap W1 g _ _ 151 _ hg1, ?_, ?_, ?_, ?_⟩
    · simp only [List.size_toArray, r2]; rw [hL]; simp
    · rw [← hL, Nat.add_mul, Nat.one_mul]; exact r1
    · have u1 : Upd w W1 (fun k => k = g) := by rw [hW1]; exact (Upd.refl w _).drew.trans (upd_setRow w.drew g _ (fun k => k = g) rfl) (fun _ _ h => h)
      exact u1.trans (upd_setRow W1 g _ (fun k => k = g) rfl) (fun _ _ h => h)
    · rw [hW1]; simp
  rw [← hW1] at hcp1
  clear hL hLl hdl hc1 r1 r2 hc1l hg1 hv1 hW1 h1 h1y
  have hw1 : IntKind.i64.wrap ((i : Int) + 1) = (i : Int) + 1 := by rw [IntKind.wrap_i64]; omega
  have hb1 : (0 : Int) ≤ (i : Int) + 1 := by omega
  have hin : i ≤ n := by omega
  have htn : ((i : Int) + 1).toNat = i + 1 := by omega
  have hb2 : ¬ (c = i + 1) := by omega
  have hb3 : (i : Int) ≤ (n : Int) + 1 := by omega
  have hb4 : ¬ (c = i) := by omega
  go_enter Tryz.func128, Tryz.ntmps128
  go_wp2_with (simp only [hov])
  go_region_law (refine step_copy_run rfl _ _ 183 183 rfl _ _ (by simp [Act.eval, Act.put]) (by simp [Act.eval, Act.put]) (hcp1 _ _ _) ?_)
  go_wp2_with (at_builtin; refine wpList_copy_run _ rfl _ _ 183 183 rfl _ _ rfl rfl (hcp2 _ _) ?_)
  go_ret
  exact ⟨rfl, HF.out _ (by simp [List.append_assoc])⟩

set_option maxRecDepth 100000 in
set_option maxHeartbeats 2000000 in
/-- Insert at the end of a row. -/
theorem insI_end (v : Value) (n vb : Nat) (xs ys : List Value) (w : World) (hown : w.ownsRow 0 151 2 v n xs) (hn : n ≤ 1000)
    (hvb : w.heap[vb]? = some (.cells ys.toArray 151 (0, 0))) (hyl : ys.length = 2) (h1y : ∀ u ∈ ys, u.oneCell' = true) :
    Calls Tryz.prog 128 #[v, .int .i64 n, .slice (some ⟨vb, 0, none⟩) 1 1] w fun e w' => ∃ v', e = .returned v' ∧ w'.ownsRow 0 151 2 v' (n + 1) (xs ++ ys) ∧ Upd w w' (fun k => some k = v.ownBlock) ∧ (v'.ownBlock = v.ownBlock ∨ v'.ownBlock = some w.heap.size) := by
  obtain ⟨ti, hti, hz0, hz1, hz2⟩ := info_parts info66
  have hsrc : Src Tryz.prog 2 183 (.slice (some ⟨vb, 0, none⟩) 1 1) 1 ys w := Src.ofSlice w Tryz.underlying183 ⟨vb, 0, none⟩ 1 1 ys (by omega) (fun j u hj => by
    rw [Addr.add_lit, Nat.zero_add]
    exact row_cellsI hvb _ u (by simpa using hj)) h1y
  have HO : Hid (w.ownsRow 0 151 2 v n xs) := hown
  obtain ⟨p, c, hf, hnc, hcm⟩ : ∃ p c, v = .slice p n c ∧ n ≤ c ∧ c ≤ 9223372036854775807 := by
    rcases hown.2 with ⟨rfl, rfl⟩ | ⟨g, cap, cur, rfl, _, _, h1, h2, _⟩
    · exact ⟨_, _, rfl, Nat.le_refl _, by omega⟩
    · refine ⟨_, _, rfl, h1, ?_⟩
      unfold maxLen at h2; omega
  subst hf
  clear hown h1y hvb
  cases p with
  | none =>
    go_enter Tryz.func128, Tryz.ntmps128
    go_wp2_with (at_builtin; refine wpList_appS _ rfl _ _ 183 183 rfl 0 151 ti _ 2 Tryz.underlying183 hti hz0 hz1 rfl (by rw [hz2]; omega) _ n xs rfl HO.out _ rfl 1 ys hsrc (by omega) (Nat.zero_le _) ?_; intro v' w' q1 q2 q3 q4)
    all_goals
      go_ret
      exact ⟨_, rfl, q1, q2, q3⟩
  | some a =>
    obtain ⟨ab, ao, asp⟩ := a
    go_enter Tryz.func128, Tryz.ntmps128
    go_wp2_with (at_builtin; refine wpList_appS _ rfl _ _ 183 183 rfl 0 151 ti _ 2 Tryz.underlying183 hti hz0 hz1 rfl (by rw [hz2]; omega) _ n xs rfl HO.out _ rfl 1 ys hsrc (by omega) (Nat.zero_le _) ?_; intro v' w' q1 q2 q3 q4)
    all_goals
      go_ret
      exact ⟨_, rfl, q1, q2, q3⟩
set_option maxRecDepth 100000 in
set_option maxHeartbeats 2000000 in
/-- Insert within a row that has no room. -/
theorem insI_grow (g n i vb : Nat) (cur : Array Value) (ys : List Value) (w : World) (hg : w.heap[g]? = some (.cells cur 151 (0, 0))) (hi : i < n) (hcs : cur.size = n * 2) (hn : n ≤ 1000)
    (hvb : w.heap[vb]? = some (.cells ys.toArray 151 (0, 0))) (hyl : ys.length = 2) (h1 : ∀ u ∈ cur.toList, u.oneCell' = true) (h1y : ∀ u ∈ ys, u.oneCell' = true) :
    Calls Tryz.prog 128 #[.slice (some ⟨g, 0, none⟩) n n, .int .i64 i, .slice (some ⟨vb, 0, none⟩) 1 1] w fun e w' => ∃ v', e = .returned v' ∧ w'.ownsRow 0 151 2 v' (n + 1) (cur.toList.take (i * 2) ++ ys ++ cur.toList.drop (i * 2)) ∧ Upd w w' (fun _ => False) ∧ v'.ownBlock = some w.heap.size := by
  obtain ⟨ti, hti, hz0, hz1, hz2⟩ := info_parts info66
  have hz3 : ¬ ((i : Int) = (n : Int)) := by omega
  have hgw : g < w.heap.size := (Array.getElem?_eq_some_iff.1 hg).1
  have hvw : vb < w.heap.size := (Array.getElem?_eq_some_iff.1 hvb).1
  obtain ⟨L, hL⟩ : ∃ L, L = cur.toList := ⟨_, rfl⟩
  have hLl : L.length = n * 2 := by rw [hL]; simpa using hcs
  have hold : (Builtin.firstCells ti.size i (.slice (some ⟨g, 0, none⟩) i n)).run Tryz.prog w.drew = .ok (L.take (i * 2)).toArray w.drew := by
    rw [hz1]
    refine run_firstCells_some w.drew 2 i ⟨g, 0, none⟩ i n (L.take (i * 2)) (by simp [hLl]; omega) (fun j v hj => ?_)
    rw [Addr.add_lit, Nat.zero_add]
    rw [List.getElem?_take] at hj
    split at hj
    · exact row_cellsI (w := w.drew) hg _ v (by rw [← hL]; exact hj)
    · cases hj
  have hkk : (n : Int) + 1 - (i : Int) = ((n + 1 - i : Nat) : Int) := by omega
  obtain ⟨G, hG⟩ : ∃ G, G = grownCap w (n + 1) n 151 := ⟨_, rfl⟩
  have hGn : n + 1 ≤ G := by rw [hG]; exact grownCap_ge w _ _ _
  have hGm : G ≤ maxLen := by rw [hG]; exact grownCap_le_maxLen w (n + 1) n 151 (by unfold maxLen; omega)
  have hG63 : G ≤ 9223372036854775807 := by unfold maxLen at hGm; omega
  obtain ⟨ROW, hROW, hRS, hRT⟩ : ∃ ROW : Array Value, (∀ ty, (Builtin.append_ #[183, 3] ty #[.slice (some ⟨g, 0, none⟩) i n, .int .i64 ((n : Int) + 1 - (i : Int))]).run Tryz.prog w = .ok (.slice (some ⟨w.heap.size, 0, none⟩) (n + 1) G) (w.drew.alloc (.cells ROW 151))) ∧ ROW.size = G * 2 ∧ ROW.toList.take (i * 2) = L.take (i * 2) := by
    have hik : i + (n + 1 - i) = n + 1 := by omega
    have h := fun ty => Lib.run_append_grow_zeros w 183 3 ty 151 ti _ .i64 .i64 Tryz.underlying183 Tryz.underlying3 hti hz0 (some ⟨g, 0, none⟩) i n (L.take (i * 2)) hold (n + 1 - i) (by omega) (by omega) (by omega) (by omega) (by rw [hz2]; omega) (by rw [hz2, hik]; exact growslice_fits (by omega) (by omega))
    rw [hik, ← hG] at h
    refine ⟨_, fun ty => by rw [hkk]; exact h ty, ?_, ?_⟩
    · simp [Builtin.zeroCells, Value.cells, hLl]; omega
    · rw [Array.toList_append, Array.toList_append, List.append_assoc, List.take_append_of_le_length (by simp [hLl]; omega)]
      show (L.take (i * 2)).take (i * 2) = L.take (i * 2)
      rw [List.take_take, Nat.min_self]
  have hdl : ((L.take (n * 2)).drop (i * 2)).length = (n - i) * 2 := by rw [List.length_drop, List.length_take, hLl]; omega
  have hLt : L.take (n * 2) = L := List.take_of_length_le (by omega)
  obtain ⟨c1, hc1⟩ : ∃ c1, c1 = ROW.toList.take (i * 2) ++ ys ++ ROW.toList.drop (i * 2 + ys.length) := ⟨_, rfl⟩
  obtain ⟨r1, r2⟩ := row_grow L ys ROW.toList (i * 2) (n * 2) 2 hyl (by omega) (by omega) (by simp [hRS]; omega) hRT c1 hc1
  have hc1l : c1.length = G * 2 := by rw [hc1]; simp [hRS, hyl]; omega
  obtain ⟨W1, hW1⟩ : ∃ W1, W1 = w.drew.alloc (.cells ROW 151) := ⟨_, rfl⟩
  have hb1 : Below w.heap.size w W1 := by rw [hW1]; exact ((Below.refl w.heap.size w).drew).alloc (Nat.le_refl _) _
  have hg1 : W1.heap[w.heap.size]? = some (.cells ROW 151 (0, 0)) := by rw [hW1]; exact heap_alloc_new w.drew _
  have hv1 : W1.heap[vb]? = some (.cells ys.toArray 151 (0, 0)) := (hb1.block vb hvw).trans hvb
  have hcpA : ∀ ty dc, (Builtin.copy_ #[183, 183] ty #[.slice (some ⟨w.heap.size, i * 2, none⟩) (n + 1 - i) dc, .slice (some ⟨vb, 0, none⟩) 1 1]).run Tryz.prog W1 = .ok (goInt (Nat.min 1 (n + 1 - i) : Nat)) (W1.setRow w.heap.size c1.toArray) := fun ty dc => by
    have := run_copyS (P := Tryz.prog) W1 183 183 ty 151 151 ti Tryz.underlying183 hti w.heap.size (i * 2) (n + 1 - i) dc ROW hg1 ⟨vb, 0, none⟩ 1 1 ys (by rw [hyl, hz1, Nat.min_def]; split <;> omega) (fun j v hj => by
      rw [Addr.add_lit, Nat.zero_add]
      exact row_cellsI hv1 _ v (by simpa using hj)) (by rw [hRS, hyl]; omega) h1y
    rw [← hc1] at this
    simpa using this
  obtain ⟨W2, hW2⟩ : ∃ W2, W2 = W1.setRow w.heap.size c1.toArray := ⟨_, rfl⟩
  have hg2 : W2.heap[w.heap.size]? = some (.cells c1.toArray 151 (0, 0)) := by rw [hW2]; exact setRow_heap W1 _ _ _ 151 _ hg1
  have hgg : W2.heap[g]? = some (.cells cur 151 (0, 0)) := by rw [hW2, setRow_other W1 _ g _ (by omega)]; exact (hb1.block g hgw).trans hg
  have hcpB : ∀ ty dc sc, (Builtin.copy_ #[183, 183] ty #[.slice (some ⟨w.heap.size, (i + 1) * 2, none⟩) (n - i) dc, .slice (some ⟨g, i * 2, none⟩) (n - i) sc]).run Tryz.prog W2.drew = .ok (goInt (Nat.min (n - i) (n - i) : Nat)) (W2.drew.setRow w.heap.size (c1.take (i * 2 + 2) ++ (L.take (n * 2)).drop (i * 2) ++ c1.drop (i * 2 + 2 + ((L.take (n * 2)).drop (i * 2)).length)).toArray) := fun ty dc sc => by
    have := run_copyS (P := Tryz.prog) W2.drew 183 183 ty 151 151 ti Tryz.underlying183 hti w.heap.size (i * 2 + 2) (n - i) dc c1.toArray hg2 ⟨g, i * 2, none⟩ (n - i) sc ((L.take (n * 2)).drop (i * 2)) (by rw [hdl, hz1, Nat.min_self]) (fun j v hj => by
      rw [Addr.add_lit]
      refine row_cellsI (w := W2.drew) hgg _ v ?_
      rw [List.getElem?_drop, hLt] at hj
      rw [← hL]; exact hj) (by rw [hdl]; simp [hc1l]; omega) (fun v hv => h1 v (by rw [← hL]; exact List.mem_of_mem_take (List.mem_of_mem_drop hv)))
    simpa [Nat.add_mul] using this
  have HF : Hid (∀ w' : World, w' = W2.drew.setRow w.heap.size (c1.take (i * 2 + 2) ++ (L.take (n * 2)).drop (i * 2) ++ c1.drop (i * 2 + 2 + ((L.take (n * 2)).drop (i * 2)).length)).toArray → w'.ownsRow 0 151 2 (.slice (some ⟨w.heap.size, 0, none⟩) (n + 1) G) (n + 1) (cur.toList.take (i * 2) ++ ys ++ cur.toList.drop (i * 2)) ∧ Upd w w' (fun _ => False)) := fun w' hw' => by
    subst hw'
    refine ⟨owns_of_row (setRow_heap W2.drew _ _ _ 151 _ hg2) hGn hGm ?_ ?_ ?_, ?_⟩
    · rw [List.size_toArray, r2]; simp [hRS]
    · rw [← hL, Nat.add_mul, Nat.one_mul, r1, hLt]
    · rw [← hL]; simp [hLl, hyl]; omega
    · have u2 : Upd w W2 (fun k => k = w.heap.size) := by rw [hW2]; exact (Upd.ofBelow hb1).trans (upd_setRow W1 _ _ (fun k => k = w.heap.size) rfl) (fun _ _ h => h)
      have u3 := u2.drew.trans (upd_setRow W2.drew w.heap.size (c1.take (i * 2 + 2) ++ (L.take (n * 2)).drop (i * 2) ++ c1.drop (i * 2 + 2 + ((L.take (n * 2)).drop (i * 2)).length)).toArray (fun k => k = w.heap.size) rfl) (fun _ _ h => h)
      exact u3.mono (fun k hk e => by omega)
  rw [← hW1] at hROW
  rw [← hW2] at hcpA
  clear hL hLl hdl hc1 r1 r2 hc1l hg1 hv1 hW1 hW2 hg2 hgg h1 h1y hold hLt hRT hRS hG hGm hkk hb1
  have hw1 : IntKind.i64.wrap ((i : Int) + 1) = (i : Int) + 1 := by rw [IntKind.wrap_i64]; omega
  have hb1 : (0 : Int) ≤ (i : Int) + 1 := by omega
  have hin : i ≤ n := by omega
  have htn : ((i : Int) + 1).toNat = i + 1 := by omega
  have hb2 : ¬ (G = i + 1) := by omega
  have hb3 : (i : Int) ≤ (n : Int) := by omega
  have hb4 : ¬ (n = i) := by omega
  have hb5 : ¬ (G = i) := by omega
  have hb6 : (n : Int) < (n : Int) + 1 := by omega
  go_enter Tryz.func128, Tryz.ntmps128
  go_wp2_with (first
    | (at_builtin; refine Lib.wpList_append_run _ rfl _ _ _ _ rfl _ _ rfl rfl _ _ (hROW _) ?_)
    | (at_builtin; refine wpList_copy_run _ rfl _ _ 183 183 rfl _ _ rfl rfl (hcpA _ _) ?_))
  go_region_law (refine step_copy_run rfl _ _ 183 183 rfl _ _ (by simp [Act.eval, Act.put]) (by simp [Act.eval, Act.put]) (hcpB _ _ _) ?_)
  go_wp2
  go_ret
  exact ⟨_, rfl, (HF.out _ (by simp [List.append_assoc])).1, (HF.out _ (by simp [List.append_assoc])).2, rfl⟩
/-- Insert, whatever room there is. -/
theorem insI_any (v : Value) (n i vb : Nat) (xs ys : List Value) (w : World) (hown : w.ownsRow 0 151 2 v n xs) (hi : i ≤ n) (hn : n ≤ 1000)
    (hvb : w.heap[vb]? = some (.cells ys.toArray 151 (0, 0))) (hyl : ys.length = 2) (hne : v.ownBlock ≠ some vb) (h1 : ∀ u ∈ xs, u.oneCell' = true) (h1y : ∀ u ∈ ys, u.oneCell' = true) :
    Calls Tryz.prog 128 #[v, .int .i64 i, .slice (some ⟨vb, 0, none⟩) 1 1] w fun e w' => ∃ v', e = .returned v' ∧ w'.ownsRow 0 151 2 v' (n + 1) (xs.take (i * 2) ++ ys ++ xs.drop (i * 2)) ∧ Upd w w' (fun k => some k = v.ownBlock) ∧ (v'.ownBlock = v.ownBlock ∨ v'.ownBlock = some w.heap.size) := by
  have hxl := hown.1
  by_cases hin : i = n
  · subst hin
    rw [List.take_of_length_le (by omega), List.drop_eq_nil_of_le (by omega), List.append_nil]
    exact insI_end v i vb xs ys w hown hn hvb hyl h1y
  · rcases hown.2 with ⟨rfl, rfl⟩ | ⟨g, cap, cur, rfl, _, hg, hnc, hcm, hcs, htake⟩
    · omega
    · by_cases hroom : n + 1 ≤ cap
      · refine (insI_room g n cap i vb cur ys w hg (by omega) hroom (by unfold maxLen at hcm; omega) hcs hn hvb hyl (fun e => hne (by rw [e]; rfl)) (by rw [htake]; exact h1) h1y).mono ?_
        rintro e w' ⟨rfl, cur', hg', hs', ht', hu, _⟩
        rw [htake] at ht'
        exact ⟨_, rfl, owns_of_row hg' hroom hcm (by rw [hs', hcs]) ht' (by simp [hxl, hyl]; omega), hu.mono (fun k _ e => by rw [e]; rfl), .inl rfl⟩
      · obtain rfl : cap = n := by omega
        have hct : cur.toList = xs := by rw [← htake, List.take_of_length_le (by simp [hcs])]
        refine (insI_grow g cap i vb cur ys w hg (by omega) hcs hn hvb hyl (by rw [hct]; exact h1) h1y).mono ?_
        rintro e w' ⟨v', rfl, ho, hu, hb⟩
        rw [hct] at ho
        exact ⟨_, rfl, ho, hu.mono (fun _ _ h => h.elim), .inr hb⟩
end Go.Proofs.YtjdmgmnndfhmgaaGreat
/- Delete: elements taken out of a row. -/
namespace Go.Proofs.YtjdmgmnndfhmgaaGreat
open Go Go.RowKit


set_option maxRecDepth 100000 in
set_option maxHeartbeats 2000000 in
/-- Delete: elements taken out of a row. -/
theorem delI_row (g n c i j : Nat) (cur : Array Value) (w : World) (hg : w.heap[g]? = some (.cells cur 151 (0, 0))) (hij : i < j) (hj : j ≤ n) (hnc : n ≤ c) (hcm : c ≤ maxLen) (hcs : cur.size = c * 2) (hn : n ≤ 1000) (h1 : ∀ u ∈ cur.toList.take (n * 2), u.oneCell' = true) :
    Calls Tryz.prog 116 #[.slice (some ⟨g, 0, none⟩) n c, .int .i64 i, .int .i64 j] w fun e w' => e = .returned (.slice (some ⟨g, 0, none⟩) (i + (n - j)) c) ∧
      w'.ownsRow 0 151 2 (.slice (some ⟨g, 0, none⟩) (i + (n - j)) c) (i + (n - j)) ((cur.toList.take (n * 2)).take (i * 2) ++ (cur.toList.take (n * 2)).drop (j * 2)) ∧ Upd w w' (fun k => k = g) ∧ w'.heap.size = w.heap.size := by
  obtain ⟨ti, hti, hz0, hz1, hz2⟩ := info_parts info66
  have hc63 : c ≤ 9223372036854775807 := by unfold maxLen at hcm; omega
  obtain ⟨L, hL⟩ : ∃ L, L = cur.toList := ⟨_, rfl⟩
  rw [← hL] at h1 ⊢
  have hLl : L.length = c * 2 := by rw [hL]; simpa using hcs
  have hdl : ((L.take (n * 2)).drop (j * 2)).length = (n - j) * 2 := by rw [List.length_drop, List.length_take, hLl]; omega
  obtain ⟨c1, hc1⟩ : ∃ c1, c1 = L.take (i * 2) ++ (L.take (n * 2)).drop (j * 2) ++ L.drop (i * 2 + ((L.take (n * 2)).drop (j * 2)).length) := ⟨_, rfl⟩
  have hc1l : c1.length = L.length := by rw [hc1, List.length_append, List.length_append, hdl, List.length_take, List.length_drop, hLl]; omega
  have hsrc : ∀ (a : Addr) (sc : Nat), (a = ⟨g, j * 2, none⟩ ∨ n - j = 0) → Src Tryz.prog 2 183 (.slice (some a) (n - j) sc) (n - j) ((L.take (n * 2)).drop (j * 2)) w.drew := fun a sc ha => Src.ofSlice w.drew Tryz.underlying183 a (n - j) sc _ hdl (fun k u hk => by
    rcases ha with rfl | ha
    · rw [Addr.add_lit]
      refine row_cellsI (w := w.drew) hg _ u ?_
      rw [List.getElem?_drop, List.getElem?_take] at hk
      split at hk
      · rw [← hL]; simpa using hk
      · cases hk
    · rw [ha] at hdl
      have hnil := List.eq_nil_of_length_eq_zero (show ((L.take (n * 2)).drop (j * 2)).length = 0 by omega)
      rw [hnil] at hk
      simp at hk) (fun v hv => h1 v (List.mem_of_mem_drop hv))
  have hap : ∀ ty (a : Addr) (sc : Nat), (a = ⟨g, j * 2, none⟩ ∨ n - j = 0) → (Builtin.append_ #[183, 183] ty #[.slice (some ⟨g, 0, none⟩) i c, .slice (some a) (n - j) sc]).run Tryz.prog w.drew = .ok (.slice (some ⟨g, 0, none⟩) (i + (n - j)) c) (w.drew.setRow g c1.toArray) := fun ty a sc ha => by
    have := run_appS_room (P := Tryz.prog) w.drew 183 183 ty 151 ti Tryz.underlying183 hti g i c cur hg _ (n - j) _ (by rw [hz1]; exact hsrc a sc ha) (by omega) (by rw [hz1, hcs]; omega)
    rw [hz1, ← hL] at this
    rw [this, hc1, hdl]
  obtain ⟨W1, hW1⟩ : ∃ W1, W1 = w.drew.setRow g c1.toArray := ⟨_, rfl⟩
  have hg1 : W1.heap[g]? = some (.cells c1.toArray 151 (0, 0)) := by rw [hW1]; exact setRow_heap w.drew g cur _ 151 _ hg
  obtain ⟨zs, hzl, hcl⟩ := run_clearS (P := Tryz.prog) W1 183 0 151 151 ti _ Tryz.underlying183 hti hz0 g ((i + (n - j)) * 2) (j - i) (c - (i + (n - j))) c1.toArray hg1 (by show _ + (j - i) * 2 ≤ _; simp [hc1l, hLl]; omega) (fun v hv => by
    simp only [Builtin.zeroCells, Array.toList_map, List.mem_map] at hv
    obtain ⟨k, _, rfl⟩ := hv
    have hk : k % 2 < 2 := Nat.mod_lt _ (by decide)
    show ((Value.cells (.agg #[.string ⟨#[]⟩, .slice none 0 0]))[k % 2]!).oneCell' = true
    rcases (show k % 2 = 0 ∨ k % 2 = 1 by omega) with h | h <;> rw [h] <;> rfl)
  have hzl' : zs.length = (j - i) * 2 := hzl
  rw [if_neg (by omega)] at hcl
  obtain ⟨r1, r2⟩ := row_del L zs (i * 2) (j * 2) (n * 2) ((i + (n - j)) * 2) (by omega) (by omega) (by omega) c1 hc1 (by omega) (by omega)
  have hcl' : ∀ ty k, k = c - (i + (n - j)) → (Builtin.clear_ #[183] ty #[.slice (some ⟨g, (i + (n - j)) * 2, none⟩) (j - i) k]).run Tryz.prog W1 = .ok (.tuple #[]) (W1.setRow g (c1.take ((i + (n - j)) * 2) ++ zs ++ c1.drop ((i + (n - j)) * 2 + zs.length)).toArray) := fun ty k hk => by
    subst hk
    rw [hzl']
    exact hcl
  have HF : Hid (∀ w' : World, w' = W1.setRow g (c1.take ((i + (n - j)) * 2) ++ zs ++ c1.drop ((i + (n - j)) * 2 + zs.length)).toArray →
      w'.ownsRow 0 151 2 (.slice (some ⟨g, 0, none⟩) (i + (n - j)) c) (i + (n - j)) ((L.take (n * 2)).take (i * 2) ++ (L.take (n * 2)).drop (j * 2)) ∧ Upd w w' (fun k => k = g) ∧ w'.heap.size = w.heap.size) := fun w' hw' => by
    subst hw'
    refine ⟨owns_of_row (setRow_heap W1 g _ _ 151 _ hg1) (by omega) hcm ?_ r1 ?_, ?_, ?_⟩
    · rw [List.size_toArray, r2, hLl]
    · rw [List.length_append, hdl, List.length_take, List.length_take, hLl]; omega
    · have u1 : Upd w W1 (fun k => k = g) := by rw [hW1]; exact (Upd.refl w _).drew.trans (upd_setRow w.drew g _ (fun k => k = g) rfl) (fun _ _ h => h)
      exact u1.trans (upd_setRow W1 g _ (fun k => k = g) rfl) (fun _ _ h => h)
    · rw [hW1]; simp
  rw [← hW1] at hap
  have hq1 : IntKind.i64.wrap ((i : Int) - (j : Int)) = (i : Int) - (j : Int) := by rw [IntKind.wrap_i64]; omega
  have hq2 : ¬ ((i : Int) = (j : Int)) := by omega
  have hq3 : (j : Int) ≤ (n : Int) := by omega
  have hq4 : (i : Int) ≤ (j : Int) := by omega
  have hq5 : (i : Int) ≤ (n : Int) := by omega
  have hq6 : (j : Int) ≤ (c : Int) := by omega
  have hq7 : (n : Int) ≤ (c : Int) := by omega
  have hq8 : (i : Int) ≤ (c : Int) := by omega
  have hq9 : n - (i + (n - j)) = j - i := by omega
  clear hL hLl hdl hc1 r1 r2 hc1l hg1 hW1 h1 hcl hzl hzl' hsrc
  have hqa : ¬ (c = i) := by omega
  have hqb : ¬ (c = i + (n - j)) := by omega
  have hqc : ¬ (n = i) := by omega
  have hqd : (0 : Int) ≤ (i : Int) + ((n - j : Nat) : Int) := by omega
  have hqe : i + (n - j) ≤ n := by omega
  by_cases hcj : c = j
  · have hjn : n - j = 0 := by omega
    have hap' := fun ty => hap ty ⟨g, 0, none⟩ 0 (.inr hjn)
    rw [hjn] at hap' hcl' HF hqb hqd hqe hq9 ⊢
    simp only [Nat.add_zero] at hap' hcl' HF hqb hqe hq9 ⊢
    subst hcj
    clear hap
    go_enter Tryz.func116, Tryz.ntmps116
    go_wp2
    go_region_law (refine step_append_run rfl _ _ 183 183 rfl _ _ (by simp [Act.eval, Act.put]; first | done | rfl) (by simp [Act.eval, Act.put]; first | done | rfl) (hap' _) ?_)
    go_wp2_with (at_builtin; refine wpList_clear_run _ rfl _ 183 rfl _ rfl (hcl' _ _ (by omega)) ?_)
    go_ret
    exact ⟨rfl, HF.out _ (by simp)⟩
  · have hap' := fun ty => hap ty ⟨g, j * 2, none⟩ (c - j) (.inl rfl)
    clear hap
    go_enter Tryz.func116, Tryz.ntmps116
    go_wp2
    go_region_law (refine step_append_run rfl _ _ 183 183 rfl _ _ (by simp [Act.eval, Act.put]; first | done | rfl) (by simp [Act.eval, Act.put]; first | done | rfl) (hap' _) ?_)
    go_wp2_with (at_builtin; refine wpList_clear_run _ rfl _ 183 rfl _ rfl (hcl' _ _ (by omega)) ?_)
    go_ret
    exact ⟨rfl, HF.out _ (by simp)⟩
/-- Delete, of a row that is owned. -/
theorem delI_any (v : Value) (n i j : Nat) (xs : List Value) (w : World) (hown : w.ownsRow 0 151 2 v n xs) (hij : i < j) (hj : j ≤ n) (hn : n ≤ 1000) (h1 : ∀ u ∈ xs, u.oneCell' = true) :
    Calls Tryz.prog 116 #[v, .int .i64 i, .int .i64 j] w fun e w' => ∃ v', e = .returned v' ∧ w'.ownsRow 0 151 2 v' (i + (n - j)) (xs.take (i * 2) ++ xs.drop (j * 2)) ∧ Upd w w' (fun k => some k = v.ownBlock) ∧ v'.ownBlock = v.ownBlock ∧ w'.heap.size = w.heap.size := by
  rcases hown.2 with ⟨rfl, rfl⟩ | ⟨g, cap, cur, rfl, _, hg, hnc, hcm, hcs, htake⟩
  · omega
  · refine (delI_row g n cap i j cur w hg hij hj hnc hcm hcs hn (by rw [htake]; exact h1)).mono ?_
    rintro e w' ⟨rfl, ho, hu, hz⟩
    rw [htake] at ho
    exact ⟨_, rfl, ho, hu.mono (fun k _ e => by rw [e]; rfl), rfl, hz⟩
end Go.Proofs.YtjdmgmnndfhmgaaGreat
/- fresh: a copy of a row. -/
namespace Go.Proofs.YtjdmgmnndfhmgaaGreat
open Go Go.RowKit

theorem info57 : (Tryz.prog.info? 123).map (fun i => (i.zero, i.size, i.bytes)) = some (some (.pointer none), 1, 8) := by kernel_rfl

set_option maxRecDepth 100000 in
set_option maxHeartbeats 1000000 in
/-- fresh: a copy, without spare room. -/
theorem freshK (g off n c : Nat) (xs : List Value) (w : World) (hn : n ≤ 1000000) (h0 : 0 < n) (hx : xs.length = n * 1) (hc : ∀ j v, xs[j]? = some v → w.cell? ⟨g, off + j, none⟩ = some v) (h1 : ∀ u ∈ xs, u.oneCell' = true) :
    Calls Tryz.prog 130 #[.slice (some ⟨g, off, none⟩) n c] w fun e w' => e = .returned (.slice (some ⟨w.heap.size, 0, none⟩) n n) ∧ w'.heap[w.heap.size]? = some (.cells xs.toArray 123 (0, 0)) ∧ w'.heap.size = w.heap.size + 1 ∧ Below w.heap.size w w' := by
  obtain ⟨i0, hi, hz0, hz1, hz2⟩ := info_parts info57
  have hg : g < w.heap.size := World.block_lt_of_cell? _ _ (hc 0 _ (List.getElem?_eq_getElem (by omega)))
  obtain ⟨ROW, hRS, hmk⟩ : ∃ ROW : Array Value, ROW.size = n * 1 ∧ (Instr.makeSlice 184 (.int .i64 n) (.int .i64 n)).run Tryz.prog w = .ok (.slice (some ⟨w.heap.size, 0, none⟩) n n) (w.alloc (.cells ROW 123)) := by
    have := run_make (P := Tryz.prog) w 184 123 i0 _ Tryz.underlying184 hi hz0 .i64 .i64 n n (by omega) (by omega) (by rw [hz2]; omega) (by omega)
    simp only [Int.toNat_natCast] at this
    exact ⟨_, by rw [size_madeCells, hz1], this⟩
  have hgn : (w.alloc (.cells ROW 123)).heap[w.heap.size]? = some (.cells ROW 123 (0, 0)) := heap_alloc_new w _
  have hcp : ∀ ty, (Builtin.copy_ #[184, 184] ty #[.slice (some ⟨w.heap.size, 0, none⟩) n n, .slice (some ⟨g, off, none⟩) n c]).run Tryz.prog (w.alloc (.cells ROW 123)) = .ok (goInt (Nat.min n n : Nat)) ((w.alloc (.cells ROW 123)).setRow w.heap.size xs.toArray) := fun ty => by
    have := run_copyS (P := Tryz.prog) (w.alloc (.cells ROW 123)) 184 184 ty 123 123 i0 Tryz.underlying184 hi w.heap.size 0 n n ROW hgn ⟨g, off, none⟩ n c xs (by rw [hx, hz1, Nat.min_self]) (fun j v hj => by
      rw [Addr.add_lit]
      exact ((Below.refl _ w).alloc (Nat.le_refl _) _ |>.cell (p := ⟨g, off + j, none⟩) hg).trans (hc j v hj)) (by omega) h1
    rw [List.take_zero, List.drop_eq_nil_of_le (by simp; omega), List.nil_append, List.append_nil] at this
    exact this
  clear hc
  go_enter Tryz.func130, Tryz.ntmps130
  go_wp2_with (at_builtin; refine wpList_copy_run _ rfl _ _ 184 184 rfl _ _ rfl rfl (hcp _) ?_)
  go_ret
  refine ⟨rfl, setRow_heap _ _ _ _ _ _ hgn, by simp, ?_⟩
  exact ((Below.refl _ w).alloc (Nat.le_refl _) _).trans (upd_setRow _ _ _ (fun k => k = w.heap.size) rfl |>.below (by simp) (fun k hk => by omega))
end Go.Proofs.YtjdmgmnndfhmgaaGreat
/- Insert: an element put into a row. -/
namespace Go.Proofs.YtjdmgmnndfhmgaaGreat
open Go Go.RowKit


theorem size57 : ∀ w, (Go.sizeOf 123).run Tryz.prog w = .ok 1 w := fun w => by
  obtain ⟨i0, hi, hz0, hz1, hz2⟩ := info_parts info57
  simp [Go.sizeOf, typeInfo, hi, hz1]
theorem row_cellsK {w : World} {g : Nat} {cur : Array Value} (hg : w.heap[g]? = some (.cells cur 123 (0, 0))) (j : Nat) (v : Value) (h : cur.toList[j]? = some v) : w.cell? ⟨g, j, none⟩ = some v := by
  simp only [World.cell?, hg]; simpa using h
set_option maxRecDepth 100000 in
set_option maxHeartbeats 2000000 in
/-- Insert: there is room, within the row. -/
theorem insK_room (g n c i vb : Nat) (cur : Array Value) (ys : List Value) (w : World) (hg : w.heap[g]? = some (.cells cur 123 (0, 0))) (hi : i < n) (hroom : n + 1 ≤ c) (_hc63 : c ≤ 9223372036854775807) (hcs : cur.size = c * 1) (hn : n ≤ 1000)
    (hvb : w.heap[vb]? = some (.cells ys.toArray 123 (0, 0))) (hyl : ys.length = 1) (hne : vb ≠ g) (h1 : ∀ u ∈ cur.toList.take (n * 1), u.oneCell' = true) (h1y : ∀ u ∈ ys, u.oneCell' = true) :
    Calls Tryz.prog 132 #[.slice (some ⟨g, 0, none⟩) n c, .int .i64 i, .slice (some ⟨vb, 0, none⟩) 1 1] w fun e w' => e = .returned (.slice (some ⟨g, 0, none⟩) (n + 1) c) ∧
      ∃ cur' : Array Value, w'.heap[g]? = some (.cells cur' 123 (0, 0)) ∧ cur'.size = cur.size ∧ cur'.toList.take ((n + 1) * 1) = (cur.toList.take (n * 1)).take (i * 1) ++ ys ++ (cur.toList.take (n * 1)).drop (i * 1) ∧ Upd w w' (fun k => k = g) ∧ w'.heap.size = w.heap.size := by
  obtain ⟨ti, hti, hz0, hz1, hz2⟩ := info_parts info57
  have hz3 : ¬ ((i : Int) = (n : Int)) := by omega
  have hov : ∀ lb cb, (callFunc 136 #[.slice (some ⟨vb, 0, none⟩) 1 1, .slice (some ⟨g, i + 1, none⟩) lb cb]).run Tryz.prog w = .ok (.value (.bool false)) w := fun lb cb => by
    rw [run_callFunc_extern Tryz.func136 (by kernel_rfl) (by kernel_rfl) (by kernel_rfl) (e := Extern.SlicesOverlaps.overlaps #[184, 184] #[4]) (by kernel_rfl),
      Lib.run_overlaps_apart w 184 4 123 Tryz.underlying184 1 size57 ⟨vb, 0, none⟩ ⟨g, i + 1, none⟩ 1 1 lb cb hne 123 123 1 cur.size (by simp [World.shape?, hvb, hyl]) (by simp [World.shape?, hg]) (by omega) (by simp [World.frozen?, hvb]) (by simp [World.frozen?, hvb])]
    rfl
  obtain ⟨L, hL⟩ : ∃ L, L = cur.toList := ⟨_, rfl⟩
  have hLl : L.length = c * 1 := by rw [hL]; simpa using hcs
  have hdl : ((L.take (n * 1)).drop (i * 1)).length = (n - i) * 1 := by rw [List.length_drop, List.length_take, hLl]; omega
  obtain ⟨c1, hc1⟩ : ∃ c1, c1 = L.take (i * 1 + 1) ++ (L.take (n * 1)).drop (i * 1) ++ L.drop (i * 1 + 1 + ((L.take (n * 1)).drop (i * 1)).length) := ⟨_, rfl⟩
  obtain ⟨r1, r2⟩ := row_ins L ys (i * 1) (n * 1) 1 hyl (by omega) (by omega) c1 hc1
  have hc1l : c1.length = L.length := by rw [hc1]; simp [hLl]; omega
  set_option maxRecDepth 10000 in
  have hcp1 : ∀ ty dc sc, (Builtin.copy_ #[184, 184] ty #[.slice (some ⟨g, i + 1, none⟩) (n - i) dc, .slice (some ⟨g, i, none⟩) (n + 1 - i) sc]).run Tryz.prog w.drew = .ok (goInt (Nat.min (n + 1 - i) (n - i) : Nat)) (w.drew.setRow g c1.toArray) := fun ty dc sc => by
    have := run_copyS (P := Tryz.prog) w.drew 184 184 ty 123 123 ti Tryz.underlying184 hti g (i * 1 + 1) (n - i) dc cur hg ⟨g, i * 1, none⟩ (n + 1 - i) sc ((L.take (n * 1)).drop (i * 1)) (by rw [hdl, hz1, Nat.min_def]; split <;> congr 1 <;> omega) (fun j v hj => by
      rw [Addr.add_lit]
      refine row_cellsK (w := w.drew) hg _ v ?_
      rw [List.getElem?_drop, List.getElem?_take] at hj
      split at hj
      · rw [← hL]; exact hj
      · cases hj) (by rw [hdl, hcs]; omega) (fun v hv => h1 v (by rw [← hL]; exact List.mem_of_mem_drop hv))
    rw [← hL, ← hc1] at this
    simpa [Nat.add_mul] using this
  obtain ⟨W1, hW1⟩ : ∃ W1, W1 = w.drew.setRow g c1.toArray := ⟨_, rfl⟩
  have hg1 : W1.heap[g]? = some (.cells c1.toArray 123 (0, 0)) := by rw [hW1]; exact setRow_heap w.drew g cur _ 123 _ hg
  have hv1 : W1.heap[vb]? = some (.cells ys.toArray 123 (0, 0)) := by rw [hW1, setRow_other w.drew g vb _ hne]; exact hvb
  have hcp2 : ∀ ty dc, (Builtin.copy_ #[184, 184] ty #[.slice (some ⟨g, i, none⟩) (n + 1 - i) dc, .slice (some ⟨vb, 0, none⟩) 1 1]).run Tryz.prog W1 = .ok (goInt (Nat.min 1 (n + 1 - i) : Nat)) (W1.setRow g (c1.take (i * 1) ++ ys ++ c1.drop (i * 1 + 1)).toArray) := fun ty dc => by
    have := run_copyS (P := Tryz.prog) W1 184 184 ty 123 123 ti Tryz.underlying184 hti g (i * 1) (n + 1 - i) dc c1.toArray hg1 ⟨vb, 0, none⟩ 1 1 ys (by rw [hyl, hz1, Nat.min_def]; split <;> omega) (fun j v hj => by
      rw [Addr.add_lit, Nat.zero_add]
      exact row_cellsK hv1 _ v (by simpa using hj)) (by simp [hc1l, hLl, hyl]; omega) h1y
    rw [hyl] at this
    simpa using this
  have HF : Hid (∀ w' : World, w' = W1.setRow g (c1.take (i * 1) ++ ys ++ c1.drop (i * 1 + 1)).toArray → ∃ cur' : Array Value, w'.heap[g]? = some (.cells cur' 123 (0, 0)) ∧ cur'.size = cur.size ∧ cur'.toList.take ((n + 1) * 1) = (cur.toList.take (n * 1)).take (i * 1) ++ ys ++ (cur.toList.take (n * 1)).drop (i * 1) ∧ Upd w w' (fun k => k = g) ∧ w'.heap.size = w.heap.size) := fun w' hw' => by
    subst hw'
    refine ⟨_, setRow_heap W1 g _ _ 123 _ hg1, ?_, ?_, ?_, ?_⟩
    · simp only [List.size_toArray, r2]; rw [hL]; simp
    · rw [← hL, Nat.add_mul, Nat.one_mul]; exact r1
    · have u1 : Upd w W1 (fun k => k = g) := by rw [hW1]; exact (Upd.refl w _).drew.trans (upd_setRow w.drew g _ (fun k => k = g) rfl) (fun _ _ h => h)
      exact u1.trans (upd_setRow W1 g _ (fun k => k = g) rfl) (fun _ _ h => h)
    · rw [hW1]; simp
  rw [← hW1] at hcp1
  clear hL hLl hdl hc1 r1 r2 hc1l hg1 hv1 hW1 h1 h1y
  have hw1 : IntKind.i64.wrap ((i : Int) + 1) = (i : Int) + 1 := by rw [IntKind.wrap_i64]; omega
  have hb1 : (0 : Int) ≤ (i : Int) + 1 := by omega
  have hin : i ≤ n := by omega
  have htn : ((i : Int) + 1).toNat = i + 1 := by omega
  have hb2 : ¬ (c = i + 1) := by omega
  have hb3 : (i : Int) ≤ (n : Int) + 1 := by omega
  have hb4 : ¬ (c = i) := by omega
  go_enter Tryz.func132, Tryz.ntmps132
  go_wp2_with (simp only [hov])
  go_region_law (refine step_copy_run rfl _ _ 184 184 rfl _ _ (by simp [Act.eval, Act.put]) (by simp [Act.eval, Act.put]) (hcp1 _ _ _) ?_)
  go_wp2_with (at_builtin; refine wpList_copy_run _ rfl _ _ 184 184 rfl _ _ rfl rfl (hcp2 _ _) ?_)
  go_ret
  exact ⟨rfl, HF.out _ (by simp [List.append_assoc])⟩

set_option maxRecDepth 100000 in
set_option maxHeartbeats 2000000 in
/-- Insert at the end of a row. -/
theorem insK_end (v : Value) (n vb : Nat) (xs ys : List Value) (w : World) (hown : w.ownsRow 0 123 1 v n xs) (hn : n ≤ 1000)
    (hvb : w.heap[vb]? = some (.cells ys.toArray 123 (0, 0))) (hyl : ys.length = 1) (h1y : ∀ u ∈ ys, u.oneCell' = true) :
    Calls Tryz.prog 132 #[v, .int .i64 n, .slice (some ⟨vb, 0, none⟩) 1 1] w fun e w' => ∃ v', e = .returned v' ∧ w'.ownsRow 0 123 1 v' (n + 1) (xs ++ ys) ∧ Upd w w' (fun k => some k = v.ownBlock) ∧ (v'.ownBlock = v.ownBlock ∨ v'.ownBlock = some w.heap.size) := by
  obtain ⟨ti, hti, hz0, hz1, hz2⟩ := info_parts info57
  have hsrc : Src Tryz.prog 1 184 (.slice (some ⟨vb, 0, none⟩) 1 1) 1 ys w := Src.ofSlice w Tryz.underlying184 ⟨vb, 0, none⟩ 1 1 ys (by omega) (fun j u hj => by
    rw [Addr.add_lit, Nat.zero_add]
    exact row_cellsK hvb _ u (by simpa using hj)) h1y
  have HO : Hid (w.ownsRow 0 123 1 v n xs) := hown
  obtain ⟨p, c, hf, hnc, hcm⟩ : ∃ p c, v = .slice p n c ∧ n ≤ c ∧ c ≤ 9223372036854775807 := by
    rcases hown.2 with ⟨rfl, rfl⟩ | ⟨g, cap, cur, rfl, _, _, h1, h2, _⟩
    · exact ⟨_, _, rfl, Nat.le_refl _, by omega⟩
    · refine ⟨_, _, rfl, h1, ?_⟩
      unfold maxLen at h2; omega
  subst hf
  clear hown h1y hvb
  cases p with
  | none =>
    go_enter Tryz.func132, Tryz.ntmps132
    go_wp2_with (at_builtin; refine wpList_appS _ rfl _ _ 184 184 rfl 0 123 ti _ 1 Tryz.underlying184 hti hz0 hz1 rfl (by rw [hz2]; omega) _ n xs rfl HO.out _ rfl 1 ys hsrc (by omega) (Nat.zero_le _) ?_; intro v' w' q1 q2 q3 q4)
    all_goals
      go_ret
      exact ⟨_, rfl, q1, q2, q3⟩
  | some a =>
    obtain ⟨ab, ao, asp⟩ := a
    go_enter Tryz.func132, Tryz.ntmps132
    go_wp2_with (at_builtin; refine wpList_appS _ rfl _ _ 184 184 rfl 0 123 ti _ 1 Tryz.underlying184 hti hz0 hz1 rfl (by rw [hz2]; omega) _ n xs rfl HO.out _ rfl 1 ys hsrc (by omega) (Nat.zero_le _) ?_; intro v' w' q1 q2 q3 q4)
    all_goals
      go_ret
      exact ⟨_, rfl, q1, q2, q3⟩
set_option maxRecDepth 100000 in
set_option maxHeartbeats 2000000 in
/-- Insert within a row that has no room. -/
theorem insK_grow (g n i vb : Nat) (cur : Array Value) (ys : List Value) (w : World) (hg : w.heap[g]? = some (.cells cur 123 (0, 0))) (hi : i < n) (hcs : cur.size = n * 1) (hn : n ≤ 1000)
    (hvb : w.heap[vb]? = some (.cells ys.toArray 123 (0, 0))) (hyl : ys.length = 1) (h1 : ∀ u ∈ cur.toList, u.oneCell' = true) (h1y : ∀ u ∈ ys, u.oneCell' = true) :
    Calls Tryz.prog 132 #[.slice (some ⟨g, 0, none⟩) n n, .int .i64 i, .slice (some ⟨vb, 0, none⟩) 1 1] w fun e w' => ∃ v', e = .returned v' ∧ w'.ownsRow 0 123 1 v' (n + 1) (cur.toList.take (i * 1) ++ ys ++ cur.toList.drop (i * 1)) ∧ Upd w w' (fun _ => False) ∧ v'.ownBlock = some w.heap.size := by
  obtain ⟨ti, hti, hz0, hz1, hz2⟩ := info_parts info57
  have hz3 : ¬ ((i : Int) = (n : Int)) := by omega
  have hgw : g < w.heap.size := (Array.getElem?_eq_some_iff.1 hg).1
  have hvw : vb < w.heap.size := (Array.getElem?_eq_some_iff.1 hvb).1
  obtain ⟨L, hL⟩ : ∃ L, L = cur.toList := ⟨_, rfl⟩
  have hLl : L.length = n * 1 := by rw [hL]; simpa using hcs
  have hold : (Builtin.firstCells ti.size i (.slice (some ⟨g, 0, none⟩) i n)).run Tryz.prog w.drew = .ok (L.take (i * 1)).toArray w.drew := by
    rw [hz1]
    refine run_firstCells_some w.drew 1 i ⟨g, 0, none⟩ i n (L.take (i * 1)) (by simp [hLl]; omega) (fun j v hj => ?_)
    rw [Addr.add_lit, Nat.zero_add]
    rw [List.getElem?_take] at hj
    split at hj
    · exact row_cellsK (w := w.drew) hg _ v (by rw [← hL]; exact hj)
    · cases hj
  have hkk : (n : Int) + 1 - (i : Int) = ((n + 1 - i : Nat) : Int) := by omega
  obtain ⟨G, hG⟩ : ∃ G, G = grownCap w (n + 1) n 123 := ⟨_, rfl⟩
  have hGn : n + 1 ≤ G := by rw [hG]; exact grownCap_ge w _ _ _
  have hGm : G ≤ maxLen := by rw [hG]; exact grownCap_le_maxLen w (n + 1) n 123 (by unfold maxLen; omega)
  have hG63 : G ≤ 9223372036854775807 := by unfold maxLen at hGm; omega
  obtain ⟨ROW, hROW, hRS, hRT⟩ : ∃ ROW : Array Value, (∀ ty, (Builtin.append_ #[184, 3] ty #[.slice (some ⟨g, 0, none⟩) i n, .int .i64 ((n : Int) + 1 - (i : Int))]).run Tryz.prog w = .ok (.slice (some ⟨w.heap.size, 0, none⟩) (n + 1) G) (w.drew.alloc (.cells ROW 123))) ∧ ROW.size = G * 1 ∧ ROW.toList.take (i * 1) = L.take (i * 1) := by
    have hik : i + (n + 1 - i) = n + 1 := by omega
    have h := fun ty => Lib.run_append_grow_zeros w 184 3 ty 123 ti _ .i64 .i64 Tryz.underlying184 Tryz.underlying3 hti hz0 (some ⟨g, 0, none⟩) i n (L.take (i * 1)) hold (n + 1 - i) (by omega) (by omega) (by omega) (by omega) (by rw [hz2]; omega) (by rw [hz2, hik]; exact growslice_fits (by omega) (by omega))
    rw [hik, ← hG] at h
    refine ⟨_, fun ty => by rw [hkk]; exact h ty, ?_, ?_⟩
    · simp [Builtin.zeroCells, Value.cells, hLl]; omega
    · rw [Array.toList_append, Array.toList_append, List.append_assoc, List.take_append_of_le_length (by simp [hLl]; omega)]
      show (L.take (i * 1)).take (i * 1) = L.take (i * 1)
      rw [List.take_take, Nat.min_self]
  have hdl : ((L.take (n * 1)).drop (i * 1)).length = (n - i) * 1 := by rw [List.length_drop, List.length_take, hLl]; omega
  have hLt : L.take (n * 1) = L := List.take_of_length_le (by omega)
  obtain ⟨c1, hc1⟩ : ∃ c1, c1 = ROW.toList.take (i * 1) ++ ys ++ ROW.toList.drop (i * 1 + ys.length) := ⟨_, rfl⟩
  obtain ⟨r1, r2⟩ := row_grow L ys ROW.toList (i * 1) (n * 1) 1 hyl (by omega) (by omega) (by simp [hRS]; omega) hRT c1 hc1
  have hc1l : c1.length = G * 1 := by rw [hc1]; simp [hRS, hyl]; omega
  obtain ⟨W1, hW1⟩ : ∃ W1, W1 = w.drew.alloc (.cells ROW 123) := ⟨_, rfl⟩
  have hb1 : Below w.heap.size w W1 := by rw [hW1]; exact ((Below.refl w.heap.size w).drew).alloc (Nat.le_refl _) _
  have hg1 : W1.heap[w.heap.size]? = some (.cells ROW 123 (0, 0)) := by rw [hW1]; exact heap_alloc_new w.drew _
  have hv1 : W1.heap[vb]? = some (.cells ys.toArray 123 (0, 0)) := (hb1.block vb hvw).trans hvb
  have hcpA : ∀ ty dc, (Builtin.copy_ #[184, 184] ty #[.slice (some ⟨w.heap.size, i, none⟩) (n + 1 - i) dc, .slice (some ⟨vb, 0, none⟩) 1 1]).run Tryz.prog W1 = .ok (goInt (Nat.min 1 (n + 1 - i) : Nat)) (W1.setRow w.heap.size c1.toArray) := fun ty dc => by
    have := run_copyS (P := Tryz.prog) W1 184 184 ty 123 123 ti Tryz.underlying184 hti w.heap.size (i * 1) (n + 1 - i) dc ROW hg1 ⟨vb, 0, none⟩ 1 1 ys (by rw [hyl, hz1, Nat.min_def]; split <;> omega) (fun j v hj => by
      rw [Addr.add_lit, Nat.zero_add]
      exact row_cellsK hv1 _ v (by simpa using hj)) (by rw [hRS, hyl]; omega) h1y
    rw [← hc1] at this
    simpa using this
  obtain ⟨W2, hW2⟩ : ∃ W2, W2 = W1.setRow w.heap.size c1.toArray := ⟨_, rfl⟩
  have hg2 : W2.heap[w.heap.size]? = some (.cells c1.toArray 123 (0, 0)) := by rw [hW2]; exact setRow_heap W1 _ _ _ 123 _ hg1
  have hgg : W2.heap[g]? = some (.cells cur 123 (0, 0)) := by rw [hW2, setRow_other W1 _ g _ (by omega)]; exact (hb1.block g hgw).trans hg
  have hcpB : ∀ ty dc sc, (Builtin.copy_ #[184, 184] ty #[.slice (some ⟨w.heap.size, i + 1, none⟩) (n - i) dc, .slice (some ⟨g, i, none⟩) (n - i) sc]).run Tryz.prog W2.drew = .ok (goInt (Nat.min (n - i) (n - i) : Nat)) (W2.drew.setRow w.heap.size (c1.take (i * 1 + 1) ++ (L.take (n * 1)).drop (i * 1) ++ c1.drop (i * 1 + 1 + ((L.take (n * 1)).drop (i * 1)).length)).toArray) := fun ty dc sc => by
    have := run_copyS (P := Tryz.prog) W2.drew 184 184 ty 123 123 ti Tryz.underlying184 hti w.heap.size (i * 1 + 1) (n - i) dc c1.toArray hg2 ⟨g, i * 1, none⟩ (n - i) sc ((L.take (n * 1)).drop (i * 1)) (by rw [hdl, hz1, Nat.min_self]) (fun j v hj => by
      rw [Addr.add_lit]
      refine row_cellsK (w := W2.drew) hgg _ v ?_
      rw [List.getElem?_drop, hLt] at hj
      rw [← hL]; exact hj) (by rw [hdl]; simp [hc1l]; omega) (fun v hv => h1 v (by rw [← hL]; exact List.mem_of_mem_take (List.mem_of_mem_drop hv)))
    simpa [Nat.add_mul] using this
  have HF : Hid (∀ w' : World, w' = W2.drew.setRow w.heap.size (c1.take (i * 1 + 1) ++ (L.take (n * 1)).drop (i * 1) ++ c1.drop (i * 1 + 1 + ((L.take (n * 1)).drop (i * 1)).length)).toArray → w'.ownsRow 0 123 1 (.slice (some ⟨w.heap.size, 0, none⟩) (n + 1) G) (n + 1) (cur.toList.take (i * 1) ++ ys ++ cur.toList.drop (i * 1)) ∧ Upd w w' (fun _ => False)) := fun w' hw' => by
    subst hw'
    refine ⟨owns_of_row (setRow_heap W2.drew _ _ _ 123 _ hg2) hGn hGm ?_ ?_ ?_, ?_⟩
    · rw [List.size_toArray, r2]; simp [hRS]
    · rw [← hL, Nat.add_mul, Nat.one_mul, r1, hLt]
    · rw [← hL]; simp [hLl, hyl]; omega
    · have u2 : Upd w W2 (fun k => k = w.heap.size) := by rw [hW2]; exact (Upd.ofBelow hb1).trans (upd_setRow W1 _ _ (fun k => k = w.heap.size) rfl) (fun _ _ h => h)
      have u3 := u2.drew.trans (upd_setRow W2.drew w.heap.size (c1.take (i * 1 + 1) ++ (L.take (n * 1)).drop (i * 1) ++ c1.drop (i * 1 + 1 + ((L.take (n * 1)).drop (i * 1)).length)).toArray (fun k => k = w.heap.size) rfl) (fun _ _ h => h)
      exact u3.mono (fun k hk e => by omega)
  rw [← hW1] at hROW
  rw [← hW2] at hcpA
  clear hL hLl hdl hc1 r1 r2 hc1l hg1 hv1 hW1 hW2 hg2 hgg h1 h1y hold hLt hRT hRS hG hGm hkk hb1
  have hw1 : IntKind.i64.wrap ((i : Int) + 1) = (i : Int) + 1 := by rw [IntKind.wrap_i64]; omega
  have hb1 : (0 : Int) ≤ (i : Int) + 1 := by omega
  have hin : i ≤ n := by omega
  have htn : ((i : Int) + 1).toNat = i + 1 := by omega
  have hb2 : ¬ (G = i + 1) := by omega
  have hb3 : (i : Int) ≤ (n : Int) := by omega
  have hb4 : ¬ (n = i) := by omega
  have hb5 : ¬ (G = i) := by omega
  have hb6 : (n : Int) < (n : Int) + 1 := by omega
  go_enter Tryz.func132, Tryz.ntmps132
  go_wp2_with (first
    | (at_builtin; refine Lib.wpList_append_run _ rfl _ _ _ _ rfl _ _ rfl rfl _ _ (hROW _) ?_)
    | (at_builtin; refine wpList_copy_run _ rfl _ _ 184 184 rfl _ _ rfl rfl (hcpA _ _) ?_))
  go_region_law (refine step_copy_run rfl _ _ 184 184 rfl _ _ (by simp [Act.eval, Act.put]) (by simp [Act.eval, Act.put]) (hcpB _ _ _) ?_)
  go_wp2
  go_ret
  exact ⟨_, rfl, (HF.out _ (by simp [List.append_assoc])).1, (HF.out _ (by simp [List.append_assoc])).2, rfl⟩
/-- Insert, whatever room there is. -/
theorem insK_any (v : Value) (n i vb : Nat) (xs ys : List Value) (w : World) (hown : w.ownsRow 0 123 1 v n xs) (hi : i ≤ n) (hn : n ≤ 1000)
    (hvb : w.heap[vb]? = some (.cells ys.toArray 123 (0, 0))) (hyl : ys.length = 1) (hne : v.ownBlock ≠ some vb) (h1 : ∀ u ∈ xs, u.oneCell' = true) (h1y : ∀ u ∈ ys, u.oneCell' = true) :
    Calls Tryz.prog 132 #[v, .int .i64 i, .slice (some ⟨vb, 0, none⟩) 1 1] w fun e w' => ∃ v', e = .returned v' ∧ w'.ownsRow 0 123 1 v' (n + 1) (xs.take (i * 1) ++ ys ++ xs.drop (i * 1)) ∧ Upd w w' (fun k => some k = v.ownBlock) ∧ (v'.ownBlock = v.ownBlock ∨ v'.ownBlock = some w.heap.size) := by
  have hxl := hown.1
  by_cases hin : i = n
  · subst hin
    rw [List.take_of_length_le (by omega), List.drop_eq_nil_of_le (by omega), List.append_nil]
    exact insK_end v i vb xs ys w hown hn hvb hyl h1y
  · rcases hown.2 with ⟨rfl, rfl⟩ | ⟨g, cap, cur, rfl, _, hg, hnc, hcm, hcs, htake⟩
    · omega
    · by_cases hroom : n + 1 ≤ cap
      · refine (insK_room g n cap i vb cur ys w hg (by omega) hroom (by unfold maxLen at hcm; omega) hcs hn hvb hyl (fun e => hne (by rw [e]; rfl)) (by rw [htake]; exact h1) h1y).mono ?_
        rintro e w' ⟨rfl, cur', hg', hs', ht', hu, _⟩
        rw [htake] at ht'
        exact ⟨_, rfl, owns_of_row hg' hroom hcm (by rw [hs', hcs]) ht' (by simp [hxl, hyl]; omega), hu.mono (fun k _ e => by rw [e]; rfl), .inl rfl⟩
      · obtain rfl : cap = n := by omega
        have hct : cur.toList = xs := by rw [← htake, List.take_of_length_le (by simp [hcs])]
        refine (insK_grow g cap i vb cur ys w hg (by omega) hcs hn hvb hyl (by rw [hct]; exact h1) h1y).mono ?_
        rintro e w' ⟨v', rfl, ho, hu, hb⟩
        rw [hct] at ho
        exact ⟨_, rfl, ho, hu.mono (fun _ _ h => h.elim), .inr hb⟩
end Go.Proofs.YtjdmgmnndfhmgaaGreat
/- Delete: elements taken out of a row. -/
namespace Go.Proofs.YtjdmgmnndfhmgaaGreat
open Go Go.RowKit


set_option maxRecDepth 100000 in
set_option maxHeartbeats 2000000 in
/-- Delete: elements taken out of a row. -/
theorem delK_row (g n c i j : Nat) (cur : Array Value) (w : World) (hg : w.heap[g]? = some (.cells cur 123 (0, 0))) (hij : i < j) (hj : j ≤ n) (hnc : n ≤ c) (hcm : c ≤ maxLen) (hcs : cur.size = c * 1) (hn : n ≤ 1000) (h1 : ∀ u ∈ cur.toList.take (n * 1), u.oneCell' = true) :
    Calls Tryz.prog 131 #[.slice (some ⟨g, 0, none⟩) n c, .int .i64 i, .int .i64 j] w fun e w' => e = .returned (.slice (some ⟨g, 0, none⟩) (i + (n - j)) c) ∧
      w'.ownsRow 0 123 1 (.slice (some ⟨g, 0, none⟩) (i + (n - j)) c) (i + (n - j)) ((cur.toList.take (n * 1)).take (i * 1) ++ (cur.toList.take (n * 1)).drop (j * 1)) ∧ Upd w w' (fun k => k = g) ∧ w'.heap.size = w.heap.size := by
  obtain ⟨ti, hti, hz0, hz1, hz2⟩ := info_parts info57
  have hc63 : c ≤ 9223372036854775807 := by unfold maxLen at hcm; omega
  obtain ⟨L, hL⟩ : ∃ L, L = cur.toList := ⟨_, rfl⟩
  rw [← hL] at h1 ⊢
  have hLl : L.length = c * 1 := by rw [hL]; simpa using hcs
  have hdl : ((L.take (n * 1)).drop (j * 1)).length = (n - j) * 1 := by rw [List.length_drop, List.length_take, hLl]; omega
  obtain ⟨c1, hc1⟩ : ∃ c1, c1 = L.take (i * 1) ++ (L.take (n * 1)).drop (j * 1) ++ L.drop (i * 1 + ((L.take (n * 1)).drop (j * 1)).length) := ⟨_, rfl⟩
  have hc1l : c1.length = L.length := by rw [hc1, List.length_append, List.length_append, hdl, List.length_take, List.length_drop, hLl]; omega
  have hsrc : ∀ (a : Addr) (sc : Nat), (a = ⟨g, j, none⟩ ∨ n - j = 0) → Src Tryz.prog 1 184 (.slice (some a) (n - j) sc) (n - j) ((L.take (n * 1)).drop (j * 1)) w.drew := fun a sc ha => Src.ofSlice w.drew Tryz.underlying184 a (n - j) sc _ hdl (fun k u hk => by
    rcases ha with rfl | ha
    · rw [Addr.add_lit]
      refine row_cellsK (w := w.drew) hg _ u ?_
      rw [List.getElem?_drop, List.getElem?_take] at hk
      split at hk
      · rw [← hL]; simpa using hk
      · cases hk
    · rw [ha] at hdl
      have hnil := List.eq_nil_of_length_eq_zero (show ((L.take (n * 1)).drop (j * 1)).length = 0 by omega)
      rw [hnil] at hk
      simp at hk) (fun v hv => h1 v (List.mem_of_mem_drop hv))
  have hap : ∀ ty (a : Addr) (sc : Nat), (a = ⟨g, j, none⟩ ∨ n - j = 0) → (Builtin.append_ #[184, 184] ty #[.slice (some ⟨g, 0, none⟩) i c, .slice (some a) (n - j) sc]).run Tryz.prog w.drew = .ok (.slice (some ⟨g, 0, none⟩) (i + (n - j)) c) (w.drew.setRow g c1.toArray) := fun ty a sc ha => by
    have := run_appS_room (P := Tryz.prog) w.drew 184 184 ty 123 ti Tryz.underlying184 hti g i c cur hg _ (n - j) _ (by rw [hz1]; exact hsrc a sc ha) (by omega) (by rw [hz1, hcs]; omega)
    rw [hz1, ← hL] at this
    rw [this, hc1, hdl]
  obtain ⟨W1, hW1⟩ : ∃ W1, W1 = w.drew.setRow g c1.toArray := ⟨_, rfl⟩
  have hg1 : W1.heap[g]? = some (.cells c1.toArray 123 (0, 0)) := by rw [hW1]; exact setRow_heap w.drew g cur _ 123 _ hg
  obtain ⟨zs, hzl, hcl⟩ := run_clearS (P := Tryz.prog) W1 184 0 123 123 ti _ Tryz.underlying184 hti hz0 g ((i + (n - j)) * 1) (j - i) (c - (i + (n - j))) c1.toArray hg1 (by show _ + (j - i) * 1 ≤ _; simp [hc1l, hLl]; omega) (fun v hv => by
    simp only [Builtin.zeroCells, Array.toList_map, List.mem_map] at hv
    obtain ⟨k, _, rfl⟩ := hv
    have hk : k % 1 < 1 := Nat.mod_lt _ (by decide)
    show ((Value.cells (.pointer none))[k % 1]!).oneCell' = true
    rw [show k % 1 = 0 by omega]; rfl)
  have hzl' : zs.length = (j - i) * 1 := hzl
  rw [if_neg (by omega)] at hcl
  obtain ⟨r1, r2⟩ := row_del L zs (i * 1) (j * 1) (n * 1) ((i + (n - j)) * 1) (by omega) (by omega) (by omega) c1 hc1 (by omega) (by omega)
  have hcl' : ∀ ty k, k = c - (i + (n - j)) → (Builtin.clear_ #[184] ty #[.slice (some ⟨g, i + (n - j), none⟩) (j - i) k]).run Tryz.prog W1 = .ok (.tuple #[]) (W1.setRow g (c1.take ((i + (n - j)) * 1) ++ zs ++ c1.drop ((i + (n - j)) * 1 + zs.length)).toArray) := fun ty k hk => by
    subst hk
    rw [hzl']
    change _ = Result.ok _ (W1.setRow g (c1.take ((i + (n - j)) * 1) ++ zs ++ c1.drop ((i + (n - j)) * 1 + (j - i) * 1)).toArray) at hcl; simp only [Nat.mul_one] at hcl ⊢; exact hcl
  have HF : Hid (∀ w' : World, w' = W1.setRow g (c1.take ((i + (n - j)) * 1) ++ zs ++ c1.drop ((i + (n - j)) * 1 + zs.length)).toArray →
      w'.ownsRow 0 123 1 (.slice (some ⟨g, 0, none⟩) (i + (n - j)) c) (i + (n - j)) ((L.take (n * 1)).take (i * 1) ++ (L.take (n * 1)).drop (j * 1)) ∧ Upd w w' (fun k => k = g) ∧ w'.heap.size = w.heap.size) := fun w' hw' => by
    subst hw'
    refine ⟨owns_of_row (setRow_heap W1 g _ _ 123 _ hg1) (by omega) hcm ?_ r1 ?_, ?_, ?_⟩
    · rw [List.size_toArray, r2, hLl]
    · rw [List.length_append, hdl, List.length_take, List.length_take, hLl]; omega
    · have u1 : Upd w W1 (fun k => k = g) := by rw [hW1]; exact (Upd.refl w _).drew.trans (upd_setRow w.drew g _ (fun k => k = g) rfl) (fun _ _ h => h)
      exact u1.trans (upd_setRow W1 g _ (fun k => k = g) rfl) (fun _ _ h => h)
    · rw [hW1]; simp
  rw [← hW1] at hap
  have hq1 : IntKind.i64.wrap ((i : Int) - (j : Int)) = (i : Int) - (j : Int) := by rw [IntKind.wrap_i64]; omega
  have hq2 : ¬ ((i : Int) = (j : Int)) := by omega
  have hq3 : (j : Int) ≤ (n : Int) := by omega
  have hq4 : (i : Int) ≤ (j : Int) := by omega
  have hq5 : (i : Int) ≤ (n : Int) := by omega
  have hq6 : (j : Int) ≤ (c : Int) := by omega
  have hq7 : (n : Int) ≤ (c : Int) := by omega
  have hq8 : (i : Int) ≤ (c : Int) := by omega
  have hq9 : n - (i + (n - j)) = j - i := by omega
  clear hL hLl hdl hc1 r1 r2 hc1l hg1 hW1 h1 hcl hzl hzl' hsrc
  have hqa : ¬ (c = i) := by omega
  have hqb : ¬ (c = i + (n - j)) := by omega
  have hqc : ¬ (n = i) := by omega
  have hqd : (0 : Int) ≤ (i : Int) + ((n - j : Nat) : Int) := by omega
  have hqe : i + (n - j) ≤ n := by omega
  by_cases hcj : c = j
  · have hjn : n - j = 0 := by omega
    have hap' := fun ty => hap ty ⟨g, 0, none⟩ 0 (.inr hjn)
    rw [hjn] at hap' hcl' HF hqb hqd hqe hq9 ⊢
    simp only [Nat.add_zero] at hap' hcl' HF hqb hqe hq9 ⊢
    subst hcj
    clear hap
    go_enter Tryz.func131, Tryz.ntmps131
    go_wp2
    go_region_law (refine step_append_run rfl _ _ 184 184 rfl _ _ (by simp [Act.eval, Act.put]; first | done | rfl) (by simp [Act.eval, Act.put]; first | done | rfl) (hap' _) ?_)
    go_wp2_with (at_builtin; refine wpList_clear_run _ rfl _ 184 rfl _ rfl (hcl' _ _ (by omega)) ?_)
    go_ret
    exact ⟨rfl, HF.out _ (by simp)⟩
  · have hap' := fun ty => hap ty ⟨g, j, none⟩ (c - j) (.inl rfl)
    clear hap
    go_enter Tryz.func131, Tryz.ntmps131
    go_wp2
    go_region_law (refine step_append_run rfl _ _ 184 184 rfl _ _ (by simp [Act.eval, Act.put]; first | done | rfl) (by simp [Act.eval, Act.put]; first | done | rfl) (hap' _) ?_)
    go_wp2_with (at_builtin; refine wpList_clear_run _ rfl _ 184 rfl _ rfl (hcl' _ _ (by omega)) ?_)
    go_ret
    exact ⟨rfl, HF.out _ (by simp)⟩
/-- Delete, of a row that is owned. -/
theorem delK_any (v : Value) (n i j : Nat) (xs : List Value) (w : World) (hown : w.ownsRow 0 123 1 v n xs) (hij : i < j) (hj : j ≤ n) (hn : n ≤ 1000) (h1 : ∀ u ∈ xs, u.oneCell' = true) :
    Calls Tryz.prog 131 #[v, .int .i64 i, .int .i64 j] w fun e w' => ∃ v', e = .returned v' ∧ w'.ownsRow 0 123 1 v' (i + (n - j)) (xs.take (i * 1) ++ xs.drop (j * 1)) ∧ Upd w w' (fun k => some k = v.ownBlock) ∧ v'.ownBlock = v.ownBlock ∧ w'.heap.size = w.heap.size := by
  rcases hown.2 with ⟨rfl, rfl⟩ | ⟨g, cap, cur, rfl, _, hg, hnc, hcm, hcs, htake⟩
  · omega
  · refine (delK_row g n cap i j cur w hg hij hj hnc hcm hcs hn (by rw [htake]; exact h1)).mono ?_
    rintro e w' ⟨rfl, ho, hu, hz⟩
    rw [htake] at ho
    exact ⟨_, rfl, ho, hu.mono (fun k _ e => by rw [e]; rfl), rfl, hz⟩
end Go.Proofs.YtjdmgmnndfhmgaaGreat
/- fresh: a copy of a row. -/
namespace Go.Proofs.YtjdmgmnndfhmgaaGreat
open Go Go.RowKit

theorem info35 : (Tryz.prog.info? 144).map (fun i => (i.zero, i.size, i.bytes)) = some (some (.agg #[.int .i64 0, .bool false]), 2, 16) := by kernel_rfl

set_option maxRecDepth 100000 in
set_option maxHeartbeats 1000000 in
/-- fresh: a copy, without spare room. -/
theorem freshM (g off n c : Nat) (xs : List Value) (w : World) (hn : n ≤ 1000000) (h0 : 0 < n) (hx : xs.length = n * 2) (hc : ∀ j v, xs[j]? = some v → w.cell? ⟨g, off + j, none⟩ = some v) (h1 : ∀ u ∈ xs, u.oneCell' = true) :
    Calls Tryz.prog 96 #[.slice (some ⟨g, off, none⟩) n c] w fun e w' => e = .returned (.slice (some ⟨w.heap.size, 0, none⟩) n n) ∧ w'.heap[w.heap.size]? = some (.cells xs.toArray 144 (0, 0)) ∧ w'.heap.size = w.heap.size + 1 ∧ Below w.heap.size w w' := by
  obtain ⟨i0, hi, hz0, hz1, hz2⟩ := info_parts info35
  have hg : g < w.heap.size := World.block_lt_of_cell? _ _ (hc 0 _ (List.getElem?_eq_getElem (by omega)))
  obtain ⟨ROW, hRS, hmk⟩ : ∃ ROW : Array Value, ROW.size = n * 2 ∧ (Instr.makeSlice 141 (.int .i64 n) (.int .i64 n)).run Tryz.prog w = .ok (.slice (some ⟨w.heap.size, 0, none⟩) n n) (w.alloc (.cells ROW 144)) := by
    have := run_make (P := Tryz.prog) w 141 144 i0 _ Tryz.underlying141 hi hz0 .i64 .i64 n n (by omega) (by omega) (by rw [hz2]; omega) (by omega)
    simp only [Int.toNat_natCast] at this
    exact ⟨_, by rw [size_madeCells, hz1], this⟩
  have hgn : (w.alloc (.cells ROW 144)).heap[w.heap.size]? = some (.cells ROW 144 (0, 0)) := heap_alloc_new w _
  have hcp : ∀ ty, (Builtin.copy_ #[141, 141] ty #[.slice (some ⟨w.heap.size, 0, none⟩) n n, .slice (some ⟨g, off, none⟩) n c]).run Tryz.prog (w.alloc (.cells ROW 144)) = .ok (goInt (Nat.min n n : Nat)) ((w.alloc (.cells ROW 144)).setRow w.heap.size xs.toArray) := fun ty => by
    have := run_copyS (P := Tryz.prog) (w.alloc (.cells ROW 144)) 141 141 ty 144 144 i0 Tryz.underlying141 hi w.heap.size 0 n n ROW hgn ⟨g, off, none⟩ n c xs (by rw [hx, hz1, Nat.min_self]) (fun j v hj => by
      rw [Addr.add_lit]
      exact ((Below.refl _ w).alloc (Nat.le_refl _) _ |>.cell (p := ⟨g, off + j, none⟩) hg).trans (hc j v hj)) (by omega) h1
    rw [List.take_zero, List.drop_eq_nil_of_le (by simp; omega), List.nil_append, List.append_nil] at this
    exact this
  clear hc
  go_enter Tryz.func96, Tryz.ntmps96
  go_wp2_with (at_builtin; refine wpList_copy_run _ rfl _ _ 141 141 rfl _ _ rfl rfl (hcp _) ?_)
  go_ret
  refine ⟨rfl, setRow_heap _ _ _ _ _ _ hgn, by simp, ?_⟩
  exact ((Below.refl _ w).alloc (Nat.le_refl _) _).trans (upd_setRow _ _ _ (fun k => k = w.heap.size) rfl |>.below (by simp) (fun k hk => by omega))
end Go.Proofs.YtjdmgmnndfhmgaaGreat
/- A node of the tree as it lies in memory; what a step does to the blocks of some nodes. -/
namespace Go.Proofs.YtjdmgmnndfhmgaaGreat
open Go Go.RowKit

theorem Hid.mk'' {p : Prop} (h : p) : Hid p := h
def isSl (v : Value) : Prop := ∃ p n c, v = .slice p n c
theorem isSl.one {v : Value} (h : isSl v) : v.oneCell' = true := by obtain ⟨p, n, c, rfl⟩ := h; rfl
def itC (it : Itm) : List Value := [.string it.key, it.mv]
def itsC (its : List Itm) : List Value := its.flatMap itC
abbrev ptr (k : Nat) : Value := .pointer (some ⟨k, 0, none⟩)
theorem itsC_len (its : List Itm) : (itsC its).length = its.length * 2 := by
  induction its with
  | nil => rfl
  | cons a l ih => simp only [itsC, List.flatMap_cons, List.length_append, List.length_cons] at ih ⊢; simp [itC] at ih ⊢; omega
theorem itsC_append (a b : List Itm) : itsC (a ++ b) = itsC a ++ itsC b := by simp [itsC]
theorem itsC_one (a : Itm) : itsC [a] = itC a := by simp [itsC]
theorem itsC_take : ∀ (its : List Itm) (i : Nat), (itsC its).take (i * 2) = itsC (its.take i)
  | its, 0 => by simp [itsC]
  | [], i + 1 => by simp [itsC]
  | a :: l, i + 1 => by
    have ih := itsC_take l i
    rw [show (i + 1) * 2 = i * 2 + 1 + 1 by omega]
    simp only [itsC, List.flatMap_cons, itC, List.cons_append, List.nil_append, List.take_succ_cons] at ih ⊢
    rw [ih]
theorem itsC_drop : ∀ (its : List Itm) (i : Nat), (itsC its).drop (i * 2) = itsC (its.drop i)
  | its, 0 => by simp
  | [], i + 1 => by simp [itsC]
  | a :: l, i + 1 => by
    have ih := itsC_drop l i
    rw [show (i + 1) * 2 = i * 2 + 1 + 1 by omega]
    simp only [itsC, List.flatMap_cons, itC, List.cons_append, List.nil_append, List.drop_succ_cons] at ih ⊢
    rw [ih]
theorem itsC_get : ∀ (its : List Itm) (j : Nat) (it : Itm), its[j]? = some it → (itsC its)[j * 2]? = some (.string it.key) ∧ (itsC its)[j * 2 + 1]? = some it.mv
  | [], j, it, h => by simp at h
  | a :: l, 0, it, h => by simp at h; subst h; simp [itsC, itC]
  | a :: l, j + 1, it, h => by
    have ih := itsC_get l j it (by simpa using h)
    rw [show (j + 1) * 2 = j * 2 + 1 + 1 by omega]
    simp only [itsC, List.flatMap_cons, itC, List.cons_append, List.nil_append, List.getElem?_cons_succ] at ih ⊢
    exact ih
theorem itsC_mem {its : List Itm} (h : ∀ it ∈ its, isSl it.mv) : ∀ u ∈ itsC its, u.oneCell' = true := by
  intro u hu
  simp only [itsC, List.mem_flatMap] at hu
  obtain ⟨it, hit, hu⟩ := hu
  simp only [itC, List.mem_cons, List.not_mem_nil, or_false] at hu
  rcases hu with rfl | rfl
  · rfl
  · exact (h it hit).one
theorem ptrs_mem (ks : List Nat) : ∀ u ∈ ks.map ptr, u.oneCell' = true := by
  intro u hu
  obtain ⟨k, _, rfl⟩ := List.mem_map.1 hu
  rfl

/-- The blocks of a node. -/
def nf (b : Nat) (iv kv : Value) : List Nat := b :: (iv.ownBlock.toList ++ kv.ownBlock.toList)

/-- A node: its items, its kids. -/
structure Nod (w : World) (b : Nat) (iv kv : Value) (its : List Itm) (ks : List Nat) : Prop where
  blk : w.heap[b]? = some (.cells #[iv, kv] 186 (0, 0))
  items : w.ownsRow 0 151 2 iv its.length (itsC its)
  kids : w.ownsRow 0 123 1 kv ks.length (ks.map ptr)
  mvs : ∀ it ∈ its, isSl it.mv
  nd : (nf b iv kv).Nodup

theorem owns_lt {w : World} {e s n : Nat} {v : Value} {xs : List Value} (h : w.ownsRow 0 e s v n xs) {k : Nat} (hk : v.ownBlock = some k) : k < w.heap.size := (h.lt k hk).2
theorem owns_form {w : World} {e s n : Nat} {v : Value} {xs : List Value} (h : w.ownsRow 0 e s v n xs) : ∃ p c, v = .slice p n c ∧ n ≤ c ∧ c ≤ 9223372036854775807 := by
  rcases h.2 with ⟨rfl, rfl⟩ | ⟨g, cap, cur, rfl, _, _, h1, h2, _⟩
  · exact ⟨_, _, rfl, Nat.le_refl _, by omega⟩
  · exact ⟨_, _, rfl, h1, by unfold maxLen at h2; omega⟩
theorem owns_form1 {w : World} {e s n : Nat} {v : Value} {xs : List Value} (h : w.ownsRow 0 e s v n xs) (hn : 0 < n) : ∃ g c, v = .slice (some ⟨g, 0, none⟩) n c ∧ n ≤ c ∧ c ≤ 9223372036854775807 := by
  rcases h.2 with ⟨rfl, rfl⟩ | ⟨g, cap, cur, rfl, _, _, h1, h2, _⟩
  · omega
  · exact ⟨_, _, rfl, h1, by unfold maxLen at h2; omega⟩
section
variable {w : World} {b : Nat} {iv kv : Value} {its : List Itm} {ks : List Nat} (h : Nod w b iv kv its ks)
include h
theorem Nod.c0 : w.cell? ⟨b, 0, none⟩ = some iv := by simp [World.cell?, h.blk]
theorem Nod.c1 : w.cell? ⟨b, 1, none⟩ = some kv := by simp [World.cell?, h.blk]
theorem Nod.free (j : Nat) : w.frozen? ⟨b, j, none⟩ = false := by simp [World.frozen?, h.blk]
theorem Nod.lt : b < w.heap.size := (Array.getElem?_eq_some_iff.1 h.blk).1
theorem Nod.foot_lt : ∀ k ∈ nf b iv kv, k < w.heap.size := by
  intro k hk
  simp only [nf, List.mem_cons, List.mem_append, Option.mem_toList] at hk
  rcases hk with rfl | hk | hk
  · exact h.lt
  · exact owns_lt h.items hk
  · exact owns_lt h.kids hk
theorem Nod.upd {w' : World} {S : Nat → Prop} (hu : Upd w w' S) (hS : ∀ k ∈ nf b iv kv, ¬ S k) : Nod w' b iv kv its ks :=
  ⟨(hu.block b h.lt (hS b (by simp [nf]))).trans h.blk, ownsRow_upd h.items hu (fun k hk => hS k (by simp [nf, hk])), ownsRow_upd h.kids hu (fun k hk => hS k (by simp [nf, hk])), h.mvs, h.nd⟩
theorem Nod.below {w' : World} (hb : Below w.heap.size w w') : Nod w' b iv kv its ks := h.upd (S := fun _ => False) (Upd.ofBelow hb) (fun _ _ h => h)
/-- An item's cells. -/
theorem Nod.item {g c : Nat} (hiv : iv = .slice (some ⟨g, 0, none⟩) its.length c) {j : Nat} {it : Itm} (hj : its[j]? = some it) : w.cell? ⟨g, j * 2, none⟩ = some (.string it.key) ∧ w.cell? ⟨g, j * 2 + 1, none⟩ = some it.mv := by
  obtain ⟨h1, h2⟩ := itsC_get its j it hj
  have hc := h.items.cells (g := g) (by rw [hiv]; rfl)
  have a1 := hc _ _ h1
  have a2 := hc _ _ h2
  simp only [Addr.add_lit, Nat.zero_add] at a1 a2
  exact ⟨a1, a2⟩
theorem Nod.kid {g c : Nat} (hkv : kv = .slice (some ⟨g, 0, none⟩) ks.length c) {j k : Nat} (hj : ks[j]? = some k) : w.cell? ⟨g, j, none⟩ = some (ptr k) := by
  have hc := h.kids.cells (g := g) (by rw [hkv]; rfl)
  have a1 := hc j (ptr k) (by simp [hj])
  simpa only [Addr.add_lit, Nat.zero_add] using a1
end

/-- Blocks F have become blocks F': nothing else has turned. -/
structure Step (w w' : World) (F F' : List Nat) : Prop where
  upd : Upd w w' (fun k => k ∈ F)
  nd : F'.Nodup
  sub : ∀ k ∈ F', k ∈ F ∨ w.heap.size ≤ k
  lt : ∀ k ∈ F', k < w'.heap.size
theorem Step.trans {a b c : World} {F G H : List Nat} (h : Step a b F G) (k : Step b c G H) : Step a c F H :=
  ⟨h.upd.trans k.upd (fun j _ hg => (h.sub j hg).resolve_right (by omega)), k.nd, fun j hj => by
    rcases k.sub j hj with hj | hj
    · exact h.sub j hj
    · exact .inr (Nat.le_trans h.upd.size hj), k.lt⟩
theorem Step.refl {w : World} {F : List Nat} (h : F.Nodup) (hl : ∀ k ∈ F, k < w.heap.size) : Step w w F F := ⟨Upd.refl _ _, h, fun _ h => .inl h, hl⟩
theorem Step.perm {w w' : World} {F G F' G' : List Nat} (h : Step w w' F F') (p : F.Perm G) (q : F'.Perm G') : Step w w' G G' :=
  ⟨h.upd.mono (fun _ _ hk => p.mem_iff.1 hk), q.nodup_iff.1 h.nd, fun k hk => (h.sub k (q.mem_iff.2 hk)).imp p.mem_iff.1 id, fun k hk => h.lt k (q.mem_iff.2 hk)⟩
theorem Step.frame {w w' : World} {F F' : List Nat} (h : Step w w' F F') (R : List Nat) (hn : (F ++ R).Nodup) (hl : ∀ k ∈ R, k < w.heap.size) : Step w w' (F ++ R) (F' ++ R) := by
  rw [List.nodup_append] at hn
  refine ⟨h.upd.mono (fun _ _ hk => List.mem_append_left _ hk), List.nodup_append.2 ⟨h.nd, hn.2.1, fun a ha b hb e => ?_⟩, fun k hk => ?_, fun k hk => ?_⟩
  · subst e
    rcases h.sub a ha with h' | h'
    · exact hn.2.2 a h' a hb rfl
    · have := hl a hb; omega
  · rcases List.mem_append.1 hk with hk | hk
    · exact (h.sub k hk).imp (List.mem_append_left _) id
    · exact .inl (List.mem_append_right _ hk)
  · rcases List.mem_append.1 hk with hk | hk
    · exact h.lt k hk
    · exact Nat.lt_of_lt_of_le (hl k hk) h.upd.size
theorem Step.below {w w' : World} {F : List Nat} (h : Below w.heap.size w w') (hn : F.Nodup) (hl : ∀ k ∈ F, k < w.heap.size) : Step w w' F F :=
  ⟨Upd.ofBelow h, hn, fun _ h => .inl h, fun k hk => Nat.lt_of_lt_of_le (hl k hk) h.size⟩
/-- A node that the step does not reach. -/
theorem Step.keep {w w' : World} {F F' : List Nat} (h : Step w w' F F') {b : Nat} {iv kv : Value} {its : List Itm} {ks : List Nat} (hN : Nod w b iv kv its ks) (hd : ∀ k ∈ nf b iv kv, k ∉ F) : Nod w' b iv kv its ks := hN.upd h.upd hd

theorem heap_setCell_row {w : World} {b j : Nat} {r : Array Value} {t : TypeId} {fz : Nat × Nat} (h : w.heap[b]? = some (.cells r t fz)) (v : Value) : (w.setCell ⟨b, j, none⟩ v).heap[b]? = some (.cells (r.set! j v) t fz) := by
  have hlt : b < w.heap.size := (Array.getElem?_eq_some_iff.1 h).1
  have hv : w.heap[b] = .cells r t fz := (Array.getElem?_eq_some_iff.1 h).2
  unfold World.setCell
  rw [Array.getElem?_eq_getElem (by simpa using hlt), Array.getElem_modify]
  simp [hv]
/-- A node gets new items. -/
theorem Nod.setItems {w w1 : World} {b : Nat} {iv kv iv' : Value} {its its' : List Itm} {ks : List Nat} (h : Nod w b iv kv its ks) (ho : w1.ownsRow 0 151 2 iv' its'.length (itsC its')) (hu : Upd w w1 (fun k => some k = iv.ownBlock))
    (hb : iv'.ownBlock = iv.ownBlock ∨ ∃ k, iv'.ownBlock = some k ∧ w.heap.size ≤ k) (hm : ∀ it ∈ its', isSl it.mv) :
    Nod (w1.setCell ⟨b, 0, none⟩ iv') b iv' kv its' ks ∧ Step w (w1.setCell ⟨b, 0, none⟩ iv') (nf b iv kv) (nf b iv' kv) := by
  have hnd := h.nd
  simp only [nf, List.nodup_cons, List.mem_append, Option.mem_toList, not_or] at hnd
  obtain ⟨⟨n1, n2⟩, n3⟩ := hnd
  have hbi : iv'.ownBlock ≠ some b := by
    rcases hb with hb | ⟨k, hk, hl⟩
    · rw [hb]; exact n1
    · rw [hk]; intro e; cases e; have := h.lt; omega
  have hblk : w1.heap[b]? = some (.cells #[iv, kv] 186 (0, 0)) := (hu.block b h.lt (fun e => n1 e.symm)).trans h.blk
  have us : Upd w1 (w1.setCell ⟨b, 0, none⟩ iv') (fun k => k = b) := (Upd.refl w1 (fun k => k = b)).setCell (.inr rfl) _
  have ho' := ownsRow_upd ho us (fun k hk e => hbi (by rw [hk, e]))
  have hk1 : w1.ownsRow 0 123 1 kv ks.length (ks.map ptr) := ownsRow_upd h.kids hu (fun k hk e => by
    rw [← e] at n3; rw [hk] at n3; simp at n3)
  have hk' := ownsRow_upd hk1 us (fun k hk e => n2 (by rw [hk, e]))
  have hnd' : (nf b iv' kv).Nodup := by
    simp only [nf, List.nodup_cons, List.mem_append, Option.mem_toList, not_or]
    refine ⟨⟨hbi, n2⟩, ?_⟩
    rcases hb with hb | ⟨k, hk, hl⟩
    · rw [hb]; exact n3
    · rw [hk]
      cases hkv : kv.ownBlock with
      | none => simp
      | some j =>
        have := owns_lt h.kids hkv
        simp; omega
  have hN : Nod (w1.setCell ⟨b, 0, none⟩ iv') b iv' kv its' ks := ⟨heap_setCell_row hblk iv', ho', hk', hm, hnd'⟩
  refine ⟨hN, (hu.mono fun k _ e => ?_).trans (us.mono fun k _ e => ?_) (fun _ _ h => h), hnd', fun k hk => ?_, hN.foot_lt⟩
  · simp [nf, ← e]
  · subst e; simp [nf]
  · simp only [nf, List.mem_cons, List.mem_append, Option.mem_toList] at hk ⊢
    rcases hk with rfl | hk | hk
    · exact .inl (.inl rfl)
    · rcases hb with hb | ⟨j, hj, hl⟩
      · exact .inl (.inr (.inl (by rw [← hb]; exact hk)))
      · rw [hj] at hk; cases hk; exact .inr hl
    · exact .inl (.inr (.inr hk))
/-- A node gets new kids. -/
theorem Nod.setKids {w w1 : World} {b : Nat} {iv kv kv' : Value} {its : List Itm} {ks ks' : List Nat} (h : Nod w b iv kv its ks) (ho : w1.ownsRow 0 123 1 kv' ks'.length (ks'.map ptr)) (hu : Upd w w1 (fun k => some k = kv.ownBlock))
    (hb : kv'.ownBlock = kv.ownBlock ∨ ∃ k, kv'.ownBlock = some k ∧ w.heap.size ≤ k) :
    Nod (w1.setCell ⟨b, 1, none⟩ kv') b iv kv' its ks' ∧ Step w (w1.setCell ⟨b, 1, none⟩ kv') (nf b iv kv) (nf b iv kv') := by
  have hnd := h.nd
  simp only [nf, List.nodup_cons, List.mem_append, Option.mem_toList, not_or] at hnd
  obtain ⟨⟨n1, n2⟩, n3⟩ := hnd
  have hbi : kv'.ownBlock ≠ some b := by
    rcases hb with hb | ⟨k, hk, hl⟩
    · rw [hb]; exact n2
    · rw [hk]; intro e; cases e; have := h.lt; omega
  have hblk : w1.heap[b]? = some (.cells #[iv, kv] 186 (0, 0)) := (hu.block b h.lt (fun e => n2 e.symm)).trans h.blk
  have us : Upd w1 (w1.setCell ⟨b, 1, none⟩ kv') (fun k => k = b) := (Upd.refl w1 (fun k => k = b)).setCell (.inr rfl) _
  have ho' := ownsRow_upd ho us (fun k hk e => hbi (by rw [hk, e]))
  have hk1 : w1.ownsRow 0 151 2 iv its.length (itsC its) := ownsRow_upd h.items hu (fun k hk e => by
    rw [← e] at n3; rw [hk] at n3; simp at n3)
  have hk' := ownsRow_upd hk1 us (fun k hk e => n1 (by rw [hk, e]))
  have hnd' : (nf b iv kv').Nodup := by
    simp only [nf, List.nodup_cons, List.mem_append, Option.mem_toList, not_or]
    refine ⟨⟨n1, hbi⟩, ?_⟩
    rcases hb with hb | ⟨k, hk, hl⟩
    · rw [hb]; exact n3
    · rw [hk]
      cases hkv : iv.ownBlock with
      | none => simp
      | some j =>
        have := owns_lt h.items hkv
        simp; omega
  have hN : Nod (w1.setCell ⟨b, 1, none⟩ kv') b iv kv' its ks' := ⟨heap_setCell_row hblk kv', hk', ho', h.mvs, hnd'⟩
  refine ⟨hN, (hu.mono fun k _ e => ?_).trans (us.mono fun k _ e => ?_) (fun _ _ h => h), hnd', fun k hk => ?_, hN.foot_lt⟩
  · simp [nf, ← e]
  · subst e; simp [nf]
  · simp only [nf, List.mem_cons, List.mem_append, Option.mem_toList] at hk ⊢
    rcases hk with rfl | hk | hk
    · exact .inl (.inl rfl)
    · exact .inl (.inr (.inl hk))
    · rcases hb with hb | ⟨j, hj, hl⟩
      · exact .inl (.inr (.inr (by rw [← hb]; exact hk)))
      · rw [hj] at hk; cases hk; exact .inr hl
end Go.Proofs.YtjdmgmnndfhmgaaGreat
/- What Insert, Delete and fresh do to a node. -/
namespace Go.Proofs.YtjdmgmnndfhmgaaGreat
open Go Go.RowKit

/-- A slice value at a block, of n elements. -/
def slAt (v : Value) (n : Nat) : Prop := ∃ g c, v = .slice (some ⟨g, 0, none⟩) n c ∧ n ≤ c ∧ c ≤ 9223372036854775807
theorem cell_upd {w w' : World} {S : Nat → Prop} (hu : Upd w w' S) {b j : Nat} {r : Array Value} {t : TypeId} {v : Value} (hb : w.heap[b]? = some (.cells r t (0, 0))) (hS : ¬ S b) (hj : r[j]? = some v) : w'.cell? ⟨b, j, none⟩ = some v ∧ w'.frozen? ⟨b, j, none⟩ = false := by
  have hlt : b < w.heap.size := (Array.getElem?_eq_some_iff.1 hb).1
  have h := (hu.block b hlt hS).trans hb
  constructor
  · simp [World.cell?, h, hj]
  · simp [World.frozen?, h]
theorem nf_iv {b : Nat} {iv kv : Value} (h : (nf b iv kv).Nodup) : iv.ownBlock ≠ some b ∧ kv.ownBlock ≠ some b := by
  simp only [nf, List.nodup_cons, List.mem_append, Option.mem_toList, not_or] at h
  exact h.1

/-- Insert of an item into a node's items. -/
theorem insI_node {w : World} {b : Nat} {iv kv : Value} {its : List Itm} {ks : List Nat} (hN : Nod w b iv kv its ks) (it : Itm) (hit : isSl it.mv) (i vb : Nat) (hi : i ≤ its.length) (hn : its.length ≤ 1000)
    (hvb : w.heap[vb]? = some (.cells #[.string it.key, it.mv] 151 (0, 0))) (hne : iv.ownBlock ≠ some vb) :
    Calls Tryz.prog 128 #[iv, .int .i64 i, .slice (some ⟨vb, 0, none⟩) 1 1] w fun e w' => ∃ iv', e = .returned iv' ∧ slAt iv' (its.length + 1) ∧ w'.cell? ⟨b, 0, none⟩ = some iv ∧ w'.frozen? ⟨b, 0, none⟩ = false ∧
      Nod (w'.setCell ⟨b, 0, none⟩ iv') b iv' kv (its.take i ++ it :: its.drop i) ks ∧ Step w (w'.setCell ⟨b, 0, none⟩ iv') (nf b iv kv) (nf b iv' kv) := by
  refine (insI_any iv its.length i vb (itsC its) (itC it) w hN.items hi hn hvb rfl hne (itsC_mem hN.mvs) (fun u hu => itsC_mem (its := [it]) (by simpa using hit) u (by rw [itsC_one]; exact hu))).mono ?_
  rintro e w' ⟨iv', rfl, ho, hu, hb⟩
  rw [itsC_take, itsC_drop, ← itsC_one it, List.append_assoc, ← itsC_append, ← itsC_append] at ho
  have hl : (its.take i ++ ([it] ++ its.drop i)).length = its.length + 1 := by simp; omega
  have ho1 := ho
  rw [← hl] at ho
  have hs := hN.setItems ho hu (hb.imp id (fun h => ⟨_, h, Nat.le_refl _⟩)) (fun x hx => by
    simp only [List.mem_append, List.mem_cons, List.not_mem_nil, or_false] at hx
    rcases hx with hx | rfl | hx
    · exact hN.mvs x (List.mem_of_mem_take hx)
    · exact hit
    · exact hN.mvs x (List.mem_of_mem_drop hx))
  obtain ⟨d0, d1⟩ := cell_upd hu hN.blk (fun e => (nf_iv hN.nd).1 e.symm) (j := 0) (v := iv) rfl
  exact ⟨iv', rfl, owns_form1 ho1 (by omega), d0, d1, hs.1, hs.2⟩
/-- Delete of items of a node. -/
theorem delI_node {w : World} {b : Nat} {iv kv : Value} {its : List Itm} {ks : List Nat} (hN : Nod w b iv kv its ks) (i j : Nat) (hij : i < j) (hj : j ≤ its.length) (hn : its.length ≤ 1000) :
    Calls Tryz.prog 116 #[iv, .int .i64 i, .int .i64 j] w fun e w' => ∃ iv', e = .returned iv' ∧ (∃ p c, iv' = .slice p (i + (its.length - j)) c) ∧ w'.cell? ⟨b, 0, none⟩ = some iv ∧ w'.frozen? ⟨b, 0, none⟩ = false ∧
      Nod (w'.setCell ⟨b, 0, none⟩ iv') b iv' kv (its.take i ++ its.drop j) ks ∧ Step w (w'.setCell ⟨b, 0, none⟩ iv') (nf b iv kv) (nf b iv' kv) := by
  refine (delI_any iv its.length i j (itsC its) w hN.items hij hj hn (itsC_mem hN.mvs)).mono ?_
  rintro e w' ⟨iv', rfl, ho, hu, hb, _⟩
  rw [itsC_take, itsC_drop, ← itsC_append] at ho
  have hl : (its.take i ++ its.drop j).length = i + (its.length - j) := by simp; omega
  have ho1 := ho
  rw [← hl] at ho
  have hs := hN.setItems ho hu (.inl hb) (fun x hx => by
    simp only [List.mem_append] at hx
    rcases hx with hx | hx
    · exact hN.mvs x (List.mem_of_mem_take hx)
    · exact hN.mvs x (List.mem_of_mem_drop hx))
  obtain ⟨d0, d1⟩ := cell_upd hu hN.blk (fun e => (nf_iv hN.nd).1 e.symm) (j := 0) (v := iv) rfl
  obtain ⟨p, c, hp, _⟩ := owns_form ho1
  exact ⟨iv', rfl, ⟨p, c, hp⟩, d0, d1, hs.1, hs.2⟩
/-- Insert of a kid into a node's kids. -/
theorem insK_node {w : World} {b : Nat} {iv kv : Value} {its : List Itm} {ks : List Nat} (hN : Nod w b iv kv its ks) (k i vb : Nat) (hi : i ≤ ks.length) (hn : ks.length ≤ 1000)
    (hvb : w.heap[vb]? = some (.cells #[ptr k] 123 (0, 0))) (hne : kv.ownBlock ≠ some vb) :
    Calls Tryz.prog 132 #[kv, .int .i64 i, .slice (some ⟨vb, 0, none⟩) 1 1] w fun e w' => ∃ kv', e = .returned kv' ∧ slAt kv' (ks.length + 1) ∧ w'.cell? ⟨b, 1, none⟩ = some kv ∧ w'.frozen? ⟨b, 1, none⟩ = false ∧
      Nod (w'.setCell ⟨b, 1, none⟩ kv') b iv kv' its (ks.take i ++ k :: ks.drop i) ∧ Step w (w'.setCell ⟨b, 1, none⟩ kv') (nf b iv kv) (nf b iv kv') := by
  refine (insK_any kv ks.length i vb (ks.map ptr) [ptr k] w hN.kids hi hn hvb rfl hne (ptrs_mem ks) (ptrs_mem [k])).mono ?_
  rintro e w' ⟨kv', rfl, ho, hu, hb⟩
  rw [Nat.mul_one, ← List.map_take, ← List.map_drop, List.append_assoc, show [ptr k] = [k].map ptr from rfl, ← List.map_append, ← List.map_append] at ho
  have hl : (ks.take i ++ ([k] ++ ks.drop i)).length = ks.length + 1 := by simp; omega
  have ho1 := ho
  rw [← hl] at ho
  have hs := hN.setKids ho hu (hb.imp id (fun h => ⟨_, h, Nat.le_refl _⟩))
  obtain ⟨d0, d1⟩ := cell_upd hu hN.blk (fun e => (nf_iv hN.nd).2 e.symm) (j := 1) (v := kv) rfl
  exact ⟨kv', rfl, owns_form1 ho1 (by omega), d0, d1, hs.1, hs.2⟩
/-- Delete of kids of a node. -/
theorem delK_node {w : World} {b : Nat} {iv kv : Value} {its : List Itm} {ks : List Nat} (hN : Nod w b iv kv its ks) (i j : Nat) (hij : i < j) (hj : j ≤ ks.length) (hn : ks.length ≤ 1000) :
    Calls Tryz.prog 131 #[kv, .int .i64 i, .int .i64 j] w fun e w' => ∃ kv', e = .returned kv' ∧ (∃ p c, kv' = .slice p (i + (ks.length - j)) c) ∧ w'.cell? ⟨b, 1, none⟩ = some kv ∧ w'.frozen? ⟨b, 1, none⟩ = false ∧
      Nod (w'.setCell ⟨b, 1, none⟩ kv') b iv kv' its (ks.take i ++ ks.drop j) ∧ Step w (w'.setCell ⟨b, 1, none⟩ kv') (nf b iv kv) (nf b iv kv') := by
  refine (delK_any kv ks.length i j (ks.map ptr) w hN.kids hij hj hn (ptrs_mem ks)).mono ?_
  rintro e w' ⟨kv', rfl, ho, hu, hb, _⟩
  rw [Nat.mul_one, Nat.mul_one, ← List.map_take, ← List.map_drop, ← List.map_append] at ho
  have hl : (ks.take i ++ ks.drop j).length = i + (ks.length - j) := by simp; omega
  have ho1 := ho
  rw [← hl] at ho
  have hs := hN.setKids ho hu (.inl hb)
  obtain ⟨d0, d1⟩ := cell_upd hu hN.blk (fun e => (nf_iv hN.nd).2 e.symm) (j := 1) (v := kv) rfl
  obtain ⟨p, c, hp, _⟩ := owns_form ho1
  exact ⟨kv', rfl, ⟨p, c, hp⟩, d0, d1, hs.1, hs.2⟩
/-- fresh of a node's items from i on, for a node r that has none. -/
theorem freshI_node {w : World} {l : Nat} {liv lkv : Value} {lits : List Itm} {lks : List Nat} (hL : Nod w l liv lkv lits lks) {r : Nat} {rkv : Value} {rks : List Nat} (hR : Nod w r (.slice none 0 0) rkv [] rks) (i c : Nat) (g : Nat) (hiv : liv = .slice (some ⟨g, 0, none⟩) lits.length c) (hi : i < lits.length) (hn : lits.length ≤ 1000) (c' : Nat) :
    Calls Tryz.prog 129 #[.slice (some ⟨g, i * 2, none⟩) (lits.length - i) c'] w fun e w' => ∃ riv, e = .returned riv ∧ slAt riv (lits.length - i) ∧ w'.cell? ⟨r, 0, none⟩ = some (.slice none 0 0) ∧ w'.frozen? ⟨r, 0, none⟩ = false ∧
      Nod (w'.setCell ⟨r, 0, none⟩ riv) r riv rkv (lits.drop i) rks ∧ Step w (w'.setCell ⟨r, 0, none⟩ riv) (nf r (.slice none 0 0) rkv) (nf r riv rkv) := by
  have hc : ∀ j v, (itsC (lits.drop i))[j]? = some v → w.cell? ⟨g, i * 2 + j, none⟩ = some v := fun j v hj => by
    rw [← itsC_drop, List.getElem?_drop] at hj
    have := hL.items.cells (g := g) (by rw [hiv]; rfl) _ _ hj
    simpa only [Addr.add_lit, Nat.zero_add] using this
  refine (freshI g (i * 2) (lits.length - i) c' (itsC (lits.drop i)) w (by omega) (by omega) (by rw [itsC_len]; simp) hc (itsC_mem (fun x hx => hL.mvs x (List.mem_of_mem_drop hx)))).mono ?_
  rintro e w' ⟨rfl, hb, hz, hbel⟩
  have ho : w'.ownsRow 0 151 2 (.slice (some ⟨w.heap.size, 0, none⟩) (lits.length - i) (lits.length - i)) (lits.drop i).length (itsC (lits.drop i)) := by
    rw [List.length_drop]
    exact owns_of_row hb (Nat.le_refl _) (by unfold maxLen; omega) (by simp [itsC_len]) (List.take_of_length_le (by simp [itsC_len])) (by simp [itsC_len])
  have hu : Upd w w' (fun k => some k = (Value.slice none 0 0).ownBlock) := Upd.ofBelow hbel
  have hs := hR.setItems ho hu (.inr ⟨_, rfl, Nat.le_refl _⟩) (fun x hx => hL.mvs x (List.mem_of_mem_drop hx))
  obtain ⟨d0, d1⟩ := cell_upd hu hR.blk (by simp [Value.ownBlock]) (j := 0) (v := .slice none 0 0) rfl
  exact ⟨_, rfl, ⟨_, _, rfl, Nat.le_refl _, by omega⟩, d0, d1, hs.1, hs.2⟩
/-- fresh of a node's kids from i on, for a node r that has none. -/
theorem freshK_node {w : World} {l : Nat} {liv lkv : Value} {lits : List Itm} {lks : List Nat} (hL : Nod w l liv lkv lits lks) {r : Nat} {riv : Value} {rits : List Itm} (hR : Nod w r riv (.slice none 0 0) rits []) (i c : Nat) (g : Nat) (hkv : lkv = .slice (some ⟨g, 0, none⟩) lks.length c) (hi : i < lks.length) (hn : lks.length ≤ 1000) (c' : Nat) :
    Calls Tryz.prog 130 #[.slice (some ⟨g, i, none⟩) (lks.length - i) c'] w fun e w' => ∃ rkv, e = .returned rkv ∧ slAt rkv (lks.length - i) ∧ w'.cell? ⟨r, 1, none⟩ = some (.slice none 0 0) ∧ w'.frozen? ⟨r, 1, none⟩ = false ∧
      Nod (w'.setCell ⟨r, 1, none⟩ rkv) r riv rkv rits (lks.drop i) ∧ Step w (w'.setCell ⟨r, 1, none⟩ rkv) (nf r riv (.slice none 0 0)) (nf r riv rkv) := by
  have hc : ∀ j v, ((lks.drop i).map ptr)[j]? = some v → w.cell? ⟨g, i + j, none⟩ = some v := fun j v hj => by
    rw [List.map_drop, List.getElem?_drop] at hj
    have := hL.kids.cells (g := g) (by rw [hkv]; rfl) _ _ hj
    simpa only [Addr.add_lit, Nat.zero_add] using this
  refine (freshK g i (lks.length - i) c' ((lks.drop i).map ptr) w (by omega) (by omega) (by simp) hc (ptrs_mem _)).mono ?_
  rintro e w' ⟨rfl, hb, hz, hbel⟩
  have ho : w'.ownsRow 0 123 1 (.slice (some ⟨w.heap.size, 0, none⟩) (lks.length - i) (lks.length - i)) (lks.drop i).length ((lks.drop i).map ptr) := by
    rw [List.length_drop]
    exact owns_of_row hb (Nat.le_refl _) (by unfold maxLen; omega) (by simp) (List.take_of_length_le (by simp)) (by simp)
  have hu : Upd w w' (fun k => some k = (Value.slice none 0 0).ownBlock) := Upd.ofBelow hbel
  have hs := hR.setKids ho hu (.inr ⟨_, rfl, Nat.le_refl _⟩)
  obtain ⟨d0, d1⟩ := cell_upd hu hR.blk (by simp [Value.ownBlock]) (j := 1) (v := .slice none 0 0) rfl
  exact ⟨_, rfl, ⟨_, _, rfl, Nat.le_refl _, by omega⟩, d0, d1, hs.1, hs.2⟩
end Go.Proofs.YtjdmgmnndfhmgaaGreat
/- add to a leaf. -/
namespace Go.Proofs.YtjdmgmnndfhmgaaGreat
open Go Go.RowKit

theorem place_node {w : World} {b : Nat} {iv kv : Value} {its : List Itm} {ks : List Nat} (hN : Nod w b iv kv its ks) (hs : Asc (keysI its)) (hn : its.length ≤ 1000) (key : ByteArray) :
    Calls Tryz.prog 113 #[ptr b, .string key] w fun e w' => e = .returned (.tuple #[.int .i64 (plc its key), .bool (hre its key)]) ∧ Below w.heap.size w w' := by
  rcases hN.items.2 with ⟨h1, h2⟩ | ⟨g, cap, cur, h1, _⟩
  · obtain rfl : its = [] := List.eq_nil_of_length_eq_zero h2
    subst h1
    exact (place_nil b key w hN.c0).mono fun e w' h => ⟨h.1, by rw [h.2]; exact Below.refl _ _⟩
  · have h0 := hN.c0
    rw [h1] at h0
    exact place_any b g cap its key w h0 (fun j it hj => hN.item h1 hj) hs hn
theorem leaf_node {w : World} {b : Nat} {iv kv : Value} {its : List Itm} {ks : List Nat} (hN : Nod w b iv kv its ks) : Calls Tryz.prog 115 #[ptr b] w fun e w' => e = .returned (.bool (decide (ks.length = 0))) ∧ w' = w := by
  obtain ⟨p, c, h, _⟩ := owns_form hN.kids
  have h1 := hN.c1
  rw [h] at h1
  exact leaf_any b _ c p w h1
theorem row_alloc (w : World) (r : Array Value) (t : TypeId) : (w.alloc (.cells r t)).heap[w.heap.size]? = some (.cells r t (0, 0)) := heap_alloc_new w _

set_option maxRecDepth 100000 in
set_option maxHeartbeats 1000000 in
theorem add_leaf {w : World} {b : Nat} {iv kv : Value} {its : List Itm} (hN : Nod w b iv kv its []) (hs : Asc (keysI its)) (hn : its.length ≤ 100) (it : Itm) (hit : isSl it.mv) :
    Calls Tryz.prog 119 #[ptr b, .agg #[.string it.key, it.mv]] w fun e w' => e = .returned (.tuple #[]) ∧ ∃ iv', Nod w' b iv' kv (its.take (plc its it.key) ++ it :: its.drop (plc its it.key)) [] ∧ Step w w' (nf b iv kv) (nf b iv' kv) := by
  have hple := plc_le its it.key
  obtain ⟨W0, hW0⟩ : ∃ W0, W0 = w.alloc (.cells #[.string it.key, it.mv] 151) := ⟨_, rfl⟩
  have hb0 : Below w.heap.size w W0 := by rw [hW0]; exact (Below.refl _ w).alloc (Nat.le_refl _) _
  have hr0 : W0.heap[w.heap.size]? = some (.cells #[.string it.key, it.mv] 151 (0, 0)) := by rw [hW0]; exact row_alloc w _ _
  have hN0 := hN.below hb0
  have hpl := (place_node hN0 hs (by omega) it.key).mono (R' := fun e w' => e = .returned (.tuple #[.int .i64 (plc its it.key), .bool (hre its it.key)]) ∧ Below w.heap.size w w' ∧ w'.heap[w.heap.size]? = some (.cells #[.string it.key, it.mv] 151 (0, 0)))
    fun e w' h => ⟨h.1, hb0.trans (h.2.mono hb0.size), (h.2.block _ (Array.getElem?_eq_some_iff.1 hr0).1).trans hr0⟩
  have k0 : W0.cell? ⟨w.heap.size, 0, none⟩ = some (.string it.key) := by simp [World.cell?, hr0]
  clear hr0
  go_enter Tryz.func119, Tryz.ntmps119
  go_upto_region 1 with (fail)
  rw [← hW0]
  clear hW0
  go_wp2_with (go_at_call 113; refine hpl.mono ?_; rintro e W1 ⟨rfl, hb1, hr1⟩)
  have hN1 := hN.below hb1
  refine (leaf_node hN1).mono ?_
  rintro e w2 ⟨rfl, rfl⟩
  obtain ⟨ip, ic, hiv, _, _⟩ := owns_form hN1.items
  have c0 := hN1.c0
  have e0 : w2.cell? ⟨w.heap.size, 0, none⟩ = some (.string it.key) := by simp [World.cell?, hr1]
  have e1 : w2.cell? ⟨w.heap.size, 1, none⟩ = some it.mv := by simp [World.cell?, hr1]
  have hins : ∀ W, Below w2.heap.size w2 W → W.heap[w2.heap.size]? = some (.cells #[.string it.key, it.mv] 151 (0, 0)) → Calls Tryz.prog 128 #[iv, .int .i64 (plc its it.key), .slice (some ⟨w2.heap.size, 0, none⟩) 1 1] W fun e w' => ∃ iv', e = .returned iv' ∧ slAt iv' (its.length + 1) ∧ w'.cell? ⟨b, 0, none⟩ = some iv ∧ w'.frozen? ⟨b, 0, none⟩ = false ∧
      Nod (w'.setCell ⟨b, 0, none⟩ iv') b iv' kv (its.take (plc its it.key) ++ it :: its.drop (plc its it.key)) [] ∧ Step w (w'.setCell ⟨b, 0, none⟩ iv') (nf b iv kv) (nf b iv' kv) := fun W hb hr => by
    refine (insI_node (hN1.below hb) it hit (plc its it.key) w2.heap.size hple (by omega) hr (fun e => by have := owns_lt hN1.items e; omega)).mono ?_
    rintro e w' ⟨iv', h1, h2, h3, h4, h5, h6⟩
    exact ⟨iv', h1, h2, h3, h4, h5, (Step.below (hb1.trans (hb.mono hb1.size)) hN.nd hN.foot_lt).trans h6⟩
  have ca0 : ∀ o, (w2.alloc o).cell? ⟨b, 0, none⟩ = some iv := fun o => (hN1.below ((Below.refl _ w2).alloc (Nat.le_refl _) o)).c0
  clear hN hN0 hpl k0 hN1 hb0 hs
  subst hiv
  obtain ⟨key, mv⟩ := it
  obtain ⟨mp, mn, mc, rfl⟩ := hit
  dsimp only at *
  go_wp2_with fail
  go_region_with (go_at_call 128; refine (hins _ (by first | exact ((Below.refl _ _).drew.alloc (Nat.le_refl _) _) | exact ((Below.refl _ _).alloc (Nat.le_refl _) _).drew) (by first | exact row_alloc _ _ _ | rfl)).mono ?_; rintro e w' ⟨iv', rfl, ⟨g', c', rfl, _, _⟩, d0, d1, hN', hS⟩)
  all_goals
    go_wp2
    refine bodyPost_ret (results_none rfl _ _ _) rfl ?_
    exact ⟨rfl, _, hN', hS⟩
end Go.Proofs.YtjdmgmnndfhmgaaGreat
/- Three nodes side by side: a node, and two kids of it. -/
namespace Go.Proofs.YtjdmgmnndfhmgaaGreat
open Go Go.RowKit
section
variable {W W' : World} {A A' B B' C C' : List Nat}
theorem Step.at1 (h : Step W W' A A') (hn : (A ++ B ++ C).Nodup) (hl : ∀ k ∈ A ++ B ++ C, k < W.heap.size) : Step W W' (A ++ B ++ C) (A' ++ B ++ C) := by
  have := h.frame (B ++ C) (by rw [← List.append_assoc]; exact hn) (fun k hk => hl k (by simp only [List.mem_append] at hk ⊢; rcases hk with hk | hk; exact .inl (.inr hk); exact .inr hk))
  rwa [← List.append_assoc, ← List.append_assoc] at this
theorem Step.at2 (h : Step W W' B B') (hn : (A ++ B ++ C).Nodup) (hl : ∀ k ∈ A ++ B ++ C, k < W.heap.size) : Step W W' (A ++ B ++ C) (A ++ B' ++ C) := by
  have p : ∀ X : List Nat, (X ++ A ++ C).Perm (A ++ X ++ C) := fun X => List.Perm.append_right _ List.perm_append_comm
  exact (Step.at1 (B := A) (C := C) h ((p B).nodup_iff.2 hn) (fun k hk => hl k ((p B).mem_iff.1 hk))).perm (p B) (p B')
theorem Step.at3 (h : Step W W' C C') (hn : (A ++ B ++ C).Nodup) (hl : ∀ k ∈ A ++ B ++ C, k < W.heap.size) : Step W W' (A ++ B ++ C) (A ++ B ++ C') := by
  have p : ∀ X : List Nat, (X ++ A ++ B).Perm (A ++ B ++ X) := fun X => by rw [List.append_assoc]; exact List.perm_append_comm
  exact (Step.at1 (B := A) (C := B) h ((p C).nodup_iff.2 hn) (fun k hk => hl k ((p C).mem_iff.1 hk))).perm (p C) (p C')
theorem nd3 (hn : (A ++ B ++ C).Nodup) : (∀ k ∈ A, k ∉ B) ∧ (∀ k ∈ A, k ∉ C) ∧ (∀ k ∈ B, k ∉ C) := by
  simp only [List.nodup_append, List.mem_append] at hn
  exact ⟨fun k ha hb => hn.1.2.2 k ha k hb rfl, fun k ha hc => hn.2.2 k (.inl ha) k hc rfl, fun k hb hc => hn.2.2 k (.inr hb) k hc rfl⟩
theorem Step.new {F : List Nat} (o : Obj) (h : F.Nodup) (hl : ∀ k ∈ F, k < W.heap.size) : Step W (W.alloc o) F (F ++ [W.heap.size]) := by
  refine ⟨Upd.alloc _ _ _, List.nodup_append.2 ⟨h, by simp, fun a ha b hb e => ?_⟩, fun k hk => ?_, fun k hk => ?_⟩
  · simp at hb; subst hb; subst e; have := hl _ ha; omega
  · simp only [List.mem_append, List.mem_singleton] at hk
    exact hk.imp id (fun e => by omega)
  · simp only [List.mem_append, List.mem_singleton] at hk
    simp only [World.size_alloc]
    rcases hk with hk | rfl
    · have := hl k hk; omega
    · omega
end
structure Tri (w0 W : World) (F0 : List Nat) (b : Nat) (iv kv : Value) (its : List Itm) (ks : List Nat) (l : Nat) (liv lkv : Value) (lits : List Itm) (lks : List Nat) (r : Nat) (riv rkv : Value) (rits : List Itm) (rks : List Nat) : Prop where
  hn : Nod W b iv kv its ks
  hl : Nod W l liv lkv lits lks
  hr : Nod W r riv rkv rits rks
  s : Step w0 W F0 (nf b iv kv ++ nf l liv lkv ++ nf r riv rkv)
section
variable {w0 W W' : World} {F0 : List Nat} {b : Nat} {iv kv iv' kv' : Value} {its its' : List Itm} {ks ks' : List Nat} {l : Nat} {liv lkv liv' lkv' : Value} {lits lits' : List Itm} {lks lks' : List Nat} {r : Nat} {riv rkv riv' rkv' : Value} {rits rits' : List Itm} {rks rks' : List Nat}
  (h : Tri w0 W F0 b iv kv its ks l liv lkv lits lks r riv rkv rits rks)
include h
theorem Tri.onN (hN : Nod W' b iv' kv' its' ks') (hs : Step W W' (nf b iv kv) (nf b iv' kv')) : Tri w0 W' F0 b iv' kv' its' ks' l liv lkv lits lks r riv rkv rits rks := by
  obtain ⟨d1, d2, d3⟩ := nd3 h.s.nd
  exact ⟨hN, hs.keep h.hl (fun k hk hk' => d1 k hk' hk), hs.keep h.hr (fun k hk hk' => d2 k hk' hk), h.s.trans (hs.at1 h.s.nd h.s.lt)⟩
theorem Tri.onL (hN : Nod W' l liv' lkv' lits' lks') (hs : Step W W' (nf l liv lkv) (nf l liv' lkv')) : Tri w0 W' F0 b iv kv its ks l liv' lkv' lits' lks' r riv rkv rits rks := by
  obtain ⟨d1, d2, d3⟩ := nd3 h.s.nd
  exact ⟨hs.keep h.hn d1, hN, hs.keep h.hr (fun k hk hk' => d3 k hk' hk), h.s.trans (hs.at2 h.s.nd h.s.lt)⟩
theorem Tri.onR (hN : Nod W' r riv' rkv' rits' rks') (hs : Step W W' (nf r riv rkv) (nf r riv' rkv')) : Tri w0 W' F0 b iv kv its ks l liv lkv lits lks r riv' rkv' rits' rks' := by
  obtain ⟨d1, d2, d3⟩ := nd3 h.s.nd
  exact ⟨hs.keep h.hn d2, hs.keep h.hl d3, hN, h.s.trans (hs.at3 h.s.nd h.s.lt)⟩
theorem Tri.below (hb : Below W.heap.size W W') : Tri w0 W' F0 b iv kv its ks l liv lkv lits lks r riv rkv rits rks :=
  ⟨h.hn.below hb, h.hl.below hb, h.hr.below hb, h.s.trans (Step.below hb h.s.nd h.s.lt)⟩
end
/-- A row beside what turns. -/
theorem row_beside {W W' : World} {u : Nat} {x : Array Value} {t : TypeId} (hu : W.heap[u]? = some (.cells x t (0, 0))) {G G' : List Nat} (hs : Step W W' G G') (hn : u ∉ G) : W'.heap[u]? = some (.cells x t (0, 0)) :=
  (hs.upd.block u (Array.getElem?_eq_some_iff.1 hu).1 hn).trans hu
theorem beside {W W' : World} {u : Nat} {x : Array Value} {t : TypeId} {F F' : List Nat} (hs : Step W W' F F') (hu : W.heap[u]? = some (.cells x t (0, 0))) (hn : u ∉ F) : W'.heap[u]? = some (.cells x t (0, 0)) ∧ u ∉ F' :=
  ⟨row_beside hu hs hn, fun h => (hs.sub u h).elim hn (fun h => by have := (Array.getElem?_eq_some_iff.1 hu).1; omega)⟩
/-- Three nodes, and the box of an item beside them. -/
structure TriU (w0 W : World) (F0 : List Nat) (b : Nat) (iv kv : Value) (its : List Itm) (ks : List Nat) (l : Nat) (liv lkv : Value) (lits : List Itm) (lks : List Nat) (r : Nat) (riv rkv : Value) (rits : List Itm) (rks : List Nat) (u : Nat) (key : ByteArray) (mv : Value) : Prop where
  t : Tri w0 W F0 b iv kv its ks l liv lkv lits lks r riv rkv rits rks
  row : W.heap[u]? = some (.cells #[.string key, mv] 151 (0, 0))
  out : u ∉ nf b iv kv ++ nf l liv lkv ++ nf r riv rkv
section
variable {w0 W W' : World} {F0 : List Nat} {b : Nat} {iv kv iv' kv' : Value} {its its' : List Itm} {ks ks' : List Nat} {l : Nat} {liv lkv liv' lkv' : Value} {lits lits' : List Itm} {lks lks' : List Nat} {r : Nat} {riv rkv riv' rkv' : Value} {rits rits' : List Itm} {rks rks' : List Nat} {u : Nat} {key : ByteArray} {mv : Value}
  (h : TriU w0 W F0 b iv kv its ks l liv lkv lits lks r riv rkv rits rks u key mv)
include h
theorem TriU.onN (hN : Nod W' b iv' kv' its' ks') (hs : Step W W' (nf b iv kv) (nf b iv' kv')) : TriU w0 W' F0 b iv' kv' its' ks' l liv lkv lits lks r riv rkv rits rks u key mv := by
  obtain ⟨a, c⟩ := beside (hs.at1 h.t.s.nd h.t.s.lt) h.row h.out
  exact ⟨h.t.onN hN hs, a, c⟩
theorem TriU.onL (hN : Nod W' l liv' lkv' lits' lks') (hs : Step W W' (nf l liv lkv) (nf l liv' lkv')) : TriU w0 W' F0 b iv kv its ks l liv' lkv' lits' lks' r riv rkv rits rks u key mv := by
  obtain ⟨a, c⟩ := beside (hs.at2 h.t.s.nd h.t.s.lt) h.row h.out
  exact ⟨h.t.onL hN hs, a, c⟩
theorem TriU.onR (hN : Nod W' r riv' rkv' rits' rks') (hs : Step W W' (nf r riv rkv) (nf r riv' rkv')) : TriU w0 W' F0 b iv kv its ks l liv lkv lits lks r riv' rkv' rits' rks' u key mv := by
  obtain ⟨a, c⟩ := beside (hs.at3 h.t.s.nd h.t.s.lt) h.row h.out
  exact ⟨h.t.onR hN hs, a, c⟩
theorem TriU.below (hb : Below W.heap.size W W') : TriU w0 W' F0 b iv kv its ks l liv lkv lits lks r riv rkv rits rks u key mv :=
  ⟨h.t.below hb, (hb.block u (Array.getElem?_eq_some_iff.1 h.row).1).trans h.row, h.out⟩
theorem TriU.u0 : W.cell? ⟨u, 0, none⟩ = some (.string key) := by simp [World.cell?, h.row]
theorem TriU.u1 : W.cell? ⟨u, 1, none⟩ = some mv := by simp [World.cell?, h.row]
end
/-- What a region that draws may have done ahead: new blocks, draws. -/
theorem Step.from {W W1 W2 : World} {F F' : List Nat} (hb : Below W.heap.size W W1) (hs : Step W1 W2 F F') (hn : F.Nodup) (hl : ∀ k ∈ F, k < W.heap.size) : Step W W2 F F' := (Step.below hb hn hl).trans hs
theorem Nod.fresh (w : World) : Nod (w.alloc (.cells #[.slice none 0 0, .slice none 0 0] 186)) w.heap.size (.slice none 0 0) (.slice none 0 0) [] [] :=
  ⟨row_alloc w _ _, World.ownsRow_nil _ _ _ _, World.ownsRow_nil _ _ _ _, by simp, by simp [nf, Value.ownBlock]⟩
theorem nf_fresh (r : Nat) : nf r (.slice none 0 0) (.slice none 0 0) = [r] := by simp [nf, Value.ownBlock]
end Go.Proofs.YtjdmgmnndfhmgaaGreat
