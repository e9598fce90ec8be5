/- from: what a range over it is handed. -/
import Derived.Test.YtgbobegoknmiaaaGreatGRF
import Derived.Test.YtgbobegoknmiaaaGreatGRG
import Derived.Maps.AppendAt
import Derived.Test.YtgbobegoknmiaaaGreatGRC
import Derived.Sort.OwnSorted
import Derived.Deep.LoopGhost
namespace Go.Proofs.YtgbobegoknmiaaaGreat
open Go Go.RowKit Go.Shelf
attribute [local go_sem] Oper.semAt_some

set_option maxRecDepth 100000 in
set_option maxHeartbeats 1000000 in
theorem from_in (n : Nat) (rp : Option Addr) (lo : ByteArray) (w : World) : CallsIn Fence.wide n Tryz.prog 92 #[.pointer rp, .string lo] w fun e w' => e = .returned (.func (.func 101) #[] #[.pointer (some ⟨w.heap.size, 0, none⟩), .pointer (some ⟨w.heap.size + 1, 0, none⟩)]) ∧ w' = (w.alloc (.cells #[.pointer rp] 126)).alloc (.cells #[.string lo] 9) := by
  refine callsIn_of_wp Tryz.func92 rfl trivial ?_ rfl
  simp only [Tryz.ntmps92, List.size_toArray, List.length_cons, List.length_nil, Nat.reduceAdd, Nat.reduceSub, Array.replicate_succ, Array.replicate_zero, List.push_toArray, List.append_toArray, List.nil_append, List.cons_append]
  gi_wp2
  go_ret
  exact ⟨rfl, rfl⟩
def KpS (w0 : World) (F : List Nat) (W W' : World) : Prop := KpT w0 F W W' ∧ W.heap.size ≤ W'.heap.size
theorem KpS.t {w0 : World} {F : List Nat} {A B C : World} (h : KpS w0 F A B) (k : KpS w0 F B C) : KpS w0 F A C := ⟨h.1.trans k.1, Nat.le_trans h.2 k.2⟩
theorem KpS.b {w0 : World} {F : List Nat} {n0 : Nat} (hF : ∀ k ∈ F, k < n0) (W : World) (l : Nat) (o' : Obj) (hl : n0 ≤ l) : KpS w0 F W (W.putObj l o') := by
  have hg := grownBy_putObj' W l o'
  refine ⟨fun p hp => ?_, hg.size⟩
  by_cases hlt : p.block < W.heap.size
  · have := World.cell?_of_block (w := W) (a := p) (hg.block p.block hlt (fun e => by have h1 := hF _ hp; have h2 : p.block = l := (by simpa using e); omega))
    exact ⟨fun _ => this, fun h => by rw [this]; exact h⟩
  · have h0 : W.cell? p = none := by
      cases hc : W.cell? p with
      | none => rfl
      | some v => exact absurd (World.block_lt_of_cell? _ _ hc) hlt
    have hz : (W.putObj l o').heap.size = W.heap.size := by simp [World.putObj]
    have h1 : (W.putObj l o').cell? p = none := by
      cases hc : (W.putObj l o').cell? p with
      | none => rfl
      | some v => have := World.block_lt_of_cell? _ _ hc; omega
    exact ⟨fun _ => by rw [h0, h1], fun h => by rw [h0] at h; cases h⟩
theorem grown_of_below {W W' : World} (h : Below W.heap.size W W') : W.grownBy W' none := ⟨h.os, h.tape, h.output, h.size, fun k hk _ => h.block k hk⟩

set_option maxRecDepth 100000 in
set_option maxHeartbeats 1000000 in
theorem seq_tre {w0 : World} {h b : Nat} {its L : List Itm} {F : List Nat} (ht : Tre w0 h b its L F) (hnd : F.Nodup) (ha : Asc (keysI L)) (h1 : 1 ≤ its.length) (h5 : its.length ≤ 5) (lo : ByteArray) (n B1 B2 : Nat) (w : World) (hb0 : Below w0.heap.size w0 w)
    (hc1 : w.cell? ⟨B1, 0, none⟩ = some (ptr b)) (hc2 : w.cell? ⟨B2, 0, none⟩ = some (.string lo)) :
    SeqStopsK Fence.wide n Tryz.prog 101 #[.pointer (some ⟨B1, 0, none⟩), .pointer (some ⟨B2, 0, none⟩)] (fun x : SlotA w0 h b its.length L F => #[Value.pointer (some (encA x))]) (KpS w0 F) (fun ys => ys.map (fun x => x.it) = filt lo L) (fun pre => pre.map (fun x => x.it) <+: filt lo L) (filt lo L).length w := by
  intro l J Jx W hW hJ hJx hY h0
  have hFl := ht.lt
  have hdd : ∀ k : Nat, (Fence.wide.depth.isSome = true → 1 ≤ k) := fun k h => by cases h
  have hKW : KKT w0 F W := ⟨KpT.of_block fun k hk => ((hW.block k (Nat.lt_of_lt_of_le (hFl k hk) hb0.size)).trans (hb0.block k (hFl k hk))), Nat.le_trans hb0.size hW.size⟩
  have hp := walk_tre l (filt lo L).length lo J Jx (fun pre W W' hj hb => hJ pre W W' none hj (grown_of_below hb) (fun r e => by cases e)) hFl
    (fun m pre x W1 hj hk hlt => YieldAt.mono (YieldAt.anyDepth' rfl m (hY pre x W1 hj hlt)) fun e W' h => h.imp (fun ⟨a, b, c⟩ => ⟨a, b, hk.1.trans c.1, Nat.le_trans hk.2 c.2⟩) id)
    h b its L F ht (fun _ h => h) (fun _ _ _ h hl => ⟨h, hl⟩) hnd ha h1 h5 (n - 1) [] W hKW h0 (by simp)
  have d1 := (hW.cell (p := ⟨B1, 0, none⟩) (World.block_lt_of_cell? _ _ hc1)).trans hc1
  have d2 := (hW.cell (p := ⟨B2, 0, none⟩) (World.block_lt_of_cell? _ _ hc2)).trans hc2
  refine callsIn_of_wp Tryz.func101 rfl trivial ?_ rfl
  simp only [Tryz.ntmps101, List.size_toArray, List.length_cons, List.length_nil, Nat.reduceAdd, Nat.reduceSub, Array.replicate_succ, Array.replicate_zero, List.push_toArray, List.append_toArray, List.nil_append, List.cons_append]
  clear hY hJ hJx h0 hKW
  gi_wp2_with (refine ⟨trivial, hdd _, ?_⟩; gi_at_call 102; refine hp.mono ?_; clear hp; rintro e W1 (⟨rfl, ys, hy, hJ1, _⟩ | ⟨rfl, ys, hy, hx⟩))
  · go_end0
    exact ⟨⟨_, rfl⟩, .inl ⟨ys, hy, by simpa using hJ1⟩⟩
  · go_end0
    exact ⟨⟨_, rfl⟩, .inr ⟨ys, hy, by simpa using hx⟩⟩
set_option maxRecDepth 100000 in
set_option maxHeartbeats 1000000 in
theorem seq_nil (w0 : World) (h b n' : Nat) (F : List Nat) (lo : ByteArray) (n B1 B2 : Nat) (w : World) (hc1 : w.cell? ⟨B1, 0, none⟩ = some (.pointer none)) (hc2 : w.cell? ⟨B2, 0, none⟩ = some (.string lo)) :
    SeqStopsK Fence.wide n Tryz.prog 101 #[.pointer (some ⟨B1, 0, none⟩), .pointer (some ⟨B2, 0, none⟩)] (fun x : SlotA w0 h b n' [] F => #[Value.pointer (some (encA x))]) (KpS w0 F) (fun ys => ys.map (fun x => x.it) = filt lo []) (fun pre => pre.map (fun x => x.it) <+: filt lo []) (filt lo []).length w := by
  intro l J Jx W hW hJ hJx hY h0
  have hdd : ∀ k : Nat, (Fence.wide.depth.isSome = true → 1 ≤ k) := fun k h => by cases h
  have d1 := (hW.cell (p := ⟨B1, 0, none⟩) (World.block_lt_of_cell? _ _ hc1)).trans hc1
  have d2 := (hW.cell (p := ⟨B2, 0, none⟩) (World.block_lt_of_cell? _ _ hc2)).trans hc2
  have hp := walk_nil l lo (n - 1) W
  have HJ := Hid.mk'' h0
  refine callsIn_of_wp Tryz.func101 rfl trivial ?_ rfl
  simp only [Tryz.ntmps101, List.size_toArray, List.length_cons, List.length_nil, Nat.reduceAdd, Nat.reduceSub, Array.replicate_succ, Array.replicate_zero, List.push_toArray, List.append_toArray, List.nil_append, List.cons_append]
  clear hY hJ hJx h0
  gi_wp2_with (refine ⟨trivial, hdd _, ?_⟩; gi_at_call 102; refine hp.mono ?_; clear hp; rintro e W1 ⟨rfl, rfl⟩)
  go_end0
  exact ⟨⟨_, rfl⟩, .inl ⟨[], rfl, HJ.out⟩⟩
/-- A range over an index's root, whatever it is. -/
theorem seq_root {w0 : World} {rp : Option Addr} {L : List Itm} {F : List Nat} (hR : Root w0 rp L F) (hnd : F.Nodup) (ha : Asc (keysI L)) (lo : ByteArray) (n B1 B2 : Nat) (w : World) (hb0 : Below w0.heap.size w0 w)
    (hc1 : w.cell? ⟨B1, 0, none⟩ = some (.pointer rp)) (hc2 : w.cell? ⟨B2, 0, none⟩ = some (.string lo)) :
    ∃ h b n', (L ≠ [] → rp = some ⟨b, 0, none⟩ ∧ 1 ≤ n' ∧ n' ≤ 4) ∧ SeqStopsK Fence.wide n Tryz.prog 101 #[.pointer (some ⟨B1, 0, none⟩), .pointer (some ⟨B2, 0, none⟩)] (fun x : SlotA w0 h b n' L F => #[Value.pointer (some (encA x))]) (KpS w0 F) (fun ys => ys.map (fun x => x.it) = filt lo L) (fun pre => pre.map (fun x => x.it) <+: filt lo L) (filt lo L).length w := by
  rcases hR with ⟨rfl, rfl, rfl⟩ | ⟨h, b, its, rfl, ht, h1, h4⟩
  · exact ⟨0, 0, 0, fun h => absurd rfl h, seq_nil w0 0 0 0 [] lo n B1 B2 w hc1 hc2⟩
  · exact ⟨h, b, its.length, fun _ => ⟨rfl, h1, h4⟩, seq_tre ht hnd ha h1 (by omega) lo n B1 B2 w hb0 hc1 hc2⟩
/-- What the law of a range does to blocks of cells: nothing. -/
theorem grown_cells {W W' : World} {row : Option Nat} {B : Nat} (hg : W.grownBy W' row) (hr : ∀ r, row = some r → B ≤ r ∧ ∃ o : Obj, W.heap[r]? = some o ∧ o.isCells = false) {k : Nat} {c : Array Value} {t : TypeId} {f : Nat × Nat} (hk : W.heap[k]? = some (.cells c t f)) : W'.heap[k]? = some (.cells c t f) := by
  rw [← hk]
  refine hg.block k (Array.getElem?_eq_some_iff.1 hk).1 (fun e => ?_)
  obtain ⟨_, o, ho, hc⟩ := hr k e.symm
  rw [hk] at ho
  cases ho
  cases hc
theorem ownsRow_grown {W W' : World} {row : Option Nat} {B : Nat} (hg : W.grownBy W' row) (hr : ∀ r, row = some r → B ≤ r ∧ ∃ o : Obj, W.heap[r]? = some o ∧ o.isCells = false) {base e s n : Nat} {v : Value} {xs : List Value} (h : W.ownsRow base e s v n xs) : W'.ownsRow base e s v n xs := by
  obtain ⟨h1, h2⟩ := h
  refine ⟨h1, ?_⟩
  rcases h2 with h2 | ⟨g, cap, cur, rfl, hb, hh, r⟩
  · exact .inl h2
  · exact .inr ⟨g, cap, cur, rfl, hb, grown_cells hg hr hh, r⟩
end Go.Proofs.YtgbobegoknmiaaaGreat
/- An append within a round. -/
namespace Go.Proofs.YtgbobegoknmiaaaGreat
open Go Go.RowKit Go.Shelf
attribute [local go_sem] Oper.semAt_some
abbrev strs (l : List ByteArray) : List Value := l.map Value.string
theorem info9 : (Tryz.prog.info? 9).map (fun i => (i.zero, i.size, i.bytes)) = some (some (.string ⟨#[]⟩), 1, 16) := by kernel_rfl
theorem stepIn_appS {F : Fence} {fn : Nat} {P : Program} (w : World) {ops : Array Oper} {o : Oper} {a : Act} {K : Act → World → Prop} {Q : Exit → Act → World → Prop} {E : Prop} (hgd : o.guard = none) (sl x : Operand) (t tx : TypeId) (ho : o.op = .call { callee := .builtin .append, args := #[sl, x], argTypes := #[t, tx] })
    (base : Nat) (e : TypeId) (i : TypeInfo) (z : Value) (s : Nat) (ht : P.underlying t = some (.slice e)) (hi : P.info? e = some i) (hz : i.zero = some z) (hsize : i.size = s) (hzs : z.cells.size = s) (hby : i.bytes ≤ 1000)
    (v : Value) (n : Nat) (xs : List Value) (hev : a.eval sl = v) (hown : w.ownsRow base e s v n xs) (vx : Value) (hex : a.eval x = vx) (m : Nat) (news : List Value) (hs : Src P s tx vx m news w) (hb : n + m ≤ 1000000000) (hbase : base ≤ w.heap.size)
    (h : ∀ v' w', w'.ownsRow base e s v' (n + m) (xs ++ news) → Upd w w' (fun k => some k = v.ownBlock) → (v'.ownBlock = v.ownBlock ∨ v'.ownBlock = some w.heap.size) → (v.ownBlock ≠ none ∨ 0 < m → v'.ownBlock ≠ none) → K (a.put o.dst v') w') :
    if Region.wanted o (yielded ops a.tmps) = true then Oper.wpIn F fn P o a w K Q else E := by
  have hw : Region.wanted o (yielded ops a.tmps) = true := by simp [Region.wanted, hgd]
  rw [if_pos hw]
  obtain ⟨v', w', hrun, r1, r2, r3, r4⟩ := run_appS (P := P) w base t tx o.type e i z s ht hi hz hsize hzs hby v n xs hown vx m news hs hb hbase
  unfold Oper.wpIn
  refine ⟨?_, ?_⟩
  · simp [Oper.about, ho, resolve, Target.leads, Sem.run_pure]
  · rw [Oper.semAt_plain F _ _ (by rw [ho]; intro c hc'; cases hc')]
    simp [execOp, ho, resolve, invoke, builtin, hev, hex, hrun, Result.andThen]
    exact h v' w' r1 r2 r3 r4
theorem owns_formB {w : World} {base e s n : Nat} {v : Value} {xs : List Value} (h : w.ownsRow base e s v n xs) (hn : 0 < n) : ∃ g c, v = .slice (some ⟨g, 0, none⟩) n c ∧ n ≤ c ∧ base ≤ g := by
  rcases h.2 with ⟨rfl, rfl⟩ | ⟨g, cap, cur, rfl, hb, _, h1, _⟩
  · omega
  · exact ⟨_, _, rfl, h1, hb⟩
theorem owns_formB0 {w : World} {base e s n : Nat} {v : Value} {xs : List Value} (h : w.ownsRow base e s v n xs) : ∃ p c, v = .slice p n c := by
  rcases h.2 with ⟨rfl, rfl⟩ | ⟨g, cap, cur, rfl, _⟩
  · exact ⟨_, _, rfl⟩
  · exact ⟨_, _, rfl⟩
theorem ownBlock_ge {w : World} {base e s n : Nat} {v : Value} {xs : List Value} (h : w.ownsRow base e s v n xs) {k : Nat} (hk : v.ownBlock = some k) : base ≤ k ∧ ∃ c f, w.heap[k]? = some (.cells c e f) := by
  rcases h.2 with ⟨rfl, _⟩ | ⟨g, cap, cur, rfl, hb, hh, _⟩
  · cases hk
  · have e' : g = k := by simpa [Value.ownBlock] using hk
    subst e'
    exact ⟨hb, _, _, hh⟩
theorem ownsRow_base {w : World} {base base' e s n : Nat} {v : Value} {xs : List Value} (h : w.ownsRow base e s v n xs) (hb : base' ≤ base) : w.ownsRow base' e s v n xs := by
  obtain ⟨h1, h2⟩ := h
  refine ⟨h1, ?_⟩
  rcases h2 with h2 | ⟨g, cap, cur, rfl, hb', r⟩
  · exact .inl h2
  · exact .inr ⟨g, cap, cur, rfl, Nat.le_trans hb hb', r⟩
/-- WHAT A ROUND LEAVES THAT APPENDS TO THE ROW IN THE BOX b (own block from n on, b below n). -/
theorem app_fin {n b : Nat} {t e : TypeId} {W V w' : World} {v nv : Value} {xs zs : List Value} {m m' s : Nat} (q1 : W.heap[b]? = some (.cells #[v] t (0, 0))) (q2 : W.ownsRow n e s v m xs) (hbn : b < n) (q6 : n ≤ W.heap.size) (hV : Below W.heap.size W V)
    (p2 : Upd V w' (fun k => some k = v.ownBlock)) (p1 : w'.ownsRow n e s nv m' zs) (B : Nat) :
    KeepsFrom B W (w'.setCell ⟨b, 0, none⟩ nv) ∧ Below b W (w'.setCell ⟨b, 0, none⟩ nv) ∧ (w'.setCell ⟨b, 0, none⟩ nv).heap[b]? = some (.cells #[nv] t (0, 0)) ∧ (w'.setCell ⟨b, 0, none⟩ nv).ownsRow n e s nv m' zs ∧ (∀ k, k < n → k ≠ b → (w'.setCell ⟨b, 0, none⟩ nv).heap[k]? = W.heap[k]?) := by
  have hsame : ∀ k, k < W.heap.size → some k ≠ v.ownBlock → w'.heap[k]? = W.heap[k]? := fun k hk hne => (p2.block k (Nat.lt_of_lt_of_le hk hV.size) hne).trans (hV.block k hk)
  have hv : ∀ k, k < n → some k ≠ v.ownBlock := fun k hk e => by have := (ownBlock_ge q2 e.symm).1; omega
  have hsz : W.heap.size ≤ (w'.setCell ⟨b, 0, none⟩ nv).heap.size := by rw [size_setCell]; exact Nat.le_trans hV.size p2.size
  refine ⟨⟨hsz, fun k o hB hk ho => ?_⟩, ⟨?_, ?_, ?_, hsz, fun k hk => ?_⟩, ?_, ?_, fun k hk hne => ?_⟩
  · have hlt := (Array.getElem?_eq_some_iff.1 hk).1
    have n1 : k ≠ b := fun e => by
      rw [e, q1] at hk
      cases hk
      cases ho
    rw [heap_setCell_other _ _ _ _ _ n1, hsame k hlt (fun e => by
      obtain ⟨_, c, f, hc⟩ := ownBlock_ge q2 e.symm
      rw [hk] at hc
      cases hc
      cases ho)]
    exact hk
  · exact (show (w'.setCell ⟨b, 0, none⟩ nv).os = w'.os from rfl).trans (p2.os.trans hV.os)
  · exact (show (w'.setCell ⟨b, 0, none⟩ nv).tape = w'.tape from rfl).trans (p2.tape.trans hV.tape)
  · exact (show (w'.setCell ⟨b, 0, none⟩ nv).output = w'.output from rfl).trans (p2.output.trans hV.output)
  · rw [heap_setCell_other _ _ _ _ _ (by omega)]; exact hsame k (by omega) (hv k (by omega))
  · have := heap_setCell_row (j := 0) ((hsame b (by omega) (hv b hbn)).trans q1) nv
    simpa using this
  · refine ownsRow_agree p1 (fun k hk => heap_setCell_other _ _ _ _ _ (fun e => ?_))
    have h := (ownBlock_ge p1 hk).1
    omega
  · rw [heap_setCell_other _ _ _ _ _ hne]; exact hsame k (by omega) (hv k hk)
end Go.Proofs.YtgbobegoknmiaaaGreat
/- slices.Sort and slices.Compact of a row of keys. -/
namespace Go.Proofs.YtgbobegoknmiaaaGreat
open Go Go.RowKit Go.Sort Go.Lib

abbrev toL (k : ByteArray) : List UInt8 := k.data.toList
abbrev ofL (l : List UInt8) : ByteArray := ⟨l.toArray⟩
theorem strs_toL (ss : List ByteArray) : strs ss = (ss.map toL).map encStr := by
  rw [List.map_map]
  exact List.map_congr_left fun k _ => rfl
theorem strs_ofL (ts : List (List UInt8)) : ts.map encStr = strs (ts.map ofL) := by
  show _ = (ts.map ofL).map Value.string
  rw [List.map_map]
  exact List.map_congr_left fun k _ => rfl
theorem mem_ofL {ts : List (List UInt8)} {ss : List ByteArray} (h : ∀ x, x ∈ ts ↔ x ∈ ss.map toL) (k : ByteArray) : k ∈ ts.map ofL ↔ k ∈ ss := by
  rw [List.mem_map]
  constructor
  · rintro ⟨x, hx, rfl⟩
    obtain ⟨j, hj, e⟩ := List.mem_map.1 ((h x).1 hx)
    have : ofL x = j := by rw [← e]
    rw [this]; exact hj
  · intro hk
    exact ⟨toL k, (h _).2 (List.mem_map.2 ⟨k, hk, rfl⟩), rfl⟩
theorem mem_upTo (d : Array (List UInt8)) : ∀ (m i : Nat), i < m → d[i]! ∈ compactUpTo d m
  | 0, _, h => by omega
  | m + 1, i, h => by
    rw [compactUpTo_succ, List.mem_append]
    rcases Nat.lt_or_ge i m with hi | hi
    · exact .inl (mem_upTo d m i hi)
    · obtain rfl : i = m := by omega
      by_cases hk : keeps d i = true
      · exact .inr (by simp [hk])
      · have h1 : i ≠ 0 ∧ d[i]! = d[i - 1]! := by
          unfold keeps at hk
          simpa using hk
        rw [h1.2]
        exact .inl (mem_upTo d i (i - 1) (by omega))
theorem mem_comp (zs : List (List UInt8)) (x : List UInt8) : x ∈ Lib.compact zs ↔ x ∈ zs := by
  constructor
  · intro h
    unfold Lib.compact Lib.compactUpTo at h
    obtain ⟨i, hi, rfl⟩ := List.mem_map.1 h
    have hi' : i < zs.length := List.mem_range.1 (List.mem_filter.1 hi).1
    simp [getElem!_pos, hi']
  · intro h
    obtain ⟨i, hi, rfl⟩ := List.getElem_of_mem h
    have := mem_upTo zs.toArray zs.length i hi
    simpa [getElem!_pos, hi, Lib.compact] using this
theorem comp_le (zs : List (List UInt8)) : (Lib.compact zs).length ≤ zs.length := by
  unfold Lib.compact Lib.compactUpTo
  rw [List.length_map]
  exact Nat.le_trans (List.length_filter_le _ _) (by simp)
/-- slices.Sort of a row of keys. -/
theorem sort_row (w : World) (base : Nat) (p : Option Addr) (c : Nat) (ss : List ByteArray) (h : w.ownsRow base 9 1 (.slice p ss.length c) ss.length (strs ss)) (hl : ss.length ≤ 1000000) :
    Calls Tryz.prog 90 #[.slice p ss.length c] w fun e w' => e = .returned (.tuple #[]) ∧ ∃ ss', ss'.length = ss.length ∧ (∀ k, k ∈ ss' ↔ k ∈ ss) ∧ w'.ownsRow base 9 1 (.slice p ss.length c) ss.length (strs ss') ∧ Upd w w' (fun k => some k = (Value.slice p ss.length c).ownBlock) := by
  rcases h.2 with ⟨e, e2⟩ | ⟨g, cap, cur, e, hbase, hb, h1, h2, h3, h4⟩
  · have : ss = [] := List.eq_nil_of_length_eq_zero e2
    subst this
    refine (Tryz.slices_Sort_string_none p c w).mono ?_
    rintro e w' ⟨rfl, rfl⟩
    exact ⟨rfl, [], rfl, fun _ => Iff.rfl, by simpa using h, Upd.refl _ _⟩
  · cases e
    have e0 : (ss.map toL).length = ss.length := List.length_map _
    have := Tryz.slices_Sort_string g 0 c (ss.map toL) w (holds_of_block hb (by rw [e0, ← strs_toL]; simpa using h4)) (Array.getElem?_eq_some_iff.1 hb).1 (by rw [e0]; omega)
    rw [e0] at this
    refine this.mono ?_
    rintro e w' ⟨rfl, n, os, rfl⟩
    refine ⟨rfl, ((ss.map toL).mergeSort fun x y => decide (x ≤ y)).map ofL, by simp, mem_ofL (fun x => (List.mergeSort_perm _ _).mem_iff), ?_, (Upd.ofGrown (grownBy_sorted _)).mono (fun k _ e => e)⟩
    rw [← strs_ofL]
    have := ownsRow_sorted (w := w) (n := n) (os := os) (ss := ss.map toL) (ts := (ss.map toL).mergeSort fun x y => decide (x ≤ y)) (by simp) hbase hb (by rw [e0]; exact h1) h2 (by simpa using h3)
    rw [e0] at this
    exact this
/-- slices.Compact of a row of keys. -/
theorem comp_row (w : World) (base : Nat) (p : Option Addr) (c : Nat) (ss : List ByteArray) (h : w.ownsRow base 9 1 (.slice p ss.length c) ss.length (strs ss)) (hl : ss.length ≤ 1000000) :
    Calls Tryz.prog 91 #[.slice p ss.length c] w fun e w' => ∃ K : List ByteArray, K.length ≤ ss.length ∧ (∀ k, k ∈ K ↔ k ∈ ss) ∧ e = .returned (.slice p K.length c) ∧ (∀ j k, K[j]? = some k → ∃ g, p = some ⟨g, 0, none⟩ ∧ base ≤ g ∧ w'.cell? ⟨g, j, none⟩ = some (.string k)) ∧ Upd w w' (fun k => some k = (Value.slice p ss.length c).ownBlock) := by
  rcases h.2 with ⟨e, e2⟩ | ⟨g, cap, cur, e, hbase, hb, h1, h2, h3, h4⟩
  · have : ss = [] := List.eq_nil_of_length_eq_zero e2
    subst this
    refine (Tryz.slices_Compact_string_empty p c w).mono ?_
    rintro e w' ⟨rfl, rfl⟩
    exact ⟨[], Nat.le_refl _, fun _ => Iff.rfl, rfl, fun j k hj => by simp at hj, Upd.refl _ _⟩
  · cases e
    have e0 : (ss.map toL).length = ss.length := List.length_map _
    have hcl := comp_le (ss.map toL)
    rw [e0] at hcl
    have := Tryz.slices_Compact_string g 0 c (ss.map toL) w (holds_of_block hb (by rw [e0, ← strs_toL]; simpa using h4)) (by rw [e0]; omega) (by rw [e0]; exact h1)
    rw [e0] at this
    refine this.mono ?_
    rintro e w' ⟨rfl, q, rfl⟩
    have hgr : ∀ V : World, V = grow V #[] := fun V => by simp [grow]
    refine ⟨(Lib.compact (ss.map toL)).map ofL, by rw [List.length_map]; exact hcl, mem_ofL (mem_comp _), by rw [List.length_map], ?_, ?_⟩
    · intro j k hj
      refine ⟨g, rfl, hbase, ?_⟩
      have hown := ownsRow_sorted (w := w) (n := q) (os := #[]) (ss := ss.map toL) (ts := Lib.compact (ss.map toL) ++ List.replicate (ss.length - (Lib.compact (ss.map toL)).length) []) (by simp; omega) hbase hb (by rw [e0]; exact h1) h2 (by simpa using h3)
      rw [← hgr] at hown
      have hc := hown.cells (g := g) rfl j (.string k) (by
        have hlt := (List.getElem?_eq_some_iff.1 hj).1
        rw [List.length_map] at hlt
        rw [List.map_append, List.getElem?_append_left (by rw [List.length_map]; exact hlt), strs_ofL, List.getElem?_map, hj]
        rfl)
      simpa only [Addr.add_lit, Nat.zero_add] using hc
    · rw [hgr (putRow _ _ _ _ _)]
      exact (Upd.ofGrown (grownBy_sorted _)).mono (fun k _ e => e)
end Go.Proofs.YtgbobegoknmiaaaGreat
/- An index by what it says; texts that come in, keys that are told. -/
namespace Go.Proofs.YtgbobegoknmiaaaGreat
open Go Go.RowKit

abbrev MAsc (ms : List Mk) : Prop := ms.Pairwise fun a b => a.1 < b.1
theorem mem_dat {R : List IM} {r : IM} (h : r ∈ R) : (r.it.key, r.ms) ∈ dat R := List.mem_map.2 ⟨r, h, rfl⟩
/-- An index in memory that says D. -/
def Xd (w : World) (x : Nat) (D : Dat) (F : List Nat) : Prop := ∃ R, Ix w x R F ∧ dat R = D
/-- Its keys and marks are at most n; marks rise. -/
structure Bd (n : Nat) (D : Dat) : Prop where
  len : D.length ≤ n
  ms : ∀ p ∈ D, p.2.length ≤ n ∧ MAsc p.2 ∧ 0 < p.2.length
  asc : Asc (D.map Prod.fst)
theorem Xd.upd {w w' : World} {S : Nat → Prop} (hu : Upd w w' S) {x : Nat} {D : Dat} {F : List Nat} (h : Xd w x D F) (hS : ∀ k ∈ F, ¬ S k) : Xd w' x D F := by
  obtain ⟨R, h1, h2⟩ := h
  exact ⟨R, h1.upd hu hS, h2⟩
theorem Xd.below {w w' : World} (hb : Below w.heap.size w w') {x : Nat} {D : Dat} {F : List Nat} (h : Xd w x D F) : Xd w' x D F := h.upd (S := fun _ => False) (Upd.ofBelow hb) (fun _ _ h => h)
theorem Xd.lt {w : World} {x : Nat} {D : Dat} {F : List Nat} (h : Xd w x D F) : ∀ k ∈ F, k < w.heap.size := by
  obtain ⟨R, h1, _⟩ := h
  exact h1.lt
theorem Xd.nd {w : World} {x : Nat} {D : Dat} {F : List Nat} (h : Xd w x D F) : F.Nodup := by
  obtain ⟨R, h1, _⟩ := h
  exact h1.nd
theorem Bd.nil : Bd 0 [] := ⟨Nat.le_refl _, fun p hp => (by cases hp), trivial⟩
theorem Bd.mono {n m : Nat} {D : Dat} (h : Bd n D) (hm : n ≤ m) : Bd m D := ⟨Nat.le_trans h.len hm, fun p hp => ⟨Nat.le_trans (h.ms p hp).1 hm, (h.ms p hp).2⟩, h.asc⟩
theorem setD_mem : ∀ {D : Dat} {key : ByteArray} {ms : List Mk} {p : ByteArray × List Mk}, p ∈ setD D key ms → p = (key, ms) ∨ p ∈ D
  | [], key, ms, p, h => by simp [setD] at h; exact .inl h
  | (k, m) :: D, key, ms, p, h => by
    unfold setD at h
    split at h
    · rcases List.mem_cons.1 h with rfl | h
      · exact .inr (by simp)
      · exact (setD_mem h).imp id (List.mem_cons_of_mem _)
    · split at h
      · rcases List.mem_cons.1 h with rfl | h
        · exact .inl rfl
        · exact .inr (List.mem_cons_of_mem _ h)
      · rcases List.mem_cons.1 h with rfl | h
        · exact .inl rfl
        · exact .inr h
theorem setD_len : ∀ (D : Dat) (key : ByteArray) (ms : List Mk), (setD D key ms).length ≤ D.length + 1
  | [], _, _ => by simp [setD]
  | (k, m) :: D, key, ms => by
    unfold setD
    have := setD_len D key ms
    split
    · simp; omega
    · split <;> simp
theorem setD_asc : ∀ {D : Dat} {key : ByteArray} {ms : List Mk}, Asc (D.map Prod.fst) → Asc ((setD D key ms).map Prod.fst)
  | [], _, _, _ => by simp [setD, Asc]
  | (k, m) :: D, key, ms, h => by
    obtain ⟨h1, h2⟩ : (∀ j ∈ D.map Prod.fst, klt k j = true) ∧ Asc (D.map Prod.fst) := h
    unfold setD
    split
    · rename_i hk
      refine ⟨fun j hj => ?_, setD_asc h2⟩
      obtain ⟨p, hp, rfl⟩ := List.mem_map.1 hj
      rcases setD_mem hp with rfl | hp
      · exact hk
      · exact h1 _ (List.mem_map_of_mem hp)
    · rename_i hk
      split
      · rename_i e
        subst e
        exact ⟨h1, h2⟩
      · rename_i hne
        have hkk : klt key k = true := by
          cases hq : klt key k
          · exact absurd (klt_tri (by simpa using hk) hq) hne
          · rfl
        refine ⟨fun j hj => ?_, h1, h2⟩
        rcases List.mem_cons.1 hj with rfl | hj
        · exact hkk
        · exact klt_trans hkk (h1 j hj)
theorem lookD_mem : ∀ {D : Dat} {key : ByteArray} {ms : List Mk}, lookD D key = some ms → (key, ms) ∈ D
  | [], _, _, h => by cases h
  | (k, m) :: D, key, ms, h => by
    unfold lookD at h
    split at h
    · rename_i e; cases h; rw [← e]; simp
    · exact List.mem_cons_of_mem _ (lookD_mem h)
theorem masc_snoc {ms : List Mk} {m : Mk} (h : MAsc ms) (hm : ms ≠ [] → (lastM ms).1 < m.1) : MAsc (ms ++ [m]) := by
  refine List.pairwise_append.2 ⟨h, by simp, fun a ha b hb => ?_⟩
  obtain rfl : b = m := by simpa using hb
  have hne : ms ≠ [] := fun e => by rw [e] at ha; cases ha
  have hl := hm hne
  obtain ⟨ini, l, rfl⟩ : ∃ ini l, ms = ini ++ [l] := ⟨ms.dropLast, ms.getLast hne, (List.dropLast_concat_getLast _).symm⟩
  have e : lastM (ini ++ [l]) = l := by simp [lastM]
  rw [e] at hl
  rcases List.mem_append.1 ha with ha | ha
  · have := (List.pairwise_append.1 h).2.2 a ha l (by simp)
    omega
  · obtain rfl : a = l := by simpa using ha
    exact hl
theorem Bd.put {n : Nat} {D : Dat} (h : Bd n D) (key : ByteArray) (rev : Int) (del : Bool) : Bd (n + 1) (putD D key rev del) := by
  unfold putD
  split
  · rename_i he
    refine ⟨Nat.le_trans (setD_len _ _ _) (by have := h.len; omega), fun p hp => ?_, setD_asc h.asc⟩
    rcases setD_mem hp with rfl | hp
    · cases hl : lookD D key with
      | none => simp
      | some ms =>
        obtain ⟨q1, q2, q3⟩ := h.ms _ (lookD_mem hl)
        dsimp only at q1 q2 q3
        refine ⟨by simp; omega, masc_snoc q2 (fun _ => ?_), by simp⟩
        unfold putE at he
        rw [hl] at he
        split at he
        · cases he
        · dsimp only at he
          split at he
          · cases he
          · show (lastM ms).1 < rev
            omega
    · exact ⟨Nat.le_succ_of_le (h.ms p hp).1, (h.ms p hp).2⟩
  · exact h.mono (Nat.le_succ _)
def SeesS (w : World) (v : Value) (zs : List ByteArray) : Prop :=
  (zs = [] ∧ ∃ ao cap, v = .slice ao 0 cap) ∨ ∃ b off cap, v = .slice (some ⟨b, off, none⟩) zs.length cap ∧ 0 < zs.length ∧ b < w.heap.size ∧ ∀ i, i < zs.length → w.cell? ⟨b, off + i, none⟩ = some (.string (zs.getD i ByteArray.empty)) ∧ (zs.getD i ByteArray.empty).size ≤ 9223372036854775807
theorem SeesS.form {w : World} {v : Value} {zs : List ByteArray} (h : SeesS w v zs) : ∃ ao cap, v = .slice ao zs.length cap := by
  rcases h with ⟨rfl, ao, cap, rfl⟩ | ⟨b, off, cap, rfl, _⟩ <;> exact ⟨_, _, rfl⟩
theorem SeesS.at {w : World} {a : Option Addr} {cap : Nat} {zs : List ByteArray} (h : SeesS w (.slice a zs.length cap) zs) {j : Nat} (hj : j < zs.length) : ∃ b off, a = some ⟨b, off, none⟩ ∧ b < w.heap.size ∧ w.cell? ⟨b, off + j, none⟩ = some (.string (zs.getD j ByteArray.empty)) ∧ (zs.getD j ByteArray.empty).size ≤ 9223372036854775807 := by
  rcases h with ⟨h, _⟩ | ⟨b, off, c, he, _, hb, hc⟩
  · subst h; simp at hj
  · cases he; exact ⟨b, off, rfl, hb, (hc j hj).1, (hc j hj).2⟩
/-- A row of texts that the program made. -/
structure Row (w : World) (v : Value) (ks : List ByteArray) : Prop where
  form : ∃ p c, v = .slice p ks.length c
  at_ : ∀ j k, ks[j]? = some k → ∃ g c, v = .slice (some ⟨g, 0, none⟩) ks.length c ∧ g < w.heap.size ∧ w.cell? ⟨g, j, none⟩ = some (.string k)
theorem Row.below {w w' : World} (hb : Below w.heap.size w w') {v : Value} {ks : List ByteArray} (h : Row w v ks) : Row w' v ks :=
  ⟨h.form, fun j k hj => by
    obtain ⟨g, c, h1, h2, h3⟩ := h.at_ j k hj
    exact ⟨g, c, h1, Nat.lt_of_lt_of_le h2 hb.size, (hb.cell (p := ⟨g, j, none⟩) h2).trans h3⟩⟩
theorem lookD_not {D : Dat} (ha : Asc (D.map Prod.fst)) {key : ByteArray} (h : lookD D key = none) : key ∉ D.map Prod.fst := fun hm => by
  obtain ⟨p, hp, rfl⟩ := List.mem_map.1 hm
  obtain ⟨A, B, hAB⟩ := List.append_of_mem hp
  rw [hAB] at ha h
  rw [lookD_at (X := A) (Z := B) (key := p.1) (ms := p.2) ha] at h
  cases h
theorem putD_len {D : Dat} (ha : Asc (D.map Prod.fst)) {key : ByteArray} {rev : Int} {del : Bool} (h : lookD D key = none) (he : putE D key rev del = 0) : (putD D key rev del).length = D.length + 1 := by
  unfold putD
  rw [if_pos he, setD_new (lookD_not ha h)]
  have := congrArg List.length (List.takeWhile_append_dropWhile (p := fun p : ByteArray × List Mk => klt p.1 key) (l := D))
  simp only [List.length_append] at this
  simp; omega
theorem bd_pos {n : Nat} {D : Dat} (h : Bd n D) {key : ByteArray} {ms : List Mk} (hl : lookD D key = some ms) : 0 < ms.length := (h.ms _ (lookD_mem hl)).2.2
end Go.Proofs.YtgbobegoknmiaaaGreat
