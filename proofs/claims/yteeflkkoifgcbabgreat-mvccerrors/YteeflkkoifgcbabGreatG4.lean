/- from: what a range over it is handed. -/
import Derived.Test.YteeflkkoifgcbabGreatGA
import Derived.Test.YteeflkkoifgcbabGreatGRC
namespace Go.Proofs.YteeflkkoifgcbabGreat
open Go Go.RowKit Go.Shelf
attribute [local go_sem] Oper.semAt_some

set_option maxRecDepth 100000 in
set_option maxHeartbeats 1000000 in
theorem from_in (n : Nat) (rp : Option Addr) (lo : ByteArray) (w : World) : CallsIn Fence.wide n Tryz.prog 38 #[.pointer rp, .string lo] w fun e w' => e = .returned (.func (.func 58) #[] #[.pointer (some ⟨w.heap.size, 0, none⟩), .pointer (some ⟨w.heap.size + 1, 0, none⟩)]) ∧ w' = (w.alloc (.cells #[.pointer rp] 78)).alloc (.cells #[.string lo] 9) := by
  refine callsIn_of_wp Tryz.func38 rfl trivial ?_ rfl
  simp only [Tryz.ntmps38, List.size_toArray, List.length_cons, List.length_nil, Nat.reduceAdd, Nat.reduceSub, Array.replicate_succ, Array.replicate_zero, List.push_toArray, List.append_toArray, List.nil_append, List.cons_append]
  gi_wp2
  go_ret
  exact ⟨rfl, rfl⟩
def KpS (w0 : World) (F : List Nat) (W W' : World) : Prop := KpT w0 F W W' ∧ W.heap.size ≤ W'.heap.size
theorem KpS.t {w0 : World} {F : List Nat} {A B C : World} (h : KpS w0 F A B) (k : KpS w0 F B C) : KpS w0 F A C := ⟨h.1.trans k.1, Nat.le_trans h.2 k.2⟩
theorem KpS.b {w0 : World} {F : List Nat} {n0 : Nat} (hF : ∀ k ∈ F, k < n0) (W : World) (l : Nat) (o' : Obj) (hl : n0 ≤ l) : KpS w0 F W (W.putObj l o') := by
  have hg := grownBy_putObj' W l o'
  refine ⟨fun p hp => ?_, hg.size⟩
  by_cases hlt : p.block < W.heap.size
  · have := World.cell?_of_block (w := W) (a := p) (hg.block p.block hlt (fun e => by have h1 := hF _ hp; have h2 : p.block = l := (by simpa using e); omega))
    exact ⟨fun _ => this, fun h => by rw [this]; exact h⟩
  · have h0 : W.cell? p = none := by
      cases hc : W.cell? p with
      | none => rfl
      | some v => exact absurd (World.block_lt_of_cell? _ _ hc) hlt
    have hz : (W.putObj l o').heap.size = W.heap.size := by simp [World.putObj]
    have h1 : (W.putObj l o').cell? p = none := by
      cases hc : (W.putObj l o').cell? p with
      | none => rfl
      | some v => have := World.block_lt_of_cell? _ _ hc; omega
    exact ⟨fun _ => by rw [h0, h1], fun h => by rw [h0] at h; cases h⟩
theorem grown_of_below {W W' : World} (h : Below W.heap.size W W') : W.grownBy W' none := ⟨h.os, h.tape, h.output, h.size, fun k hk _ => h.block k hk⟩

set_option maxRecDepth 100000 in
set_option maxHeartbeats 1000000 in
theorem seq_tre {w0 : World} {h b : Nat} {its L : List Itm} {F : List Nat} (ht : Tre w0 h b its L F) (hnd : F.Nodup) (ha : Asc (keysI L)) (h1 : 1 ≤ its.length) (h5 : its.length ≤ 5) (lo : ByteArray) (n B1 B2 : Nat) (w : World) (hb0 : Below w0.heap.size w0 w)
    (hc1 : w.cell? ⟨B1, 0, none⟩ = some (ptr b)) (hc2 : w.cell? ⟨B2, 0, none⟩ = some (.string lo)) :
    SeqStopsK Fence.wide n Tryz.prog 58 #[.pointer (some ⟨B1, 0, none⟩), .pointer (some ⟨B2, 0, none⟩)] (fun x : SlotA w0 h b its.length L F => #[Value.pointer (some (encA x))]) (KpS w0 F) (fun ys => ys.map (fun x => x.it) = filt lo L) (fun pre => pre.map (fun x => x.it) <+: filt lo L) (filt lo L).length w := by
  intro l J Jx W hW hJ hJx hY h0
  have hFl := ht.lt
  have hdd : ∀ k : Nat, (Fence.wide.depth.isSome = true → 1 ≤ k) := fun k h => by cases h
  have hKW : KKT w0 F W := ⟨KpT.of_block fun k hk => ((hW.block k (Nat.lt_of_lt_of_le (hFl k hk) hb0.size)).trans (hb0.block k (hFl k hk))), Nat.le_trans hb0.size hW.size⟩
  have hp := walk_tre l (filt lo L).length lo J Jx (fun pre W W' hj hb => hJ pre W W' none hj (grown_of_below hb) (fun r e => by cases e)) hFl
    (fun m pre x W1 hj hk hlt => YieldAt.mono (YieldAt.anyDepth' rfl m (hY pre x W1 hj hlt)) fun e W' h => h.imp (fun ⟨a, b, c⟩ => ⟨a, b, hk.1.trans c.1, Nat.le_trans hk.2 c.2⟩) id)
    h b its L F ht (fun _ h => h) (fun _ _ _ h hl => ⟨h, hl⟩) hnd ha h1 h5 (n - 1) [] W hKW h0 (by simp)
  have d1 := (hW.cell (p := ⟨B1, 0, none⟩) (World.block_lt_of_cell? _ _ hc1)).trans hc1
  have d2 := (hW.cell (p := ⟨B2, 0, none⟩) (World.block_lt_of_cell? _ _ hc2)).trans hc2
  refine callsIn_of_wp Tryz.func58 rfl trivial ?_ rfl
  simp only [Tryz.ntmps58, List.size_toArray, List.length_cons, List.length_nil, Nat.reduceAdd, Nat.reduceSub, Array.replicate_succ, Array.replicate_zero, List.push_toArray, List.append_toArray, List.nil_append, List.cons_append]
  clear hY hJ hJx h0 hKW
  gi_wp2_with (refine ⟨trivial, hdd _, ?_⟩; gi_at_call 59; refine hp.mono ?_; clear hp; rintro e W1 (⟨rfl, ys, hy, hJ1, _⟩ | ⟨rfl, ys, hy, hx⟩))
  · go_end0
    exact ⟨⟨_, rfl⟩, .inl ⟨ys, hy, by simpa using hJ1⟩⟩
  · go_end0
    exact ⟨⟨_, rfl⟩, .inr ⟨ys, hy, by simpa using hx⟩⟩
set_option maxRecDepth 100000 in
set_option maxHeartbeats 1000000 in
theorem seq_nil (w0 : World) (h b n' : Nat) (F : List Nat) (lo : ByteArray) (n B1 B2 : Nat) (w : World) (hc1 : w.cell? ⟨B1, 0, none⟩ = some (.pointer none)) (hc2 : w.cell? ⟨B2, 0, none⟩ = some (.string lo)) :
    SeqStopsK Fence.wide n Tryz.prog 58 #[.pointer (some ⟨B1, 0, none⟩), .pointer (some ⟨B2, 0, none⟩)] (fun x : SlotA w0 h b n' [] F => #[Value.pointer (some (encA x))]) (KpS w0 F) (fun ys => ys.map (fun x => x.it) = filt lo []) (fun pre => pre.map (fun x => x.it) <+: filt lo []) (filt lo []).length w := by
  intro l J Jx W hW hJ hJx hY h0
  have hdd : ∀ k : Nat, (Fence.wide.depth.isSome = true → 1 ≤ k) := fun k h => by cases h
  have d1 := (hW.cell (p := ⟨B1, 0, none⟩) (World.block_lt_of_cell? _ _ hc1)).trans hc1
  have d2 := (hW.cell (p := ⟨B2, 0, none⟩) (World.block_lt_of_cell? _ _ hc2)).trans hc2
  have hp := walk_nil l lo (n - 1) W
  have HJ := Hid.mk'' h0
  refine callsIn_of_wp Tryz.func58 rfl trivial ?_ rfl
  simp only [Tryz.ntmps58, List.size_toArray, List.length_cons, List.length_nil, Nat.reduceAdd, Nat.reduceSub, Array.replicate_succ, Array.replicate_zero, List.push_toArray, List.append_toArray, List.nil_append, List.cons_append]
  clear hY hJ hJx h0
  gi_wp2_with (refine ⟨trivial, hdd _, ?_⟩; gi_at_call 59; refine hp.mono ?_; clear hp; rintro e W1 ⟨rfl, rfl⟩)
  go_end0
  exact ⟨⟨_, rfl⟩, .inl ⟨[], rfl, HJ.out⟩⟩
/-- A range over an index's root, whatever it is. -/
theorem seq_root {w0 : World} {rp : Option Addr} {L : List Itm} {F : List Nat} (hR : Root w0 rp L F) (hnd : F.Nodup) (ha : Asc (keysI L)) (lo : ByteArray) (n B1 B2 : Nat) (w : World) (hb0 : Below w0.heap.size w0 w)
    (hc1 : w.cell? ⟨B1, 0, none⟩ = some (.pointer rp)) (hc2 : w.cell? ⟨B2, 0, none⟩ = some (.string lo)) :
    ∃ h b n', (L ≠ [] → rp = some ⟨b, 0, none⟩ ∧ 1 ≤ n' ∧ n' ≤ 4) ∧ SeqStopsK Fence.wide n Tryz.prog 58 #[.pointer (some ⟨B1, 0, none⟩), .pointer (some ⟨B2, 0, none⟩)] (fun x : SlotA w0 h b n' L F => #[Value.pointer (some (encA x))]) (KpS w0 F) (fun ys => ys.map (fun x => x.it) = filt lo L) (fun pre => pre.map (fun x => x.it) <+: filt lo L) (filt lo L).length w := by
  rcases hR with ⟨rfl, rfl, rfl⟩ | ⟨h, b, its, rfl, ht, h1, h4⟩
  · exact ⟨0, 0, 0, fun h => absurd rfl h, seq_nil w0 0 0 0 [] lo n B1 B2 w hc1 hc2⟩
  · exact ⟨h, b, its.length, fun _ => ⟨rfl, h1, h4⟩, seq_tre ht hnd ha h1 (by omega) lo n B1 B2 w hb0 hc1 hc2⟩
/-- What the law of a range does to blocks of cells: nothing. -/
theorem grown_cells {W W' : World} {row : Option Nat} {B : Nat} (hg : W.grownBy W' row) (hr : ∀ r, row = some r → B ≤ r ∧ ∃ o : Obj, W.heap[r]? = some o ∧ o.isCells = false) {k : Nat} {c : Array Value} {t : TypeId} {f : Nat × Nat} (hk : W.heap[k]? = some (.cells c t f)) : W'.heap[k]? = some (.cells c t f) := by
  rw [← hk]
  refine hg.block k (Array.getElem?_eq_some_iff.1 hk).1 (fun e => ?_)
  obtain ⟨_, o, ho, hc⟩ := hr k e.symm
  rw [hk] at ho
  cases ho
  cases hc
theorem ownsRow_grown {W W' : World} {row : Option Nat} {B : Nat} (hg : W.grownBy W' row) (hr : ∀ r, row = some r → B ≤ r ∧ ∃ o : Obj, W.heap[r]? = some o ∧ o.isCells = false) {base e s n : Nat} {v : Value} {xs : List Value} (h : W.ownsRow base e s v n xs) : W'.ownsRow base e s v n xs := by
  obtain ⟨h1, h2⟩ := h
  refine ⟨h1, ?_⟩
  rcases h2 with h2 | ⟨g, cap, cur, rfl, hb, hh, r⟩
  · exact .inl h2
  · exact .inr ⟨g, cap, cur, rfl, hb, grown_cells hg hr hh, r⟩
end Go.Proofs.YteeflkkoifgcbabGreat
