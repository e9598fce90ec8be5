/- An append within a round. -/
import Derived.Test.YteeflkkoifgcbabGreatG4
import Derived.Maps.AppendAt
namespace Go.Proofs.YteeflkkoifgcbabGreat
open Go Go.RowKit Go.Shelf
attribute [local go_sem] Oper.semAt_some
abbrev strs (l : List ByteArray) : List Value := l.map Value.string
theorem info9 : (Tryz.prog.info? 9).map (fun i => (i.zero, i.size, i.bytes)) = some (some (.string ⟨#[]⟩), 1, 16) := by kernel_rfl
theorem stepIn_appS {F : Fence} {fn : Nat} {P : Program} (w : World) {ops : Array Oper} {o : Oper} {a : Act} {K : Act → World → Prop} {Q : Exit → Act → World → Prop} {E : Prop} (hgd : o.guard = none) (sl x : Operand) (t tx : TypeId) (ho : o.op = .call { callee := .builtin .append, args := #[sl, x], argTypes := #[t, tx] })
    (base : Nat) (e : TypeId) (i : TypeInfo) (z : Value) (s : Nat) (ht : P.underlying t = some (.slice e)) (hi : P.info? e = some i) (hz : i.zero = some z) (hsize : i.size = s) (hzs : z.cells.size = s) (hby : i.bytes ≤ 1000)
    (v : Value) (n : Nat) (xs : List Value) (hev : a.eval sl = v) (hown : w.ownsRow base e s v n xs) (vx : Value) (hex : a.eval x = vx) (m : Nat) (news : List Value) (hs : Src P s tx vx m news w) (hb : n + m ≤ 1000000000) (hbase : base ≤ w.heap.size)
    (h : ∀ v' w', w'.ownsRow base e s v' (n + m) (xs ++ news) → Upd w w' (fun k => some k = v.ownBlock) → (v'.ownBlock = v.ownBlock ∨ v'.ownBlock = some w.heap.size) → (v.ownBlock ≠ none ∨ 0 < m → v'.ownBlock ≠ none) → K (a.put o.dst v') w') :
    if Region.wanted o (yielded ops a.tmps) = true then Oper.wpIn F fn P o a w K Q else E := by
  have hw : Region.wanted o (yielded ops a.tmps) = true := by simp [Region.wanted, hgd]
  rw [if_pos hw]
  obtain ⟨v', w', hrun, r1, r2, r3, r4⟩ := run_appS (P := P) w base t tx o.type e i z s ht hi hz hsize hzs hby v n xs hown vx m news hs hb hbase
  unfold Oper.wpIn
  refine ⟨?_, ?_⟩
  · simp [Oper.about, ho, resolve, Target.leads, Sem.run_pure]
  · rw [Oper.semAt_plain F _ _ (by rw [ho]; intro c hc'; cases hc')]
    simp [execOp, ho, resolve, invoke, builtin, hev, hex, hrun, Result.andThen]
    exact h v' w' r1 r2 r3 r4
theorem owns_formB {w : World} {base e s n : Nat} {v : Value} {xs : List Value} (h : w.ownsRow base e s v n xs) (hn : 0 < n) : ∃ g c, v = .slice (some ⟨g, 0, none⟩) n c ∧ n ≤ c ∧ base ≤ g := by
  rcases h.2 with ⟨rfl, rfl⟩ | ⟨g, cap, cur, rfl, hb, _, h1, _⟩
  · omega
  · exact ⟨_, _, rfl, h1, hb⟩
theorem owns_formB0 {w : World} {base e s n : Nat} {v : Value} {xs : List Value} (h : w.ownsRow base e s v n xs) : ∃ p c, v = .slice p n c := by
  rcases h.2 with ⟨rfl, rfl⟩ | ⟨g, cap, cur, rfl, _⟩
  · exact ⟨_, _, rfl⟩
  · exact ⟨_, _, rfl⟩
theorem ownBlock_ge {w : World} {base e s n : Nat} {v : Value} {xs : List Value} (h : w.ownsRow base e s v n xs) {k : Nat} (hk : v.ownBlock = some k) : base ≤ k ∧ ∃ c f, w.heap[k]? = some (.cells c e f) := by
  rcases h.2 with ⟨rfl, _⟩ | ⟨g, cap, cur, rfl, hb, hh, _⟩
  · cases hk
  · have e' : g = k := by simpa [Value.ownBlock] using hk
    subst e'
    exact ⟨hb, _, _, hh⟩
theorem ownsRow_base {w : World} {base base' e s n : Nat} {v : Value} {xs : List Value} (h : w.ownsRow base e s v n xs) (hb : base' ≤ base) : w.ownsRow base' e s v n xs := by
  obtain ⟨h1, h2⟩ := h
  refine ⟨h1, ?_⟩
  rcases h2 with h2 | ⟨g, cap, cur, rfl, hb', r⟩
  · exact .inl h2
  · exact .inr ⟨g, cap, cur, rfl, Nat.le_trans hb hb', r⟩
/-- WHAT A ROUND LEAVES THAT APPENDS TO THE ROW IN THE BOX b (own block from n on, b below n). -/
theorem app_fin {n b : Nat} {t e : TypeId} {W V w' : World} {v nv : Value} {xs zs : List Value} {m m' s : Nat} (q1 : W.heap[b]? = some (.cells #[v] t (0, 0))) (q2 : W.ownsRow n e s v m xs) (hbn : b < n) (q6 : n ≤ W.heap.size) (hV : Below W.heap.size W V)
    (p2 : Upd V w' (fun k => some k = v.ownBlock)) (p1 : w'.ownsRow n e s nv m' zs) (B : Nat) :
    KeepsFrom B W (w'.setCell ⟨b, 0, none⟩ nv) ∧ Below b W (w'.setCell ⟨b, 0, none⟩ nv) ∧ (w'.setCell ⟨b, 0, none⟩ nv).heap[b]? = some (.cells #[nv] t (0, 0)) ∧ (w'.setCell ⟨b, 0, none⟩ nv).ownsRow n e s nv m' zs ∧ (∀ k, k < n → k ≠ b → (w'.setCell ⟨b, 0, none⟩ nv).heap[k]? = W.heap[k]?) := by
  have hsame : ∀ k, k < W.heap.size → some k ≠ v.ownBlock → w'.heap[k]? = W.heap[k]? := fun k hk hne => (p2.block k (Nat.lt_of_lt_of_le hk hV.size) hne).trans (hV.block k hk)
  have hv : ∀ k, k < n → some k ≠ v.ownBlock := fun k hk e => by have := (ownBlock_ge q2 e.symm).1; omega
  have hsz : W.heap.size ≤ (w'.setCell ⟨b, 0, none⟩ nv).heap.size := by rw [size_setCell]; exact Nat.le_trans hV.size p2.size
  refine ⟨⟨hsz, fun k o hB hk ho => ?_⟩, ⟨?_, ?_, ?_, hsz, fun k hk => ?_⟩, ?_, ?_, fun k hk hne => ?_⟩
  · have hlt := (Array.getElem?_eq_some_iff.1 hk).1
    have n1 : k ≠ b := fun e => by
      rw [e, q1] at hk
      cases hk
      cases ho
    rw [heap_setCell_other _ _ _ _ _ n1, hsame k hlt (fun e => by
      obtain ⟨_, c, f, hc⟩ := ownBlock_ge q2 e.symm
      rw [hk] at hc
      cases hc
      cases ho)]
    exact hk
  · exact (show (w'.setCell ⟨b, 0, none⟩ nv).os = w'.os from rfl).trans (p2.os.trans hV.os)
  · exact (show (w'.setCell ⟨b, 0, none⟩ nv).tape = w'.tape from rfl).trans (p2.tape.trans hV.tape)
  · exact (show (w'.setCell ⟨b, 0, none⟩ nv).output = w'.output from rfl).trans (p2.output.trans hV.output)
  · rw [heap_setCell_other _ _ _ _ _ (by omega)]; exact hsame k (by omega) (hv k (by omega))
  · have := heap_setCell_row (j := 0) ((hsame b (by omega) (hv b hbn)).trans q1) nv
    simpa using this
  · refine ownsRow_agree p1 (fun k hk => heap_setCell_other _ _ _ _ _ (fun e => ?_))
    have h := (ownBlock_ge p1 hk).1
    omega
  · rw [heap_setCell_other _ _ _ _ _ hne]; exact hsame k (by omega) (hv k hk)
end Go.Proofs.YteeflkkoifgcbabGreat
