/- What may not be done: contracts and data of TxnRefuses. -/
import Derived.Test.YtgbobegoknmiaaaGreatTK
import Derived.Laws.IdiomStrings
namespace Go.Proofs.YtgbobegoknmiaaaGreat
open Go Go.RowKit

theorem ret_i {a b : Int} (h : a = b) : Ending.returned (.int .i64 a) = .returned (.int .i64 b) := by rw [h]
def withinF (a n : Int) : Int := if a.tmod n < 0 then a.tmod n + n else a.tmod n
theorem withinF_bd (a n : Int) (hn : 0 < n) : 0 ≤ withinF a n ∧ withinF a n < n := by
  have h1 := Int.lt_tmod_of_pos a (b := n) hn
  have h2 := Int.tmod_lt_of_pos a (b := n) hn
  unfold withinF
  split <;> omega
set_option maxRecDepth 100000 in
set_option maxHeartbeats 1000000 in
theorem within_any (a n : Int) (w : World) (hn : 0 < n) (hm : n ≤ 1000000000000000) :
    Calls Tryz.prog 21 #[.int .i64 a, .int .i64 n] w fun e w' => e = .returned (.int .i64 (withinF a n)) ∧ w' = w := by
  have h1 := Int.lt_tmod_of_pos a (b := n) hn
  have h2 := Int.tmod_lt_of_pos a (b := n) hn
  have hn0 : (n == 0) = false := by simp; omega
  by_cases h : a.tmod n < 0
  · have HW : Hid (withinF a n = a.tmod n + n) := by show _ = _; rw [withinF, if_pos h]
    go_enter Tryz.func21, Tryz.ntmps21
    go_wp2
    go_ret
    exact ⟨ret_i HW.out.symm, rfl⟩
  · have HW : Hid (withinF a n = a.tmod n) := by show _ = _; rw [withinF, if_neg h]
    go_enter Tryz.func21, Tryz.ntmps21
    go_wp2
    go_ret
    exact ⟨ret_i HW.out.symm, rfl⟩
def opC (o : Opd) : List Value := [.int .i64 o.kind, .string o.key, .string o.fin, .string o.value, .int .i64 o.lease, .int .i64 o.limit]
def opsC (l : List Opd) : List Value := l.flatMap opC
theorem opsC_at : ∀ {l : List Opd} {i : Nat} {o : Opd} (_ : l[i]? = some o) (t : Nat), t < 6 → (opsC l)[i * 6 + t]? = (opC o)[t]?
  | [], i, o, h, t, ht => by simp at h
  | x :: l, 0, o, h, t, ht => by
    have e : x = o := by simpa using h
    subst e
    show (opC x ++ opsC l)[0 * 6 + t]? = _
    rw [Nat.zero_mul, Nat.zero_add, List.getElem?_append_left (by show t < 6; exact ht)]
  | x :: l, i + 1, o, h, t, ht => by
    have h' : l[i]? = some o := by simpa using h
    show (opC x ++ opsC l)[(i + 1) * 6 + t]? = _
    rw [List.getElem?_append_right (by show 6 ≤ _; omega), show (i + 1) * 6 + t - (opC x).length = i * 6 + t by show _ - 6 = _; omega]
    exact opsC_at h' t ht
theorem ops_of_row {w : World} {B : Nat} {p : Option Addr} {c : Nat} {l : List Opd} (h : w.ownsRow B 57 6 (.slice p l.length c) l.length (opsC l)) (hs : ∀ o ∈ l, o.key.size ≤ 140737488355328 ∧ o.fin.size ≤ 140737488355328 ∧ o.value.size ≤ 140737488355328) : OPs (fun k => B ≤ k ∧ k < w.heap.size) w (.slice p l.length c) l := by
  refine ⟨p, c, rfl, fun i o hi => ?_⟩
  rcases h.2 with ⟨e1, e2⟩ | ⟨g, cap, cur, e, hbase, hb, h1, h2, h3, h4⟩
  · have := (List.getElem?_eq_some_iff.1 hi).1
    omega
  · cases e
    have q : ∀ t u, t < 6 → (opC o)[t]? = some u → w.cell? ⟨g, 0 + i * 6 + t, none⟩ = some u := fun t u ht hu => by
      have := h.cells (g := g) rfl (i * 6 + t) u ((opsC_at hi t ht).trans hu)
      rw [Nat.zero_add]
      simpa only [Addr.add_lit, Nat.zero_add] using this
    obtain ⟨s0, s1, s2⟩ := hs o (List.mem_of_getElem? hi)
    have hl := (Array.getElem?_eq_some_iff.1 hb).1
    exact ⟨g, 0, rfl, ⟨hbase, hl⟩, hl, ⟨q 0 _ (by omega) rfl, q 1 _ (by omega) rfl, q 2 _ (by omega) rfl, q 3 _ (by omega) rfl, q 4 _ (by omega) rfl, q 5 _ (by omega) rfl, s0, s1, s2⟩⟩
/-- A transaction that is refused. -/
theorem Q9.refused {w0 w : World} {s n q : Nat} {S : Sto} {g : Sg} (H : Q9 w0 w s n S g) (hLP : LsP q [] (fun _ => False) w) (hq : ∀ k, k = q ∨ False → k < w.heap.size ∧ ¬ ftS s g k) (t : Txd) {lo hi tb : Nat} {vi vt ve : Value} (HB : TBx w s g lo hi tb vi vt ve t) (E : Int) (hz : ¬ E = 0) (hE : txE S (fun id => decide (id ∈ ([] : List Int))) t = E)
    (h1 : t.ifs.length ≤ 1000000) (h2 : t.thn.length ≤ 1000000) (h3 : t.els.length ≤ 1000000) (b4 : S.rev ≤ 400000) :
    Calls Tryz.prog 16 #[ptr s, .iface 45 (ptr q), .agg #[vi, vt, ve]] w fun e w' => e = .returned (.tuple #[.bool false, .slice none 0 0, .int .i64 E]) ∧ ∃ g', Hid (Q9 w0 w' s n S g') := by
  have hz' : ¬ txE S (fun id => decide (id ∈ ([] : List Int))) t = 0 := by rw [hE]; exact hz
  have hN : txN S (fun id => decide (id ∈ ([] : List Int))) t = 0 := if_neg hz'
  have hS : txS S (fun id => decide (id ∈ ([] : List Int))) t = S := if_neg hz'
  have f := H.sf
  have := H.do [] (fun _ => False) (by simp) hLP hq t vi vt ve HB.has h1 h2 h3 (by rw [hN]; exact f.n) (by rw [hN]; exact f.ks) (by rw [hN]; exact f.nth) (by omega)
  rw [hN, hS] at this
  refine this.mono ?_
  rintro e w' ⟨bt, p, m, c, rfl, g', HT⟩
  obtain ⟨hT, hQ, -⟩ := HT.out
  obtain ⟨rfl, rfl, rfl, rfl⟩ := hT.no hz'
  exact ⟨by rw [hE], g', hQ⟩
set_option maxRecDepth 100000 in
set_option maxHeartbeats 1000000 in
/-- Too many. -/
theorem check_many (pi pt pe : Option Addr) (ni ci nt ct ne ce : Nat) (w : World) (h : 32 < ni ∨ 32 < nt ∨ 32 < ne) (h1 : ni ≤ 1000000) (h2 : nt ≤ 1000000) (h3 : ne ≤ 1000000) : Calls Tryz.prog 12 #[.agg #[.slice pi ni ci, .slice pt nt ct, .slice pe ne ce]] w fun e w' => e = .returned (.int .i64 4) ∧ Below w.heap.size w w' := by
  have HB1 : Hid (Below w.heap.size w (w.alloc (.cells #[.slice pi ni ci, .slice pt nt ct, .slice pe ne ce] 36))) := (Below.refl _ _).alloc (Nat.le_refl _) _
  by_cases hm1 : 32 < ni
  · have hi1 : (32 : Int) < (ni : Int) := by omega
    go_enter Tryz.func12, Tryz.ntmps12
    go_wp2_with fail
    go_ret
    exact ⟨rfl, HB1.out⟩
  have hi1 : ¬ (32 : Int) < (ni : Int) := by omega
  by_cases hm2 : 32 < nt
  · have hi2 : (32 : Int) < (nt : Int) := by omega
    go_enter Tryz.func12, Tryz.ntmps12
    go_wp2_with fail
    go_ret
    exact ⟨rfl, HB1.out⟩
  have hi2 : ¬ (32 : Int) < (nt : Int) := by omega
  have hi3 : (32 : Int) < (ne : Int) := by omega
  go_enter Tryz.func12, Tryz.ntmps12
  go_wp2_with fail
  go_ret
  exact ⟨rfl, HB1.out⟩
set_option maxRecDepth 100000 in
set_option maxHeartbeats 1000000 in
theorem Q9.many {w0 w : World} {s n q : Nat} {S : Sto} {g : Sg} (H : Q9 w0 w s n S g) (pi pt pe : Option Addr) (ni ci nt ct ne ce : Nat) (h : 32 < ni ∨ 32 < nt ∨ 32 < ne) (h1 : ni ≤ 1000000) (h2 : nt ≤ 1000000) (h3 : ne ≤ 1000000) :
    Calls Tryz.prog 16 #[ptr s, .iface 45 (ptr q), .agg #[.slice pi ni ci, .slice pt nt ct, .slice pe ne ce]] w fun e w' => e = .returned (.tuple #[.bool false, .slice none 0 0, .int .i64 4]) ∧ ∃ g', Hid (Q9 w0 w' s n S g') := by
  have hck := check_many pi pt pe ni ci nt ct ne ce (w.alloc (.cells #[.slice pi ni ci, .slice pt nt ct, .slice pe ne ce] 36)) h h1 h2 h3
  have HQ : Hid (∀ w2, Below (w.alloc (.cells #[.slice pi ni ci, .slice pt nt ct, .slice pe ne ce] 36)).heap.size (w.alloc (.cells #[.slice pi ni ci, .slice pt nt ct, .slice pe ne ce] 36)) w2 → Q9 w0 w2 s n S g) := fun w2 hb => (H.below ((Below.refl _ _).alloc (Nat.le_refl _) _)).below hb
  clear H
  go_enter Tryz.func16, Tryz.ntmps16
  go_wp2_with (go_at_call 12; refine hck.mono ?_; rintro e w2 ⟨rfl, hb2⟩)
  refine bodyPost_ret (results_tmp3 rfl _ _ _) rfl ?_
  exact ⟨rfl, g, HQ.out _ hb2⟩
def zb (n : Nat) : ByteArray := ⟨(List.replicate n (0 : UInt8)).toArray⟩
theorem zb_size (n : Nat) : (zb n).size = n := by unfold zb; show (List.replicate n (0 : UInt8)).toArray.size = n; simp
def oD (k e v : ByteArray) (d l : Int) : Opd := ⟨d, k, e, v, l, 0⟩
/-- The transactions of TxnRefuses, and their errors. -/
def tR : Nat → Txd
  | 0 => ⟨[], [kOp, kOp], []⟩
  | 1 => ⟨[], [kOp, ⟨1, ⟨#[97]⟩, ⟨#[]⟩, ⟨#[]⟩, 0, 0⟩], []⟩
  | 2 => ⟨[], [kOp, ⟨1, ⟨#[90]⟩, ⟨#[98]⟩, ⟨#[]⟩, 0, 0⟩], []⟩
  | 3 => ⟨[], [kOp, ⟨0, ⟨#[98]⟩, ⟨#[]⟩, ⟨#[]⟩, 9, 0⟩], []⟩
  | 4 => ⟨[], [kOp, ⟨0, ⟨#[98]⟩, ⟨#[]⟩, zb 4097, 0, 0⟩], []⟩
  | 5 => ⟨[], [kOp, ⟨0, ⟨#[]⟩, ⟨#[]⟩, ⟨#[]⟩, 0, 0⟩], []⟩
  | 6 => ⟨[], [kOp, ⟨3, ⟨#[98]⟩, ⟨#[]⟩, ⟨#[]⟩, 0, 0⟩], []⟩
  | 7 => ⟨[], [kOp], [⟨2, ⟨#[98]⟩, ⟨#[98]⟩, ⟨#[]⟩, 0, 0⟩]⟩
  | 8 => ⟨[⟨⟨#[97]⟩, 5, 0, 0, ⟨#[]⟩⟩], [kOp], []⟩
  | _ => ⟨[⟨zb 101, 0, 0, 0, ⟨#[]⟩⟩], [kOp], []⟩
theorem tx_of_check {S : Sto} {L : Int → Bool} {t : Txd} {E : Int} (h : checkE t = E) (hz : ¬ E = 0) : txE S L t = E := by
  unfold txE
  rw [if_neg (by rw [h]; exact hz), h]
theorem e0 : checkE (tR 0) = 18 := by decide +kernel
theorem e1 : checkE (tR 1) = 18 := by decide +kernel
theorem e2 : checkE (tR 2) = 18 := by decide +kernel
theorem e5 : checkE (tR 5) = 1 := by decide +kernel
theorem e6 : checkE (tR 6) = 3 := by decide +kernel
theorem e7 : checkE (tR 7) = 1 := by decide +kernel
theorem e8 : checkE (tR 8) = 3 := by decide +kernel
theorem e4 : checkE (tR 4) = 5 := by
  have h : opE ⟨0, ⟨#[98]⟩, ⟨#[]⟩, zb 4097, 0, 0⟩ = 5 := by
    unfold opE
    dsimp only
    rw [if_pos rfl, if_neg (by rintro (h | h); exact h rfl; exact absurd h (by decide)), if_neg (by decide), if_pos (by rw [zb_size]; decide)]
  have h2 : opE kOp = 0 := rfl
  rw [show tR 4 = ⟨[], [kOp, ⟨0, ⟨#[98]⟩, ⟨#[]⟩, zb 4097, 0, 0⟩], []⟩ from rfl]
  unfold checkE
  dsimp only
  rw [if_neg (by simp)]
  have : firstE opE [kOp, ⟨0, ⟨#[98]⟩, ⟨#[]⟩, zb 4097, 0, 0⟩] = 5 := by
    unfold firstE
    rw [if_pos h2]
    unfold firstE
    rw [if_neg (by rw [h]; decide), h]
  rw [this]
  rfl
theorem e11 : checkE (tR 11) = 1 := by
  have h : ifE ⟨zb 101, 0, 0, 0, ⟨#[]⟩⟩ = 1 := if_pos (decide_eq_false (by dsimp only; rw [zb_size]; omega))
  rw [show tR 11 = ⟨[⟨zb 101, 0, 0, 0, ⟨#[]⟩⟩], [kOp], []⟩ from rfl]
  unfold checkE
  dsimp only
  rw [if_neg (by simp)]
  have : firstE ifE [⟨zb 101, 0, 0, 0, ⟨#[]⟩⟩] = 1 := by
    unfold firstE
    rw [if_neg (by rw [h]; decide), h]
  rw [this]
  rfl
theorem e3 : txE noS (fun id => decide (id ∈ ([] : List Int))) (tR 3) = 19 := by
  have hc : checkE (tR 3) = 0 := by decide +kernel
  unfold txE
  rw [if_pos hc]
  have ho : opsOf noS (tR 3) = [kOp, ⟨0, ⟨#[98]⟩, ⟨#[]⟩, ⟨#[]⟩, 9, 0⟩] := rfl
  rw [ho]
  have hp : PutOk noS (fun id => decide (id ∈ ([] : List Int))) kOp := ⟨rfl, rfl, by decide, by decide, by decide, .inl rfl⟩
  obtain ⟨a, b⟩ := hp.e (noW noS.nth) rfl (by decide)
  have hr : runE noS (fun id => decide (id ∈ ([] : List Int))) (noW noS.nth) [kOp, ⟨0, ⟨#[98]⟩, ⟨#[]⟩, ⟨#[]⟩, 9, 0⟩] = 19 := by
    unfold runE
    rw [if_pos a]
    have h19 : ∀ W, doE noS (fun id => decide (id ∈ ([] : List Int))) W ⟨0, ⟨#[98]⟩, ⟨#[]⟩, ⟨#[]⟩, 9, 0⟩ = 19 := fun W => by
      unfold doE opPE
      rw [if_pos rfl, if_pos (by decide)]
    unfold runE
    rw [h19, if_neg (by decide)]
  unfold allE
  rw [hr, if_neg (by decide)]
end Go.Proofs.YtgbobegoknmiaaaGreat
