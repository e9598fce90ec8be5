/- Lists of numbers as fields of an expression. -/
import Derived.Test.YtdojpnhjnhecmaaDoorD0
namespace Go.Proofs.YtdojpnhjnhecmaaDoor
open Go
def dd (n : Nat) : List Nat := [48 + n / 10, 48 + n % 10]
/-- Numbers of two digits each, a comma between. -/
def partN : List Nat → List Nat
  | [] => []
  | [n] => dd n
  | n :: r => dd n ++ 44 :: partN r
def orAll : List Nat → Nat
  | [] => 0
  | n :: r => 2 ^ n ||| orAll r
theorem orAll_bit (l : List Nat) (k : Nat) : (orAll l).testBit k = decide (k ∈ l) := by
  induction l with
  | nil => simp [orAll]
  | cons n r ih =>
    show (2 ^ n ||| orAll r).testBit k = _
    rw [Nat.testBit_or, ih, Nat.testBit_two_pow, Bool.eq_iff_iff]
    simp only [Bool.or_eq_true, decide_eq_true_eq, List.mem_cons]
    constructor
    · rintro (h | h)
      · exact .inl h.symm
      · exact .inr h
    · rintro (h | h)
      · exact .inl h.symm
      · exact .inr h
theorem runB_one (n : Nat) : runB n n = 2 ^ n := by unfold runB; rw [Nat.pow_succ]; omega
/-- A parser that stands at a new item of a field that is no star. -/
structure PSt.At (p : PSt) : Prop where
  f : p.f < 5
  st : p.st p.f = false
  dg : p.dg = 0
  nm : p.nm = 0
  rg : p.rg = false
def PSt.got (p : PSt) (n : Nat) : PSt := { p with op := true, dg := 2, nm := n }
theorem PSt.At.digits {p : PSt} (h : p.At) {n : Nat} (hn : n < 100) : p.run (dd n) = some (p.got n) := by
  have hf := h.f
  have t1 : p.take (48 + n / 10) = some { p with op := true, dg := 1, nm := n / 10 } := by
    unfold PSt.take
    rw [if_neg (by omega), if_neg (by omega), if_neg (by omega), h.st, if_neg (by simp), if_neg (by omega), if_neg (by omega), if_pos (by omega)]
    unfold PSt.digit PSt.opened
    rw [if_pos (by show p.dg + 1 ≤ 2; rw [h.dg]; decide)]
    simp only [h.dg, h.nm, Nat.add_sub_cancel_left, Nat.zero_mul, Nat.zero_add]
  have t2 : ({ p with op := true, dg := 1, nm := n / 10 } : PSt).take (48 + n % 10) = some (p.got n) := by
    unfold PSt.take
    rw [if_neg (by omega), if_neg (by show ¬ p.f = 5; omega), if_neg (by omega)]
    show (if p.st p.f = true then _ else _) = _
    rw [h.st, if_neg (by simp), if_neg (by omega), if_neg (by omega), if_pos (by omega)]
    unfold PSt.digit PSt.opened
    rw [if_pos (by show 1 + 1 ≤ 2; decide)]
    simp only [Nat.add_sub_cancel_left, PSt.got]
    congr 2
    omega
  show (p.take _).bind _ = _
  rw [t1]
  show (PSt.take _ _).bind _ = _
  rw [t2]; rfl
def PSt.add (p : PSt) (x : Nat) : PSt := { p with al := up p.al p.f (p.al p.f ||| x), dg := 0, nm := 0, rg := false, fs := 0 }
theorem PSt.At.item {p : PSt} (h : p.At) {n : Nat} (h0 : loP p.f ≤ n) (h1 : n ≤ hiP p.f) : (p.got n).endI = some ((p.got n).add (2 ^ n)) := by
  unfold PSt.endI
  have hi : (p.got n).itemOk = true := by
    rw [PSt.itemOk_iff]
    have hfst : (p.got n).first = n := by unfold PSt.first PSt.got; simp [h.rg]
    rw [hfst]
    exact ⟨Nat.zero_lt_two, Nat.le_refl _, h0, h1⟩
  have hfst : (p.got n).first = n := by unfold PSt.first PSt.got; simp [h.rg]
  rw [if_pos hi, hfst]
  show some (PSt.add (p.got n) (runB n n)) = _
  rw [runB_one]
def PSt.opn (p : PSt) : PSt := { p with op := true }
theorem PSt.At.comma {p : PSt} (h : p.At) {n : Nat} (h0 : loP p.f ≤ n) (h1 : n ≤ hiP p.f) : (p.got n).take 44 = some ((p.got n).add (2 ^ n)) := by
  have hf := h.f
  unfold PSt.take
  rw [if_neg (by omega), if_neg (by show ¬ p.f = 5; omega), if_neg (by omega)]
  show (if p.st p.f = true then _ else _) = _
  rw [h.st, if_neg (by simp), if_pos rfl]
  exact h.item h0 h1
theorem PSt.At.added {p : PSt} (h : p.At) (n x : Nat) : ((p.got n).add x).At := ⟨h.f, h.st, rfl, rfl, rfl⟩
/-- A field of numbers, and a blank behind it. -/
theorem PSt.At.part (c : Nat) (hc : c = 32 ∨ c = 9) : ∀ (l : List Nat) (p : PSt), p.At → l ≠ [] → (∀ n ∈ l, loP p.f ≤ n ∧ n ≤ hiP p.f) →
    ∃ q, p.run (partN l ++ [c]) = some q ∧ q.f = p.f + 1 ∧ q.op = false ∧ q.dg = 0 ∧ q.nm = 0 ∧ q.rg = false ∧ q.st = p.st ∧ q.al = up p.al p.f (p.al p.f ||| orAll l) := by
  intro l
  induction l with
  | nil => intro p _ h; exact absurd rfl h
  | cons n r ih =>
    intro p hp _ hb
    have hn := hb n (by simp)
    have h100 : n < 100 := by have := hiP_le p.f; omega
    cases r with
    | nil =>
      have hr : p.run (partN [n] ++ [c]) = (p.got n).take c := by
        show p.run (dd n ++ [c]) = _
        rw [PSt.run_append, hp.digits h100]
        show ((p.got n).take c).bind _ = _
        cases (p.got n).take c <;> rfl
      rw [hr, (p.got n).take_blank hc]
      refine ⟨((p.got n).add (2 ^ n)).next, ?_, rfl, rfl, rfl, rfl, rfl, rfl, ?_⟩
      · show (if true = true then (p.got n).endF else _) = _
        rw [if_pos rfl]
        unfold PSt.endF
        rw [if_neg (by show ¬ p.st p.f = true; rw [hp.st]; simp), hp.item hn.1 hn.2]
        rfl
      · show up p.al p.f _ = up p.al p.f _
        rw [show orAll [n] = 2 ^ n by show 2 ^ n ||| 0 = _; rw [Nat.or_zero]]
        rfl
    | cons m r =>
      obtain ⟨q, h1, h2, h3, h4, h5, h6, h7, h8⟩ := ih ((p.got n).add (2 ^ n)) (hp.added n _) (by simp) (fun k hk => hb k (by simp [hk]))
      refine ⟨q, ?_, h2, h3, h4, h5, h6, h7, ?_⟩
      · show p.run (dd n ++ 44 :: partN (m :: r) ++ [c]) = _
        rw [List.append_assoc, PSt.run_append, hp.digits h100]
        show ((p.got n).take 44).bind _ = _
        rw [hp.comma hn.1 hn.2]
        exact h1
      · rw [h8]
        show up (up p.al p.f (p.al p.f ||| 2 ^ n)) p.f (up p.al p.f (p.al p.f ||| 2 ^ n) p.f ||| orAll (m :: r)) = up p.al p.f (p.al p.f ||| (2 ^ n ||| orAll (m :: r)))
        funext j
        unfold up
        by_cases hj : j = p.f
        · simp [hj, Nat.or_assoc]
        · simp [hj]
def fieldsE (a b c : List Nat) : Exp := ⟨orAll a, orAll b, allB 2, orAll c, allB 4, true, true⟩
theorem fields_parse (a b c : List Nat) (ha : a ≠ []) (hb : b ≠ []) (hc : c ≠ []) (ga : ∀ n ∈ a, n ≤ 59) (gb : ∀ n ∈ b, n ≤ 23) (gc : ∀ n ∈ c, 1 ≤ n ∧ n ≤ 12) :
    parseL (partN a ++ [32] ++ (partN b ++ [9]) ++ [42, 32] ++ (partN c ++ [32]) ++ [32, 42]) = some (fieldsE a b c) := by
  have p0 : pst0.At := ⟨by decide, rfl, rfl, rfl, rfl⟩
  obtain ⟨q1, h1, f1, o1, d1, n1, r1, s1, l1⟩ := PSt.At.part 32 (.inl rfl) a pst0 p0 ha (fun n hn => ⟨Nat.zero_le _, ga n hn⟩)
  have f1' : q1.f = 1 := f1
  have p1 : q1.At := ⟨by omega, by rw [s1]; rfl, d1, n1, r1⟩
  obtain ⟨q2, h2, f2, o2, d2, n2, r2, s2, l2⟩ := PSt.At.part 9 (.inr rfl) b q1 p1 hb (fun n hn => by rw [f1']; exact ⟨Nat.zero_le _, gb n hn⟩)
  have f2' : q2.f = 2 := by omega
  have s2' : q2.st = fun _ => false := by rw [s2, s1]; rfl
  have h3 : q2.run [42, 32] = some ({ q2 with st := up q2.st 2 true, al := up q2.al 2 (allB 2), f := 3, op := false } : PSt) := by
    have t1 : q2.take 42 = some { q2 with op := true, st := up q2.st q2.f true } := by
      unfold PSt.take
      rw [if_neg (by omega), if_neg (by omega), if_pos rfl, o2]
      rfl
    show (q2.take 42).bind _ = _
    rw [t1]
    show (PSt.take _ 32).bind _ = _
    rw [PSt.take_blank _ (.inl rfl)]
    show (PSt.endF _).bind _ = _
    unfold PSt.endF
    rw [if_pos (by show up q2.st q2.f true q2.f = true; rw [up_self])]
    show some _ = some _
    congr 1
    simp only [PSt.next, f2']
  let q3 : PSt := { q2 with st := up q2.st 2 true, al := up q2.al 2 (allB 2), f := 3, op := false }
  have p3 : q3.At := ⟨(by show 3 < 5; decide), by show up q2.st 2 true 3 = false; rw [s2']; rfl, d2, n2, r2⟩
  obtain ⟨q4, h4, f4, o4, d4, n4, r4, s4, l4⟩ := PSt.At.part 32 (.inl rfl) c q3 p3 hc (fun n hn => gc n hn)
  have f4' : q4.f = 4 := f4
  have h5 : q4.run [32, 42] = some { q4 with op := true, st := up q4.st 4 true } := by
    show (q4.take 32).bind _ = _
    rw [PSt.blank_closed (.inl rfl) o4]
    show (q4.take 42).bind _ = _
    have t1 : q4.take 42 = some { q4 with op := true, st := up q4.st q4.f true } := by
      unfold PSt.take
      rw [if_neg (by omega), if_neg (by omega), if_pos rfl, o4]
      rfl
    rw [t1, f4']; rfl
  unfold parseL
  rw [PSt.run_append, PSt.run_append, PSt.run_append, PSt.run_append, h1]
  rw [Option.bind_some, h2, Option.bind_some, h3, Option.bind_some]
  rw [show PSt.run _ (partN c ++ [32]) = some q4 from h4, Option.bind_some, h5]
  show PSt.done _ = _
  unfold PSt.done
  rw [PSt.take_blank _ (.inl rfl)]
  show (PSt.endF _).bind _ = _
  unfold PSt.endF
  rw [if_pos (by show up q4.st 4 true q4.f = true; rw [f4', up_self])]
  show (if q4.f + 1 = 5 then _ else _) = _
  rw [if_pos (by omega)]
  have e0 : q4.al 0 = orAll a := by rw [l4]; show up (up q2.al 2 (allB 2)) 3 _ 0 = _; rw [up_ne _ _ (by decide), up_ne _ _ (by decide), l2, f1', up_ne _ _ (by decide), l1]; show up pst0.al 0 (0 ||| orAll a) 0 = _; rw [up_self, Nat.zero_or]
  have e1 : q4.al 1 = orAll b := by rw [l4]; show up (up q2.al 2 (allB 2)) 3 _ 1 = _; rw [up_ne _ _ (by decide), up_ne _ _ (by decide), l2, f1', up_self, l1]; show (up pst0.al 0 _ 1 ||| orAll b) = _; rw [up_ne _ _ (by decide)]; exact Nat.zero_or _
  have e2 : q4.al 2 = allB 2 := by rw [l4]; show up (up q2.al 2 (allB 2)) 3 _ 2 = _; rw [up_ne _ _ (by decide), up_self]
  have e3 : q4.al 3 = orAll c := by rw [l4]; show up (up q2.al 2 (allB 2)) 3 (up q2.al 2 (allB 2) 3 ||| orAll c) 3 = _; rw [up_self, up_ne _ _ (by decide), l2, f1', up_ne _ _ (by decide), l1]; exact Nat.zero_or _
  have s22 : q4.st 2 = true := by rw [s4]; show up q2.st 2 true 2 = true; rw [up_self]
  show some (Exp.mk (up q4.al q4.f (allB q4.f) 0) (up q4.al q4.f (allB q4.f) 1) (up q4.al q4.f (allB q4.f) 2) (up q4.al q4.f (allB q4.f) 3) (up q4.al q4.f (allB q4.f) 4) (up q4.st 4 true 2) (up q4.st 4 true 4)) = _
  rw [f4', up_ne _ _ (by decide), up_ne _ _ (by decide), up_ne _ _ (by decide), up_ne _ _ (by decide), up_self, up_self, up_ne _ _ (by decide), e0, e1, e2, e3, s22]
  rfl
theorem fields_at (a b c : List Nat) {n y m d h mi wd : Int} (_hA : IsAt n y m d h mi wd) : okAt (fieldsE a b c) m d h mi wd = (decide (mi.toNat ∈ a) && decide (h.toNat ∈ b) && decide (m.toNat ∈ c)) := by
  simp only [okAt, fieldsE, dayOk, orAll_bit, Bool.and_self, if_true, Bool.and_true]
theorem orAll_lt (l : List Nat) (h : ∀ n ∈ l, n < 60) : orAll l < 2 ^ 60 := by
  induction l with
  | nil => decide
  | cons n r ih => exact Nat.or_lt_two_pow (Nat.pow_lt_pow_right (by decide) (h n (by simp))) (ih fun k hk => h k (by simp [hk]))
theorem fields_ok (a b c : List Nat) (ga : ∀ n ∈ a, n ≤ 59) (gb : ∀ n ∈ b, n ≤ 23) (gc : ∀ n ∈ c, 1 ≤ n ∧ n ≤ 12) : (fieldsE a b c).Ok :=
  ⟨orAll_lt a fun n hn => by have := ga n hn; omega, orAll_lt b fun n hn => by have := gb n hn; omega, (by show allB 2 < _; decide), orAll_lt c fun n hn => by have := gc n hn; omega, (by show allB 4 < _; decide)⟩
end Go.Proofs.YtdojpnhjnhecmaaDoor
