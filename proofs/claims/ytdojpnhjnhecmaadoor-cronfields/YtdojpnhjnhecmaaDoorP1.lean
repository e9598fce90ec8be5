/- The parser as data: what each rune makes of it. -/
import Derived.Test.YtdojpnhjnhecmaaDoorCM
namespace Go.Proofs.YtdojpnhjnhecmaaDoor
/-- An expression. -/
structure Exp where
  mi : Nat
  ho : Nat
  da : Nat
  mo : Nat
  wk : Nat
  ad : Bool
  aw : Bool
/-- May a day be? -/
def dayOk (e : Exp) (d wd : Int) : Bool :=
  if e.ad && e.aw then true else if e.ad then e.wk.testBit wd.toNat else if e.aw then e.da.testBit d.toNat else e.da.testBit d.toNat || e.wk.testBit wd.toNat
def okAt (e : Exp) (m d h mi wd : Int) : Bool := e.mi.testBit mi.toNat && e.ho.testBit h.toNat && e.mo.testBit m.toNat && dayOk e d wd
def up {α : Type} (g : Nat → α) (k : Nat) (v : α) : Nat → α := fun j => if j = k then v else g j
/-- A parser that has read so far. -/
structure PSt where
  al : Nat → Nat
  st : Nat → Bool
  f : Nat
  op : Bool
  dg : Nat
  nm : Nat
  rg : Bool
  fs : Nat
def pst0 : PSt := ⟨fun _ => 0, fun _ => false, 0, false, 0, 0, false, 0⟩
def loP (f : Nat) : Nat := if f = 2 ∨ f = 3 then 1 else 0
def hiP (f : Nat) : Nat := if f = 0 then 59 else if f = 1 then 23 else if f = 2 then 31 else if f = 3 then 12 else 6
def runB (a b : Nat) : Nat := 2 ^ (b + 1) - 2 ^ a
def allB (f : Nat) : Nat := runB (loP f) (hiP f)
def PSt.first (p : PSt) : Nat := if p.rg then p.fs else p.nm
def PSt.itemOk (p : PSt) : Bool := decide (0 < p.dg) && decide (p.first ≤ p.nm) && decide (loP p.f ≤ p.first) && decide (p.nm ≤ hiP p.f)
def PSt.endI (p : PSt) : Option PSt := if p.itemOk then some { p with al := up p.al p.f (p.al p.f ||| runB p.first p.nm), dg := 0, nm := 0, rg := false, fs := 0 } else none
def PSt.next (p : PSt) : PSt := { p with f := p.f + 1, op := false }
def PSt.endF (p : PSt) : Option PSt := if p.st p.f then some ({ p with al := up p.al p.f (allB p.f) } : PSt).next else p.endI.map PSt.next
def PSt.digit (p : PSt) (n : Nat) : Option PSt := if p.dg + 1 ≤ 2 then some { p with nm := p.nm * 10 + n, dg := p.dg + 1 } else none
def PSt.dash (p : PSt) : Option PSt := if p.rg || p.dg == 0 then none else some { p with dg := 0, nm := 0, rg := true, fs := p.nm }
def PSt.opened (p : PSt) : PSt := { p with op := true }
def PSt.take (p : PSt) (c : Nat) : Option PSt :=
  if c = 32 ∨ c = 9 then (if p.op then p.endF else some p)
  else if p.f = 5 then none
  else if c = 42 then (if p.op then none else some { p with op := true, st := up p.st p.f true })
  else if p.st p.f then none
  else if c = 44 then p.opened.endI
  else if c = 45 then p.opened.dash
  else if 48 ≤ c ∧ c ≤ 57 then p.opened.digit (c - 48)
  else none
def PSt.run (p : PSt) : List Nat → Option PSt
  | [] => some p
  | c :: l => (p.take c).bind (·.run l)
def PSt.exp (p : PSt) : Exp := ⟨p.al 0, p.al 1, p.al 2, p.al 3, p.al 4, p.st 2, p.st 4⟩
def PSt.done (p : PSt) : Option Exp := (p.take 32).bind fun q => if q.f = 5 then some q.exp else none
def parseL (l : List Nat) : Option Exp := (pst0.run l).bind PSt.done
/-- What is so of every parser that Parse comes to. -/
structure PSt.Ok (p : PSt) : Prop where
  f : p.f ≤ 5
  op : p.f = 5 → p.op = false
  nm : p.nm < 10 ^ p.dg
  dg : p.dg ≤ 2
  fs : p.fs < 100
  al : ∀ k, k < 5 → p.al k < 2 ^ 60
theorem pst0_ok : pst0.Ok := ⟨by decide, fun _ => rfl, by decide, by decide, by decide, fun _ _ => by simp [pst0]⟩
theorem PSt.Ok.nm100 {p : PSt} (h : p.Ok) : p.nm < 100 := Nat.lt_of_lt_of_le h.nm (by have := h.dg; exact Nat.pow_le_pow_right (n := 10) (by decide) this)
theorem hiP_le (f : Nat) : hiP f ≤ 59 := by unfold hiP; repeat (first | omega | split)
theorem runB_lt {a b : Nat} (hb : b ≤ 59) : runB a b < 2 ^ 60 := by
  have h1 : 2 ^ (b + 1) ≤ 2 ^ 60 := Nat.pow_le_pow_right (by decide) (by omega)
  have h2 : 0 < 2 ^ a := Nat.two_pow_pos a
  unfold runB; omega
theorem up_self {α : Type} (g : Nat → α) (k : Nat) (v : α) : up g k v k = v := by simp [up]
theorem up_ne {α : Type} (g : Nat → α) {k j : Nat} (v : α) (h : j ≠ k) : up g k v j = g j := by simp [up, h]
theorem PSt.itemOk_iff {p : PSt} : p.itemOk = true ↔ 0 < p.dg ∧ p.first ≤ p.nm ∧ loP p.f ≤ p.first ∧ p.nm ≤ hiP p.f := by simp [PSt.itemOk, and_assoc]
theorem PSt.Ok.endI {p q : PSt} (h : p.Ok) (hq : p.endI = some q) : q.Ok := by
  unfold PSt.endI at hq
  split at hq
  · rename_i hi
    obtain rfl := Option.some.inj hq
    refine ⟨h.f, h.op, (by show (0 : Nat) < 10 ^ 0; decide), (by show (0 : Nat) ≤ 2; decide), (by show (0 : Nat) < 100; decide), fun k hk => ?_⟩
    show up p.al p.f _ k < _
    by_cases hk' : k = p.f
    · subst hk'
      rw [up_self]
      have hb := (PSt.itemOk_iff.1 hi).2.2.2
      have := hiP_le p.f
      exact Nat.or_lt_two_pow (h.al _ hk) (runB_lt (by omega))
    · rw [up_ne _ _ hk']; exact h.al _ hk
  · exact absurd hq (by simp)
theorem PSt.endI_keeps {p q : PSt} (hq : p.endI = some q) : q.f = p.f ∧ q.op = p.op ∧ q.st = p.st := by
  unfold PSt.endI at hq
  split at hq
  · obtain rfl := Option.some.inj hq; exact ⟨rfl, rfl, rfl⟩
  · exact absurd hq (by simp)
theorem PSt.Ok.next {p : PSt} (h : p.Ok) (hf : p.f < 5) : p.next.Ok := ⟨by show p.f + 1 ≤ 5; omega, fun _ => rfl, h.nm, h.dg, h.fs, h.al⟩
theorem PSt.Ok.endF {p q : PSt} (h : p.Ok) (hf : p.f < 5) (hq : p.endF = some q) : q.Ok := by
  unfold PSt.endF at hq
  split at hq
  · obtain rfl := Option.some.inj hq
    refine PSt.Ok.next ⟨h.f, h.op, h.nm, h.dg, h.fs, fun k hk => ?_⟩ hf
    show up p.al p.f _ k < _
    by_cases hk' : k = p.f
    · subst hk'; rw [up_self]; exact runB_lt (hiP_le _)
    · rw [up_ne _ _ hk']; exact h.al _ hk
  · obtain ⟨r, hr, rfl⟩ := Option.map_eq_some_iff.1 hq
    exact (h.endI hr).next (by rw [(PSt.endI_keeps hr).1]; exact hf)
theorem PSt.Ok.opened {p : PSt} (h : p.Ok) (hf : p.f < 5) : p.opened.Ok := ⟨h.f, fun e => by have e : p.f = 5 := e; omega, h.nm, h.dg, h.fs, h.al⟩
theorem PSt.Ok.dash {p q : PSt} (h : p.Ok) (hq : p.dash = some q) : q.Ok := by
  unfold PSt.dash at hq
  split at hq
  · exact absurd hq (by simp)
  · obtain rfl := Option.some.inj hq
    exact ⟨h.f, h.op, (by show (0 : Nat) < 10 ^ 0; decide), (by show (0 : Nat) ≤ 2; decide), h.nm100, h.al⟩
theorem PSt.Ok.digit {p q : PSt} {n : Nat} (hn : n ≤ 9) (h : p.Ok) (hq : p.digit n = some q) : q.Ok := by
  unfold PSt.digit at hq
  split at hq
  · obtain rfl := Option.some.inj hq
    refine ⟨h.f, h.op, ?_, by show p.dg + 1 ≤ 2; omega, h.fs, h.al⟩
    show p.nm * 10 + n < 10 ^ (p.dg + 1)
    have := h.nm
    rw [Nat.pow_succ]; omega
  · exact absurd hq (by simp)
theorem PSt.Ok.take {p q : PSt} {c : Nat} (h : p.Ok) (hq : p.take c = some q) : q.Ok := by
  have hf := h.f
  unfold PSt.take at hq
  split at hq
  · split at hq
    · rename_i ho
      have : p.f ≠ 5 := fun e => by rw [h.op e] at ho; exact absurd ho (by simp)
      exact h.endF (by omega) hq
    · obtain rfl := Option.some.inj hq; exact h
  · split at hq
    · exact absurd hq (by simp)
    · have hf5 : p.f < 5 := by omega
      split at hq
      · split at hq
        · exact absurd hq (by simp)
        · obtain rfl := Option.some.inj hq
          exact ⟨h.f, fun e => by have e : p.f = 5 := e; omega, h.nm, h.dg, h.fs, h.al⟩
      · split at hq
        · exact absurd hq (by simp)
        · split at hq
          · exact (h.opened hf5).endI hq
          · split at hq
            · exact (h.opened hf5).dash hq
            · split at hq
              · exact (h.opened hf5).digit (by omega) hq
              · exact absurd hq (by simp)
theorem PSt.take_high (p : PSt) {c : Nat} (hc : 128 ≤ c) : p.take c = none := by
  unfold PSt.take
  rw [if_neg (by omega)]
  split
  · rfl
  · rw [if_neg (by omega)]
    split
    · rfl
    · rw [if_neg (by omega), if_neg (by omega), if_neg (by omega)]
theorem PSt.take_blank (p : PSt) {c : Nat} (hc : c = 32 ∨ c = 9) : p.take c = if p.op then p.endF else some p := by unfold PSt.take; rw [if_pos hc]
theorem PSt.endF_op {p q : PSt} (hq : p.endF = some q) : q.op = false := by
  unfold PSt.endF at hq
  split at hq
  · obtain rfl := Option.some.inj hq; rfl
  · obtain ⟨r, _, rfl⟩ := Option.map_eq_some_iff.1 hq; rfl
theorem PSt.blank_op {p q : PSt} {c : Nat} (hc : c = 32 ∨ c = 9) (hq : p.take c = some q) : q.op = false := by
  rw [p.take_blank hc] at hq
  split at hq
  · exact PSt.endF_op hq
  · rename_i ho
    obtain rfl := Option.some.inj hq; simpa using ho
theorem PSt.blank_closed {p : PSt} {c : Nat} (hc : c = 32 ∨ c = 9) (ho : p.op = false) : p.take c = some p := by rw [p.take_blank hc, ho]; rfl
theorem PSt.run_append (p : PSt) (a b : List Nat) : p.run (a ++ b) = (p.run a).bind (·.run b) := by
  induction a generalizing p with
  | nil => rfl
  | cons c a ih =>
    show (p.take c).bind (·.run (a ++ b)) = ((p.take c).bind (·.run a)).bind _
    rw [Option.bind_assoc]
    cases p.take c with
    | none => rfl
    | some q => exact ih q
theorem PSt.Ok.run {p q : PSt} {l : List Nat} (h : p.Ok) (hq : p.run l = some q) : q.Ok := by
  induction l generalizing p with
  | nil => obtain rfl := Option.some.inj hq; exact h
  | cons c l ih =>
    obtain ⟨r, hr, hq⟩ := Option.bind_eq_some_iff.1 hq
    exact ih (h.take hr) hq
/-- Blanks ahead of a blank change nothing. -/
theorem PSt.run_blanks (p : PSt) (bs : List Nat) (c : Nat) (l : List Nat) (hbs : ∀ b ∈ bs, b = 32 ∨ b = 9) (hc : c = 32 ∨ c = 9) : p.run (bs ++ c :: l) = p.run (c :: l) := by
  have hstay : ∀ (bs : List Nat), (∀ b ∈ bs, b = 32 ∨ b = 9) → ∀ (q : PSt), q.op = false → q.run bs = some q := by
    intro bs
    induction bs with
    | nil => intros; rfl
    | cons b bs ih =>
      intro h q hq
      show (q.take b).bind _ = _
      rw [PSt.blank_closed (h b (by simp)) hq]
      exact ih (fun x hx => h x (by simp [hx])) q hq
  cases bs with
  | nil => rfl
  | cons b bs =>
    show (p.take b).bind (·.run (bs ++ c :: l)) = (p.take c).bind (·.run l)
    have e : p.take b = p.take c := by rw [p.take_blank (hbs b (by simp)), p.take_blank hc]
    cases hq : p.take b with
    | none => rw [← e, hq]; rfl
    | some q =>
      have ho := PSt.blank_op (hbs b (by simp)) hq
      rw [← e, hq]
      show q.run (bs ++ c :: l) = q.run l
      rw [PSt.run_append, hstay bs (fun x hx => hbs x (by simp [hx])) q ho]
      show (q.take c).bind _ = _
      rw [PSt.blank_closed hc ho]; rfl
end Go.Proofs.YtdojpnhjnhecmaaDoor
