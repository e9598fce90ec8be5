/- Expressions of a day of the month and of the week. -/
import Derived.Test.YtdojpnhjnhecmaaDoorW1
namespace Go.Proofs.YtdojpnhjnhecmaaDoor
open Go
def tup (e : Exp) : List Nat := [e.mi, e.ho, e.da, e.mo, e.wk, if e.ad then 1 else 0, if e.aw then 1 else 0]
theorem tup_inj {a b : Exp} (h : tup a = tup b) : a = b := by
  obtain ⟨a0, a1, a2, a3, a4, a5, a6⟩ := a
  obtain ⟨b0, b1, b2, b3, b4, b5, b6⟩ := b
  simp only [tup, List.cons.injEq, and_true] at h
  obtain ⟨rfl, rfl, rfl, rfl, rfl, h5, h6⟩ := h
  cases a5 <;> cases b5 <;> cases a6 <;> cases b6 <;> simp_all
theorem map_tup {o : Option Exp} {e : Exp} (h : o.map tup = some (tup e)) : o = some e := by
  obtain ⟨x, rfl, hx⟩ := Option.map_eq_some_iff.1 h
  rw [tup_inj hx]
def daysE (d wd : Nat) (sd sw : Bool) : Exp := ⟨1152921504606846975, 16777215, if sd then 4294967294 else 2 ^ d, 8190, if sw then 127 else 2 ^ wd, sd, sw⟩
theorem days_tab (sd sw : Bool) : ∀ (d : Fin 31) (wd : Fin 7), (parseL ([42, 32, 42, 32] ++ (if sd then [42] else [48 + (d.val + 1) / 10, 48 + (d.val + 1) % 10]) ++ [32, 42, 32] ++ (if sw then [42] else [48 + wd.val]))).map tup = some (tup (daysE (d.val + 1) wd.val sd sw)) := by
  cases sd <;> cases sw <;> decide +kernel
theorem days_parse (sd sw : Bool) (d wd : Nat) (h1 : 1 ≤ d) (h2 : d ≤ 31) (h3 : wd ≤ 6) : parseL ([42, 32, 42, 32] ++ (if sd then [42] else [48 + d / 10, 48 + d % 10]) ++ [32, 42, 32] ++ (if sw then [42] else [48 + wd])) = some (daysE d wd sd sw) := by
  have h := days_tab sd sw ⟨d - 1, by omega⟩ ⟨wd, by omega⟩
  simp only at h
  rw [show d - 1 + 1 = d by omega] at h
  exact map_tup h
theorem days_ok (d wd : Nat) (sd sw : Bool) (h2 : d ≤ 31) (h3 : wd ≤ 6) : (daysE d wd sd sw).Ok := by
  have h1 : 2 ^ d ≤ 2 ^ 31 := Nat.pow_le_pow_right (by decide) h2
  have h4 : 2 ^ wd ≤ 2 ^ 6 := Nat.pow_le_pow_right (by decide) h3
  refine ⟨by simp [daysE], by simp [daysE], ?_, by simp [daysE], ?_⟩
  · show (if sd then _ else _) < _
    split <;> omega
  · show (if sw then _ else _) < _
    split <;> omega
theorem pow_bit (k : Nat) (n : Int) (h0 : 0 ≤ n) : (2 ^ k).testBit n.toNat = (n == (k : Int)) := by
  rw [Nat.testBit_two_pow, Bool.eq_iff_iff]
  simp only [decide_eq_true_eq, beq_iff_eq]
  omega
theorem days_at (d wd : Nat) (sd sw : Bool) {n y m d' h mi wd' : Int} (hA : IsAt n y m d' h mi wd') : okAt (daysE d wd sd sw) m d' h mi wd' = (if sd && sw then true else if sd then (wd' == (wd : Int)) else if sw then (d' == (d : Int)) else ((d' == (d : Int)) || (wd' == (wd : Int)))) := by
  have hb := hA.bd
  have b1 := bit60 ⟨mi.toNat, by omega⟩
  have b2 := bit24 ⟨h.toNat, by omega⟩
  have b3 := bit12 ⟨m.toNat - 1, by omega⟩
  simp only at b1 b2 b3
  rw [show m.toNat - 1 + 1 = m.toNat by omega] at b3
  have p1 := pow_bit d d' (by omega)
  have p2 := pow_bit wd wd' (by omega)
  cases sd <;> cases sw <;> simp [okAt, dayOk, daysE, b1, b2, b3, p1, p2]
end Go.Proofs.YtdojpnhjnhecmaaDoor
