/- What a message's bytes say, as data. -/
import Derived.Test.YtamgoknoapcnjaaDoorNH
import Derived.Test.YtamgoknoapcnjaaDoorND
namespace Go.Proofs.YtamgoknoapcnjaaDoor
open Go Go.RowKit
/-! ### Where the reader stands behind each part -/
def sA0 (xs : List Int) : St := (rU xs (0, 0)).2
def sA1 (xs : List Int) : St := (rI xs (sA0 xs)).2
def sA2 (xs : List Int) : St := (rI xs (sA1 xs)).2
def sA3 (xs : List Int) : St := (rI xs (sA2 xs)).2
def sA4 (xs : List Int) : St := (rI xs (sA3 xs)).2
def sA5 (xs : List Int) : St := (rI xs (sA4 xs)).2
def sA6 (xs : List Int) : St := (rList (rE xs) xs (sA5 xs)).2
def sA7 (xs : List Int) : St := (rI xs (sA6 xs)).2
def sA8 (xs : List Int) : St := (rI xs (sA7 xs)).2
def sA9 (xs : List Int) : St := (rU xs (sA8 xs)).2
def sA10 (xs : List Int) : St := (rI xs (sA9 xs)).2
def sA11 (xs : List Int) : St := (rI xs (sA10 xs)).2
def sA12 (xs : List Int) : St := (rI xs (sA11 xs)).2
def sA13 (xs : List Int) : St := (rList (rI xs) xs (sA12 xs)).2
def sA14 (xs : List Int) : St := (rT xs (sA13 xs)).2
def rOk (xs : List Int) : Int := (rU xs (sA8 xs)).1
def rM (xs : List Int) : Md :=
  { kind := (rU xs (0, 0)).1, src := (rI xs (sA0 xs)).1, dst := (rI xs (sA1 xs)).1, term := (rI xs (sA2 xs)).1, index := (rI xs (sA3 xs)).1, lt := (rI xs (sA4 xs)).1,
    es := (rList (rE xs) xs (sA5 xs)).1, commit := (rI xs (sA6 xs)).1, seq := (rI xs (sA7 xs)).1, ok := rOk xs == 1, mat := (rI xs (sA9 xs)).1,
    mi := (rI xs (sA10 xs)).1, mt := (rI xs (sA11 xs)).1, vs := (rList (rI xs) xs (sA12 xs)).1, data := (rT xs (sA13 xs)).1 }
/-- The error that is told. -/
def rX (xs : List Int) : Int :=
  if (sA0 xs).2 = 0 ∧ isK (rU xs (0, 0)).1 = false then 3 else if 1 < rOk xs then 11 else if (sA14 xs).2 ≠ 0 then (sA14 xs).2 else if (sA14 xs).1 < xs.length then 9 else 0
/-- No message yet. -/
def zrow : Array Value := #[iv 0, iv 0, iv 0, iv 0, iv 0, iv 0, .slice none 0 0, iv 0, iv 0, .bool false, iv 0, iv 0, iv 0, .slice none 0 0, .slice none 0 0]
theorem fill15 (d0 : Nat) (w : World) (h : Bx d0 zrow 28 w) (r0 r1 r2 r3 r4 r5 r6 r7 r8 r9 r10 r11 r12 r13 r14 : Value) :
    Bx d0 #[r0, r1, r2, r3, r4, r5, r6, r7, r8, r9, r10, r11, r12, r13, r14] 28 (((((((((((((((w.setCell ⟨d0, 0, none⟩ r0).setCell ⟨d0, 1, none⟩ r1).setCell ⟨d0, 2, none⟩ r2).setCell ⟨d0, 3, none⟩ r3).setCell ⟨d0, 4, none⟩ r4).setCell ⟨d0, 5, none⟩ r5).setCell ⟨d0, 6, none⟩ r6).setCell ⟨d0, 7, none⟩ r7).setCell ⟨d0, 8, none⟩ r8).setCell ⟨d0, 9, none⟩ r9).setCell ⟨d0, 10, none⟩ r10).setCell ⟨d0, 11, none⟩ r11).setCell ⟨d0, 12, none⟩ r12).setCell ⟨d0, 13, none⟩ r13).setCell ⟨d0, 14, none⟩ r14) ∧ Upd w (((((((((((((((w.setCell ⟨d0, 0, none⟩ r0).setCell ⟨d0, 1, none⟩ r1).setCell ⟨d0, 2, none⟩ r2).setCell ⟨d0, 3, none⟩ r3).setCell ⟨d0, 4, none⟩ r4).setCell ⟨d0, 5, none⟩ r5).setCell ⟨d0, 6, none⟩ r6).setCell ⟨d0, 7, none⟩ r7).setCell ⟨d0, 8, none⟩ r8).setCell ⟨d0, 9, none⟩ r9).setCell ⟨d0, 10, none⟩ r10).setCell ⟨d0, 11, none⟩ r11).setCell ⟨d0, 12, none⟩ r12).setCell ⟨d0, 13, none⟩ r13).setCell ⟨d0, 14, none⟩ r14) (fun k => k = d0) :=
  ⟨(Bx.set (row' := #[r0, r1, r2, r3, r4, r5, r6, r7, r8, r9, r10, r11, r12, r13, r14]) (Bx.set (row' := #[r0, r1, r2, r3, r4, r5, r6, r7, r8, r9, r10, r11, r12, r13, .slice none 0 0]) (Bx.set (row' := #[r0, r1, r2, r3, r4, r5, r6, r7, r8, r9, r10, r11, r12, .slice none 0 0, .slice none 0 0]) (Bx.set (row' := #[r0, r1, r2, r3, r4, r5, r6, r7, r8, r9, r10, r11, iv 0, .slice none 0 0, .slice none 0 0]) (Bx.set (row' := #[r0, r1, r2, r3, r4, r5, r6, r7, r8, r9, r10, iv 0, iv 0, .slice none 0 0, .slice none 0 0]) (Bx.set (row' := #[r0, r1, r2, r3, r4, r5, r6, r7, r8, r9, iv 0, iv 0, iv 0, .slice none 0 0, .slice none 0 0]) (Bx.set (row' := #[r0, r1, r2, r3, r4, r5, r6, r7, r8, .bool false, iv 0, iv 0, iv 0, .slice none 0 0, .slice none 0 0]) (Bx.set (row' := #[r0, r1, r2, r3, r4, r5, r6, r7, iv 0, .bool false, iv 0, iv 0, iv 0, .slice none 0 0, .slice none 0 0]) (Bx.set (row' := #[r0, r1, r2, r3, r4, r5, r6, iv 0, iv 0, .bool false, iv 0, iv 0, iv 0, .slice none 0 0, .slice none 0 0]) (Bx.set (row' := #[r0, r1, r2, r3, r4, r5, .slice none 0 0, iv 0, iv 0, .bool false, iv 0, iv 0, iv 0, .slice none 0 0, .slice none 0 0]) (Bx.set (row' := #[r0, r1, r2, r3, r4, iv 0, .slice none 0 0, iv 0, iv 0, .bool false, iv 0, iv 0, iv 0, .slice none 0 0, .slice none 0 0]) (Bx.set (row' := #[r0, r1, r2, r3, iv 0, iv 0, .slice none 0 0, iv 0, iv 0, .bool false, iv 0, iv 0, iv 0, .slice none 0 0, .slice none 0 0]) (Bx.set (row' := #[r0, r1, r2, iv 0, iv 0, iv 0, .slice none 0 0, iv 0, iv 0, .bool false, iv 0, iv 0, iv 0, .slice none 0 0, .slice none 0 0]) (Bx.set (row' := #[r0, r1, iv 0, iv 0, iv 0, iv 0, .slice none 0 0, iv 0, iv 0, .bool false, iv 0, iv 0, iv 0, .slice none 0 0, .slice none 0 0]) (Bx.set (row' := #[r0, iv 0, iv 0, iv 0, iv 0, iv 0, .slice none 0 0, iv 0, iv 0, .bool false, iv 0, iv 0, iv 0, .slice none 0 0, .slice none 0 0]) h 0 r0 rfl) 1 r1 rfl) 2 r2 rfl) 3 r3 rfl) 4 r4 rfl) 5 r5 rfl) 6 r6 rfl) 7 r7 rfl) 8 r8 rfl) 9 r9 rfl) 10 r10 rfl) 11 r11 rfl) 12 r12 rfl) 13 r13 rfl) 14 r14 rfl), ((((((((((((((((Upd.refl w (fun k => k = d0)).setCell (.inr rfl) r0).setCell (.inr rfl) r1).setCell (.inr rfl) r2).setCell (.inr rfl) r3).setCell (.inr rfl) r4).setCell (.inr rfl) r5).setCell (.inr rfl) r6).setCell (.inr rfl) r7).setCell (.inr rfl) r8).setCell (.inr rfl) r9).setCell (.inr rfl) r10).setCell (.inr rfl) r11).setCell (.inr rfl) r12).setCell (.inr rfl) r13).setCell (.inr rfl) r14)⟩
end Go.Proofs.YtamgoknoapcnjaaDoor
