/- A reader that stands at a number, or at a text. -/
import Derived.Test.YtdcpfjlnagigaaaGreatDoorSR1
namespace Go.Proofs.YtdcpfjlnagigaaaGreatDoor
open Go Go.RowKit
def i64 (n : Int) : Prop := -9223372036854775808 ≤ n ∧ n ≤ 9223372036854775807
theorem rIntAt (B b : Nat) (v : Value) (xs A R : List Int) (k : Nat) (n : Int) (w : World) (hr : Re B w b v xs k 0) (he : xs = A ++ (q8 n ++ R)) (hk : A.length = k) (hn : i64 n) :
    Calls Tryz.prog 103 #[.pointer (some ⟨b, 0, none⟩)] w fun e w' => e = .returned (.int .i64 n) ∧ RePost B w w' b v xs (k + 8) 0 := by
  have h := rInt B b v xs k 0 w hr
  have h1 : takeB xs k 0 8 = q8 n := by rw [he, ← hk]; exact takeB_at A (q8 n) R
  have h2 : takeA xs k 0 8 = k + 8 := by rw [he, ← hk]; exact takeA_at A (q8 n) R
  have h3 : takeE xs k 0 8 = 0 := by rw [he, ← hk]; exact takeE_at A (q8 n) R
  rw [h1, h2, h3, rd_be0 n hn.1 hn.2] at h
  exact h
theorem rU8At (B b : Nat) (v : Value) (xs A R : List Int) (k n : Nat) (w : World) (hr : Re B w b v xs k 0) (he : xs = A ++ (q1 n ++ R)) (hk : A.length = k) (hn : n < 256) :
    Calls Tryz.prog 104 #[.pointer (some ⟨b, 0, none⟩)] w fun e w' => e = .returned (.int .i64 n) ∧ RePost B w w' b v xs (k + 1) 0 := by
  have h := rU8 B b v xs k 0 w hr
  have h1 : takeB xs k 0 1 = q1 n := by rw [he, ← hk]; exact takeB_at A (q1 n) R
  have h2 : takeA xs k 0 1 = k + 1 := by rw [he, ← hk]; exact takeA_at A (q1 n) R
  have h3 : takeE xs k 0 1 = 0 := by rw [he, ← hk]; exact takeE_at A (q1 n) R
  rw [h1, h2, h3, rd_be7, show ((n : Int) % 256) = n by omega] at h
  exact h
theorem rTextAt (B b : Nat) (v : Value) (xs A R d : List Int) (k : Nat) (w : World) (hr : Re B w b v xs k 0) (he : xs = A ++ ((q4 d.length ++ d) ++ R)) (hk : A.length = k) (hd : isB d) (hl : d.length ≤ 100000) :
    Calls Tryz.prog 105 #[.pointer (some ⟨b, 0, none⟩)] w fun e w' => e = .returned (.string (strOfNums d)) ∧ RePost B w w' b v xs (k + 4 + d.length) 0 := by
  have h := rText B b v xs k 0 w hr
  have hz : (strOfNums d).size = d.length := by rw [← strB_len, strB_nums hd]
  have ht := text_at A R (strOfNums d) (by omega)
  rw [hz, strB_nums hd] at ht
  rw [he, ← hk] at h ⊢
  obtain ⟨t1, t2, t3⟩ := ht
  rw [t1, t2, t3, show A.length + (List.drop 4 (be (IntKind.u64.wrap d.length)) ++ d).length = A.length + 4 + d.length from by rw [List.length_append]; show A.length + (4 + d.length) = _; omega] at h
  exact h
end Go.Proofs.YtdcpfjlnagigaaaGreatDoor
