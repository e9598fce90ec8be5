/- The walk of PenKept: whatever the bytes and the kinds, it returns true and turns nothing that was there. -/
import Derived.Test.YtamgoknoapcnjaaDoorRead
import Derived.Deep.LoopGhost
namespace Go.Proofs.YtamgoknoapcnjaaDoor
open Go Go.RowKit
/-- A slice value through which the numbers zs are seen. -/
def SeesI (w : World) (v : Value) (zs : List Int) : Prop :=
  (zs = [] ∧ ∃ ao cap, v = .slice ao 0 cap) ∨
  ∃ b off cap, v = .slice (some ⟨b, off, none⟩) zs.length cap ∧ 0 < zs.length ∧ b < w.heap.size ∧ ∀ i, i < zs.length → w.cell? ⟨b, off + i, none⟩ = some (.int .i64 (zs.getD i 0))
theorem SeesI.form {w : World} {v : Value} {zs : List Int} (h : SeesI w v zs) : ∃ ao cap, v = .slice ao zs.length cap := by
  rcases h with ⟨rfl, ao, cap, rfl⟩ | ⟨b, off, cap, rfl, _⟩ <;> exact ⟨_, _, rfl⟩
theorem okT8 (xs : List Int) (a n : Nat) : okT xs a 8 n = false := by simp [okT]
theorem takeA8 (xs : List Int) (a n : Nat) : takeA xs a 8 n = a := by simp [takeA, okT8]
theorem takeE8 (xs : List Int) (a n : Nat) : takeE xs a 8 n = 8 := by simp [takeE, okT8]
theorem takeB8 (xs : List Int) (a n : Nat) : takeB xs a 8 n = [] := by simp [takeB, okT8]
theorem textE8 (xs : List Int) (a : Nat) : textE xs a 8 = 8 := by simp [textE, takeE8]
theorem textA8 (xs : List Int) (a : Nat) : textA xs a 8 = a := by simp [textA, textE8]
theorem textB8 (xs : List Int) (a : Nat) : textB xs a 8 = [] := by simp [textB, takeE8, takeB8]

theorem wrap64_rd_nil : wrap64 (rd []) = 0 := by simp [wrap64, rd]
theorem rU8_8 (B : Nat) (b : Nat) (v : Value) (xs : List Int) (a : Nat) (w : World) (hr : Re B w b v xs a 8) :
    Calls Tryd.prog 66 #[.pointer (some ⟨b, 0, none⟩)] w fun e w' => e = .returned (.int .i64 0) ∧ RePost B w w' b v xs a 8 :=
  (rU8 B b v xs a 8 w hr).mono (by rintro e w' ⟨rfl, h⟩; rw [takeA8, takeE8] at h; exact ⟨ret_int (by rw [takeB8]; exact wrap64_rd_nil), h⟩)
theorem rU32_8 (B : Nat) (b : Nat) (v : Value) (xs : List Int) (a : Nat) (w : World) (hr : Re B w b v xs a 8) :
    Calls Tryd.prog 89 #[.pointer (some ⟨b, 0, none⟩)] w fun e w' => e = .returned (.int .i64 0) ∧ RePost B w w' b v xs a 8 :=
  (rU32 B b v xs a 8 w hr).mono (by rintro e w' ⟨rfl, h⟩; rw [takeA8, takeE8] at h; exact ⟨ret_int (by rw [takeB8]; exact wrap64_rd_nil), h⟩)
theorem rInt_8 (B : Nat) (b : Nat) (v : Value) (xs : List Int) (a : Nat) (w : World) (hr : Re B w b v xs a 8) :
    Calls Tryd.prog 68 #[.pointer (some ⟨b, 0, none⟩)] w fun e w' => e = .returned (.int .i64 0) ∧ RePost B w w' b v xs a 8 :=
  (rInt B b v xs a 8 w hr).mono (by rintro e w' ⟨rfl, h⟩; rw [takeA8, takeE8] at h; exact ⟨ret_int (by rw [takeB8]; exact wrap64_rd_nil), h⟩)
theorem rText_8 (B : Nat) (b : Nat) (v : Value) (xs : List Int) (a : Nat) (w : World) (hr : Re B w b v xs a 8) :
    Calls Tryd.prog 86 #[.pointer (some ⟨b, 0, none⟩)] w fun e w' => e = .returned (.string ⟨#[]⟩) ∧ RePost B w w' b v xs a 8 :=
  (rText B b v xs a 8 w hr).mono (by rintro e w' ⟨rfl, h⟩; rw [textA8, textE8] at h; exact ⟨by rw [textB8]; rfl, h⟩)

end Go.Proofs.YtamgoknoapcnjaaDoor
