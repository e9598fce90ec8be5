/- The order of keys. -/
import Derived.WalkKit
import Derived.Lib.Bytealg
namespace Go.Proofs.YteeflkkoifgcbabGreat
open Go Go.RowKit

theorem bl_irrefl : ∀ a : List UInt8, Op.bytesLess a a = false
  | [] => rfl
  | x :: a => by simp [Op.bytesLess, bl_irrefl a, UInt8.lt_irrefl]
theorem bl_trans : ∀ a b c : List UInt8, Op.bytesLess a b = true → Op.bytesLess b c = true → Op.bytesLess a c = true
  | _, [], _, h, _ => by cases ‹List UInt8› <;> simp [Op.bytesLess] at h
  | _, _ :: _, [], _, h => by simp [Op.bytesLess] at h
  | [], _ :: _, _ :: _, _, _ => rfl
  | x :: a, y :: b, z :: c, h1, h2 => by
    simp only [Op.bytesLess, Bool.or_eq_true, decide_eq_true_eq, Bool.and_eq_true, beq_iff_eq] at h1 h2 ⊢
    rcases h1 with h1 | ⟨rfl, h1⟩
    · rcases h2 with h2 | ⟨rfl, h2⟩
      · exact .inl (UInt8.lt_trans h1 h2)
      · exact .inl h1
    · rcases h2 with h2 | ⟨rfl, h2⟩
      · exact .inl h2
      · exact .inr ⟨rfl, bl_trans a b c h1 h2⟩
theorem bl_tri : ∀ a b : List UInt8, Op.bytesLess a b = false → Op.bytesLess b a = false → a = b
  | [], [], _, _ => rfl
  | [], _ :: _, h, _ => by simp [Op.bytesLess] at h
  | _ :: _, [], _, h => by simp [Op.bytesLess] at h
  | x :: a, y :: b, h1, h2 => by
    simp only [Op.bytesLess, Bool.or_eq_false_iff, decide_eq_false_iff_not, Bool.and_eq_false_iff, beq_eq_false_iff_ne] at h1 h2
    have hxy : x = y := UInt8.le_antisymm (UInt8.not_lt.1 h2.1) (UInt8.not_lt.1 h1.1)
    subst hxy
    rw [bl_tri a b (h1.2.resolve_left (fun h => h rfl)) (h2.2.resolve_left (fun h => h rfl))]

/-- One key ahead of another. -/
def klt (a b : ByteArray) : Bool := Op.bytesLess a.data.toList b.data.toList
theorem klt_irrefl (a : ByteArray) : klt a a = false := bl_irrefl _
theorem klt_trans {a b c : ByteArray} (h : klt a b = true) (k : klt b c = true) : klt a c = true := bl_trans _ _ _ h k
theorem bytes_ext {a b : ByteArray} (h : a.data.toList = b.data.toList) : a = b := by
  cases a; cases b; simp at h; subst h; rfl
theorem klt_tri {a b : ByteArray} (h : klt a b = false) (k : klt b a = false) : a = b := bytes_ext (bl_tri _ _ h k)
theorem klt_asymm {a b : ByteArray} (h : klt a b = true) : klt b a = false := by
  cases hb : klt b a
  · rfl
  · have := klt_trans h hb; rw [klt_irrefl] at this; exact absurd this (by decide)
theorem klt_ne {a b : ByteArray} (h : klt a b = true) : a ≠ b := fun e => by subst e; rw [klt_irrefl] at h; exact absurd h (by decide)
theorem klt_of_not {a b c : ByteArray} (h : klt a b = true) (k : klt c b = false) : klt a c = true := by
  cases hb : klt b c
  · rw [klt_tri k hb]; exact h
  · exact klt_trans h hb
theorem klt_of_not' {a b c : ByteArray} (h : klt b a = false) (k : klt b c = true) : klt a c = true := by
  cases ha : klt a b
  · rw [klt_tri ha h]; exact k
  · exact klt_trans ha k
theorem toList_data (a : ByteArray) : a.toList = a.data.toList := ByteArray.toList_eq a
theorem bl_data (a b : ByteArray) : Op.bytesLess a.toList b.toList = klt a b := by rw [toList_data, toList_data]; rfl
theorem beq_data (a b : ByteArray) : (a.toList == b.toList) = decide (a = b) := by
  rw [toList_data, toList_data, Bool.eq_iff_iff]; simp only [beq_iff_eq, decide_eq_true_eq]; exact ⟨bytes_ext, fun h => by rw [h]⟩

theorem cmp_lt : ∀ a b : List UInt8, Lib.compareBytes a b = if Op.bytesLess a b then -1 else if Op.bytesLess b a then 1 else 0
  | [], [] => rfl
  | [], _ :: _ => rfl
  | _ :: _, [] => rfl
  | x :: a, y :: b => by
    unfold Lib.compareBytes Op.bytesLess
    rw [cmp_lt a b]
    by_cases h : x < y
    · simp [h]
    · by_cases h' : y < x
      · have : ¬ x = y := fun e => by subst e; exact h h'
        simp [h, h', this]
      · have : x = y := UInt8.le_antisymm (UInt8.not_lt.1 h') (UInt8.not_lt.1 h)
        subst this
        simp [UInt8.lt_irrefl]
theorem cmp_klt (a b : ByteArray) : Lib.compareBytes a.data.toList b.data.toList = if klt a b then -1 else if klt b a then 1 else 0 := cmp_lt _ _

/-- Keys rise. -/
def Asc : List ByteArray → Prop
  | [] => True
  | k :: l => (∀ j ∈ l, klt k j = true) ∧ Asc l
theorem asc_append : ∀ (a b : List ByteArray), Asc (a ++ b) ↔ Asc a ∧ Asc b ∧ ∀ x ∈ a, ∀ y ∈ b, klt x y = true
  | [], b => by simp [Asc]
  | k :: a, b => by
    simp only [List.cons_append, Asc, asc_append a b, List.mem_append, List.mem_cons]
    constructor
    · rintro ⟨h1, h2, h3, h4⟩
      exact ⟨⟨fun j hj => h1 j (.inl hj), h2⟩, h3, fun x hx y hy => by rcases hx with rfl | hx; exact h1 y (.inr hy); exact h4 x hx y hy⟩
    · rintro ⟨⟨h1, h2⟩, h3, h4⟩
      exact ⟨fun j hj => hj.elim (h1 j) (h4 k (.inl rfl) j), h2, h3, fun x hx y hy => h4 x (.inr hx) y hy⟩
end Go.Proofs.YteeflkkoifgcbabGreat
