/- Six Booleans in memory beside a disk. -/
import Derived.Test.YtmfhfabfhoiegabNamesP
namespace Go.Proofs.Ytmfhfabfhoiegab
open Go Go.RowKit
/-- An array of six Booleans. -/
structure HasB (w : World) (hb : Nat) (h : Nat → Bool) : Prop where
  cell : ∀ j, j < 6 → w.cell? ⟨hb, j, none⟩ = some (.bool (h j))
  free : ∀ j, j < 6 → w.frozen? ⟨hb, j, none⟩ = false
theorem HasB.lt {w : World} {hb : Nat} {h : Nat → Bool} (q : HasB w hb h) : hb < w.heap.size := World.block_lt_of_cell? _ _ (q.cell 0 (by decide))
theorem HasB.upd {w w' : World} {S : Nat → Prop} {hb : Nat} {h : Nat → Bool} (q : HasB w hb h) (hu : Upd w w' S) (hS : ¬ S hb) : HasB w' hb h :=
  ⟨fun j hj => (hu.cell (p := ⟨hb, j, none⟩) q.lt hS).trans (q.cell j hj), fun j hj => (hu.frozen (p := ⟨hb, j, none⟩) q.lt hS).trans (q.free j hj)⟩
theorem HasB.set {w : World} {hb : Nat} {h : Nat → Bool} (q : HasB w hb h) {a : Nat} (ha : a < 6) (b : Bool) : HasB (w.setCell ⟨hb, a, none⟩ (.bool b)) hb (setB h a b) := by
  have hc := q.cell a ha
  refine ⟨fun j hj => ?_, fun j hj => ?_⟩
  · by_cases he : j = a
    · subst he
      rw [World.cell?_setCell_same _ _ _ hc]; simp [setB]
    · rw [World.cell?_setCell_other _ _ _ _ (by simp only [ne_eq, Addr.mk.injEq]; omega), q.cell j hj]; simp [setB, he]
  · rw [World.frozen?_setCell]; exact q.free j hj
theorem HasB.new (w : World) : HasB (w.alloc (.cells #[.bool false, .bool false, .bool false, .bool false, .bool false, .bool false] 28)) w.heap.size (fun _ => false) := by
  refine ⟨fun j hj => ?_, fun j hj => ?_⟩ <;>
  · rcases (by omega : j = 0 ∨ j = 1 ∨ j = 2 ∨ j = 3 ∨ j = 4 ∨ j = 5) with rfl | rfl | rfl | rfl | rfl | rfl <;> simp
def namesRel (B : Nat) (w0 wx : World) (d hb : Nat) (h : Nat → Bool) (n : Nat) : Prop :=
  ∃ g p, Dk B wx d g p ∧ NamesAt p h n ∧ HasB wx hb h ∧ ¬ Foot d g hb ∧ B ≤ hb ∧ Below B w0 wx
theorem namesRel.below {B : Nat} {w0 wx wy : World} {d hb n : Nat} {h : Nat → Bool} (q : namesRel B w0 wx d hb h n) (hb0 : Below wx.heap.size wx wy) (hB : B ≤ w0.heap.size) : namesRel B w0 wy d hb h n := by
  obtain ⟨g, p, h1, h2, h3, h4, h5, h6⟩ := q
  have := h6.size
  exact ⟨g, p, h1.below hb0, h2, h3.upd (S := fun _ => False) (Upd.ofBelow hb0) (fun h => h), h4, h5, h6.trans (hb0.mono (by omega))⟩
/-- The disk is already as h' says, the Booleans are still as h says. -/
def namesMid (B : Nat) (w0 wx : World) (d hb : Nat) (h h' : Nat → Bool) (n : Nat) : Prop :=
  ∃ g p, Dk B wx d g p ∧ NamesAt p h' n ∧ HasB wx hb h ∧ ¬ Foot d g hb ∧ B ≤ hb ∧ Below B w0 wx
section
variable {B d hb n a b : Nat} {w0 wx : World} {h h' : Nat → Bool}
theorem namesMid.cell (q : namesMid B w0 wx d hb h h' n) {j : Nat} (hj : j < 6) : wx.cell? ⟨hb, j, none⟩ = some (.bool (h j)) ∧ wx.frozen? ⟨hb, j, none⟩ = false := by
  obtain ⟨g, p, _, _, h3, _, _, _⟩ := q
  exact ⟨h3.cell j hj, h3.free j hj⟩
theorem namesMid.set (q : namesMid B w0 wx d hb h h' n) (hB : B ≤ w0.heap.size) (ha : a < 6) (c : Bool) : namesMid B w0 (wx.setCell ⟨hb, a, none⟩ (.bool c)) d hb (setB h a c) h' n := by
  obtain ⟨g, p, h1, h2, h3, h4, h5, h6⟩ := q
  have hu := upd_cell wx hb a (.bool c)
  exact ⟨g, p, h1.upd hu (fun k hk e => h4 (e ▸ hk)), h2, h3.set ha c, h4, h5, h6.trans (hu.below (by have := h6.size; omega) (fun k hk e => by omega))⟩
theorem mid_of {W w' : World} {g : Gu} {p p' : PS} (h1 : Dk B W d g p) (h3 : HasB W hb h) (h4 : ¬ Foot d g hb) (h5 : B ≤ hb) (h6 : Below B w0 W) (hB : B ≤ w0.heap.size) (hp : DkPost B W w' d g p') (hn : NamesAt p' h' n) : namesMid B w0 w' d hb h h' n := by
  obtain ⟨g', k1, k2, k3⟩ := hp
  have hs := h6.size
  refine ⟨g', p', k1, hn, h3.upd k2 h4, fun hf => ?_, h5, h6.trans (h1.toBelow (by omega) k2)⟩
  rcases k3 hb hf with e | e
  · exact h4 e
  · have := h3.lt; omega
theorem names_app (q : namesRel B w0 wx d hb h n) (hn : n ≤ 1000) (hB : B ≤ w0.heap.size) (ha : a < 6) (x : Nat) (hx : x ≤ 255) :
    Calls Try.prog 7 #[ptr d, .string (strOfNums [97 + (a : Int)]), .slice (some ⟨wx.heap.size, 0, none⟩) 1 1] (wx.alloc (.cells #[.int .u8 (x : Int)] 5)) fun e w' => ∃ E, e = .returned (.int .i64 E) ∧ namesMid B w0 w' d hb h (setB h a true) (n + 1) := by
  obtain ⟨g, p, h1, h2, h3, h4, h5, h6⟩ := q
  have hs := h6.size
  have hal : Below wx.heap.size wx (wx.alloc (.cells #[.int .u8 (x : Int)] 5)) := (Below.refl _ _).alloc (Nat.le_refl _) _
  have hsa := hal.size
  have hd2 := h1.below hal
  have hnl : (strOfNums [97 + (a : Int)]).data.toList = nmR a := oneS_list a (by omega)
  have hc := append_any B d g p (strOfNums [97 + (a : Int)]) (.slice (some ⟨wx.heap.size, 0, none⟩) 1 1) [(x : Int)] _ hd2 (h2.sane hn) (by omega) (sees_new wx [(x : Int)] (0, 0) (by simp) (by simp [maxLen])) (fun y hy => by
    have : y = (x : Int) := by simpa using hy
    omega) (fun k hk _ hf => by
      have := h1.lt hf
      have hk : wx.heap.size = k := Option.some.inj hk
      omega) (by simp)
  rw [hnl] at hc
  refine hc.mono ?_
  rintro e w' ⟨rfl, hp⟩
  exact ⟨_, rfl, mid_of hd2 (h3.upd (S := fun _ => False) (Upd.ofBelow hal) (fun h => h)) h4 h5 (h6.trans (hal.mono (by omega))) hB hp (h2.app hn h1.up ha x)⟩
theorem names_rem (q : namesRel B w0 wx d hb h n) (hn : n ≤ 1000) (hB : B ≤ w0.heap.size) (ha : a < 6) :
    Calls Try.prog 8 #[ptr d, .string (strOfNums [97 + (a : Int)])] wx fun e w' => ∃ E, e = .returned (.int .i64 E) ∧ (h a = true → E = 0) ∧ (h a = false → E = 2) ∧ namesMid B w0 w' d hb h (setB h a false) (n + 1) := by
  obtain ⟨g, p, h1, h2, h3, h4, h5, h6⟩ := q
  have hnl : (strOfNums [97 + (a : Int)]).data.toList = nmR a := oneS_list a (by omega)
  have hc := remove_any B d g p (strOfNums [97 + (a : Int)]) _ h1 (h2.sane hn)
  rw [hnl] at hc
  refine hc.mono ?_
  rintro e w' ⟨rfl, hp⟩
  exact ⟨_, rfl, (h2.remE ha).2, h2.rem2 ha, mid_of h1 h3 h4 h5 h6 hB hp (h2.rem ha)⟩
theorem names_ren (q : namesRel B w0 wx d hb h n) (hn : n ≤ 1000) (hB : B ≤ w0.heap.size) (ha : a < 6) (hb6 : b < 6) :
    Calls Try.prog 9 #[ptr d, .string (strOfNums [97 + (a : Int)]), .string (strOfNums [97 + (b : Int)])] wx fun e w' => ∃ E, e = .returned (.int .i64 E) ∧ (h a = true → E = 0) ∧ (h a = false → E = 2) ∧ (h a = true → namesMid B w0 w' d hb h (setB (setB h a false) b true) (n + 1)) ∧ (h a = false → namesMid B w0 w' d hb h h (n + 1)) := by
  obtain ⟨g, p, h1, h2, h3, h4, h5, h6⟩ := q
  have hnl : (strOfNums [97 + (a : Int)]).data.toList = nmR a := oneS_list a (by omega)
  have hnl2 : (strOfNums [97 + (b : Int)]).data.toList = nmR b := oneS_list b (by omega)
  have hc := rename_any B d g p (strOfNums [97 + (a : Int)]) (strOfNums [97 + (b : Int)]) _ h1 (h2.sane hn)
  rw [hnl, hnl2] at hc
  refine hc.mono ?_
  rintro e w' ⟨rfl, hp⟩
  exact ⟨_, rfl, (h2.renE ha hb6).2, h2.ren2 ha hb6, fun hh => mid_of h1 h3 h4 h5 h6 hB hp (h2.ren h1.up ha hb6 hh), fun hh => mid_of h1 h3 h4 h5 h6 hB hp (h2.ren_no ha hb6 hh)⟩
theorem names_crash (q : namesRel B w0 wx d hb h n) (hn : n ≤ 1000) (hB : B ≤ w0.heap.size) (v : Value) (picks : List Int) (hv0 : SeesI w0 v picks) (hB2 : w0.heap.size ≤ B) :
    Calls Try.prog 10 #[ptr d, v] wx fun e w' => ∃ E, e = .returned (.int .i64 E) ∧ namesRel B w0 w' d hb h n := by
  obtain ⟨g, p, h1, h2, h3, h4, h5, h6⟩ := q
  have hs := h6.size
  refine (crash_any B d g p v picks wx h1 (h2.sane hn) (hv0.below (h6.mono hB2)) (hv0.off h1 hB2)).mono ?_
  rintro e w' ⟨rfl, hp⟩
  exact ⟨_, rfl, mid_of h1 h3 h4 h5 h6 hB hp (h2.crash picks)⟩
theorem names_list (q : namesRel B w0 wx d hb h n) (hn : n ≤ 1000) :
    Calls Try.prog 11 #[ptr d] wx fun e w' => ∃ ao c, e = .returned (.tuple #[.slice ao (nmsOf h 6).length c, .int .i64 0]) ∧ w'.ownsRow wx.heap.size 9 1 (.slice ao (nmsOf h 6).length c) (nmsOf h 6).length (strs (nmsOf h 6)) ∧ Below wx.heap.size wx w' := by
  obtain ⟨g, p, h1, h2, _, _, _, _⟩ := q
  have hl := h2.len
  obtain ⟨e1, e2⟩ := h2.list h1.up
  have hc := list_any B d g p wx h1 (by omega)
  rw [e1, e2] at hc
  refine hc.mono ?_
  rintro e w' ⟨v, rfl, ho, hb⟩
  obtain ⟨ao, c, rfl⟩ := owns_form ho
  exact ⟨ao, c, rfl, ho, hb⟩
end
end Go.Proofs.Ytmfhfabfhoiegab
