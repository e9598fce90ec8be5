/- Which texts are names: what Name answers; a copy of a text. -/
import Derived.Test.YtdcpfjlnagigaaaGreatDoorLeaf
import Derived.Laws.RangeAny
import Derived.Lib.OthersKept
import Derived.Lib.BufferWrite
namespace Go.Proofs.YtdcpfjlnagigaaaGreatDoor
open Go Go.RowKit
theorem Hid.mk' {p : Prop} (h : p) : Hid p := h
theorem ret_bool {a b : Bool} (h : a = b) : Ending.returned (.bool a) = .returned (.bool b) := by rw [h]
theorem ret_str {a b : ByteArray} (h : a = b) : Ending.returned (.string a) = .returned (.string b) := by rw [h]
/-- The signs of names. -/
def okR (r : Int) : Bool := decide (97 ≤ r ∧ r ≤ 122) || decide (48 ≤ r ∧ r ≤ 57) || decide (r = 46) || decide (r = 45)
def okName (l : List UInt8) : Bool := decide (1 ≤ l.length ∧ l.length ≤ 40) && l.all (fun c => okR c.toNat)
theorem okR_no {r : Int} (h : ¬ ((97 ≤ r ∧ r ≤ 122) ∨ (48 ≤ r ∧ r ≤ 57) ∨ r = 46 ∨ r = 45)) : okR r = false := by simp [okR]; omega
theorem okR_yes {r : Int} (h : (97 ≤ r ∧ r ≤ 122) ∨ (48 ≤ r ∧ r ≤ 57) ∨ r = 46 ∨ r = 45) : okR r = true := by simp [okR]; omega
set_option maxHeartbeats 1000000 in
theorem ofNames_any (r : Int) (w : World) : Calls Tryz.prog 86 #[.int .i32 r] w fun e w' => e = .returned (.bool (okR r)) ∧ w' = w := by
  go_enter Tryz.func86, Tryz.ntmps86
  go_wp2
  all_goals
    go_ret
    refine ⟨ret_bool ?_, rfl⟩
    first | (rw [okR_yes (by omega)]; simp; done) | (rw [okR_no (by omega)]; simp; done) | (rw [Bool.eq_iff_iff]; simp [okR]; done) | (rw [Bool.eq_iff_iff]; simp [okR]; omega) | (simp [okR]; done) | (simp [okR]; omega)
theorem okName_len {l : List UInt8} (h : okName l = true) : 1 ≤ l.length ∧ l.length ≤ 40 := by
  simp only [okName, Bool.and_eq_true, decide_eq_true_eq] at h; exact h.1
theorem okName_short (s : ByteArray) (h : s.size < 1 ∨ 40 < s.size) : okName s.data.toList = false := by
  simp only [okName, Bool.and_eq_false_iff, decide_eq_false_iff_not, Array.length_toList]; left
  show ¬ (1 ≤ s.size ∧ s.size ≤ 40)
  omega
theorem okName_at (s : ByteArray) (k : Nat) (h : k < s.size) (hb : okR s[k].toNat = false) : okName s.data.toList = false := by
  simp only [okName, Bool.and_eq_false_iff]; right
  rw [List.all_eq_false]
  refine ⟨s[k], ?_, by simp [hb]⟩
  show s.data[k] ∈ _
  simp
theorem okName_all (s : ByteArray) (h1 : 1 ≤ s.size) (h2 : s.size ≤ 40) (h : ∀ j (hj : j < s.size), okR s[j].toNat = true) : okName s.data.toList = true := by
  simp only [okName, Bool.and_eq_true, decide_eq_true_eq, Array.length_toList]
  refine ⟨⟨h1, h2⟩, ?_⟩
  rw [List.all_eq_true]
  intro c hc
  obtain ⟨j, hj, rfl⟩ := List.getElem_of_mem hc
  exact h j (by simpa using hj)
set_option maxHeartbeats 1000000 in
theorem name_any (s : ByteArray) (w : World) : Calls Tryz.prog 52 #[.string s] w fun e w' => e = .returned (.bool (okName s.data.toList)) ∧ Below w.heap.size w w' := by
  by_cases h0 : s.size < 1
  · have hsz : (s.size : Int) < 1 := by omega
    have HN := Hid.mk' (okName_short s (.inl h0))
    go_enter Tryz.func52, Tryz.ntmps52
    go_wp2
    go_ret
    exact ⟨ret_bool HN.out.symm, Below.refl _ _⟩
  by_cases h1 : 40 < s.size
  · have HN := Hid.mk' (okName_short s (.inr h1))
    go_enter Tryz.func52, Tryz.ntmps52
    go_wp2
    go_ret
    exact ⟨ret_bool HN.out.symm, Below.refl _ _⟩
  go_enter Tryz.func52, Tryz.ntmps52
  go_wp2
  go_loopw [2] (fun _ w' => ∃ (pos : Nat), w' = w.iter s pos ∧ pos ≤ s.size ∧ Hid (∀ j (hj : j < s.size), j < pos → okR s[j].toNat = true)) (fun _ w' => s.size - w'.iterPos w.heap.size)
  case atStart => exact ⟨0, rfl, by omega, Hid.mk' (fun j _ h => by omega)⟩
  case round =>
    obtain ⟨pos, rfl, hps, HA⟩ := hrel
    by_cases hp : pos < s.size
    · by_cases ha : s[pos].toNat < 128
      · have hnx : ∀ ty, (Instr.next (.pointer (some ⟨w.heap.size, 0, none⟩)) true ty).run Tryz.prog (w.iter s pos) = _ := fun ty => run_next_ascii w s pos ty hp ha
        cases hok : okR s[pos].toNat with
        | false =>
          have HN := Hid.mk' (okName_at s pos hp hok)
          go_wp2_with (go_at_call 86; refine (ofNames_any _ _).mono ?_; rintro e w' ⟨rfl, rfl⟩)
          go_ret
          exact ⟨ret_bool HN.out.symm, (Below.refl _ _).alloc (Nat.le_refl _) _⟩
        | true =>
          go_wp2_with (go_at_call 86; refine (ofNames_any _ _).mono ?_; rintro e w' ⟨rfl, rfl⟩)
          go_roundw
          case rel =>
            refine ⟨pos + 1, rfl, by omega, Hid.mk' (fun j hj h => ?_)⟩
            rcases Nat.lt_or_ge j pos with h' | h'
            · exact HA.out j hj h'
            · obtain rfl : j = pos := by omega
              exact hok
          case measure => simp; omega
      · have hd := decode_high s pos hp (by omega)
        have hnx : ∀ ty, (Instr.next (.pointer (some ⟨w.heap.size, 0, none⟩)) true ty).run Tryz.prog (w.iter s pos) = _ := fun ty => run_next_any w s pos ty hp
        have hno : okR ((Utf8.decode s pos).1 : Int) = false := okR_no (by omega)
        have HN := Hid.mk' (okName_at s pos hp (okR_no (by omega)))
        go_wp2_with (go_at_call 86; refine (ofNames_any _ _).mono ?_; rintro e w' ⟨rfl, rfl⟩)
        go_ret
        exact ⟨ret_bool HN.out.symm, (Below.refl _ _).alloc (Nat.le_refl _) _⟩
    · have hnx : ∀ ty, (Instr.next (.pointer (some ⟨w.heap.size, 0, none⟩)) true ty).run Tryz.prog (w.iter s pos) = _ := fun ty => run_next_end w s pos ty hp
      have HN := Hid.mk' (okName_all s (by omega) (by omega) (fun j hj => HA.out j hj (by omega)))
      go_wp2
      go_ret
      exact ⟨ret_bool HN.out.symm, (Below.refl _ _).alloc (Nat.le_refl _) _⟩
theorem size5 : (Tryz.prog.info? 5).map (·.size) = some 1 := by kernel_rfl
theorem cells5 : Tryz.prog.cellsOf 5 = 1 := by kernel_rfl
set_option maxRecDepth 100000 in
set_option maxHeartbeats 1000000 in
theorem slite_clone (s : ByteArray) (w : World) (h0 : 1 ≤ s.size) (h1 : s.size ≤ 1000000) :
    Calls Tryz.prog 114 #[.string s] w fun e w' => e = .returned (.string s) ∧ Below w.heap.size w w' := by
  obtain ⟨i0, hi, hz0, hz1, hz2⟩ := info_parts info5
  obtain ⟨cur, hcur, hmk⟩ : ∃ cur : Array Value, cur.size = s.size ∧ (Instr.makeSlice 35 (.int .i64 s.size) (.int .i64 s.size)).run Tryz.prog w = .ok (.slice (some ⟨w.heap.size, 0, none⟩) s.size s.size) (w.alloc (.cells cur 5)) := by
    have := run_make (P := Tryz.prog) w 35 5 i0 (.int .u8 0) Tryz.underlying35 hi hz0 .i64 .i64 s.size s.size (by omega) (by omega) (by rw [hz2]; omega) (by omega)
    simp only [Int.toNat_natCast] at this
    refine ⟨_, ?_, this⟩
    rw [size_madeCells, hz1]; simp
  have hg : (w.alloc (.cells cur 5)).heap[w.heap.size]? = some (.cells cur 5 (0, 0)) := heap_alloc_new w _
  have hsl : s.data.toList.length = s.size := by rw [Array.length_toList]; rfl
  have hcp := fun ty => Lib.run_copy_row_string (P := Tryz.prog) (w.alloc (.cells cur 5)) 35 9 ty 5 w.heap.size 0 s.size s.size s cur 5 Tryz.underlying35 size5 hg (Nat.le_refl _) (by omega)
  simp only [List.take_zero, List.nil_append, Nat.zero_add] at hcp
  rw [List.drop_of_length_le (by rw [Array.length_toList]; omega), List.append_nil] at hcp
  have hg2 : ((w.alloc (.cells cur 5)).setRow w.heap.size (Lib.byteCells s.data.toList).toArray).heap[w.heap.size]? = some (.cells (Lib.byteCells s.data.toList).toArray 5 (0, 0)) := setRow_heap _ _ cur _ 5 _ hg
  have hun := fun ty => Lib.run_unsafeString_row (P := Tryz.prog) ((w.alloc (.cells cur 5)).setRow w.heap.size (Lib.byteCells s.data.toList).toArray) 170 3 ty 5 Tryz.underlying170 cells5 w.heap.size s.size (by
      unfold World.shape?; rw [hg2]; show some (_, _) = _; rw [List.size_toArray, Lib.byteCells_length, hsl]) s.data.toList (by intro e; rw [e] at hsl; simp at hsl; omega) (by omega) (by omega) (fun j x hj => by
      rw [Addr.add_lit, cell_of_row _ _ _ _ _ _ hg2]
      simp only [Lib.byteCells, List.getElem?_toArray, Nat.zero_add, List.getElem?_map, hj, Option.map_some])
  rw [hsl] at hun
  generalize hW1 : w.alloc (.cells cur 5) = W1 at *
  generalize hW2 : W1.setRow w.heap.size (Lib.byteCells s.data.toList).toArray = W2 at *
  have hb2 : Below w.heap.size w W2 := by
    rw [← hW2, ← hW1]
    refine ((Below.refl _ _).alloc (Nat.le_refl _) _).trans ⟨rfl, rfl, rfl, by simp, fun k hk => setRow_other _ _ k _ (by omega)⟩
  have HB := Hid.mk' (Lib.below_freeze hb2 (p := ⟨w.heap.size, 0, none⟩) (Nat.le_refl _) s.size)
  clear hb2 hW1 hW2 hg hg2 hcur hsl hz0 hz1 hz2 hi
  go_enter Tryz.func114, Tryz.ntmps114
  go_wp2
  go_ret
  exact ⟨rfl, HB.out⟩
set_option maxHeartbeats 1000000 in
theorem sclone (s : ByteArray) (w : World) (h0 : 1 ≤ s.size) (h1 : s.size ≤ 1000000) :
    Calls Tryz.prog 87 #[.string s] w fun e w' => e = .returned (.string s) ∧ Below w.heap.size w w' := by
  go_enter Tryz.func87, Tryz.ntmps87
  go_wp2_with (go_at_call 114; refine (slite_clone _ _ h0 h1).mono ?_; rintro e w' ⟨rfl, hb⟩)
  go_ret
  exact ⟨rfl, hb⟩
end Go.Proofs.YtdcpfjlnagigaaaGreatDoor
