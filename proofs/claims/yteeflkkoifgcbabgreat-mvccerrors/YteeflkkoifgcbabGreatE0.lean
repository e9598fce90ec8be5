/- strings.Clone. -/
import Derived.Test.YteeflkkoifgcbabGreatEA
import Derived.Lib.UnsafeStr
import Derived.Lib.OthersKept
import Derived.Lib.BufferWrite
namespace Go.Proofs.YteeflkkoifgcbabGreat
open Go Go.RowKit
theorem info5 : (Tryz.prog.info? 5).map (fun i => (i.zero, i.size, i.bytes)) = some (some (.int .u8 0), 1, 1) := by kernel_rfl
theorem size5 : (Tryz.prog.info? 5).map (·.size) = some 1 := by kernel_rfl
theorem cells5 : Tryz.prog.cellsOf 5 = 1 := by kernel_rfl
set_option maxRecDepth 100000 in
set_option maxHeartbeats 1000000 in
theorem slite_clone (s : ByteArray) (w : World) (h0 : 1 ≤ s.size) (h1 : s.size ≤ 1000000) :
    Calls Tryz.prog 32 #[.string s] w fun e w' => e = .returned (.string s) ∧ Below w.heap.size w w' := by
  obtain ⟨i0, hi, hz0, hz1, hz2⟩ := info_parts info5
  obtain ⟨cur, hcur, hmk⟩ : ∃ cur : Array Value, cur.size = s.size ∧ (Instr.makeSlice 30 (.int .i64 s.size) (.int .i64 s.size)).run Tryz.prog w = .ok (.slice (some ⟨w.heap.size, 0, none⟩) s.size s.size) (w.alloc (.cells cur 5)) := by
    have := run_make (P := Tryz.prog) w 30 5 i0 (.int .u8 0) Tryz.underlying30 hi hz0 .i64 .i64 s.size s.size (by omega) (by omega) (by rw [hz2]; omega) (by omega)
    simp only [Int.toNat_natCast] at this
    refine ⟨_, ?_, this⟩
    rw [size_madeCells, hz1]; simp
  have hg : (w.alloc (.cells cur 5)).heap[w.heap.size]? = some (.cells cur 5 (0, 0)) := heap_alloc_new w _
  have hsl : s.data.toList.length = s.size := by rw [Array.length_toList]; rfl
  have hcp := fun ty => Lib.run_copy_row_string (P := Tryz.prog) (w.alloc (.cells cur 5)) 30 9 ty 5 w.heap.size 0 s.size s.size s cur 5 Tryz.underlying30 size5 hg (Nat.le_refl _) (by omega)
  simp only [List.take_zero, List.nil_append, Nat.zero_add] at hcp
  rw [List.drop_of_length_le (by rw [Array.length_toList]; omega), List.append_nil] at hcp
  have hg2 : ((w.alloc (.cells cur 5)).setRow w.heap.size (Lib.byteCells s.data.toList).toArray).heap[w.heap.size]? = some (.cells (Lib.byteCells s.data.toList).toArray 5 (0, 0)) := setRow_heap _ _ cur _ 5 _ hg
  have hun := fun ty => Lib.run_unsafeString_row (P := Tryz.prog) ((w.alloc (.cells cur 5)).setRow w.heap.size (Lib.byteCells s.data.toList).toArray) 99 3 ty 5 Tryz.underlying99 cells5 w.heap.size s.size (by
      unfold World.shape?; rw [hg2]; show some (_, _) = _; rw [List.size_toArray, Lib.byteCells_length, hsl]) s.data.toList (by intro e; rw [e] at hsl; simp at hsl; omega) (by omega) (by omega) (fun j x hj => by
      rw [Addr.add_lit, cell_of_row _ _ _ _ _ _ hg2]
      simp only [Lib.byteCells, List.getElem?_toArray, Nat.zero_add, List.getElem?_map, hj, Option.map_some])
  rw [hsl] at hun
  generalize hW1 : w.alloc (.cells cur 5) = W1 at *
  generalize hW2 : W1.setRow w.heap.size (Lib.byteCells s.data.toList).toArray = W2 at *
  have hb2 : Below w.heap.size w W2 := by
    rw [← hW2, ← hW1]
    refine ((Below.refl _ _).alloc (Nat.le_refl _) _).trans ⟨rfl, rfl, rfl, by simp, fun k hk => setRow_other _ _ k _ (by omega)⟩
  have HB := Hid.mk'' (Lib.below_freeze hb2 (p := ⟨w.heap.size, 0, none⟩) (Nat.le_refl _) s.size)
  clear hb2 hW1 hW2 hg hg2 hcur hsl hz0 hz1 hz2 hi
  go_enter Tryz.func32, Tryz.ntmps32
  go_wp2
  go_ret
  exact ⟨rfl, HB.out⟩
set_option maxRecDepth 100000 in
set_option maxHeartbeats 1000000 in
theorem sclone (s : ByteArray) (w : World) (h0 : 1 ≤ s.size) (h1 : s.size ≤ 1000000) :
    Calls Tryz.prog 20 #[.string s] w fun e w' => e = .returned (.string s) ∧ Below w.heap.size w w' := by
  go_enter Tryz.func20, Tryz.ntmps20
  go_wp2_with (go_at_call 32; refine (slite_clone _ _ h0 h1).mono ?_; rintro e w' ⟨rfl, hb⟩)
  go_ret
  exact ⟨rfl, hb⟩
end Go.Proofs.YteeflkkoifgcbabGreat
