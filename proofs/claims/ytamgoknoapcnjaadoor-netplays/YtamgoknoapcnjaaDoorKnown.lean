/- The chapter's examples, as the statements ask them first: they hold. -/
import Derived.Test.YtamgoknoapcnjaaDoorText
import Derived.Lib.SlBytesConst
namespace Go.Proofs.YtamgoknoapcnjaaDoor
open Go Go.RowKit
theorem conv_sees {w : World} {v : Value} {zs : List Int} (h : Sees w v zs) : (convert 26 9 v).run Tryd.prog w = .ok (.string (strOfNums zs)) w := by
  rcases h with ⟨rfl, ao, cap, rfl, _, _⟩ | ⟨b, off, cap, rfl, _, _, _, hc⟩
  · cases ao with
    | none => exact run_convert_bytes_nil w 26 5 Tryd.underlying26 Tryd.underlying5 0 cap 9 Tryd.underlying9
    | some a =>
      have hl : (loadCells a 0).run Tryd.prog w = .ok (([] : List Int).map (Value.int .u8)).toArray w := by
        exact run_loadCells_list (P := Tryd.prog) w a [] (fun j v hj => by simp at hj)
      rw [run_convert_bytes_string w 26 9 5 _ 0 cap Tryd.underlying26 Tryd.underlying5 Tryd.underlying9, run_bytesToString w _ 0 cap [] hl, foldl_push_bytes]
      rfl
  · exact run_convert_bytes_arg w 26 5 Tryd.underlying26 Tryd.underlying5 b off _ cap zs rfl hc 9 Tryd.underlying9

theorem sees_new (w : World) (zs : List Int) (fr : Nat × Nat) (h0 : 0 < zs.length) (hl : zs.length ≤ maxLen) : Sees (w.alloc (.cells (u8s zs).toArray 5 fr)) (.slice (some ⟨w.heap.size, 0, none⟩) zs.length zs.length) zs := by
  refine .inr ⟨w.heap.size, 0, zs.length, rfl, h0, Nat.le_refl _, hl, fun i hi => ?_⟩
  rw [cell_of_row _ _ _ _ _ _ (heap_alloc_new w _)]
  simp [u8s, List.getD_eq_getElem?_getD, List.getElem?_eq_getElem hi]
theorem owns_cells {B : Nat} {w : World} {g cap : Nat} {xs : List Int} (h : w.ownsRow B 5 1 (.slice (some ⟨g, 0, none⟩) xs.length cap) xs.length (u8s xs)) (i : Nat) (hi : i < xs.length) : w.cell? ⟨g, i, none⟩ = some (.int .u8 (xs.getD i 0)) := by
  rw [h.cellAt i (by omega)]
  simp [u8s, List.getD_eq_getElem?_getD, List.getElem?_eq_getElem hi]
theorem text_ab : [] ++ (List.drop 4 (be (IntKind.u64.wrap ((⟨#[97, 98]⟩ : ByteArray).size : Nat))) ++ strB ⟨#[97, 98]⟩) = [0, 0, 0, 2, 97, 98] := by decide
theorem isB_known : isB [49, 50, 51, 52, 53, 54, 55, 56, 57] := by intro x hx; simp at hx; omega
end Go.Proofs.YtamgoknoapcnjaaDoor
