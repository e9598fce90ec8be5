/- The chapter's examples, as the statements ask them first: they hold. -/
import Derived.Test.YtjcdjignfjkgaaaDoorText
import Derived.Lib.SlBytesConst
namespace Go.Proofs.YtjcdjignfjkgaaaDoor
open Go Go.RowKit
theorem conv_sees {w : World} {v : Value} {zs : List Int} (h : Sees w v zs) : (convert 27 9 v).run Tryd.prog w = .ok (.string (strOfNums zs)) w := by
  rcases h with ⟨rfl, ao, cap, rfl, _, _⟩ | ⟨b, off, cap, rfl, _, _, _, hc⟩
  · cases ao with
    | none => exact run_convert_bytes_nil w 27 5 Tryd.underlying27 Tryd.underlying5 0 cap 9 Tryd.underlying9
    | some a =>
      have hl : (loadCells a 0).run Tryd.prog w = .ok (([] : List Int).map (Value.int .u8)).toArray w := by
        exact run_loadCells_list (P := Tryd.prog) w a [] (fun j v hj => by simp at hj)
      rw [run_convert_bytes_string w 27 9 5 _ 0 cap Tryd.underlying27 Tryd.underlying5 Tryd.underlying9, run_bytesToString w _ 0 cap [] hl, foldl_push_bytes]
      rfl
  · exact run_convert_bytes_arg w 27 5 Tryd.underlying27 Tryd.underlying5 b off _ cap zs rfl hc 9 Tryd.underlying9

theorem sees_new (w : World) (zs : List Int) (fr : Nat × Nat) (h0 : 0 < zs.length) (hl : zs.length ≤ maxLen) : Sees (w.alloc (.cells (u8s zs).toArray 5 fr)) (.slice (some ⟨w.heap.size, 0, none⟩) zs.length zs.length) zs := by
  refine .inr ⟨w.heap.size, 0, zs.length, rfl, h0, Nat.le_refl _, hl, fun i hi => ?_⟩
  rw [cell_of_row _ _ _ _ _ _ (heap_alloc_new w _)]
  simp [u8s, List.getD_eq_getElem?_getD, List.getElem?_eq_getElem hi]
theorem owns_cells {B : Nat} {w : World} {g cap : Nat} {xs : List Int} (h : w.ownsRow B 5 1 (.slice (some ⟨g, 0, none⟩) xs.length cap) xs.length (u8s xs)) (i : Nat) (hi : i < xs.length) : w.cell? ⟨g, i, none⟩ = some (.int .u8 (xs.getD i 0)) := by
  rw [h.cellAt i (by omega)]
  simp [u8s, List.getD_eq_getElem?_getD, List.getElem?_eq_getElem hi]
theorem text_ab : [] ++ (List.drop 4 (be (IntKind.u64.wrap ((⟨#[97, 98]⟩ : ByteArray).size : Nat))) ++ strB ⟨#[97, 98]⟩) = [0, 0, 0, 2, 97, 98] := by decide
theorem isB_known : isB [49, 50, 51, 52, 53, 54, 55, 56, 57] := by intro x hx; simp at hx; omega
set_option maxHeartbeats 1000000 in
theorem known_any (w : World) (hT : HasTab w) :
    Calls Tryd.prog 9 #[] w fun e w' => e = .returned (.bool true) ∧ Below w.heap.size w w' := by
  have hw0 : Wr w.heap.size (w.alloc (.cells #[.slice none 0 0] 58)) w.heap.size (.slice none 0 0) [] :=
    ⟨by simp, by simp, World.ownsRow_nil _ _ _ _, (fun e => by cases e), Nat.le_refl _⟩
  have hcv := fun (w : World) (C : Array Value) (n c : Nat) => Lib.run_convert_bytes_const (P := Tryd.prog) w 27 5 C n c Tryd.underlying27 Tryd.underlying5
  go_enter Tryd.func9, Tryd.ntmps9
  go_wp2_with (go_at_call 11; refine (wNew _).mono ?_; rintro e w1 ⟨rfl, rfl⟩)
  refine (wText _ _ _ _ _ _ hw0 (by simp) (by decide) (by simp)).mono ?_
  rintro e w2 ⟨rfl, v1, hw1, hu1, ho1⟩
  have hb1 : Below w.heap.size w w2 := ((Below.refl _ _).alloc (Nat.le_refl _) _).trans (hu1.belowWr hw0 (by simp))
  rw [text_ab] at hw1
  clear hu1 ho1 hw0
  have hsee : Sees (w2.alloc (.cells #[.int .u8 49, .int .u8 50, .int .u8 51, .int .u8 52, .int .u8 53, .int .u8 54, .int .u8 55, .int .u8 56, .int .u8 57] 5 (9, 10))) (.slice (some ⟨w2.heap.size, 0, none⟩) 9 9) [49, 50, 51, 52, 53, 54, 55, 56, 57] := by
    exact sees_new w2 [49, 50, 51, 52, 53, 54, 55, 56, 57] (9, 10) (by decide) (by decide)
  have hb2 := hb1.alloc hb1.size (.cells #[.int .u8 49, .int .u8 50, .int .u8 51, .int .u8 52, .int .u8 53, .int .u8 54, .int .u8 55, .int .u8 56, .int .u8 57] 5 (9, 10))
  go_wp2_with (go_at_call 34; refine (frame_any _ _ _ (hT.below hb2) isB_known (by decide) hsee).mono ?_; rintro e w3 ⟨v2, rfl, ho2, hb3⟩)
  rw [frame_known] at ho2
  have hz2 : w2.heap.size < w3.heap.size := by have := hb3.size; simp at this; omega
  have hb4 : Below w2.heap.size w2 w3 := ((Below.refl _ _).alloc (Nat.le_refl _) _).trans (hb3.mono (by simp))
  have hw3 := hw1.below hb4
  refine (wDone _ _ _ _ _ hw3 (by decide)).mono ?_
  rintro e w4 ⟨v3, rfl, ho3, hb5⟩
  have hc3 := conv_sees (sees_own ho3)
  have ho4 : w4.ownsRow _ 5 1 v2 _ _ := ownsRow_upd ho2 (Upd.ofBelow (S := fun _ => False) hb5) (fun _ _ h => h)
  clear hsee hb2 hw1 hw3 ho3
  obtain ⟨g, cap, rfl, _, hglt⟩ := ho4.form (by decide)
  have hcap : 17 ≤ cap := by
    rcases ho4.2 with ⟨e, _⟩ | ⟨g', c', cur, e, _, _, hc, _⟩
    · cases e
    · cases e; exact hc
  have hs1 : (strOfNums [0, 0, 0, 2, 97, 98]).toList = [0, 0, 0, 2, 97, 98] := by rw [ByteArray.toList_eq]; rfl
  have hs2 : (strOfNums [203, 244, 57, 38]).toList = [203, 244, 57, 38] := by rw [ByteArray.toList_eq]; rfl
  have hc4 : ∀ c, (convert 27 9 (.slice (some ⟨g, 4, none⟩) 4 c)).run Tryd.prog w4 = .ok (.string (strOfNums [203, 244, 57, 38])) w4 := fun c =>
    run_convert_bytes_arg w4 27 5 Tryd.underlying27 Tryd.underlying5 g 4 4 c [203, 244, 57, 38] rfl (fun i hi => by
      have := owns_cells ho4 (4 + i) (by simp; omega)
      rw [this]
      match i, hi with
      | 0, _ | 1, _ | 2, _ | 3, _ => rfl) 9 Tryd.underlying9
  have HB : Hid (Below w.heap.size w w4) := (hb1.trans (hb4.mono hb1.size)).trans (hb5.mono (by have := hb1.size; omega))
  clear ho4 ho2 hb1 hb3 hb4 hb5 hcv
  go_wp2
  go_ret
  exact ⟨rfl, HB.out⟩
end Go.Proofs.YtjcdjignfjkgaaaDoor
