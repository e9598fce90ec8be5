/- How a snapshot's box, and its data, are laid, in whatever order. -/
import Derived.Test.YtdcpfjlnagigaaaGreatDoorSR2
namespace Go.Proofs.YtdcpfjlnagigaaaGreatDoor
open Go Go.RowKit
abbrev zeroB : Obj := .cells #[.int .i64 0, .int .i64 0, .slice none 0 0, .slice none 0 0] 81
abbrev dataO (d : List Int) (C : Nat) : Obj := .cells (bytesRow (strOfNums d) C) 5 ((bytesRow (strOfNums d) C).size, (bytesRow (strOfNums d) C).size + 1)
theorem data_sees {d : List Int} (hd : isB d) (u : World) (C : Nat) (h1 : d.length ≤ C) (h2 : C ≤ maxLen) : Sees (u.alloc (dataO d C)) (.slice (some ⟨u.heap.size, 0, none⟩) d.length C) d := by
  have hz : (strOfNums d).size = d.length := strOfNums_size d
  by_cases h0 : d.length = 0
  · exact .inl ⟨List.eq_nil_of_length_eq_zero h0, _, _, congrArg (fun n => Value.slice _ n _) h0, (fun e => by cases e), h2⟩
  · refine .inr ⟨u.heap.size, 0, _, rfl, by omega, h1, h2, fun i hi => ?_⟩
    rw [Nat.zero_add]
    refine (cell_of_row _ _ _ _ _ _ (heap_alloc_new u _)).trans ?_
    have hdi := hd d[i] (List.getElem_mem hi)
    unfold bytesRow
    rw [Array.getElem?_append_left (by simp only [Array.size_map]; show i < (strOfNums d).size; omega), Array.getElem?_map]
    simp only [strOfNums, List.getElem?_toArray, List.getElem?_map, List.getElem?_eq_getElem hi, Option.map_some, List.getD_eq_getElem?_getD, Option.getD_some, UInt8.toNat_ofNat', Option.some.injEq, Value.int.injEq, true_and]
    omega
/-- What is known when the snapshot lies in its box. -/
structure Laid81 (B z b X : Nat) (w W : World) (v3 : Value) (bd : List Int) (i t : Int) (vv dv : Value) (vs d : List Int) : Prop where
  rre : Re B W b v3 bd bd.length 0
  rz : W.heap[z]? = some zeroB
  rx : W.heap[X]? = some (.cells #[.int .i64 i, .int .i64 t, vv, dv] 81)
  svs : SeesI W vv vs
  sd : Sees W dv d
  below : Below z w W
  ne : X ≠ z
theorem laid1 {B z b : Nat} {w w8 : World} {v3 vv : Value} {bd vs d : List Int} {i t : Int} (hre : Re B w8 b v3 bd bd.length 0) (hz : w8.heap[z]? = some zeroB) (hv : SeesI w8 vv vs) (hb : Below z w w8) (hd : isB d) (hl : d.length ≤ 1000000) :
    Laid81 B z b (w8.heap.size + 1) w ((w8.alloc (dataO d (grownCap w8 d.length 0 5))).alloc (.cells #[.int .i64 i, .int .i64 t, vv, .slice (some ⟨w8.heap.size, 0, none⟩) d.length (grownCap w8 d.length 0 5)] 81)).drew v3 bd i t vv (.slice (some ⟨w8.heap.size, 0, none⟩) d.length (grownCap w8 d.length 0 5)) vs d := by
  have hzl : z < w8.heap.size := (Array.getElem?_eq_some_iff.1 hz).1
  have hB : Below w8.heap.size w8 ((w8.alloc (dataO d (grownCap w8 d.length 0 5))).alloc (.cells #[.int .i64 i, .int .i64 t, vv, .slice (some ⟨w8.heap.size, 0, none⟩) d.length (grownCap w8 d.length 0 5)] 81)).drew := (((Below.refl _ w8).alloc (Nat.le_refl _) _).alloc (by simp) _).drew
  have hU : Upd w8 _ (fun _ => False) := Upd.ofBelow hB
  have hx := heap_alloc_new (w8.alloc (dataO d (grownCap w8 d.length 0 5))) (.cells #[.int .i64 i, .int .i64 t, vv, .slice (some ⟨w8.heap.size, 0, none⟩) d.length (grownCap w8 d.length 0 5)] 81)
  rw [World.size_alloc] at hx
  have hds := data_sees hd w8 (grownCap w8 d.length 0 5) (grownCap_ge w8 d.length 0 5) (grownCap_le_maxLen w8 d.length 0 5 (by unfold maxLen; omega))
  exact ⟨hre.upd hU id (fun _ _ => id), (hB.block z hzl).trans hz, hx, hv.upd hU (fun _ _ _ => id), hds.below (((Below.refl _ _).alloc (Nat.le_refl _) _).drew), hb.trans (hB.mono (Nat.le_of_lt hzl)), by omega⟩
theorem laid2 {B z b : Nat} {w w8 : World} {v3 vv : Value} {bd vs d : List Int} {i t : Int} (hre : Re B w8 b v3 bd bd.length 0) (hz : w8.heap[z]? = some zeroB) (hv : SeesI w8 vv vs) (hb : Below z w w8) (hd : isB d) (hl : d.length ≤ 1000000) :
    Laid81 B z b w8.heap.size w ((w8.alloc (.cells #[.int .i64 i, .int .i64 t, vv, .slice (some ⟨w8.heap.size + 1, 0, none⟩) d.length (grownCap (w8.alloc zeroB) d.length 0 5)] 81)).alloc (dataO d (grownCap (w8.alloc zeroB) d.length 0 5))).drew v3 bd i t vv (.slice (some ⟨w8.heap.size + 1, 0, none⟩) d.length (grownCap (w8.alloc zeroB) d.length 0 5)) vs d := by
  have hzl : z < w8.heap.size := (Array.getElem?_eq_some_iff.1 hz).1
  generalize hC : grownCap (w8.alloc zeroB) d.length 0 5 = C
  have hC1 : d.length ≤ C := by rw [← hC]; exact grownCap_ge _ d.length 0 5
  have hC2 : C ≤ maxLen := by rw [← hC]; exact grownCap_le_maxLen _ d.length 0 5 (by unfold maxLen; omega)
  have hB : Below w8.heap.size w8 ((w8.alloc (.cells #[.int .i64 i, .int .i64 t, vv, .slice (some ⟨w8.heap.size + 1, 0, none⟩) d.length C] 81)).alloc (dataO d C)).drew := (((Below.refl _ w8).alloc (Nat.le_refl _) _).alloc (by simp) _).drew
  have hU : Upd w8 _ (fun _ => False) := Upd.ofBelow hB
  have hds := data_sees hd (w8.alloc (.cells #[.int .i64 i, .int .i64 t, vv, .slice (some ⟨w8.heap.size + 1, 0, none⟩) d.length C] 81)) C hC1 hC2
  rw [World.size_alloc] at hds
  have hx : ((w8.alloc (.cells #[.int .i64 i, .int .i64 t, vv, .slice (some ⟨w8.heap.size + 1, 0, none⟩) d.length C] 81)).alloc (dataO d C)).drew.heap[w8.heap.size]? = _ := (heap_alloc_old (w8.alloc _) (dataO d C) (by simp)).trans (heap_alloc_new w8 _)
  exact ⟨hre.upd hU id (fun _ _ => id), (hB.block z hzl).trans hz, hx, hv.upd hU (fun _ _ _ => id), hds.below (Below.refl _ _).drew, hb.trans (hB.mono (Nat.le_of_lt hzl)), by omega⟩
theorem laid3 {B z b x : Nat} {w w8 : World} {v3 vv : Value} {bd vs d : List Int} {i t : Int} (hre : Re B w8 b v3 bd bd.length 0) (hz : w8.heap[z]? = some zeroB) (hx : w8.heap[x]? = some zeroB) (hv : SeesI w8 vv vs) (hb : Below z w w8) (hd : isB d) (hl : d.length ≤ 1000000)
    (hxz : z < x) (hxb : x ≠ b) (h3 : v3.ownBlock ≠ some x) (hvx : vv.ownBlock ≠ some x) :
    Laid81 B z b x w ((put4 w8 x (.int .i64 i) (.int .i64 t) vv (.slice (some ⟨w8.heap.size, 0, none⟩) d.length (grownCap w8 d.length 0 5))).alloc (dataO d (grownCap w8 d.length 0 5))).drew v3 bd i t vv (.slice (some ⟨w8.heap.size, 0, none⟩) d.length (grownCap w8 d.length 0 5)) vs d := by
  have hzl : z < w8.heap.size := (Array.getElem?_eq_some_iff.1 hz).1
  have hxl : x < w8.heap.size := (Array.getElem?_eq_some_iff.1 hx).1
  generalize hC : grownCap w8 d.length 0 5 = C
  have hC1 : d.length ≤ C := by rw [← hC]; exact grownCap_ge _ d.length 0 5
  have hC2 : C ≤ maxLen := by rw [← hC]; exact grownCap_le_maxLen _ d.length 0 5 (by unfold maxLen; omega)
  have hup := put4_upd w8 x (.int .i64 i) (.int .i64 t) vv (.slice (some ⟨w8.heap.size, 0, none⟩) d.length C)
  have hpr := put4_row hx (.int .i64 i) (.int .i64 t) vv (.slice (some ⟨w8.heap.size, 0, none⟩) d.length C)
  have hsz : (put4 w8 x (.int .i64 i) (.int .i64 t) vv (.slice (some ⟨w8.heap.size, 0, none⟩) d.length C)).heap.size = w8.heap.size := by simp [put4]
  generalize hP : put4 w8 x (.int .i64 i) (.int .i64 t) vv (.slice (some ⟨w8.heap.size, 0, none⟩) d.length C) = P at *
  have hB : Below P.heap.size P (P.alloc (dataO d C)).drew := ((Below.refl _ P).alloc (Nat.le_refl _) _).drew
  have hU : Upd w8 (P.alloc (dataO d C)).drew (fun j => j = x) := hup.trans (Upd.ofBelow hB) (fun _ _ h => h)
  have hds := data_sees hd P C hC1 hC2
  rw [hsz] at hds
  refine ⟨hre.upd hU (fun e => hxb e.symm) (fun k hk e => h3 (e ▸ hk)), (hU.block z hzl (by omega)).trans hz, (hB.block x (by omega)).trans hpr, hv.upd hU (fun k hk _ e => hvx (e ▸ hk)), hds.below (Below.refl _ _).drew, hb.trans (hU.below (Nat.le_of_lt hzl) (fun k hk e => by omega)), by omega⟩
end Go.Proofs.YtdcpfjlnagigaaaGreatDoor
