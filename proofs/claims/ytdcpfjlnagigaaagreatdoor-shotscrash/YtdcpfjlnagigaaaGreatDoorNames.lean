/- The names of all files, rising: names, List. -/
import Derived.Test.YtdcpfjlnagigaaaGreatDoorRename
import Derived.Test.YtdcpfjlnagigaaaGreatDoorIter
namespace Go.Proofs.YtdcpfjlnagigaaaGreatDoor
open Go Go.RowKit
theorem before_lt : ∀ {a b : List UInt8}, bytesBefore a b = true ↔ a < b
  | [], [] => by simp [bytesBefore]
  | [], _ :: _ => by simp [bytesBefore]
  | _ :: _, [] => by simp [bytesBefore]
  | a :: r, b :: s => by
    simp only [bytesBefore, Bool.or_eq_true, Bool.and_eq_true, decide_eq_true_eq, beq_iff_eq, List.cons_lt_cons_iff]
    rw [before_lt]
theorem names_sorted {fs : List Fl} (h : upK Fl.nm fs) : (fs.map Fl.nm).mergeSort leB = fs.map Fl.nm := by
  refine List.mergeSort_of_pairwise (List.pairwise_map.2 (h.imp (fun {a b} e => ?_)))
  have := before_lt.1 e
  simp only [leB, decide_eq_true_eq]
  exact List.le_of_lt this
theorem names_keys (fs : List Fl) : strKeys (.map (fs.map ent) : DataW Unit) = fs.map Fl.nm := by
  show (fs.map ent).map _ = _
  rw [List.map_map]
  rfl
abbrev strs (l : List (List UInt8)) : List Value := l.map encStr
set_option maxHeartbeats 1000000 in
theorem names_any (B d : Nat) (g : Gu) (p : PS) (w : World) (hd : Dk B w d g p) (hl : p.fs.length < 1000000) :
    Calls Tryz.prog 48 #[ptr d] w fun e w' => ∃ v, e = .returned v ∧ w'.ownsRow w.heap.size 9 1 v p.fs.length (strs (p.fs.map PF.name)) ∧ Below w.heap.size w w' := by
  have hnm : p.fs.map PF.name = g.fs.map Fl.nm := by rw [hd.view, List.map_map]; rfl
  have hlen : p.fs.length = g.fs.length := by rw [hd.view, List.length_map]
  have c0 := hd.cells.c0
  rw [hnm, hlen]
  rw [hlen] at hl
  refine (callsIn_wide (n := 6)).1 ?_
  have hfK : Fence.wide.fn 85 := trivial
  have hfS : Fence.wide.fn 84 := trivial
  rcases hd.rest.map with ⟨hm, hfs⟩ | ⟨b, hm, _, _, hown⟩
  · rw [hm] at c0
    rw [hfs]
    clear hd
    refine callsIn_of_wp Tryz.func48 rfl trivial ?_ rfl
    simp only [Tryz.ntmps48, List.size_toArray, List.length_cons, List.length_nil, Nat.reduceAdd, Nat.reduceSub, Array.replicate_succ, Array.replicate_zero, List.push_toArray, List.append_toArray, List.nil_append, List.cons_append]
    gi_wp2_with (first
      | (gi_at_call 85; refine (Tryz.maps_Keys_50 _ _).mono ?_; rintro e w' ⟨rfl, rfl⟩)
      | (gi_at_call 84; refine (Tryz.slices_Sorted_keys_nil_49_50 w).mono ?_; rintro e w' ⟨v, ss, rfl, rfl, hrow, hnil, hb⟩))
    go_ret
    have hv : v = .slice none 0 0 := by simpa using hnil
    subst hv
    exact ⟨_, rfl, World.ownsRow_nil _ _ _ _, ((Below.refl _ w).alloc (Nat.le_refl _) _).trans (hb.mono (by simp))⟩
  · rw [hm] at c0
    have hup := hd.rest.up
    have hsize : Maps.size (.map (g.fs.map ent) : DataW Unit) = g.fs.length := by rw [Maps.size_eq, List.length_map]
    clear hd
    refine callsIn_of_wp Tryz.func48 rfl trivial ?_ rfl
    simp only [Tryz.ntmps48, List.size_toArray, List.length_cons, List.length_nil, Nat.reduceAdd, Nat.reduceSub, Array.replicate_succ, Array.replicate_zero, List.push_toArray, List.append_toArray, List.nil_append, List.cons_append]
    gi_wp2_with (first
      | (gi_at_call 85; refine (Tryz.maps_Keys_50 _ _).mono ?_; rintro e w' ⟨rfl, rfl⟩)
      | (gi_at_call 84; refine (Tryz.slices_Sorted_keys_49_50 b _ _ Rf w hown (by rw [hsize]; unfold maxLen; omega) (by rw [hsize]; omega)).mono ?_; rintro e w' ⟨v, ss, rfl, hS, hrow, hnil, hb⟩))
    go_ret
    rw [names_keys] at hS
    have hms : ss.mergeSort leB = g.fs.map Fl.nm := (mergeSort_of_perm hS).trans (names_sorted hup)
    have hsl : ss.length = g.fs.length := by rw [hS.length_eq, List.length_map]
    have hrow : w'.ownsRow _ 9 1 v ss.length ((ss.mergeSort leB).map encStr) := hrow
    rw [hms, hsl] at hrow
    exact ⟨v, rfl, own_lower hrow (by simp), ((Below.refl _ w).alloc (Nat.le_refl _) _).trans (hb.mono (by simp))⟩
def listE (p : PS) : Int := if p.dead then 13 else 0
def listB (p : PS) : List (List UInt8) := if p.dead then [] else p.fs.map PF.name
set_option maxHeartbeats 1000000 in
theorem list_any (B d : Nat) (g : Gu) (p : PS) (w : World) (hd : Dk B w d g p) (hl : p.fs.length < 1000000) :
    Calls Tryz.prog 27 #[ptr d] w fun e w' => ∃ v, e = .returned (.tuple #[v, .int .i64 (listE p)]) ∧ w'.ownsRow w.heap.size 9 1 v (listB p).length (strs (listB p)) ∧ Below w.heap.size w w' := by
  have c5 := hd.cells.c5
  have hnames := names_any B d g p w hd hl
  clear hd
  cases hdd : p.dead with
  | true =>
    have h1 : listE p = 13 := by unfold listE; rw [if_pos hdd]
    have h2 : listB p = [] := by unfold listB; rw [if_pos hdd]
    rw [h1, h2]
    rw [hdd] at c5
    go_enter Tryz.func27, Tryz.ntmps27
    go_wp2
    go_ret2
    exact ⟨_, rfl, World.ownsRow_nil _ _ _ _, Below.refl _ _⟩
  | false =>
    have h1 : listE p = 0 := by unfold listE; rw [hdd]; rfl
    have h2 : listB p = p.fs.map PF.name := by unfold listB; rw [hdd]; rfl
    rw [h1, h2, List.length_map]
    rw [hdd] at c5
    go_enter Tryz.func27, Tryz.ntmps27
    go_wp2_with (go_at_call 48; refine hnames.mono ?_; rintro e w1 ⟨v, rfl, ho, hb⟩)
    go_ret2
    exact ⟨v, rfl, ho, hb⟩
end Go.Proofs.YtdcpfjlnagigaaaGreatDoor
