/- slices.Sort and slices.Compact of a row of keys. -/
import Derived.Test.YteeflkkoifgcbabGreatIT
import Derived.Test.YteeflkkoifgcbabGreatG40
import Derived.Sort.OwnSorted
namespace Go.Proofs.YteeflkkoifgcbabGreat
open Go Go.RowKit Go.Sort Go.Lib

abbrev toL (k : ByteArray) : List UInt8 := k.data.toList
abbrev ofL (l : List UInt8) : ByteArray := ⟨l.toArray⟩
theorem strs_toL (ss : List ByteArray) : strs ss = (ss.map toL).map encStr := by
  rw [List.map_map]
  exact List.map_congr_left fun k _ => rfl
theorem strs_ofL (ts : List (List UInt8)) : ts.map encStr = strs (ts.map ofL) := by
  show _ = (ts.map ofL).map Value.string
  rw [List.map_map]
  exact List.map_congr_left fun k _ => rfl
theorem mem_ofL {ts : List (List UInt8)} {ss : List ByteArray} (h : ∀ x, x ∈ ts ↔ x ∈ ss.map toL) (k : ByteArray) : k ∈ ts.map ofL ↔ k ∈ ss := by
  rw [List.mem_map]
  constructor
  · rintro ⟨x, hx, rfl⟩
    obtain ⟨j, hj, e⟩ := List.mem_map.1 ((h x).1 hx)
    have : ofL x = j := by rw [← e]
    rw [this]; exact hj
  · intro hk
    exact ⟨toL k, (h _).2 (List.mem_map.2 ⟨k, hk, rfl⟩), rfl⟩
theorem mem_upTo (d : Array (List UInt8)) : ∀ (m i : Nat), i < m → d[i]! ∈ compactUpTo d m
  | 0, _, h => by omega
  | m + 1, i, h => by
    rw [compactUpTo_succ, List.mem_append]
    rcases Nat.lt_or_ge i m with hi | hi
    · exact .inl (mem_upTo d m i hi)
    · obtain rfl : i = m := by omega
      by_cases hk : keeps d i = true
      · exact .inr (by simp [hk])
      · have h1 : i ≠ 0 ∧ d[i]! = d[i - 1]! := by
          unfold keeps at hk
          simpa using hk
        rw [h1.2]
        exact .inl (mem_upTo d i (i - 1) (by omega))
theorem mem_comp (zs : List (List UInt8)) (x : List UInt8) : x ∈ Lib.compact zs ↔ x ∈ zs := by
  constructor
  · intro h
    unfold Lib.compact Lib.compactUpTo at h
    obtain ⟨i, hi, rfl⟩ := List.mem_map.1 h
    have hi' : i < zs.length := List.mem_range.1 (List.mem_filter.1 hi).1
    simp [getElem!_pos, hi']
  · intro h
    obtain ⟨i, hi, rfl⟩ := List.getElem_of_mem h
    have := mem_upTo zs.toArray zs.length i hi
    simpa [getElem!_pos, hi, Lib.compact] using this
theorem comp_le (zs : List (List UInt8)) : (Lib.compact zs).length ≤ zs.length := by
  unfold Lib.compact Lib.compactUpTo
  rw [List.length_map]
  exact Nat.le_trans (List.length_filter_le _ _) (by simp)
/-- slices.Sort of a row of keys. -/
theorem sort_row (w : World) (base : Nat) (p : Option Addr) (c : Nat) (ss : List ByteArray) (h : w.ownsRow base 9 1 (.slice p ss.length c) ss.length (strs ss)) (hl : ss.length ≤ 1000000) :
    Calls Tryz.prog 23 #[.slice p ss.length c] w fun e w' => e = .returned (.tuple #[]) ∧ ∃ ss', ss'.length = ss.length ∧ (∀ k, k ∈ ss' ↔ k ∈ ss) ∧ w'.ownsRow base 9 1 (.slice p ss.length c) ss.length (strs ss') ∧ Upd w w' (fun k => some k = (Value.slice p ss.length c).ownBlock) := by
  rcases h.2 with ⟨e, e2⟩ | ⟨g, cap, cur, e, hbase, hb, h1, h2, h3, h4⟩
  · have : ss = [] := List.eq_nil_of_length_eq_zero e2
    subst this
    refine (Tryz.slices_Sort_string_none p c w).mono ?_
    rintro e w' ⟨rfl, rfl⟩
    exact ⟨rfl, [], rfl, fun _ => Iff.rfl, by simpa using h, Upd.refl _ _⟩
  · cases e
    have e0 : (ss.map toL).length = ss.length := List.length_map _
    have := Tryz.slices_Sort_string g 0 c (ss.map toL) w (holds_of_block hb (by rw [e0, ← strs_toL]; simpa using h4)) (Array.getElem?_eq_some_iff.1 hb).1 (by rw [e0]; omega)
    rw [e0] at this
    refine this.mono ?_
    rintro e w' ⟨rfl, n, os, rfl⟩
    refine ⟨rfl, ((ss.map toL).mergeSort fun x y => decide (x ≤ y)).map ofL, by simp, mem_ofL (fun x => (List.mergeSort_perm _ _).mem_iff), ?_, (Upd.ofGrown (grownBy_sorted _)).mono (fun k _ e => e)⟩
    rw [← strs_ofL]
    have := ownsRow_sorted (w := w) (n := n) (os := os) (ss := ss.map toL) (ts := (ss.map toL).mergeSort fun x y => decide (x ≤ y)) (by simp) hbase hb (by rw [e0]; exact h1) h2 (by simpa using h3)
    rw [e0] at this
    exact this
/-- slices.Compact of a row of keys. -/
theorem comp_row (w : World) (base : Nat) (p : Option Addr) (c : Nat) (ss : List ByteArray) (h : w.ownsRow base 9 1 (.slice p ss.length c) ss.length (strs ss)) (hl : ss.length ≤ 1000000) :
    Calls Tryz.prog 24 #[.slice p ss.length c] w fun e w' => ∃ K : List ByteArray, K.length ≤ ss.length ∧ (∀ k, k ∈ K ↔ k ∈ ss) ∧ e = .returned (.slice p K.length c) ∧ (∀ j k, K[j]? = some k → ∃ g, p = some ⟨g, 0, none⟩ ∧ base ≤ g ∧ w'.cell? ⟨g, j, none⟩ = some (.string k)) ∧ Upd w w' (fun k => some k = (Value.slice p ss.length c).ownBlock) := by
  rcases h.2 with ⟨e, e2⟩ | ⟨g, cap, cur, e, hbase, hb, h1, h2, h3, h4⟩
  · have : ss = [] := List.eq_nil_of_length_eq_zero e2
    subst this
    refine (Tryz.slices_Compact_string_empty p c w).mono ?_
    rintro e w' ⟨rfl, rfl⟩
    exact ⟨[], Nat.le_refl _, fun _ => Iff.rfl, rfl, fun j k hj => by simp at hj, Upd.refl _ _⟩
  · cases e
    have e0 : (ss.map toL).length = ss.length := List.length_map _
    have hcl := comp_le (ss.map toL)
    rw [e0] at hcl
    have := Tryz.slices_Compact_string g 0 c (ss.map toL) w (holds_of_block hb (by rw [e0, ← strs_toL]; simpa using h4)) (by rw [e0]; omega) (by rw [e0]; exact h1)
    rw [e0] at this
    refine this.mono ?_
    rintro e w' ⟨rfl, q, rfl⟩
    have hgr : ∀ V : World, V = grow V #[] := fun V => by simp [grow]
    refine ⟨(Lib.compact (ss.map toL)).map ofL, by rw [List.length_map]; exact hcl, mem_ofL (mem_comp _), by rw [List.length_map], ?_, ?_⟩
    · intro j k hj
      refine ⟨g, rfl, hbase, ?_⟩
      have hown := ownsRow_sorted (w := w) (n := q) (os := #[]) (ss := ss.map toL) (ts := Lib.compact (ss.map toL) ++ List.replicate (ss.length - (Lib.compact (ss.map toL)).length) []) (by simp; omega) hbase hb (by rw [e0]; exact h1) h2 (by simpa using h3)
      rw [← hgr] at hown
      have hc := hown.cells (g := g) rfl j (.string k) (by
        have hlt := (List.getElem?_eq_some_iff.1 hj).1
        rw [List.length_map] at hlt
        rw [List.map_append, List.getElem?_append_left (by rw [List.length_map]; exact hlt), strs_ofL, List.getElem?_map, hj]
        rfl)
      simpa only [Addr.add_lit, Nat.zero_add] using hc
    · rw [hgr (putRow _ _ _ _ _)]
      exact (Upd.ofGrown (grownBy_sorted _)).mono (fun k _ e => e)
end Go.Proofs.YteeflkkoifgcbabGreat
