/- An index by what it says: its calls. -/
import Derived.Test.YteeflkkoifgcbabGreatXD
import Derived.Test.YteeflkkoifgcbabGreatGRC
import Derived.Test.YteeflkkoifgcbabGreatG5
namespace Go.Proofs.YteeflkkoifgcbabGreat
open Go Go.RowKit

theorem new_xd (w : World) : Calls Tryz.prog 15 #[] w fun e w' => e = .returned (ptr w.heap.size) ∧ Xd w' w.heap.size [] [w.heap.size] ∧ Below w.heap.size w w' ∧ w'.heap.size = w.heap.size + 1 :=
  (new_any w).mono fun _ _ ⟨h1, h2, h3, h4⟩ => ⟨h1, ⟨[], h2, rfl⟩, h3, h4⟩
section
variable {w : World} {x : Nat} {D : Dat} {F : List Nat} {n : Nat} (H : Xd w x D F) (hB : Bd n D) (hn : n ≤ 1000000)
include H
include hB hn
theorem put_xd (key : ByteArray) (rev : Int) (del : Bool) (hk : key.size ≤ 9223372036854775807) (hrv : -9223372036854775808 ≤ rev ∧ rev ≤ 9223372036854775807) :
    Calls Tryz.prog 42 #[ptr x, .string key, .agg #[.int .i64 rev, .bool del]] w fun e w' => e = .returned (.int .i64 (putE D key rev del)) ∧ ∃ F', Xd w' x (putD D key rev del) F' ∧ Step w w' F F' := by
  obtain ⟨R, h1, rfl⟩ := H
  refine (put_any h1 key rev del hk hrv (by have := hB.len; rw [dat_len] at this; omega) (fun r hr => by have := (hB.ms _ (mem_dat hr)).1; dsimp only at this; omega)).mono ?_
  rintro e w' ⟨rfl, R', F', q1, q2, q3⟩
  exact ⟨rfl, F', ⟨R', q1, q2⟩, q3⟩
theorem marks_xd (key : ByteArray) : Calls Tryz.prog 37 #[ptr x, .string key] w fun e w' => ∃ v, e = .returned v ∧ MarksPost w w' v ((lookD D key).getD []) := by
  obtain ⟨R, h1, rfl⟩ := H
  cases hl : lookD (dat R) key with
  | none =>
    have hno : key ∉ keysR R := fun hm => by
      rw [← dat_keys] at hm
      obtain ⟨p, hp, rfl⟩ := List.mem_map.1 hm
      obtain ⟨A, B, hAB⟩ := List.append_of_mem hp
      have := hB.asc
      rw [hAB] at this hl
      rw [lookD_at (X := A) (Z := B) (key := p.1) (ms := p.2) this] at hl
      cases hl
    refine (marks_no h1 key hno).mono ?_
    rintro e w' ⟨rfl, hb⟩
    exact ⟨_, rfl, ⟨none, 0, rfl, fun g hg => by cases hg⟩, World.ownsRow_nil _ _ _ _, hb⟩
  | some ms => exact marks_yes h1 key ms hl (by have := (hB.ms _ (lookD_mem hl)).1; dsimp only at this; omega)
end
/-- The keys of a range. -/
def keysD (lo hi : ByteArray) (D : Dat) : List ByteArray := (D.map Prod.fst).filter fun k => !klt k lo && inHi hi k
theorem keysD_dat (lo hi : ByteArray) (R : List IM) : keysL lo hi (R.map IM.it) = keysD lo hi (dat R) := by
  unfold keysL keysD filt
  rw [List.filter_filter, dat_keys]
  induction R with
  | nil => rfl
  | cons r R ih =>
    simp only [keysR, List.map_cons, List.filter_cons]
    rw [Bool.and_comm]
    by_cases hq : (!klt r.it.key lo && inHi hi r.it.key) = true
    · rw [if_pos hq, if_pos hq, List.map_cons, ih]
    · rw [if_neg hq, if_neg hq, ih]
theorem keys_xd {w : World} {x : Nat} {D : Dat} {F : List Nat} (H : Xd w x D F) (hD : D.length ≤ 1000000) (lo hi : ByteArray) : Calls Tryz.prog 41 #[ptr x, .string lo, .string hi] w fun e w' => ∃ v, e = .returned v ∧ KeysPost w w' v (keysD lo hi D) := by
  obtain ⟨R, h1, rfl⟩ := H
  have := keys_any h1 lo hi (by rw [dat_len] at hD; exact hD)
  rw [keysD_dat] at this
  exact this
theorem KeysPost.row {w w' : World} {v : Value} {ks : List ByteArray} (h : KeysPost w w' v ks) : Row w' v ks := by
  refine ⟨owns_formB0 h.1, fun j k hj => ?_⟩
  have hl := (List.getElem?_eq_some_iff.1 hj).1
  obtain ⟨g, c, hv, _, _⟩ := owns_formB h.1 (by omega)
  have hc := h.1.cells (g := g) (by rw [hv]; rfl) j (.string k) (by simp [hj])
  simp only [Addr.add_lit, Nat.zero_add] at hc
  exact ⟨g, c, hv, World.block_lt_of_cell? _ _ hc, hc⟩
theorem keysD_asc {lo hi : ByteArray} {D : Dat} (h : Asc (D.map Prod.fst)) : Asc (keysD lo hi D) := asc_sublist List.filter_sublist h
end Go.Proofs.YteeflkkoifgcbabGreat
