/- Put: its walk. -/
import Derived.Test.YteeflkkoifgcbaaE67
import Derived.Test.YteeflkkoifgcbaaE0
namespace Go.Proofs.Yteeflkkoifgcbaa
open Go Go.RowKit

def PutPost (w w' : World) (x : Nat) (R : List IM) (F : List Nat) (key : ByteArray) (rev : Int) (del : Bool) : Prop :=
  ∃ R' F', Ix w' x R' F' ∧ dat R' = putD (dat R) key rev del ∧ Step w w' F F'
theorem PutPost.same {w w' : World} {x : Nat} {R : List IM} {F : List Nat} {key : ByteArray} {rev : Int} {del : Bool} (H : Ix w x R F) (hb : Below w.heap.size w w') (he : putE (dat R) key rev del ≠ 0) : PutPost w w' x R F key rev del :=
  ⟨R, F, H.below hb, by simp [putD, he], Step.below hb H.nd H.lt⟩
theorem lookR_none {R : List IM} {key : ByteArray} (h : key ∉ keysR R) : lookD (dat R) key = none := lookD_none (by rw [dat_keys]; exact h)
theorem At.look {w : World} {x : Nat} {R : List IM} {F : List Nat} {key : ByteArray} {g i mg c : Nat} {X Z : List IM} {ms : List Mk} (h : At w x R F key g i mg c X Z ms) (ha : Asc (keysR R)) : lookD (dat R) key = some ms := by
  rw [h.parts] at ha ⊢
  have : dat (X ++ ⟨⟨key, .slice (some ⟨mg, 0, none⟩) ms.length c⟩, ms⟩ :: Z) = dat X ++ (key, ms) :: dat Z := by simp [dat]
  rw [this]
  refine lookD_at ?_
  rw [← dat_keys, this] at ha
  exact ha
theorem At.set {w : World} {x : Nat} {R : List IM} {F : List Nat} {key : ByteArray} {g i mg c : Nat} {X Z : List IM} {ms : List Mk} (h : At w x R F key g i mg c X Z ms) (ha : Asc (keysR R)) (v' : Value) (ms' : List Mk) : dat (X ++ ⟨⟨key, v'⟩, ms'⟩ :: Z) = setD (dat R) key ms' := by
  rw [h.parts] at ha ⊢
  have : dat (X ++ ⟨⟨key, .slice (some ⟨mg, 0, none⟩) ms.length c⟩, ms⟩ :: Z) = dat X ++ (key, ms) :: dat Z := by simp [dat]
  rw [this, setD_at (by rw [← dat_keys, this] at ha; exact ha)]
  simp [dat]
theorem At.in {w : World} {x : Nat} {R : List IM} {F : List Nat} {key : ByteArray} {g i mg c : Nat} {X Z : List IM} {ms : List Mk} (h : At w x R F key g i mg c X Z ms) : key ∈ keysR R := by rw [h.parts]; simp [keysR]
/-- find where the key is not there. -/
theorem find_no {w : World} {x : Nat} {R : List IM} {F : List Nat} (H : Ix w x R F) {key : ByteArray} (hk : key ∉ keysR R) {rp : Option Addr} (hrp : w.cell? ⟨x, 0, none⟩ = some (.pointer rp)) :
    Calls Try.prog 46 #[.pointer rp, .string key] w fun e w' => e = .returned (.pointer none) ∧ Below w.heap.size w w' := by
  refine (find_ix H key hrp w (Below.refl _ _)).mono ?_
  rintro e w' ⟨hb, ⟨rfl, _⟩ | ⟨g, i, mg, c, X, Z, ms, rfl, hA, _⟩⟩
  · exact ⟨rfl, hb⟩
  · exact absurd hA.in hk
/-- find where it is. -/
theorem find_yes {w : World} {x : Nat} {R : List IM} {F : List Nat} (H : Ix w x R F) {key : ByteArray} {ms : List Mk} (hk : lookD (dat R) key = some ms) {rp : Option Addr} (hrp : w.cell? ⟨x, 0, none⟩ = some (.pointer rp)) :
    Calls Try.prog 46 #[.pointer rp, .string key] w fun e w' => ∃ g i mg c X Z, e = .returned (.pointer (some ⟨g, i * 2, none⟩)) ∧ Below w.heap.size w w' ∧ Hid (At w x R F key g i mg c X Z ms) ∧ Hid (Mks w (.slice (some ⟨mg, 0, none⟩) ms.length c) ms) ∧ 0 < ms.length ∧ w'.cell? ⟨g, i * 2 + 1, none⟩ = some (.slice (some ⟨mg, 0, none⟩) ms.length c) := by
  refine (find_ix H key hrp w (Below.refl _ _)).mono ?_
  rintro e w' ⟨hb, ⟨rfl, hno⟩ | ⟨g, i, mg, c, X, Z, ms', rfl, hA, hM, hp⟩⟩
  · rw [lookR_none hno] at hk; cases hk
  · have := hA.look H.asc
    rw [hk] at this
    cases this
    exact ⟨g, i, mg, c, X, Z, rfl, hb, hA, hM, hp, (hb.cell (p := ⟨g, i * 2 + 1, none⟩) (World.block_lt_of_cell? _ _ hA.mv)).trans hA.mv⟩
theorem lastM_get {ms : List Mk} (h : 0 < ms.length) : ms[ms.length - 1]? = some (lastM ms) := by
  unfold lastM
  rw [← List.getLast?_eq_getElem?]
  cases ms with
  | nil => simp at h
  | cons a l => simp [List.getLast?_eq_some_getLast, List.getLastD]
theorem look_or (R : List IM) (key : ByteArray) (H : Asc (keysR R)) : key ∉ keysR R ∨ ∃ ms, lookD (dat R) key = some ms := by
  by_cases h : key ∈ keysR R
  · right
    obtain ⟨r, hr, hk⟩ := List.mem_map.1 h
    obtain ⟨X, Z, rfl⟩ := List.append_of_mem hr
    refine ⟨r.ms, ?_⟩
    have : dat (X ++ r :: Z) = dat X ++ (key, r.ms) :: dat Z := by simp [dat, ← hk]
    rw [this]
    refine lookD_at ?_
    rw [← dat_keys, this] at H
    exact H
  · exact .inl h

section
variable {w : World} {x : Nat} {R : List IM} {F : List Nat} (H : Ix w x R F) (key : ByteArray) (rev : Int) (del : Bool) (hks : key.size ≤ 9223372036854775807)
include H hks
set_option maxRecDepth 100000 in
set_option maxHeartbeats 2000000 in
theorem put_bad (hbad : key.size = 0 ∨ 100 < key.size ∨ rev < 1) :
    Calls Try.prog 40 #[ptr x, .string key, .agg #[.int .i64 rev, .bool del]] w fun e w' => e = .returned (.int .i64 (putE (dat R) key rev del)) ∧ PutPost w w' x R F key rev del := by
  have he : putE (dat R) key rev del = 1 := by simp only [putE, if_pos hbad]
  have HP : Hid (∀ w', Below w.heap.size w w' → PutPost w w' x R F key rev del) := fun w' hb => PutPost.same H hb (by rw [he]; decide)
  rw [he]
  clear he H
  by_cases h1 : key.size = 0
  · have h1' : (key.size : Int) = 0 := by omega
    clear hbad
    go_enter Try.func40, Try.ntmps40
    go_wp2
    go_ret
    exact ⟨rfl, HP.out _ ((Below.refl _ _).alloc (Nat.le_refl _) _)⟩
  · by_cases h2 : 100 < key.size
    · have h2' : (100 : Int) < (key.size : Int) := by omega
      have h1' : ¬ ((key.size : Int) = 0) := by omega
      clear hbad
      go_enter Try.func40, Try.ntmps40
      go_wp2
      go_ret
      exact ⟨rfl, HP.out _ ((Below.refl _ _).alloc (Nat.le_refl _) _)⟩
    · have h3 : rev < 1 := by omega
      have h2' : ¬ ((100 : Int) < (key.size : Int)) := by omega
      have h1' : ¬ ((key.size : Int) = 0) := by omega
      clear hbad
      go_enter Try.func40, Try.ntmps40
      go_wp2
      go_ret
      exact ⟨rfl, HP.out _ ((Below.refl _ _).alloc (Nat.le_refl _) _)⟩
set_option maxRecDepth 100000 in
set_option maxHeartbeats 2000000 in
/-- Put of a Del where there is no mark. -/
theorem put_no (h0 : 0 < key.size) (h1 : key.size ≤ 100) (hr : 1 ≤ rev) (hd : del = true) (hk : key ∉ keysR R) :
    Calls Try.prog 40 #[ptr x, .string key, .agg #[.int .i64 rev, .bool del]] w fun e w' => e = .returned (.int .i64 (putE (dat R) key rev del)) ∧ PutPost w w' x R F key rev del := by
  have he : putE (dat R) key rev del = 2 := by simp only [putE, lookR_none hk, hd]; rw [if_neg (by omega)]; rfl
  have HP : Hid (∀ w', Below w.heap.size w w' → PutPost w w' x R F key rev del) := fun w' hb => PutPost.same H hb (by rw [he]; decide)
  rw [he]
  obtain ⟨W0, hW0⟩ : ∃ W0, W0 = w.alloc (.cells #[.int .i64 rev, .bool del] 107) := ⟨_, rfl⟩
  have hb0 : Below w.heap.size w W0 := by rw [hW0]; exact (Below.refl _ w).alloc (Nat.le_refl _) _
  have hr0 : W0.heap[w.heap.size]? = some (.cells #[.int .i64 rev, .bool del] 107 (0, 0)) := by rw [hW0]; exact row_alloc w _ _
  have H0 := H.below hb0
  obtain ⟨rp, Ft, hx, _, _⟩ := H0.ex
  have c0 := hx.c0
  have hf := find_no H0 hk c0
  have u0 : W0.cell? ⟨w.heap.size, 0, none⟩ = some (.int .i64 rev) := by simp [World.cell?, hr0]
  have HU : Hid (∀ W, Below W0.heap.size W0 W → W.cell? ⟨w.heap.size, 0, none⟩ = some (.int .i64 rev) ∧ W.cell? ⟨w.heap.size, 1, none⟩ = some (.bool del) ∧ Below w.heap.size w W) := fun W hb => by
    have := (hb.block _ (Array.getElem?_eq_some_iff.1 hr0).1).trans hr0
    exact ⟨by simp [World.cell?, this], by simp [World.cell?, this], hb0.trans (hb.mono hb0.size)⟩
  have k1 : ¬ (key = ByteArray.empty) := by intro e; rw [e] at h0; simp at h0
  have k2 : ¬ ((100 : Int) < (key.size : Int)) := by omega
  have k3 : ¬ (rev < 1) := by omega
  have k4 : ¬ (rev ≤ 0) := by omega
  subst hd
  clear H H0 hx he hr0 hk
  go_enter Try.func40, Try.ntmps40
  go_upto_region 1 with (fail)
  rw [← hW0]
  clear hW0
  go_wp2_with (first | (go_at_call 46; refine hf.mono ?_; rintro e w1 ⟨rfl, hb1⟩) | (go_at_call 47; refine (last_nil _).mono ?_; rintro e w2 ⟨rfl, hb2⟩; obtain ⟨a0, a1, hbw⟩ := HU.out (w2.alloc (.cells #[.int .i64 0, .bool true] 107)) ((hb1.trans (hb2.mono hb1.size)).alloc (by have := hb1.size; have := hb2.size; omega) _)))
  go_ret
  exact ⟨rfl, HP.out _ hbw⟩
end
end Go.Proofs.Yteeflkkoifgcbaa
