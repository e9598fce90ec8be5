/- Put: its walk. -/
import Derived.Test.YtjdmgmnndfhmgaaGRE
import Derived.Deep.RegionLaw
namespace Go.Proofs.Ytjdmgmnndfhmgaa
open Go Go.RowKit

def PutPost (w w' : World) (x : Nat) (R : List IM) (F : List Nat) (key : ByteArray) (rev : Int) (del : Bool) : Prop :=
  ∃ R' F', Ix w' x R' F' ∧ dat R' = putD (dat R) key rev del ∧ Step w w' F F'
theorem PutPost.same {w w' : World} {x : Nat} {R : List IM} {F : List Nat} {key : ByteArray} {rev : Int} {del : Bool} (H : Ix w x R F) (hb : Below w.heap.size w w') (he : putE (dat R) key rev del ≠ 0) : PutPost w w' x R F key rev del :=
  ⟨R, F, H.below hb, by simp [putD, he], Step.below hb H.nd H.lt⟩
theorem lookR_none {R : List IM} {key : ByteArray} (h : key ∉ keysR R) : lookD (dat R) key = none := lookD_none (by rw [dat_keys]; exact h)
theorem At.look {w : World} {x : Nat} {R : List IM} {F : List Nat} {key : ByteArray} {g i mg c : Nat} {X Z : List IM} {ms : List Mk} (h : At w x R F key g i mg c X Z ms) (ha : Asc (keysR R)) : lookD (dat R) key = some ms := by
  rw [h.parts] at ha ⊢
  have : dat (X ++ ⟨⟨key, .slice (some ⟨mg, 0, none⟩) ms.length c⟩, ms⟩ :: Z) = dat X ++ (key, ms) :: dat Z := by simp [dat]
  rw [this]
  refine lookD_at ?_
  rw [← dat_keys, this] at ha
  exact ha
theorem At.set {w : World} {x : Nat} {R : List IM} {F : List Nat} {key : ByteArray} {g i mg c : Nat} {X Z : List IM} {ms : List Mk} (h : At w x R F key g i mg c X Z ms) (ha : Asc (keysR R)) (v' : Value) (ms' : List Mk) : dat (X ++ ⟨⟨key, v'⟩, ms'⟩ :: Z) = setD (dat R) key ms' := by
  rw [h.parts] at ha ⊢
  have : dat (X ++ ⟨⟨key, .slice (some ⟨mg, 0, none⟩) ms.length c⟩, ms⟩ :: Z) = dat X ++ (key, ms) :: dat Z := by simp [dat]
  rw [this, setD_at (by rw [← dat_keys, this] at ha; exact ha)]
  simp [dat]
theorem At.in {w : World} {x : Nat} {R : List IM} {F : List Nat} {key : ByteArray} {g i mg c : Nat} {X Z : List IM} {ms : List Mk} (h : At w x R F key g i mg c X Z ms) : key ∈ keysR R := by rw [h.parts]; simp [keysR]
/-- find where the key is not there. -/
theorem find_no {w : World} {x : Nat} {R : List IM} {F : List Nat} (H : Ix w x R F) {key : ByteArray} (hk : key ∉ keysR R) {rp : Option Addr} (hrp : w.cell? ⟨x, 0, none⟩ = some (.pointer rp)) :
    Calls Try.prog 50 #[.pointer rp, .string key] w fun e w' => e = .returned (.pointer none) ∧ Below w.heap.size w w' := by
  refine (find_ix H key hrp w (Below.refl _ _)).mono ?_
  rintro e w' ⟨hb, ⟨rfl, _⟩ | ⟨g, i, mg, c, X, Z, ms, rfl, hA, _⟩⟩
  · exact ⟨rfl, hb⟩
  · exact absurd hA.in hk
/-- find where it is. -/
theorem find_yes {w : World} {x : Nat} {R : List IM} {F : List Nat} (H : Ix w x R F) {key : ByteArray} {ms : List Mk} (hk : lookD (dat R) key = some ms) {rp : Option Addr} (hrp : w.cell? ⟨x, 0, none⟩ = some (.pointer rp)) :
    Calls Try.prog 50 #[.pointer rp, .string key] w fun e w' => ∃ g i mg c X Z, e = .returned (.pointer (some ⟨g, i * 2, none⟩)) ∧ Below w.heap.size w w' ∧ Hid (At w x R F key g i mg c X Z ms) ∧ Hid (Mks w (.slice (some ⟨mg, 0, none⟩) ms.length c) ms) ∧ 0 < ms.length ∧ w'.cell? ⟨g, i * 2 + 1, none⟩ = some (.slice (some ⟨mg, 0, none⟩) ms.length c) := by
  refine (find_ix H key hrp w (Below.refl _ _)).mono ?_
  rintro e w' ⟨hb, ⟨rfl, hno⟩ | ⟨g, i, mg, c, X, Z, ms', rfl, hA, hM, hp⟩⟩
  · rw [lookR_none hno] at hk; cases hk
  · have := hA.look H.asc
    rw [hk] at this
    cases this
    exact ⟨g, i, mg, c, X, Z, rfl, hb, hA, hM, hp, (hb.cell (p := ⟨g, i * 2 + 1, none⟩) (World.block_lt_of_cell? _ _ hA.mv)).trans hA.mv⟩
theorem lastM_get {ms : List Mk} (h : 0 < ms.length) : ms[ms.length - 1]? = some (lastM ms) := by
  unfold lastM
  rw [← List.getLast?_eq_getElem?]
  cases ms with
  | nil => simp at h
  | cons a l => simp [List.getLast?_eq_some_getLast, List.getLastD]
theorem look_or (R : List IM) (key : ByteArray) (H : Asc (keysR R)) : key ∉ keysR R ∨ ∃ ms, lookD (dat R) key = some ms := by
  by_cases h : key ∈ keysR R
  · right
    obtain ⟨r, hr, hk⟩ := List.mem_map.1 h
    obtain ⟨X, Z, rfl⟩ := List.append_of_mem hr
    refine ⟨r.ms, ?_⟩
    have : dat (X ++ r :: Z) = dat X ++ (key, r.ms) :: dat Z := by simp [dat, ← hk]
    rw [this]
    refine lookD_at ?_
    rw [← dat_keys, this] at H
    exact H
  · exact .inl h

section
variable {w : World} {x : Nat} {R : List IM} {F : List Nat} (H : Ix w x R F) (key : ByteArray) (rev : Int) (del : Bool) (hks : key.size ≤ 9223372036854775807)
include H hks
set_option maxRecDepth 100000 in
set_option maxHeartbeats 2000000 in
theorem put_bad (hbad : key.size = 0 ∨ 100 < key.size ∨ rev < 1) :
    Calls Try.prog 44 #[ptr x, .string key, .agg #[.int .i64 rev, .bool del]] w fun e w' => e = .returned (.int .i64 (putE (dat R) key rev del)) ∧ PutPost w w' x R F key rev del := by
  have he : putE (dat R) key rev del = 1 := by simp only [putE, if_pos hbad]
  have HP : Hid (∀ w', Below w.heap.size w w' → PutPost w w' x R F key rev del) := fun w' hb => PutPost.same H hb (by rw [he]; decide)
  rw [he]
  clear he H
  by_cases h1 : key.size = 0
  · have h1' : (key.size : Int) = 0 := by omega
    clear hbad
    go_enter Try.func44, Try.ntmps44
    go_wp2
    go_ret
    exact ⟨rfl, HP.out _ ((Below.refl _ _).alloc (Nat.le_refl _) _)⟩
  · by_cases h2 : 100 < key.size
    · have h2' : (100 : Int) < (key.size : Int) := by omega
      have h1' : ¬ ((key.size : Int) = 0) := by omega
      clear hbad
      go_enter Try.func44, Try.ntmps44
      go_wp2
      go_ret
      exact ⟨rfl, HP.out _ ((Below.refl _ _).alloc (Nat.le_refl _) _)⟩
    · have h3 : rev < 1 := by omega
      have h2' : ¬ ((100 : Int) < (key.size : Int)) := by omega
      have h1' : ¬ ((key.size : Int) = 0) := by omega
      clear hbad
      go_enter Try.func44, Try.ntmps44
      go_wp2
      go_ret
      exact ⟨rfl, HP.out _ ((Below.refl _ _).alloc (Nat.le_refl _) _)⟩
set_option maxRecDepth 100000 in
set_option maxHeartbeats 2000000 in
/-- Put of a Del where there is no mark. -/
theorem put_no (h0 : 0 < key.size) (h1 : key.size ≤ 100) (hr : 1 ≤ rev) (hd : del = true) (hk : key ∉ keysR R) :
    Calls Try.prog 44 #[ptr x, .string key, .agg #[.int .i64 rev, .bool del]] w fun e w' => e = .returned (.int .i64 (putE (dat R) key rev del)) ∧ PutPost w w' x R F key rev del := by
  have he : putE (dat R) key rev del = 2 := by simp only [putE, lookR_none hk, hd]; rw [if_neg (by omega)]; rfl
  have HP : Hid (∀ w', Below w.heap.size w w' → PutPost w w' x R F key rev del) := fun w' hb => PutPost.same H hb (by rw [he]; decide)
  rw [he]
  obtain ⟨W0, hW0⟩ : ∃ W0, W0 = w.alloc (.cells #[.int .i64 rev, .bool del] 107) := ⟨_, rfl⟩
  have hb0 : Below w.heap.size w W0 := by rw [hW0]; exact (Below.refl _ w).alloc (Nat.le_refl _) _
  have hr0 : W0.heap[w.heap.size]? = some (.cells #[.int .i64 rev, .bool del] 107 (0, 0)) := by rw [hW0]; exact row_alloc w _ _
  have H0 := H.below hb0
  obtain ⟨rp, Ft, hx, _, _⟩ := H0.ex
  have c0 := hx.c0
  have hf := find_no H0 hk c0
  have u0 : W0.cell? ⟨w.heap.size, 0, none⟩ = some (.int .i64 rev) := by simp [World.cell?, hr0]
  have HU : Hid (∀ W, Below W0.heap.size W0 W → W.cell? ⟨w.heap.size, 0, none⟩ = some (.int .i64 rev) ∧ W.cell? ⟨w.heap.size, 1, none⟩ = some (.bool del) ∧ Below w.heap.size w W) := fun W hb => by
    have := (hb.block _ (Array.getElem?_eq_some_iff.1 hr0).1).trans hr0
    exact ⟨by simp [World.cell?, this], by simp [World.cell?, this], hb0.trans (hb.mono hb0.size)⟩
  have k1 : ¬ (key = ByteArray.empty) := by intro e; rw [e] at h0; simp at h0
  have k2 : ¬ ((100 : Int) < (key.size : Int)) := by omega
  have k3 : ¬ (rev < 1) := by omega
  have k4 : ¬ (rev ≤ 0) := by omega
  subst hd
  clear H H0 hx he hr0 hk
  go_enter Try.func44, Try.ntmps44
  go_upto_region 1 with (fail)
  rw [← hW0]
  clear hW0
  go_wp2_with (first | (go_at_call 50; refine hf.mono ?_; rintro e w1 ⟨rfl, hb1⟩) | (go_at_call 51; refine (last_nil _).mono ?_; rintro e w2 ⟨rfl, hb2⟩; obtain ⟨a0, a1, hbw⟩ := HU.out (w2.alloc (.cells #[.int .i64 0, .bool true] 107)) ((hb1.trans (hb2.mono hb1.size)).alloc (by have := hb1.size; have := hb2.size; omega) _)))
  go_ret
  exact ⟨rfl, HP.out _ hbw⟩
end
end Go.Proofs.Ytjdmgmnndfhmgaa
/- Put of a key that is there. -/
namespace Go.Proofs.Ytjdmgmnndfhmgaa
open Go Go.RowKit
section
variable {w : World} {x : Nat} {R : List IM} {F : List Nat} (H : Ix w x R F) (key : ByteArray) (rev : Int) (del : Bool) (hks : key.size ≤ 9223372036854775807)
include H hks
set_option maxRecDepth 100000 in
set_option maxHeartbeats 2000000 in
theorem put_gap (h0 : 0 < key.size) (h1 : key.size ≤ 100) (hr : 1 ≤ rev) (ms : List Mk) (hk : lookD (dat R) key = some ms) (hml : ms.length ≤ 1000000) (hg : rev ≤ (lastM ms).1) :
    Calls Try.prog 44 #[ptr x, .string key, .agg #[.int .i64 rev, .bool del]] w fun e w' => e = .returned (.int .i64 (putE (dat R) key rev del)) ∧ PutPost w w' x R F key rev del := by
  have he : putE (dat R) key rev del = 15 := by simp only [putE, hk]; rw [if_neg (by omega)]; rw [if_pos hg]
  have HP : Hid (∀ w', Below w.heap.size w w' → PutPost w w' x R F key rev del) := fun w' hb => PutPost.same H hb (by rw [he]; decide)
  rw [he]
  obtain ⟨W0, hW0⟩ : ∃ W0, W0 = w.alloc (.cells #[.int .i64 rev, .bool del] 107) := ⟨_, rfl⟩
  have hb0 : Below w.heap.size w W0 := by rw [hW0]; exact (Below.refl _ w).alloc (Nat.le_refl _) _
  have hr0 : W0.heap[w.heap.size]? = some (.cells #[.int .i64 rev, .bool del] 107 (0, 0)) := by rw [hW0]; exact row_alloc w _ _
  have H0 := H.below hb0
  obtain ⟨rp, Ft, hx, hRt, hFF⟩ := H0.ex
  have c0 := hx.c0
  have u0 : W0.cell? ⟨w.heap.size, 0, none⟩ = some (.int .i64 rev) := by simp [World.cell?, hr0]
  have HU : Hid (∀ W, Below W0.heap.size W0 W → W.cell? ⟨w.heap.size, 0, none⟩ = some (.int .i64 rev) ∧ W.cell? ⟨w.heap.size, 1, none⟩ = some (.bool del) ∧ Below w.heap.size w W) := fun W hb => by
    have := (hb.block _ (Array.getElem?_eq_some_iff.1 hr0).1).trans hr0
    exact ⟨by simp [World.cell?, this], by simp [World.cell?, this], hb0.trans (hb.mono hb0.size)⟩
  have k1 : ¬ (key = ByteArray.empty) := by intro e; rw [e] at h0; simp at h0
  have k2 : ¬ ((100 : Int) < (key.size : Int)) := by omega
  have k3 : ¬ (rev < 1) := by omega
  have hf := find_yes H0 hk c0
  have HL : Hid (∀ (w1 : World) (g i mg c : Nat), Below W0.heap.size W0 w1 → Mks W0 (.slice (some ⟨mg, 0, none⟩) ms.length c) ms → 0 < ms.length → w1.cell? ⟨g, i * 2 + 1, none⟩ = some (.slice (some ⟨mg, 0, none⟩) ms.length c) → Calls Try.prog 51 #[.pointer (some ⟨g, i * 2, none⟩)] w1 fun e w' => e = .returned (.agg #[.int .i64 (lastM ms).1, .bool (lastM ms).2]) ∧ Below w1.heap.size w1 w') := fun w1 g i mg c hb hM hp hc =>
    last_any w1 g i mg c ms (lastM ms) hc (ownsRow_upd hM (Upd.ofBelow (S := fun _ => False) hb) (fun _ _ h => h)) (lastM_get hp) hml
  generalize lastM ms = m at *
  obtain ⟨m1, m2⟩ := m
  dsimp only at HL hg
  clear H H0 hx he hr0 hk hFF hRt
  go_enter Try.func44, Try.ntmps44
  go_upto_region 1 with (fail)
  rw [← hW0]
  clear hW0
  go_wp2_with (first | (go_at_call 50; refine hf.mono ?_; rintro e w1 ⟨g, i, mg, c, X, Z, rfl, hb1, hA, hM, hp, hc1⟩) | (go_at_call 51; refine (HL.out _ _ _ _ _ hb1 hM.out hp hc1).mono ?_; rintro e w2 ⟨rfl, hb2⟩; have hb3 : Below W0.heap.size W0 (w2.alloc (.cells #[.int .i64 m1, .bool m2] 107)) := (hb1.trans (hb2.mono hb1.size)).alloc (by have := hb1.size; have := hb2.size; omega) _; obtain ⟨a0, a1, hbw⟩ := HU.out _ hb3))
  go_ret
  exact ⟨rfl, HP.out _ hbw⟩
set_option maxRecDepth 100000 in
set_option maxHeartbeats 2000000 in
theorem put_twice (h0 : 0 < key.size) (h1 : key.size ≤ 100) (hr : 1 ≤ rev) (ms : List Mk) (hk : lookD (dat R) key = some ms) (hml : ms.length ≤ 1000000) (hg : (lastM ms).1 < rev) (hd : del = true) (hl : (lastM ms).2 = true) :
    Calls Try.prog 44 #[ptr x, .string key, .agg #[.int .i64 rev, .bool del]] w fun e w' => e = .returned (.int .i64 (putE (dat R) key rev del)) ∧ PutPost w w' x R F key rev del := by
  have he : putE (dat R) key rev del = 2 := by simp only [putE, hk]; rw [if_neg (by omega)]; rw [if_neg (by omega), hd, hl]; rfl
  have HP : Hid (∀ w', Below w.heap.size w w' → PutPost w w' x R F key rev del) := fun w' hb => PutPost.same H hb (by rw [he]; decide)
  rw [he]
  obtain ⟨W0, hW0⟩ : ∃ W0, W0 = w.alloc (.cells #[.int .i64 rev, .bool del] 107) := ⟨_, rfl⟩
  have hb0 : Below w.heap.size w W0 := by rw [hW0]; exact (Below.refl _ w).alloc (Nat.le_refl _) _
  have hr0 : W0.heap[w.heap.size]? = some (.cells #[.int .i64 rev, .bool del] 107 (0, 0)) := by rw [hW0]; exact row_alloc w _ _
  have H0 := H.below hb0
  obtain ⟨rp, Ft, hx, hRt, hFF⟩ := H0.ex
  have c0 := hx.c0
  have u0 : W0.cell? ⟨w.heap.size, 0, none⟩ = some (.int .i64 rev) := by simp [World.cell?, hr0]
  have HU : Hid (∀ W, Below W0.heap.size W0 W → W.cell? ⟨w.heap.size, 0, none⟩ = some (.int .i64 rev) ∧ W.cell? ⟨w.heap.size, 1, none⟩ = some (.bool del) ∧ Below w.heap.size w W) := fun W hb => by
    have := (hb.block _ (Array.getElem?_eq_some_iff.1 hr0).1).trans hr0
    exact ⟨by simp [World.cell?, this], by simp [World.cell?, this], hb0.trans (hb.mono hb0.size)⟩
  have k1 : ¬ (key = ByteArray.empty) := by intro e; rw [e] at h0; simp at h0
  have k2 : ¬ ((100 : Int) < (key.size : Int)) := by omega
  have k3 : ¬ (rev < 1) := by omega
  have hf := find_yes H0 hk c0
  have HL : Hid (∀ (w1 : World) (g i mg c : Nat), Below W0.heap.size W0 w1 → Mks W0 (.slice (some ⟨mg, 0, none⟩) ms.length c) ms → 0 < ms.length → w1.cell? ⟨g, i * 2 + 1, none⟩ = some (.slice (some ⟨mg, 0, none⟩) ms.length c) → Calls Try.prog 51 #[.pointer (some ⟨g, i * 2, none⟩)] w1 fun e w' => e = .returned (.agg #[.int .i64 (lastM ms).1, .bool (lastM ms).2]) ∧ Below w1.heap.size w1 w') := fun w1 g i mg c hb hM hp hc =>
    last_any w1 g i mg c ms (lastM ms) hc (ownsRow_upd hM (Upd.ofBelow (S := fun _ => False) hb) (fun _ _ h => h)) (lastM_get hp) hml
  generalize lastM ms = m at *
  obtain ⟨m1, m2⟩ := m
  dsimp only at HL hg hl
  subst hd hl
  have k4 : ¬ (rev ≤ m1) := by omega
  clear H H0 hx he hr0 hk hFF hRt
  go_enter Try.func44, Try.ntmps44
  go_upto_region 1 with (fail)
  rw [← hW0]
  clear hW0
  go_wp2_with (first | (go_at_call 50; refine hf.mono ?_; rintro e w1 ⟨g, i, mg, c, X, Z, rfl, hb1, hA, hM, hp, hc1⟩) | (go_at_call 51; refine (HL.out _ _ _ _ _ hb1 hM.out hp hc1).mono ?_; rintro e w2 ⟨rfl, hb2⟩; have hb3 : Below W0.heap.size W0 (w2.alloc (.cells #[.int .i64 m1, .bool true] 107)) := (hb1.trans (hb2.mono hb1.size)).alloc (by have := hb1.size; have := hb2.size; omega) _; obtain ⟨a0, a1, hbw⟩ := HU.out _ hb3))
  go_ret
  exact ⟨rfl, HP.out _ hbw⟩
end
end Go.Proofs.Ytjdmgmnndfhmgaa
/- Put of one mark more. -/
namespace Go.Proofs.Ytjdmgmnndfhmgaa
open Go Go.RowKit
theorem step_appS {P : Program} (w : World) {ops : Array Oper} {o : Oper} {a : Act} {K : Act → World → Prop} {Q : Exit → Act → World → Prop} {E : Prop} (hgd : o.guard = none) (sl x : Operand) (t tx : TypeId) (ho : o.op = .call { callee := .builtin .append, args := #[sl, x], argTypes := #[t, tx] })
    (base : Nat) (e : TypeId) (i : TypeInfo) (z : Value) (s : Nat) (ht : P.underlying t = some (.slice e)) (hi : P.info? e = some i) (hz : i.zero = some z) (hsize : i.size = s) (hzs : z.cells.size = s) (hby : i.bytes ≤ 1000)
    (v : Value) (n : Nat) (xs : List Value) (hev : a.eval sl = v) (hown : w.ownsRow base e s v n xs) (vx : Value) (hex : a.eval x = vx) (m : Nat) (news : List Value) (hs : Src P s tx vx m news w) (hb : n + m ≤ 1000000000) (hbase : base ≤ w.heap.size)
    (h : ∀ v' w', w'.ownsRow base e s v' (n + m) (xs ++ news) → Upd w w' (fun k => some k = v.ownBlock) → (v'.ownBlock = v.ownBlock ∨ v'.ownBlock = some w.heap.size) → (v.ownBlock ≠ none ∨ 0 < m → v'.ownBlock ≠ none) → K (a.put o.dst v') w') :
    if Region.wanted o (yielded ops a.tmps) = true then Oper.wp P o a w K Q else E := by
  have hw : Region.wanted o (yielded ops a.tmps) = true := by simp [Region.wanted, hgd]
  rw [if_pos hw]
  exact wp_appS w sl x t tx ho base e i z s ht hi hz hsize hzs hby v n xs hev hown vx hex m news hs hb hbase h
theorem put_done {w W0 V w' : World} {x : Nat} {R : List IM} {F : List Nat} {key : ByteArray} {rev : Int} {del : Bool} {g i mg c : Nat} {X Z : List IM} {ms : List Mk} {v' : Value} (H : Ix w x R F) (hb0 : Below w.heap.size w W0) (hA : At W0 x R F key g i mg c X Z ms) (hbV : Below W0.heap.size W0 V) (hu : Upd V w' (fun k => some k = (Value.slice (some ⟨mg, 0, none⟩) ms.length c).ownBlock))
    (ho : w'.ownsRow 0 107 2 v' (ms.length + 1) (mksC ms ++ mkC (rev, del))) (hob : v'.ownBlock = (Value.slice (some ⟨mg, 0, none⟩) ms.length c).ownBlock ∨ v'.ownBlock = some V.heap.size) (he : putE (dat R) key rev del = 0) (hk : lookD (dat R) key = some ms) : PutPost w (w'.setCell ⟨g, i * 2 + 1, none⟩ v') x R F key rev del := by
  have H0 := H.below hb0
  have hM : Mks w' v' (ms ++ [(rev, del)]) := by
    have : mksC (ms ++ [(rev, del)]) = mksC ms ++ mkC (rev, del) := by simp [mksC]
    unfold Mks
    rw [this, List.length_append]; exact ho
  have hmgF : mg ∈ F := by
    obtain ⟨rp, Ft, _, _, hF⟩ := H0.ex
    rw [hF, hA.parts]; simp [ownM, Value.ownBlock]
  have hsz : W0.heap.size ≤ w'.heap.size := Nat.le_trans hbV.size hu.size
  obtain ⟨F', hI, hn, hsub⟩ := hA.put w' (fun k hk hkm => (hu.block k (Nat.lt_of_lt_of_le (H0.lt k hk) hbV.size) (fun e => hkm (by simpa [Value.ownBlock] using e))).trans (hbV.block k (H0.lt k hk))) hsz v' (ms ++ [(rev, del)]) hM (by simp) (hob.imp id (fun h => ⟨_, h, hbV.size⟩))
  refine ⟨_, F', hI, ?_, ?_, hn, fun k hk => (hsub k hk).imp id (fun h => Nat.le_trans hb0.size h), hI.lt⟩
  · rw [hA.set H0.asc, putD, if_pos he, hk]; rfl
  · have u1 : Upd w V (fun k => k ∈ F) := Upd.ofBelow (hb0.trans (hbV.mono hb0.size))
    have u2 : Upd V w' (fun k => k ∈ F) := hu.mono (fun k _ e => by have : k = mg := by simpa [Value.ownBlock] using e
                                                                    rw [this]; exact hmgF)
    exact (u1.trans u2 (fun _ _ h => h)).setCell (.inr hA.inF) _
section
variable {w : World} {x : Nat} {R : List IM} {F : List Nat} (H : Ix w x R F) (key : ByteArray) (rev : Int) (del : Bool) (hks : key.size ≤ 9223372036854775807)
include H hks
set_option maxRecDepth 100000 in
set_option maxHeartbeats 2000000 in
theorem put_moreF (h0 : 0 < key.size) (h1 : key.size ≤ 100) (hr : 1 ≤ rev) (ms : List Mk) (hk : lookD (dat R) key = some ms) (hml : ms.length ≤ 1000000) (hg : (lastM ms).1 < rev) (hd : del = false) :
    Calls Try.prog 44 #[ptr x, .string key, .agg #[.int .i64 rev, .bool del]] w fun e w' => e = .returned (.int .i64 (putE (dat R) key rev del)) ∧ PutPost w w' x R F key rev del := by
  have he : putE (dat R) key rev del = 0 := by simp only [putE, hk]; rw [if_neg (by omega)]; rw [if_neg (by omega), hd]; rfl
  rw [he]
  obtain ⟨W0, hW0⟩ : ∃ W0, W0 = w.alloc (.cells #[.int .i64 rev, .bool del] 107) := ⟨_, rfl⟩
  have hb0 : Below w.heap.size w W0 := by rw [hW0]; exact (Below.refl _ w).alloc (Nat.le_refl _) _
  have hr0 : W0.heap[w.heap.size]? = some (.cells #[.int .i64 rev, .bool del] 107 (0, 0)) := by rw [hW0]; exact row_alloc w _ _
  have H0 := H.below hb0
  obtain ⟨rp, Ft, hx, hRt, hFF⟩ := H0.ex
  have c0 := hx.c0
  have u0 : W0.cell? ⟨w.heap.size, 0, none⟩ = some (.int .i64 rev) := by simp [World.cell?, hr0]
  have HU : Hid (∀ W, Below W0.heap.size W0 W → W.cell? ⟨w.heap.size, 0, none⟩ = some (.int .i64 rev) ∧ W.cell? ⟨w.heap.size, 1, none⟩ = some (.bool del) ∧ Below w.heap.size w W) := fun W hb => by
    have := (hb.block _ (Array.getElem?_eq_some_iff.1 hr0).1).trans hr0
    exact ⟨by simp [World.cell?, this], by simp [World.cell?, this], hb0.trans (hb.mono hb0.size)⟩
  have k1 : ¬ (key = ByteArray.empty) := by intro e; rw [e] at h0; simp at h0
  have k2 : ¬ ((100 : Int) < (key.size : Int)) := by omega
  have k3 : ¬ (rev < 1) := by omega
  have hf := find_yes H0 hk c0
  have HL : Hid (∀ (w1 : World) (g i mg c : Nat), Below W0.heap.size W0 w1 → Mks W0 (.slice (some ⟨mg, 0, none⟩) ms.length c) ms → 0 < ms.length → w1.cell? ⟨g, i * 2 + 1, none⟩ = some (.slice (some ⟨mg, 0, none⟩) ms.length c) → Calls Try.prog 51 #[.pointer (some ⟨g, i * 2, none⟩)] w1 fun e w' => e = .returned (.agg #[.int .i64 (lastM ms).1, .bool (lastM ms).2]) ∧ Below w1.heap.size w1 w') := fun w1 g i mg c hb hM hp hc =>
    last_any w1 g i mg c ms (lastM ms) hc (ownsRow_upd hM (Upd.ofBelow (S := fun _ => False) hb) (fun _ _ h => h)) (lastM_get hp) hml
  generalize lastM ms = m at *
  obtain ⟨m1, m2⟩ := m
  dsimp only at HL hg
  subst hd
  have k4 : ¬ (rev ≤ m1) := by omega
  clear hr0 hx
  go_enter Try.func44, Try.ntmps44
  go_upto_region 1 with (fail)
  rw [← hW0]
  clear hW0
  go_wp2_with (first | (go_at_call 50; refine hf.mono ?_; rintro e w1 ⟨g, i, mg, c, X, Z, rfl, hb1, hA, hM, hp, hc1⟩) | (go_at_call 51; refine (HL.out _ _ _ _ _ hb1 hM.out hp hc1).mono ?_; rintro e w2 ⟨rfl, hb2⟩; have hb3 : Below W0.heap.size W0 (w2.alloc (.cells #[.int .i64 m1, .bool m2] 107)) := (hb1.trans (hb2.mono hb1.size)).alloc (by have := hb1.size; have := hb2.size; omega) _; obtain ⟨a0, a1, hbw⟩ := HU.out _ hb3))
  obtain ⟨W3, hW3⟩ : ∃ W3, W3 = w2.alloc (.cells #[.int .i64 m1, .bool m2] 107) := ⟨_, rfl⟩
  rw [← hW3] at hb3 a0 a1 hbw ⊢
  clear hW3 hf hc1 hb1 hb2 c0 u0 k1 k2 k3 k4 hp
  have hgl : g < W0.heap.size := World.block_lt_of_cell? _ _ hA.out.mv
  have hne := hA.out.ne
  have q0 := (hb3.cell (p := ⟨g, i * 2 + 1, none⟩) hgl).trans hA.out.mv
  have q0' : ∀ o, (W3.alloc o).cell? ⟨g, i * 2 + 1, none⟩ = _ := fun o => ((hb3.alloc hb3.size o).cell (p := ⟨g, i * 2 + 1, none⟩) hgl).trans hA.out.mv
  have HMK : Hid (∀ W, Below W3.heap.size W3 W → Mks W (.slice (some ⟨mg, 0, none⟩) ms.length c) ms) := fun W hb => ownsRow_upd hM.out (Upd.ofBelow (S := fun _ => False) (hb3.trans (hb.mono hb3.size))) (fun _ _ h => h)
  have qf := (hb3.frozen (p := ⟨g, i * 2 + 1, none⟩) hgl).trans hA.out.free
  obtain ⟨ti, hti, hz0, hz1, hz2⟩ := info_parts info35
  have HSR : Hid (∀ W, W.heap[W3.heap.size]? = some (.cells #[.int .i64 rev, .bool false] 107 (0, 0)) → Src Try.prog 2 110 (.slice (some ⟨W3.heap.size, 0, none⟩) 1 1) 1 (mkC (rev, false)) W) := fun W hr => Src.ofSlice W Try.underlying110 ⟨W3.heap.size, 0, none⟩ 1 1 (mkC (rev, false)) rfl (fun j u hj => by
    rw [Addr.add_lit, Nat.zero_add, cell_of_row _ _ _ _ _ _ hr]; simpa [mkC] using hj) (fun u hu => mksC_mem [(rev, false)] u (by simpa [mksC] using hu))
  have HCL : Hid (∀ V w', Below W3.heap.size W3 V → Upd V w' (fun k => some k = (Value.slice (some ⟨mg, 0, none⟩) ms.length c).ownBlock) → w'.cell? ⟨g, i * 2 + 1, none⟩ = some (.slice (some ⟨mg, 0, none⟩) ms.length c) ∧ w'.frozen? ⟨g, i * 2 + 1, none⟩ = false) := fun V w' hb hu => by
    have hg3 : g < W3.heap.size := Nat.lt_of_lt_of_le hgl hb3.size
    have hn : ¬ (some g = (Value.slice (some ⟨mg, 0, none⟩) ms.length c).ownBlock) := fun e => hne (by simpa [Value.ownBlock] using e)
    exact ⟨(hu.cell (p := ⟨g, i * 2 + 1, none⟩) (Nat.lt_of_lt_of_le hg3 hb.size) hn).trans ((hb.cell (p := ⟨g, i * 2 + 1, none⟩) hg3).trans q0), (hu.frozen (p := ⟨g, i * 2 + 1, none⟩) (Nat.lt_of_lt_of_le hg3 hb.size) hn).trans ((hb.frozen (p := ⟨g, i * 2 + 1, none⟩) hg3).trans qf)⟩
  have HB3 : Hid (∀ W, Below W3.heap.size W3 W → Below W0.heap.size W0 W) := fun W hb => hb3.trans (hb.mono hb3.size)
  clear hgl hne hb3 hbw HL HU
  go_region_law (refine step_appS _ rfl _ _ 110 110 rfl 0 107 ti _ 2 Try.underlying110 hti hz0 hz1 rfl (by rw [hz2]; omega) (.slice (some ⟨mg, 0, none⟩) ms.length c) ms.length (mksC ms) (by simp [Act.eval]) (HMK.out _ (by first | exact ((Below.refl _ _).drew.alloc (Nat.le_refl _) _) | exact ((Below.refl _ _).alloc (Nat.le_refl _) _).drew)) (.slice (some ⟨W3.heap.size, 0, none⟩) 1 1) (by simp [Act.eval]) 1 (mkC (rev, false)) (HSR.out _ (by first | exact row_alloc _ _ _ | rfl)) (by omega) (Nat.zero_le _) ?_; intro v' w' q1 q2 q3 q4; obtain ⟨g', c', rfl, _, _⟩ := owns_form1 q1 (by omega); obtain ⟨d0, d1⟩ := HCL.out _ _ (by first | exact ((Below.refl _ _).drew.alloc (Nat.le_refl _) _) | exact ((Below.refl _ _).alloc (Nat.le_refl _) _).drew) q2)
  all_goals
    go_wp2
    go_ret
    exact ⟨rfl, put_done H hb0 hA.out (HB3.out _ (by first | exact ((Below.refl _ _).drew.alloc (Nat.le_refl _) _) | exact ((Below.refl _ _).alloc (Nat.le_refl _) _).drew)) q2 q1 q3 he hk⟩
set_option maxRecDepth 100000 in
set_option maxHeartbeats 2000000 in
theorem put_moreT (h0 : 0 < key.size) (h1 : key.size ≤ 100) (hr : 1 ≤ rev) (ms : List Mk) (hk : lookD (dat R) key = some ms) (hml : ms.length ≤ 1000000) (hg : (lastM ms).1 < rev) (hd : del = true) (hl : (lastM ms).2 = false) :
    Calls Try.prog 44 #[ptr x, .string key, .agg #[.int .i64 rev, .bool del]] w fun e w' => e = .returned (.int .i64 (putE (dat R) key rev del)) ∧ PutPost w w' x R F key rev del := by
  have he : putE (dat R) key rev del = 0 := by simp only [putE, hk]; rw [if_neg (by omega)]; rw [if_neg (by omega), hd, hl]; rfl
  rw [he]
  obtain ⟨W0, hW0⟩ : ∃ W0, W0 = w.alloc (.cells #[.int .i64 rev, .bool del] 107) := ⟨_, rfl⟩
  have hb0 : Below w.heap.size w W0 := by rw [hW0]; exact (Below.refl _ w).alloc (Nat.le_refl _) _
  have hr0 : W0.heap[w.heap.size]? = some (.cells #[.int .i64 rev, .bool del] 107 (0, 0)) := by rw [hW0]; exact row_alloc w _ _
  have H0 := H.below hb0
  obtain ⟨rp, Ft, hx, hRt, hFF⟩ := H0.ex
  have c0 := hx.c0
  have u0 : W0.cell? ⟨w.heap.size, 0, none⟩ = some (.int .i64 rev) := by simp [World.cell?, hr0]
  have HU : Hid (∀ W, Below W0.heap.size W0 W → W.cell? ⟨w.heap.size, 0, none⟩ = some (.int .i64 rev) ∧ W.cell? ⟨w.heap.size, 1, none⟩ = some (.bool del) ∧ Below w.heap.size w W) := fun W hb => by
    have := (hb.block _ (Array.getElem?_eq_some_iff.1 hr0).1).trans hr0
    exact ⟨by simp [World.cell?, this], by simp [World.cell?, this], hb0.trans (hb.mono hb0.size)⟩
  have k1 : ¬ (key = ByteArray.empty) := by intro e; rw [e] at h0; simp at h0
  have k2 : ¬ ((100 : Int) < (key.size : Int)) := by omega
  have k3 : ¬ (rev < 1) := by omega
  have hf := find_yes H0 hk c0
  have HL : Hid (∀ (w1 : World) (g i mg c : Nat), Below W0.heap.size W0 w1 → Mks W0 (.slice (some ⟨mg, 0, none⟩) ms.length c) ms → 0 < ms.length → w1.cell? ⟨g, i * 2 + 1, none⟩ = some (.slice (some ⟨mg, 0, none⟩) ms.length c) → Calls Try.prog 51 #[.pointer (some ⟨g, i * 2, none⟩)] w1 fun e w' => e = .returned (.agg #[.int .i64 (lastM ms).1, .bool (lastM ms).2]) ∧ Below w1.heap.size w1 w') := fun w1 g i mg c hb hM hp hc =>
    last_any w1 g i mg c ms (lastM ms) hc (ownsRow_upd hM (Upd.ofBelow (S := fun _ => False) hb) (fun _ _ h => h)) (lastM_get hp) hml
  generalize lastM ms = m at *
  obtain ⟨m1, m2⟩ := m
  dsimp only at HL hg hl
  subst hd hl
  have k4 : ¬ (rev ≤ m1) := by omega
  clear hr0 hx
  go_enter Try.func44, Try.ntmps44
  go_upto_region 1 with (fail)
  rw [← hW0]
  clear hW0
  go_wp2_with (first | (go_at_call 50; refine hf.mono ?_; rintro e w1 ⟨g, i, mg, c, X, Z, rfl, hb1, hA, hM, hp, hc1⟩) | (go_at_call 51; refine (HL.out _ _ _ _ _ hb1 hM.out hp hc1).mono ?_; rintro e w2 ⟨rfl, hb2⟩; have hb3 : Below W0.heap.size W0 (w2.alloc (.cells #[.int .i64 m1, .bool false] 107)) := (hb1.trans (hb2.mono hb1.size)).alloc (by have := hb1.size; have := hb2.size; omega) _; obtain ⟨a0, a1, hbw⟩ := HU.out _ hb3))
  obtain ⟨W3, hW3⟩ : ∃ W3, W3 = w2.alloc (.cells #[.int .i64 m1, .bool false] 107) := ⟨_, rfl⟩
  rw [← hW3] at hb3 a0 a1 hbw ⊢
  clear hW3 hf hc1 hb1 hb2 c0 u0 k1 k2 k3 k4 hp
  have hgl : g < W0.heap.size := World.block_lt_of_cell? _ _ hA.out.mv
  have hne := hA.out.ne
  have q0 := (hb3.cell (p := ⟨g, i * 2 + 1, none⟩) hgl).trans hA.out.mv
  have q0' : ∀ o, (W3.alloc o).cell? ⟨g, i * 2 + 1, none⟩ = _ := fun o => ((hb3.alloc hb3.size o).cell (p := ⟨g, i * 2 + 1, none⟩) hgl).trans hA.out.mv
  have HMK : Hid (∀ W, Below W3.heap.size W3 W → Mks W (.slice (some ⟨mg, 0, none⟩) ms.length c) ms) := fun W hb => ownsRow_upd hM.out (Upd.ofBelow (S := fun _ => False) (hb3.trans (hb.mono hb3.size))) (fun _ _ h => h)
  have qf := (hb3.frozen (p := ⟨g, i * 2 + 1, none⟩) hgl).trans hA.out.free
  obtain ⟨ti, hti, hz0, hz1, hz2⟩ := info_parts info35
  have HSR : Hid (∀ W, W.heap[W3.heap.size]? = some (.cells #[.int .i64 rev, .bool true] 107 (0, 0)) → Src Try.prog 2 110 (.slice (some ⟨W3.heap.size, 0, none⟩) 1 1) 1 (mkC (rev, true)) W) := fun W hr => Src.ofSlice W Try.underlying110 ⟨W3.heap.size, 0, none⟩ 1 1 (mkC (rev, true)) rfl (fun j u hj => by
    rw [Addr.add_lit, Nat.zero_add, cell_of_row _ _ _ _ _ _ hr]; simpa [mkC] using hj) (fun u hu => mksC_mem [(rev, true)] u (by simpa [mksC] using hu))
  have HCL : Hid (∀ V w', Below W3.heap.size W3 V → Upd V w' (fun k => some k = (Value.slice (some ⟨mg, 0, none⟩) ms.length c).ownBlock) → w'.cell? ⟨g, i * 2 + 1, none⟩ = some (.slice (some ⟨mg, 0, none⟩) ms.length c) ∧ w'.frozen? ⟨g, i * 2 + 1, none⟩ = false) := fun V w' hb hu => by
    have hg3 : g < W3.heap.size := Nat.lt_of_lt_of_le hgl hb3.size
    have hn : ¬ (some g = (Value.slice (some ⟨mg, 0, none⟩) ms.length c).ownBlock) := fun e => hne (by simpa [Value.ownBlock] using e)
    exact ⟨(hu.cell (p := ⟨g, i * 2 + 1, none⟩) (Nat.lt_of_lt_of_le hg3 hb.size) hn).trans ((hb.cell (p := ⟨g, i * 2 + 1, none⟩) hg3).trans q0), (hu.frozen (p := ⟨g, i * 2 + 1, none⟩) (Nat.lt_of_lt_of_le hg3 hb.size) hn).trans ((hb.frozen (p := ⟨g, i * 2 + 1, none⟩) hg3).trans qf)⟩
  have HB3 : Hid (∀ W, Below W3.heap.size W3 W → Below W0.heap.size W0 W) := fun W hb => hb3.trans (hb.mono hb3.size)
  clear hgl hne hb3 hbw HL HU
  go_region_law (refine step_appS _ rfl _ _ 110 110 rfl 0 107 ti _ 2 Try.underlying110 hti hz0 hz1 rfl (by rw [hz2]; omega) (.slice (some ⟨mg, 0, none⟩) ms.length c) ms.length (mksC ms) (by simp [Act.eval]) (HMK.out _ (by first | exact ((Below.refl _ _).drew.alloc (Nat.le_refl _) _) | exact ((Below.refl _ _).alloc (Nat.le_refl _) _).drew)) (.slice (some ⟨W3.heap.size, 0, none⟩) 1 1) (by simp [Act.eval]) 1 (mkC (rev, true)) (HSR.out _ (by first | exact row_alloc _ _ _ | rfl)) (by omega) (Nat.zero_le _) ?_; intro v' w' q1 q2 q3 q4; obtain ⟨g', c', rfl, _, _⟩ := owns_form1 q1 (by omega); obtain ⟨d0, d1⟩ := HCL.out _ _ (by first | exact ((Below.refl _ _).drew.alloc (Nat.le_refl _) _) | exact ((Below.refl _ _).alloc (Nat.le_refl _) _).drew) q2)
  all_goals
    go_wp2
    go_ret
    exact ⟨rfl, put_done H hb0 hA.out (HB3.out _ (by first | exact ((Below.refl _ _).drew.alloc (Nat.le_refl _) _) | exact ((Below.refl _ _).alloc (Nat.le_refl _) _).drew)) q2 q1 q3 he hk⟩
end
end Go.Proofs.Ytjdmgmnndfhmgaa
/- Put of a new key; Put, whatever it is handed. -/
namespace Go.Proofs.Ytjdmgmnndfhmgaa
open Go Go.RowKit

theorem put_add {w V : World} {x : Nat} {R : List IM} {F : List Nat} (H : Ix w x R F) (hb : Below w.heap.size w V) (hR : R.length ≤ 1000000) {key : ByteArray} {rev : Int} (hk : key ∉ keysR R) (he : putE (dat R) key rev false = 0) {mb : Nat} (hmw : w.heap.size ≤ mb) (hr : V.heap[mb]? = some (.cells #[.int .i64 rev, .bool false] 107 (0, 0))) :
    Calls Try.prog 52 #[ptr x, .agg #[.string key, .slice (some ⟨mb, 0, none⟩) 1 1]] V fun e w' => e = .returned (.tuple #[]) ∧ PutPost w w' x R F key rev false := by
  have HV := H.below hb
  obtain ⟨rp, Ft, hx, hRt, hF⟩ := HV.ex
  have hnd := HV.nd
  rw [hF] at hnd
  have hnd2 : (x :: Ft).Nodup := by
    have h2 : ((x :: Ft) ++ R.flatMap ownM).Nodup := by simpa using hnd
    exact (List.nodup_append.1 h2).1
  have hM : Mks V (.slice (some ⟨mb, 0, none⟩) 1 1) [(rev, false)] := owns_of_row hr (Nat.le_refl _) (by unfold maxLen; omega) rfl rfl rfl
  refine (iadd_any hx hRt hnd2 (by rw [keysI_map]; exact HV.asc) ⟨key, .slice (some ⟨mb, 0, none⟩) 1 1⟩ ⟨_, _, _, rfl⟩ (by omega) (by omega)).mono ?_
  rintro e w' ⟨rfl, rp', F', hx', hR', hs⟩
  obtain ⟨F2, hI, hS⟩ := H.added hb hF ⟨⟨key, .slice (some ⟨mb, 0, none⟩) 1 1⟩, [(rev, false)]⟩ rfl hmw (Array.getElem?_eq_some_iff.1 hr).1 hM (by simp) hk hx' hR' hs
  refine ⟨rfl, _, F2, hI, ?_, hS⟩
  rw [insR_dat _ _ hk, putD, if_pos he, lookR_none hk]
  rfl
section
variable {w : World} {x : Nat} {R : List IM} {F : List Nat} (H : Ix w x R F) (key : ByteArray) (rev : Int) (del : Bool) (hks : key.size ≤ 9223372036854775807)
include H hks
set_option maxRecDepth 100000 in
set_option maxHeartbeats 2000000 in
theorem put_new (h0 : 0 < key.size) (h1 : key.size ≤ 100) (hr : 1 ≤ rev) (hd : del = false) (hk : key ∉ keysR R) (hR : R.length ≤ 1000000) :
    Calls Try.prog 44 #[ptr x, .string key, .agg #[.int .i64 rev, .bool del]] w fun e w' => e = .returned (.int .i64 (putE (dat R) key rev del)) ∧ PutPost w w' x R F key rev del := by
  have he : putE (dat R) key rev del = 0 := by simp only [putE, lookR_none hk, hd]; rw [if_neg (by omega)]; rfl
  rw [he]
  obtain ⟨W0, hW0⟩ : ∃ W0, W0 = w.alloc (.cells #[.int .i64 rev, .bool del] 107) := ⟨_, rfl⟩
  have hb0 : Below w.heap.size w W0 := by rw [hW0]; exact (Below.refl _ w).alloc (Nat.le_refl _) _
  have hr0 : W0.heap[w.heap.size]? = some (.cells #[.int .i64 rev, .bool del] 107 (0, 0)) := by rw [hW0]; exact row_alloc w _ _
  have hz0 : W0.heap.size = w.heap.size + 1 := by rw [hW0]; simp
  have H0 := H.below hb0
  obtain ⟨rp, Ft, hx, _, _⟩ := H0.ex
  have c0 := hx.c0
  have hf := find_no H0 hk c0
  have u0 : W0.cell? ⟨w.heap.size, 0, none⟩ = some (.int .i64 rev) := by simp [World.cell?, hr0]
  have HU : Hid (∀ W, Below W0.heap.size W0 W → W.cell? ⟨w.heap.size, 0, none⟩ = some (.int .i64 rev) ∧ W.cell? ⟨w.heap.size, 1, none⟩ = some (.bool del) ∧ Below w.heap.size w W) := fun W hb => by
    have := (hb.block _ (Array.getElem?_eq_some_iff.1 hr0).1).trans hr0
    exact ⟨by simp [World.cell?, this], by simp [World.cell?, this], hb0.trans (hb.mono hb0.size)⟩
  have k1 : ¬ (key = ByteArray.empty) := by intro e; rw [e] at h0; simp at h0
  have k2 : ¬ ((100 : Int) < (key.size : Int)) := by omega
  have k3 : ¬ (rev < 1) := by omega
  have k4 : ¬ (rev ≤ 0) := by omega
  subst hd
  have HADD : Hid (∀ V mb, Below W0.heap.size W0 V → w.heap.size ≤ mb → V.heap[mb]? = some (.cells #[.int .i64 rev, .bool false] 107 (0, 0)) → Calls Try.prog 52 #[ptr x, .agg #[.string key, .slice (some ⟨mb, 0, none⟩) 1 1]] V fun e w' => e = .returned (.tuple #[]) ∧ PutPost w w' x R F key rev false) :=
    fun V mb hb hm hr => put_add H (hb0.trans (hb.mono hb0.size)) hR hk he hm hr
  clear H H0 hx he hr0 hk
  go_enter Try.func44, Try.ntmps44
  go_upto_region 1 with (fail)
  rw [← hW0]
  clear hW0
  go_wp2_with (first | (go_at_call 50; refine hf.mono ?_; rintro e w1 ⟨rfl, hb1⟩) | (go_at_call 51; refine (last_nil _).mono ?_; rintro e w2 ⟨rfl, hb2⟩; have hb3 : Below W0.heap.size W0 (w2.alloc (.cells #[.int .i64 0, .bool true] 107)) := (hb1.trans (hb2.mono hb1.size)).alloc (by have := hb1.size; have := hb2.size; omega) _; obtain ⟨a0, a1, hbw⟩ := HU.out _ hb3))
  obtain ⟨W3, hW3⟩ : ∃ W3, W3 = w2.alloc (.cells #[.int .i64 0, .bool true] 107) := ⟨_, rfl⟩
  rw [← hW3] at hb3 a0 a1 hbw ⊢
  clear hW3 hf hb1 hb2 c0 u0 k1 k2 k3 k4
  have hz3 := hb3.size
  have HCELL : Hid (∀ w5, Below W3.heap.size W3 w5 → w5.cell? ⟨w.heap.size, 0, none⟩ = some (.int .i64 rev) ∧ w5.cell? ⟨w.heap.size, 1, none⟩ = some (.bool false)) := fun w5 hb => by
    obtain ⟨q0, q1, _⟩ := HU.out w5 (hb3.trans (hb.mono hb3.size))
    exact ⟨q0, q1⟩
  have hC := fun V => sclone key V h0 (by omega)
  go_region_with (first
    | (go_at_call 20; refine (hC _).mono ?_; rintro e w5 ⟨rfl, hb5⟩; obtain ⟨s0, s1⟩ := HCELL.out w5 (by first | exact ((Below.refl _ W3).drew.trans hb5) | exact (((Below.refl _ W3).alloc (Nat.le_refl _) _).drew.trans (hb5.mono (by simp)))); have hz5 : W3.heap.size ≤ w5.heap.size := (by have := hb5.size; simp at this; omega))
    | (go_at_call 52; refine (HADD.out _ _ (by first | exact hb3.trans ((((Below.refl _ W3).drew.trans hb5).alloc hz5 _).mono hz3) | exact hb3.trans ((((Below.refl _ W3).alloc (Nat.le_refl _) _).drew.trans (hb5.mono (by simp))).mono hz3)) (by omega) (by first | exact row_alloc _ _ _ | exact (hb5.block _ (by simp)).trans (row_alloc W3 _ _))).mono ?_; rintro e w6 ⟨rfl, hP⟩))
  all_goals
    go_wp2
    go_ret
    exact ⟨rfl, hP⟩
/-- Put. -/
theorem put_any (hrv : -9223372036854775808 ≤ rev ∧ rev ≤ 9223372036854775807) (hR : R.length ≤ 1000000) (hms : ∀ r ∈ R, r.ms.length ≤ 1000000) :
    Calls Try.prog 44 #[ptr x, .string key, .agg #[.int .i64 rev, .bool del]] w fun e w' => e = .returned (.int .i64 (putE (dat R) key rev del)) ∧ PutPost w w' x R F key rev del := by
  by_cases hbad : key.size = 0 ∨ 100 < key.size ∨ rev < 1
  · exact put_bad H key rev del hks hbad
  · have h0 : 0 < key.size := by omega
    have h1 : key.size ≤ 100 := by omega
    have hr : 1 ≤ rev := by omega
    rcases look_or R key H.asc with hk | ⟨ms, hk⟩
    · cases hd : del
      · exact put_new H key rev false hks h0 h1 hr rfl hk hR
      · exact put_no H key rev true hks h0 h1 hr rfl hk
    · have hml : ms.length ≤ 1000000 := by
        have : (key, ms) ∈ dat R := by
          clear hms
          have : ∀ D : Dat, lookD D key = some ms → (key, ms) ∈ D := by
            intro D
            induction D with
            | nil => intro h; cases h
            | cons p D ih =>
              intro h
              unfold lookD at h
              split at h
              · rename_i e; cases h; rw [← e]; simp
              · exact List.mem_cons_of_mem _ (ih h)
          exact this _ hk
        obtain ⟨r, hr', e⟩ := List.mem_map.1 this
        cases e
        exact hms r hr'
      by_cases hg : rev ≤ (lastM ms).1
      · exact put_gap H key rev del hks h0 h1 hr ms hk hml hg
      · cases hd : del
        · exact put_moreF H key rev false hks h0 h1 hr ms hk hml (by omega) rfl
        · cases hl : (lastM ms).2
          · exact put_moreT H key rev true hks h0 h1 hr ms hk hml (by omega) rfl hl
          · exact put_twice H key rev true hks h0 h1 hr ms hk hml (by omega) rfl hl
end
end Go.Proofs.Ytjdmgmnndfhmgaa
