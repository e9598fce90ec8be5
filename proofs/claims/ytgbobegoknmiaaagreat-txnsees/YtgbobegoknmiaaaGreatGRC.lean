/- Rows of comparisons and of operations that can be read; the first error of a row. -/
import Derived.Test.YtgbobegoknmiaaaGreatGRB
import Derived.Deep.LoopGhost
import Derived.Deep.CutRange
import Derived.Deep.RegionHeldLaw
import Derived.Shelf.Slices.CompactS
import Derived.Ground.SlgmProg
import Derived.Shelf.SortM.Plain
import Derived.Shelf.SortM.SortNone
import Derived.Test.YtgbobegoknmiaaaGreatProg
import Derived.Deep.RegionWith
namespace Go.Proofs.YtgbobegoknmiaaaGreat
open Go Go.RowKit

/-- A comparison in memory. -/
structure HasI (w : World) (g o : Nat) (c : Ifd) : Prop where
  c0 : w.cell? ⟨g, o, none⟩ = some (.string c.key)
  c1 : w.cell? ⟨g, o + 1, none⟩ = some (.int .i64 c.target)
  c2 : w.cell? ⟨g, o + 2, none⟩ = some (.int .i64 c.sign)
  c3 : w.cell? ⟨g, o + 3, none⟩ = some (.int .i64 c.n)
  c4 : w.cell? ⟨g, o + 4, none⟩ = some (.string c.text)
  s0 : c.key.size ≤ 140737488355328
  s1 : c.text.size ≤ 140737488355328
theorem HasI.same {w w' : World} {g o : Nat} {c : Ifd} (h : HasI w g o c) (hc : ∀ j, w'.cell? ⟨g, j, none⟩ = w.cell? ⟨g, j, none⟩) : HasI w' g o c :=
  ⟨(hc _).trans h.c0, (hc _).trans h.c1, (hc _).trans h.c2, (hc _).trans h.c3, (hc _).trans h.c4, h.s0, h.s1⟩
def IFs (Z : Nat → Prop) (w : World) (v : Value) (l : List Ifd) : Prop :=
  ∃ p c, v = .slice p l.length c ∧ ∀ i x, l[i]? = some x → ∃ g o, p = some ⟨g, o, none⟩ ∧ Z g ∧ g < w.heap.size ∧ HasI w g (o + i * 5) x
theorem IFs.upd {Z S : Nat → Prop} {w w' : World} {v : Value} {l : List Ifd} (h : IFs Z w v l) (hu : Upd w w' S) (hS : ∀ k, Z k → ¬ S k) : IFs Z w' v l := by
  obtain ⟨p, c, rfl, hh⟩ := h
  refine ⟨p, c, rfl, fun i x hi => ?_⟩
  obtain ⟨g, o, e, hz, hl, hk⟩ := hh i x hi
  exact ⟨g, o, e, hz, Nat.lt_of_lt_of_le hl hu.size, hk.same (fun j => hu.cell (p := ⟨g, j, none⟩) hl (hS g hz))⟩
theorem IFs.below {Z : Nat → Prop} {w w' : World} {v : Value} {l : List Ifd} (h : IFs Z w v l) (hb : Below w.heap.size w w') : IFs Z w' v l := h.upd (S := fun _ => False) (Upd.ofBelow hb) (fun _ _ h => h)
theorem IFs.nil (Z : Nat → Prop) (w : World) : IFs Z w (.slice none 0 0) [] := ⟨none, 0, rfl, fun i x hi => by simp at hi⟩
/-- An operation in memory. -/
structure HasO (w : World) (g o : Nat) (c : Opd) : Prop where
  c0 : w.cell? ⟨g, o, none⟩ = some (.int .i64 c.kind)
  c1 : w.cell? ⟨g, o + 1, none⟩ = some (.string c.key)
  c2 : w.cell? ⟨g, o + 2, none⟩ = some (.string c.fin)
  c3 : w.cell? ⟨g, o + 3, none⟩ = some (.string c.value)
  c4 : w.cell? ⟨g, o + 4, none⟩ = some (.int .i64 c.lease)
  c5 : w.cell? ⟨g, o + 5, none⟩ = some (.int .i64 c.limit)
  s0 : c.key.size ≤ 140737488355328
  s1 : c.fin.size ≤ 140737488355328
  s2 : c.value.size ≤ 140737488355328
theorem HasO.same {w w' : World} {g o : Nat} {c : Opd} (h : HasO w g o c) (hc : ∀ j, w'.cell? ⟨g, j, none⟩ = w.cell? ⟨g, j, none⟩) : HasO w' g o c :=
  ⟨(hc _).trans h.c0, (hc _).trans h.c1, (hc _).trans h.c2, (hc _).trans h.c3, (hc _).trans h.c4, (hc _).trans h.c5, h.s0, h.s1, h.s2⟩
def OPs (Z : Nat → Prop) (w : World) (v : Value) (l : List Opd) : Prop :=
  ∃ p c, v = .slice p l.length c ∧ ∀ i x, l[i]? = some x → ∃ g o, p = some ⟨g, o, none⟩ ∧ Z g ∧ g < w.heap.size ∧ HasO w g (o + i * 6) x
theorem OPs.upd {Z S : Nat → Prop} {w w' : World} {v : Value} {l : List Opd} (h : OPs Z w v l) (hu : Upd w w' S) (hS : ∀ k, Z k → ¬ S k) : OPs Z w' v l := by
  obtain ⟨p, c, rfl, hh⟩ := h
  refine ⟨p, c, rfl, fun i x hi => ?_⟩
  obtain ⟨g, o, e, hz, hl, hk⟩ := hh i x hi
  exact ⟨g, o, e, hz, Nat.lt_of_lt_of_le hl hu.size, hk.same (fun j => hu.cell (p := ⟨g, j, none⟩) hl (hS g hz))⟩
theorem OPs.below {Z : Nat → Prop} {w w' : World} {v : Value} {l : List Opd} (h : OPs Z w v l) (hb : Below w.heap.size w w') : OPs Z w' v l := h.upd (S := fun _ => False) (Upd.ofBelow hb) (fun _ _ h => h)
theorem OPs.nil (Z : Nat → Prop) (w : World) : OPs Z w (.slice none 0 0) [] := ⟨none, 0, rfl, fun i x hi => by simp at hi⟩
/-- The first error of a row. -/
def firstE {α : Type} (f : α → Int) : List α → Int
  | [] => 0
  | x :: l => if f x = 0 then firstE f l else f x
theorem firstE_skip {α : Type} {f : α → Int} : ∀ {l : List α} {i : Nat}, (∀ j x, j < i → l[j]? = some x → f x = 0) → firstE f l = firstE f (l.drop i)
  | [], i, _ => by simp
  | x :: l, 0, _ => rfl
  | x :: l, i + 1, h => by
    show (if f x = 0 then firstE f l else f x) = firstE f (l.drop i)
    rw [if_pos (h 0 x (by omega) rfl)]
    exact firstE_skip (fun j y hj hy => h (j + 1) y (by omega) hy)
theorem firstE_at {α : Type} {f : α → Int} {l : List α} {i : Nat} {x : α} (h : ∀ j x, j < i → l[j]? = some x → f x = 0) (hx : l[i]? = some x) (hne : ¬ f x = 0) : firstE f l = f x := by
  rw [firstE_skip h]
  have hi := (List.getElem?_eq_some_iff.1 hx).1
  rw [List.drop_eq_getElem_cons hi]
  have : l[i] = x := (List.getElem?_eq_some_iff.1 hx).2
  rw [this]
  exact if_neg hne
theorem firstE_none {α : Type} {f : α → Int} {l : List α} (h : ∀ j x, j < l.length → l[j]? = some x → f x = 0) : firstE f l = 0 := by
  rw [firstE_skip h, List.drop_length]
  rfl
set_option maxRecDepth 100000 in
set_option maxHeartbeats 1000000 in
theorem firstIf_any {Z : Nat → Prop} (l : List Ifd) (v : Value) (w : World) (hv : IFs Z w v l) (hl : l.length ≤ 1000000) :
    Calls Tryz.prog 27 #[v, .func (.func 28) #[] #[]] w fun e w' => e = .returned (.int .i64 (firstE ifE l)) ∧ Below w.heap.size w w' := by
  obtain ⟨p, c, rfl, hh⟩ := hv
  have HH := Hid.mk'' hh
  obtain ⟨n, hn⟩ : ∃ n, n = l.length := ⟨_, rfl⟩
  rw [← hn] at hl ⊢
  have HN := Hid.mk'' hn
  clear hh hn
  go_enter Tryz.func27, Tryz.ntmps27
  go_wp2
  go_loopg [10] (n + 1) (fun kx s10 wr => ∃ i : Nat, s10 = .int .i64 i ∧ kx + i = n + 1 ∧ i ≤ n ∧ Hid (Below w.heap.size w wr ∧ ∀ j x, j < i → l[j]? = some x → ifE x = 0))
  case atStart => exact ⟨0, rfl, rfl, Nat.zero_le _, Below.refl _ _, fun j x hj => by omega⟩
  case round =>
    obtain ⟨i, rfl, hkx, hi, HM⟩ := hrel
    by_cases hlt : i < n
    · obtain ⟨x, hx⟩ : ∃ x, l[i]? = some x := ⟨_, List.getElem?_eq_getElem (by rw [← HN.out]; exact hlt)⟩
      obtain ⟨g, o, rfl, hz, hgl, hk⟩ := HH.out i x hx
      have hk2 := hk.same (w' := wr) (fun j => HM.out.1.cell (p := ⟨g, j, none⟩) hgl)
      obtain ⟨q0, q1, q2, q3, q4, z0, z1⟩ := hk2
      have hok := fun W => checkIf_any x W z0
      have HX := Hid.mk'' hx
      have HB2 : Hid (∀ o W, Below (wr.alloc o).heap.size (wr.alloc o) W → Below w.heap.size w W) := fun o W hb => (HM.out.1.alloc HM.out.1.size _).trans (hb.mono (by have := HM.out.1.size; simp; omega))
      by_cases hE : ifE x = 0
      · have HE := Hid.mk'' hE
        rw [hE] at hok
        obtain ⟨a, b, cc, d, f⟩ := x
        dsimp only [encIf] at *
        clear hk hx hE
        go_wp2_with (go_at_call 28; refine (hok _).mono ?_; rintro e2 w2 ⟨rfl, hb2⟩)
        go_roundg (n - i)
        case measure => omega
        case rel =>
          refine ⟨i + 1, by congr 1, by omega, by omega, HB2.out _ _ hb2, fun j y hj hy => ?_⟩
          rcases Nat.lt_or_ge j i with h | h
          · exact HM.out.2 j y h hy
          · obtain rfl : j = i := by omega
            obtain rfl := Option.some.inj (HX.out.symm.trans hy)
            exact HE.out
      · have HE := Hid.mk'' (firstE_at HM.out.2 hx hE)
        have hEb : decide (ifE x = 0) = false := decide_eq_false hE
        obtain ⟨r, hr⟩ : ∃ r, r = ifE x := ⟨_, rfl⟩
        rw [← hr] at hok hE hEb HE
        clear hr
        obtain ⟨a, b, cc, d, f⟩ := x
        dsimp only [encIf] at *
        clear hk hx
        go_wp2_with (go_at_call 28; refine (hok _).mono ?_; rintro e2 w2 ⟨rfl, hb2⟩)
        go_ret
        exact ⟨by rw [HE.out]; rfl, HB2.out _ _ hb2⟩
    · obtain rfl : i = n := by omega
      have HE := Hid.mk'' (firstE_none (f := ifE) (l := l) (fun j x hj hx => HM.out.2 j x (by rw [HN.out]; exact hj) hx))
      go_wp2
      go_ret
      exact ⟨by rw [HE.out]; rfl, HM.out.1⟩
set_option maxRecDepth 100000 in
set_option maxHeartbeats 1000000 in
theorem firstOp_any {Z : Nat → Prop} (l : List Opd) (v : Value) (w : World) (hv : OPs Z w v l) (hl : l.length ≤ 1000000) :
    Calls Tryz.prog 29 #[v, .func (.func 30) #[] #[]] w fun e w' => e = .returned (.int .i64 (firstE opE l)) ∧ Below w.heap.size w w' := by
  obtain ⟨p, c, rfl, hh⟩ := hv
  have HH := Hid.mk'' hh
  obtain ⟨n, hn⟩ : ∃ n, n = l.length := ⟨_, rfl⟩
  rw [← hn] at hl ⊢
  have HN := Hid.mk'' hn
  clear hh hn
  go_enter Tryz.func29, Tryz.ntmps29
  go_wp2
  go_loopg [10] (n + 1) (fun kx s10 wr => ∃ i : Nat, s10 = .int .i64 i ∧ kx + i = n + 1 ∧ i ≤ n ∧ Hid (Below w.heap.size w wr ∧ ∀ j x, j < i → l[j]? = some x → opE x = 0))
  case atStart => exact ⟨0, rfl, rfl, Nat.zero_le _, Below.refl _ _, fun j x hj => by omega⟩
  case round =>
    obtain ⟨i, rfl, hkx, hi, HM⟩ := hrel
    by_cases hlt : i < n
    · obtain ⟨x, hx⟩ : ∃ x, l[i]? = some x := ⟨_, List.getElem?_eq_getElem (by rw [← HN.out]; exact hlt)⟩
      obtain ⟨g, o, rfl, hz, hgl, hk⟩ := HH.out i x hx
      have hk2 := hk.same (w' := wr) (fun j => HM.out.1.cell (p := ⟨g, j, none⟩) hgl)
      obtain ⟨q0, q1, q2, q3, q4, q5, z0, z1, z2⟩ := hk2
      have hok := fun W => checkOp_any x W z0 z2
      have HX := Hid.mk'' hx
      have HB2 : Hid (∀ o W, Below (wr.alloc o).heap.size (wr.alloc o) W → Below w.heap.size w W) := fun o W hb => (HM.out.1.alloc HM.out.1.size _).trans (hb.mono (by have := HM.out.1.size; simp; omega))
      by_cases hE : opE x = 0
      · have HE := Hid.mk'' hE
        rw [hE] at hok
        obtain ⟨a, b, cc, d, f, h⟩ := x
        dsimp only [encOp] at *
        clear hk hx hE
        go_wp2_with (go_at_call 30; refine (hok _).mono ?_; rintro e2 w2 ⟨rfl, hb2⟩)
        go_roundg (n - i)
        case measure => omega
        case rel =>
          refine ⟨i + 1, by congr 1, by omega, by omega, HB2.out _ _ hb2, fun j y hj hy => ?_⟩
          rcases Nat.lt_or_ge j i with h | h
          · exact HM.out.2 j y h hy
          · obtain rfl : j = i := by omega
            obtain rfl := Option.some.inj (HX.out.symm.trans hy)
            exact HE.out
      · have HE := Hid.mk'' (firstE_at HM.out.2 hx hE)
        have hEb : decide (opE x = 0) = false := decide_eq_false hE
        obtain ⟨r, hr⟩ : ∃ r, r = opE x := ⟨_, rfl⟩
        rw [← hr] at hok hE hEb HE
        clear hr
        obtain ⟨a, b, cc, d, f, h⟩ := x
        dsimp only [encOp] at *
        clear hk hx
        go_wp2_with (go_at_call 30; refine (hok _).mono ?_; rintro e2 w2 ⟨rfl, hb2⟩)
        go_ret
        exact ⟨by rw [HE.out]; rfl, HB2.out _ _ hb2⟩
    · obtain rfl : i = n := by omega
      have HE := Hid.mk'' (firstE_none (f := opE) (l := l) (fun j x hj hx => HM.out.2 j x (by rw [HN.out]; exact hj) hx))
      go_wp2
      go_ret
      exact ⟨by rw [HE.out]; rfl, HM.out.1⟩
end Go.Proofs.YtgbobegoknmiaaaGreat
/- Check: a transaction's error. -/
namespace Go.Proofs.YtgbobegoknmiaaaGreat
open Go Go.RowKit

/-- A branch puts a key that another operation of it changes too. -/
def twB (l : List Opd) : Bool := (List.range l.length).any fun i => (List.range l.length).any fun j => decide (i ≠ j) && (match l[i]?, l[j]? with | some x, some y => decide (x.kind = 0) && chgO y x.key | _, _ => false)
theorem twB_yes {l : List Opd} {i j : Nat} {x y : Opd} (hx : l[i]? = some x) (hy : l[j]? = some y) (hij : i ≠ j) (h0 : x.kind = 0) (hc : chgO y x.key = true) : twB l = true := by
  unfold twB
  refine List.any_eq_true.2 ⟨i, List.mem_range.2 (List.getElem?_eq_some_iff.1 hx).1, List.any_eq_true.2 ⟨j, List.mem_range.2 (List.getElem?_eq_some_iff.1 hy).1, ?_⟩⟩
  rw [hx, hy]
  simp [hij, h0, hc]
theorem twB_no {l : List Opd} (h : ∀ (i j : Nat) (x y : Opd), l[i]? = some x → l[j]? = some y → i ≠ j → x.kind = 0 → chgO y x.key = false) : twB l = false := by
  unfold twB
  rw [List.any_eq_false]
  intro i hi hh
  obtain ⟨j, hj, hh⟩ := List.any_eq_true.1 hh
  have hi := List.mem_range.1 hi
  have hj := List.mem_range.1 hj
  rw [List.getElem?_eq_getElem hi, List.getElem?_eq_getElem hj] at hh
  simp only [Bool.and_eq_true, decide_eq_true_eq] at hh
  have := h i j _ _ (List.getElem?_eq_getElem hi) (List.getElem?_eq_getElem hj) hh.1 hh.2.1
  rw [this] at hh
  exact absurd hh.2.2 (by decide)
def branchE (l : List Opd) : Int := if twB l then 18 else 0
set_option maxRecDepth 100000 in
set_option maxHeartbeats 2000000 in
theorem branch_any {Z : Nat → Prop} (l : List Opd) (v : Value) (w : World) (hv : OPs Z w v l) (hl : l.length ≤ 1000000) :
    Calls Tryz.prog 31 #[v] w fun e w' => e = .returned (.int .i64 (branchE l)) ∧ Below w.heap.size w w' := by
  obtain ⟨p, c, rfl, hh⟩ := hv
  have HH := Hid.mk'' hh
  obtain ⟨n, hn⟩ : ∃ n, n = l.length := ⟨_, rfl⟩
  rw [← hn] at hl ⊢
  have HN := Hid.mk'' hn
  clear hh hn
  go_enter Tryz.func31, Tryz.ntmps31
  go_wp2
  go_loopg [9] (n + 1) (fun kx s9 wr => ∃ i : Nat, s9 = .int .i64 i ∧ kx + i = n + 1 ∧ i ≤ n ∧ Hid (Below w.heap.size w wr ∧ ∀ (a b : Nat) (x y : Opd), a < i → l[a]? = some x → l[b]? = some y → a ≠ b → x.kind = 0 → chgO y x.key = false))
  case atStart => exact ⟨0, rfl, rfl, Nat.zero_le _, Below.refl _ _, fun a b x y hj => by omega⟩
  case round =>
    obtain ⟨i, rfl, hkx, hi, HM⟩ := hrel
    by_cases hlt : i < n
    · obtain ⟨x, hx⟩ : ∃ x, l[i]? = some x := ⟨_, List.getElem?_eq_getElem (by rw [← HN.out]; exact hlt)⟩
      obtain ⟨g, o, rfl, hz, hgl, hk⟩ := HH.out i x hx
      have hk2 := hk.same (w' := wr) (fun j => HM.out.1.cell (p := ⟨g, j, none⟩) hgl)
      obtain ⟨q0, q1, q2, q3, q4, q5, z0, z1, z2⟩ := hk2
      have HX := Hid.mk'' hx
      obtain ⟨W0, hW0⟩ : ∃ W0, W0 = wr := ⟨_, rfl⟩
      subst hW0
      obtain ⟨a, b, cc, d, f, h⟩ := x
      dsimp only at *
      obtain ⟨w1, hw1⟩ : ∃ w1, w1 = W0.alloc (.cells #[.int .i64 a, .string b, .string cc, .string d, .int .i64 f, .int .i64 h] 57) := ⟨_, rfl⟩
      have HB1 : Hid (Below w.heap.size w w1) := by rw [hw1]; exact HM.out.1.alloc HM.out.1.size _
      have hs1 : W0.heap.size < w1.heap.size := by rw [hw1]; simp
      have r1 : w1.heap[W0.heap.size]? = some (.cells #[.int .i64 a, .string b, .string cc, .string d, .int .i64 f, .int .i64 h] 57 (0, 0)) := by rw [hw1]; exact heap_alloc_new W0 _
      have c1 : w1.cell? ⟨W0.heap.size, 1, none⟩ = some (.string b) := cell_of_row _ _ _ _ _ _ r1
      by_cases h0 : a = 0
      · subst h0
        clear hk hx
        go_upto_region 5 with fail
        rw [← hw1]
        obtain ⟨bx, hbx⟩ : ∃ bx, bx = W0.heap.size := ⟨_, rfl⟩
        rw [← hbx] at hs1 c1 ⊢
        clear hw1 hbx q0 q1 q2 q3 q4 q5 r1
        have HC1 := Hid.mk'' c1
        go_wp2
        go_loopg [19] (n + 1) (fun kx s19 wq => ∃ j : Nat, s19 = .int .i64 j ∧ kx + j = n + 1 ∧ j ≤ n ∧ Hid (Below w1.heap.size w1 wq ∧ ∀ t y, t < j → l[t]? = some y → i ≠ t → chgO y b = false))
        case atStart => exact ⟨0, rfl, rfl, Nat.zero_le _, Below.refl _ _, fun t y hj => by omega⟩
        case round =>
          obtain ⟨j, rfl, hkx2, hj, HQ⟩ := hrel
          by_cases hlt2 : j < n
          · obtain ⟨y, hy⟩ : ∃ y, l[j]? = some y := ⟨_, List.getElem?_eq_getElem (by rw [← HN.out]; exact hlt2)⟩
            obtain ⟨g2, o2, e2, hz2, hgl2, hk3⟩ := HH.out j y hy
            cases e2
            have hk4 := hk3.same (w' := wr) (fun t => (HB1.out.trans (HQ.out.1.mono HB1.out.size)).cell (p := ⟨g, t, none⟩) hgl)
            obtain ⟨p0, p1, p2, p3, p4, p5, -, -, -⟩ := hk4
            have hcb := (HQ.out.1.cell (p := ⟨bx, 1, none⟩) hs1).trans HC1.out
            have hbl : bx < wr.heap.size := Nat.lt_of_lt_of_le hs1 HQ.out.1.size
            have hnb : ¬ bx = wr.heap.size := by omega
            have hnb' : ¬ wr.heap.size = bx := by omega
            have hok := fun W => changes_any y b W
            have HY := Hid.mk'' hy
            have HB2 : Hid (∀ o W, Below (wr.alloc o).heap.size (wr.alloc o) W → Below w1.heap.size w1 W) := fun o W hb => (HQ.out.1.alloc HQ.out.1.size _).trans (hb.mono (by have := HQ.out.1.size; simp; omega))
            by_cases hij : i = j
            · subst hij
              obtain ⟨a', b', cc', d', f', h'⟩ := y
              dsimp only at *
              clear hk3 hok hy
              go_wp2
              go_roundg (n - i)
              case measure => omega
              case rel =>
                refine ⟨i + 1, by congr 1, by omega, by omega, HB2.out _ _ (Below.refl _ _), fun t y ht hy hne => HQ.out.2 t y (by omega) hy hne⟩
            · have hijI : ¬ (i : Int) = (j : Int) := by omega
              have hijB : ((i : Int) != (j : Int)) = true := by simp; omega
              cases hc : chgO y b with
              | true =>
                have HT := Hid.mk'' (show branchE l = 18 by unfold branchE; rw [if_pos (twB_yes HX.out HY.out hij rfl hc)])
                rw [hc] at hok
                obtain ⟨a', b', cc', d', f', h'⟩ := y
                dsimp only [encOp] at *
                clear hk3 hy hc
                go_wp2_with (go_at_call 61; refine (hok _).mono ?_; rintro e2 w2 ⟨rfl, hb2⟩)
                go_ret
                exact ⟨by rw [HT.out]; rfl, HB1.out.trans ((HB2.out _ _ hb2).mono HB1.out.size)⟩
              | false =>
                have HT := Hid.mk'' hc
                rw [hc] at hok
                obtain ⟨a', b', cc', d', f', h'⟩ := y
                dsimp only [encOp] at *
                clear hk3 hy hc
                go_wp2_with (go_at_call 61; refine (hok _).mono ?_; rintro e2 w2 ⟨rfl, hb2⟩)
                go_roundg (n - j)
                case measure => omega
                case rel =>
                  refine ⟨j + 1, by congr 1, by omega, by omega, HB2.out _ _ hb2, fun t y ht hy hne => ?_⟩
                  rcases Nat.lt_or_ge t j with h | h
                  · exact HQ.out.2 t y h hy hne
                  · obtain rfl : t = j := by omega
                    obtain rfl := Option.some.inj (HY.out.symm.trans hy)
                    exact HT.out
          · obtain rfl : j = n := by omega
            go_wp2
            go_roundg (j - i)
            case measure => omega
            case rel =>
              refine ⟨i + 1, by congr 1, by omega, by omega, HB1.out.trans (HQ.out.1.mono HB1.out.size), fun s t x y hs hx hy hne hx0 => ?_⟩
              rcases Nat.lt_or_ge s i with h | h
              · exact HM.out.2 s t x y h hx hy hne hx0
              · obtain rfl : s = i := by omega
                obtain rfl := Option.some.inj (HX.out.symm.trans hx)
                exact HQ.out.2 t y (by rw [HN.out]; exact (List.getElem?_eq_some_iff.1 hy).1) hy hne
      · have HR1 := HB1
        rw [hw1] at HR1
        clear hk hx hw1 r1 c1 hs1 HB1
        go_wp2
        go_roundg (n - i)
        case measure => omega
        case rel =>
          refine ⟨i + 1, by congr 1, by omega, by omega, HR1.out, fun s t x y hs hx hy hne hx0 => ?_⟩
          rcases Nat.lt_or_ge s i with h | h
          · exact HM.out.2 s t x y h hx hy hne hx0
          · obtain rfl : s = i := by omega
            obtain rfl := Option.some.inj (HX.out.symm.trans hx)
            exact absurd hx0 h0
    · obtain rfl : i = n := by omega
      have HE := Hid.mk'' (show branchE l = 0 by
        unfold branchE
        rw [twB_no (fun s t x y hx hy hne hx0 => HM.out.2 s t x y (by rw [HN.out]; exact (List.getElem?_eq_some_iff.1 hx).1) hx hy hne hx0)]
        rfl)
      go_wp2
      go_ret
      exact ⟨by rw [HE.out]; rfl, HM.out.1⟩
set_option maxRecDepth 100000 in
set_option maxHeartbeats 1000000 in
/-- cmp.Or of errors. -/
theorem or_any (es : List Int) (B : Nat) (w : World) (hc : ∀ (i : Nat) (e : Int), es[i]? = some e → w.cell? ⟨B, i, none⟩ = some (.int .i64 e)) (hl : es.length ≤ 1000) :
    Calls Tryz.prog 26 #[.slice (some ⟨B, 0, none⟩) es.length es.length] w fun e w' => e = .returned (.int .i64 (firstE id es)) ∧ w' = w := by
  obtain ⟨n, hn⟩ : ∃ n, n = es.length := ⟨_, rfl⟩
  rw [← hn] at hl ⊢
  have HN := Hid.mk'' hn
  have HC := Hid.mk'' hc
  clear hn hc
  go_enter Tryz.func26, Tryz.ntmps26
  go_wp2
  go_loopg [8] (n + 1) (fun kx s8 wr => ∃ i : Nat, s8 = .int .i64 i ∧ kx + i = n + 1 ∧ i ≤ n ∧ wr = w ∧ Hid (∀ (j : Nat) (x : Int), j < i → es[j]? = some x → id x = 0))
  case atStart => exact ⟨0, rfl, rfl, Nat.zero_le _, rfl, fun j x hj => by omega⟩
  case round =>
    obtain ⟨i, rfl, hkx, hi, rfl, HM⟩ := hrel
    by_cases hlt : i < n
    · obtain ⟨x, hx⟩ : ∃ x, es[i]? = some x := ⟨_, List.getElem?_eq_getElem (by rw [← HN.out]; exact hlt)⟩
      have hcx := HC.out i x hx
      have HX := Hid.mk'' hx
      by_cases hE : x = 0
      · subst hE
        clear hx
        go_wp2
        go_roundg (n - i)
        case measure => omega
        case rel =>
          refine ⟨i + 1, by congr 1, by omega, by omega, rfl, fun j y hj hy => ?_⟩
          rcases Nat.lt_or_ge j i with h | h
          · exact HM.out j y h hy
          · obtain rfl : j = i := by omega
            exact (Option.some.inj (HX.out.symm.trans hy)).symm
      · have HE := Hid.mk'' (firstE_at (f := id) HM.out hx hE)
        clear hx
        go_wp2
        go_ret
        exact ⟨by rw [HE.out]; rfl, rfl⟩
    · obtain rfl : i = n := by omega
      have HE := Hid.mk'' (firstE_none (f := id) (l := es) (fun j x hj hx => HM.out j x (by rw [HN.out]; exact hj) hx))
      go_wp2
      go_ret
      exact ⟨by rw [HE.out]; rfl, rfl⟩
structure Txd where
  ifs : List Ifd
  thn : List Opd
  els : List Opd
/-- A transaction in memory. -/
structure HasT (Z : Nat → Prop) (w : World) (vi vt ve : Value) (t : Txd) : Prop where
  hi : IFs Z w vi t.ifs
  ht : OPs Z w vt t.thn
  he : OPs Z w ve t.els
theorem HasT.upd {Z S : Nat → Prop} {w w' : World} {vi vt ve : Value} {t : Txd} (h : HasT Z w vi vt ve t) (hu : Upd w w' S) (hS : ∀ k, Z k → ¬ S k) : HasT Z w' vi vt ve t := ⟨h.hi.upd hu hS, h.ht.upd hu hS, h.he.upd hu hS⟩
theorem HasT.below {Z : Nat → Prop} {w w' : World} {vi vt ve : Value} {t : Txd} (h : HasT Z w vi vt ve t) (hb : Below w.heap.size w w') : HasT Z w' vi vt ve t := ⟨h.hi.below hb, h.ht.below hb, h.he.below hb⟩
def checkE (t : Txd) : Int := if 32 < t.ifs.length ∨ 32 < t.thn.length ∨ 32 < t.els.length then 4 else firstE id [firstE ifE t.ifs, firstE opE t.thn, firstE opE t.els, branchE t.thn, branchE t.els]
set_option maxRecDepth 100000 in
set_option maxHeartbeats 4000000 in
theorem check_any {Z : Nat → Prop} (t : Txd) (vi vt ve : Value) (w : World) (hv : HasT Z w vi vt ve t) (h1 : t.ifs.length ≤ 1000000) (h2 : t.thn.length ≤ 1000000) (h3 : t.els.length ≤ 1000000) :
    Calls Tryz.prog 12 #[.agg #[vi, vt, ve]] w fun e w' => e = .returned (.int .i64 (checkE t)) ∧ Below w.heap.size w w' := by
  have HV := Hid.mk'' hv
  obtain ⟨pi, ci, rfl, -⟩ := hv.hi
  obtain ⟨pt, ct, rfl, -⟩ := hv.ht
  obtain ⟨pe, ce, rfl, -⟩ := hv.he
  clear hv
  obtain ⟨w1, hw1⟩ : ∃ w1, w1 = w.alloc (.cells #[.slice pi t.ifs.length ci, .slice pt t.thn.length ct, .slice pe t.els.length ce] 36) := ⟨_, rfl⟩
  have hb1 : Below w.heap.size w w1 := by rw [hw1]; exact (Below.refl _ _).alloc (Nat.le_refl _) _
  have r1 : w1.heap[w.heap.size]? = some (.cells #[.slice pi t.ifs.length ci, .slice pt t.thn.length ct, .slice pe t.els.length ce] 36 (0, 0)) := by rw [hw1]; exact heap_alloc_new w _
  have hs1 : w.heap.size < w1.heap.size := by rw [hw1]; simp
  have HB1 := Hid.mk'' hb1
  unfold checkE
  by_cases hm1 : 32 < t.ifs.length
  · rw [if_pos (.inl hm1)]
    have hi1 : (32 : Int) < (t.ifs.length : Int) := by omega
    go_enter Tryz.func12, Tryz.ntmps12
    go_wp2_with fail
    go_ret
    exact ⟨rfl, by rw [← hw1]; exact HB1.out⟩
  by_cases hm2 : 32 < t.thn.length
  · rw [if_pos (.inr (.inl hm2))]
    have hi1 : ¬ (32 : Int) < (t.ifs.length : Int) := by omega
    have hi2 : (32 : Int) < (t.thn.length : Int) := by omega
    go_enter Tryz.func12, Tryz.ntmps12
    go_wp2_with fail
    go_ret
    exact ⟨rfl, by rw [← hw1]; exact HB1.out⟩
  by_cases hm3 : 32 < t.els.length
  · rw [if_pos (.inr (.inr hm3))]
    have hi1 : ¬ (32 : Int) < (t.ifs.length : Int) := by omega
    have hi2 : ¬ (32 : Int) < (t.thn.length : Int) := by omega
    have hi3 : (32 : Int) < (t.els.length : Int) := by omega
    go_enter Tryz.func12, Tryz.ntmps12
    go_wp2_with fail
    go_ret
    exact ⟨rfl, by rw [← hw1]; exact HB1.out⟩
  rw [if_neg (by omega)]
  have hi1 : ¬ (32 : Int) < (t.ifs.length : Int) := by omega
  have hi2 : ¬ (32 : Int) < (t.thn.length : Int) := by omega
  have hi3 : ¬ (32 : Int) < (t.els.length : Int) := by omega
  obtain ⟨bx, hbx⟩ : ∃ bx, bx = w.heap.size := ⟨_, rfl⟩
  rw [← hbx] at r1 hs1
  have HK : Hid (∀ W W', (W.cell? ⟨bx, 0, none⟩ = some (.slice pi t.ifs.length ci) ∧ W.cell? ⟨bx, 1, none⟩ = some (.slice pt t.thn.length ct) ∧ W.cell? ⟨bx, 2, none⟩ = some (.slice pe t.els.length ce) ∧ Hid (Below w1.heap.size w1 W)) → Below W.heap.size W W' → (W'.cell? ⟨bx, 0, none⟩ = some (.slice pi t.ifs.length ci) ∧ W'.cell? ⟨bx, 1, none⟩ = some (.slice pt t.thn.length ct) ∧ W'.cell? ⟨bx, 2, none⟩ = some (.slice pe t.els.length ce) ∧ Hid (Below w1.heap.size w1 W'))) := fun W W' h hb => by
    obtain ⟨a, b, c, d⟩ := h
    have hl : bx < W.heap.size := Nat.lt_of_lt_of_le hs1 d.out.size
    exact ⟨(hb.cell (p := ⟨bx, 0, none⟩) hl).trans a, (hb.cell (p := ⟨bx, 1, none⟩) hl).trans b, (hb.cell (p := ⟨bx, 2, none⟩) hl).trans c, d.out.trans (hb.mono d.out.size)⟩
  have k1 : ∀ W, (W.cell? ⟨bx, 0, none⟩ = some (.slice pi t.ifs.length ci) ∧ W.cell? ⟨bx, 1, none⟩ = some (.slice pt t.thn.length ct) ∧ W.cell? ⟨bx, 2, none⟩ = some (.slice pe t.els.length ce) ∧ Hid (Below w1.heap.size w1 W)) → Calls Tryz.prog 27 #[.slice pi t.ifs.length ci, .func (.func 28) #[] #[]] W fun e W' => e = .returned (.int .i64 (firstE ifE t.ifs)) ∧ (W'.cell? ⟨bx, 0, none⟩ = some (.slice pi t.ifs.length ci) ∧ W'.cell? ⟨bx, 1, none⟩ = some (.slice pt t.thn.length ct) ∧ W'.cell? ⟨bx, 2, none⟩ = some (.slice pe t.els.length ce) ∧ Hid (Below w1.heap.size w1 W')) := fun W h => (firstIf_any t.ifs _ W (HV.out.hi.below (HB1.out.trans (h.2.2.2.out.mono HB1.out.size))) h1).mono fun e W' h' => ⟨h'.1, HK.out W W' h h'.2⟩
  have k2 : ∀ W, (W.cell? ⟨bx, 0, none⟩ = some (.slice pi t.ifs.length ci) ∧ W.cell? ⟨bx, 1, none⟩ = some (.slice pt t.thn.length ct) ∧ W.cell? ⟨bx, 2, none⟩ = some (.slice pe t.els.length ce) ∧ Hid (Below w1.heap.size w1 W)) → Calls Tryz.prog 29 #[.slice pt t.thn.length ct, .func (.func 30) #[] #[]] W fun e W' => e = .returned (.int .i64 (firstE opE t.thn)) ∧ (W'.cell? ⟨bx, 0, none⟩ = some (.slice pi t.ifs.length ci) ∧ W'.cell? ⟨bx, 1, none⟩ = some (.slice pt t.thn.length ct) ∧ W'.cell? ⟨bx, 2, none⟩ = some (.slice pe t.els.length ce) ∧ Hid (Below w1.heap.size w1 W')) := fun W h => (firstOp_any t.thn _ W (HV.out.ht.below (HB1.out.trans (h.2.2.2.out.mono HB1.out.size))) h2).mono fun e W' h' => ⟨h'.1, HK.out W W' h h'.2⟩
  have k3 : ∀ W, (W.cell? ⟨bx, 0, none⟩ = some (.slice pi t.ifs.length ci) ∧ W.cell? ⟨bx, 1, none⟩ = some (.slice pt t.thn.length ct) ∧ W.cell? ⟨bx, 2, none⟩ = some (.slice pe t.els.length ce) ∧ Hid (Below w1.heap.size w1 W)) → Calls Tryz.prog 29 #[.slice pe t.els.length ce, .func (.func 30) #[] #[]] W fun e W' => e = .returned (.int .i64 (firstE opE t.els)) ∧ (W'.cell? ⟨bx, 0, none⟩ = some (.slice pi t.ifs.length ci) ∧ W'.cell? ⟨bx, 1, none⟩ = some (.slice pt t.thn.length ct) ∧ W'.cell? ⟨bx, 2, none⟩ = some (.slice pe t.els.length ce) ∧ Hid (Below w1.heap.size w1 W')) := fun W h => (firstOp_any t.els _ W (HV.out.he.below (HB1.out.trans (h.2.2.2.out.mono HB1.out.size))) h3).mono fun e W' h' => ⟨h'.1, HK.out W W' h h'.2⟩
  have k4 : ∀ W, (W.cell? ⟨bx, 0, none⟩ = some (.slice pi t.ifs.length ci) ∧ W.cell? ⟨bx, 1, none⟩ = some (.slice pt t.thn.length ct) ∧ W.cell? ⟨bx, 2, none⟩ = some (.slice pe t.els.length ce) ∧ Hid (Below w1.heap.size w1 W)) → Calls Tryz.prog 31 #[.slice pt t.thn.length ct] W fun e W' => e = .returned (.int .i64 (branchE t.thn)) ∧ (W'.cell? ⟨bx, 0, none⟩ = some (.slice pi t.ifs.length ci) ∧ W'.cell? ⟨bx, 1, none⟩ = some (.slice pt t.thn.length ct) ∧ W'.cell? ⟨bx, 2, none⟩ = some (.slice pe t.els.length ce) ∧ Hid (Below w1.heap.size w1 W')) := fun W h => (branch_any t.thn _ W (HV.out.ht.below (HB1.out.trans (h.2.2.2.out.mono HB1.out.size))) h2).mono fun e W' h' => ⟨h'.1, HK.out W W' h h'.2⟩
  have k5 : ∀ W, (W.cell? ⟨bx, 0, none⟩ = some (.slice pi t.ifs.length ci) ∧ W.cell? ⟨bx, 1, none⟩ = some (.slice pt t.thn.length ct) ∧ W.cell? ⟨bx, 2, none⟩ = some (.slice pe t.els.length ce) ∧ Hid (Below w1.heap.size w1 W)) → Calls Tryz.prog 31 #[.slice pe t.els.length ce] W fun e W' => e = .returned (.int .i64 (branchE t.els)) ∧ (W'.cell? ⟨bx, 0, none⟩ = some (.slice pi t.ifs.length ci) ∧ W'.cell? ⟨bx, 1, none⟩ = some (.slice pt t.thn.length ct) ∧ W'.cell? ⟨bx, 2, none⟩ = some (.slice pe t.els.length ce) ∧ Hid (Below w1.heap.size w1 W')) := fun W h => (branch_any t.els _ W (HV.out.he.below (HB1.out.trans (h.2.2.2.out.mono HB1.out.size))) h3).mono fun e W' h' => ⟨h'.1, HK.out W W' h h'.2⟩
  generalize firstE ifE t.ifs = e1 at *
  generalize firstE opE t.thn = e2 at *
  generalize firstE opE t.els = e3 at *
  generalize branchE t.thn = e4 at *
  generalize branchE t.els = e5 at *
  have k6 : ∀ W, (W.cell? ⟨bx, 0, none⟩ = some (.slice pi t.ifs.length ci) ∧ W.cell? ⟨bx, 1, none⟩ = some (.slice pt t.thn.length ct) ∧ W.cell? ⟨bx, 2, none⟩ = some (.slice pe t.els.length ce) ∧ Hid (Below w1.heap.size w1 W)) → Calls Tryz.prog 26 #[.slice (some ⟨W.heap.size, 0, none⟩) 5 5] (W.alloc (.cells #[.int .i64 e1, .int .i64 e2, .int .i64 e3, .int .i64 e4, .int .i64 e5] 37)) fun e W' => e = .returned (.int .i64 (firstE id [e1, e2, e3, e4, e5])) ∧ (W'.cell? ⟨bx, 0, none⟩ = some (.slice pi t.ifs.length ci) ∧ W'.cell? ⟨bx, 1, none⟩ = some (.slice pt t.thn.length ct) ∧ W'.cell? ⟨bx, 2, none⟩ = some (.slice pe t.els.length ce) ∧ Hid (Below w1.heap.size w1 W')) := fun W h => by
    refine (or_any [e1, e2, e3, e4, e5] W.heap.size (W.alloc (.cells #[.int .i64 e1, .int .i64 e2, .int .i64 e3, .int .i64 e4, .int .i64 e5] 37)) (fun i e hi => ?_) (by simp)).mono fun e W' h' => ⟨h'.1, by rw [h'.2]; exact HK.out W _ h ((Below.refl _ _).alloc (Nat.le_refl _) _)⟩
    refine (cell_of_row _ _ _ _ _ _ (heap_alloc_new W _)).trans ?_
    match i, hi with
    | 0, hy => simp at hy; simp [← hy]
    | 1, hy => simp at hy; simp [← hy]
    | 2, hy => simp at hy; simp [← hy]
    | 3, hy => simp at hy; simp [← hy]
    | 4, hy => simp at hy; simp [← hy]
    | j + 5, hy => simp at hy
  have hS1 : w1.drew.cell? ⟨bx, 0, none⟩ = some (.slice pi t.ifs.length ci) ∧ w1.drew.cell? ⟨bx, 1, none⟩ = some (.slice pt t.thn.length ct) ∧ w1.drew.cell? ⟨bx, 2, none⟩ = some (.slice pe t.els.length ce) ∧ Hid (Below w1.heap.size w1 w1.drew) := ⟨cell_of_row _ _ _ _ _ _ r1, cell_of_row _ _ _ _ _ _ r1, cell_of_row _ _ _ _ _ _ r1, (Below.refl _ _).drew⟩
  have hal : Hid (∀ (W : World) (o : Obj), (W.cell? ⟨bx, 0, none⟩ = some (.slice pi t.ifs.length ci) ∧ W.cell? ⟨bx, 1, none⟩ = some (.slice pt t.thn.length ct) ∧ W.cell? ⟨bx, 2, none⟩ = some (.slice pe t.els.length ce) ∧ Hid (Below w1.heap.size w1 W)) → ((W.alloc o).cell? ⟨bx, 0, none⟩ = some (.slice pi t.ifs.length ci) ∧ (W.alloc o).cell? ⟨bx, 1, none⟩ = some (.slice pt t.thn.length ct) ∧ (W.alloc o).cell? ⟨bx, 2, none⟩ = some (.slice pe t.els.length ce) ∧ Hid (Below w1.heap.size w1 (W.alloc o)))) := fun W o h => HK.out W _ h ((Below.refl _ _).alloc (Nat.le_refl _) _)
  have HFIN : Hid (∀ W, Hid (Below w1.heap.size w1 W) → Below w.heap.size w W) := fun W h => HB1.out.trans (h.out.mono HB1.out.size)
  clear HK HV hb1 h1 h2 h3 hm1 hm2 hm3
  go_enter Tryz.func12, Tryz.ntmps12
  go_upto_region 3 with fail
  rw [← hw1, ← hbx]
  clear hw1 hbx r1 HB1
  go_region_held_law (fun W => W.cell? ⟨bx, 0, none⟩ = some (.slice pi t.ifs.length ci) ∧ W.cell? ⟨bx, 1, none⟩ = some (.slice pt t.thn.length ct) ∧ W.cell? ⟨bx, 2, none⟩ = some (.slice pe t.els.length ce) ∧ Hid (Below w1.heap.size w1 W)) (first | with_reducible assumption | (show _ ∧ _; with_reducible assumption) | (show _ ∧ _; exact hal.out _ _ (by assumption))) (first | (go_at_call 27; with_reducible refine (k1 _ (by assumption)).mono ?_; rintro r w8 ⟨rfl, hS8⟩) | (go_at_call 29; first | (with_reducible refine (k2 _ (by assumption)).mono ?_; rintro r w8 ⟨rfl, hS8⟩) | (with_reducible refine (k3 _ (by assumption)).mono ?_; rintro r w8 ⟨rfl, hS8⟩)) | (go_at_call 31; first | (with_reducible refine (k4 _ (by assumption)).mono ?_; rintro r w8 ⟨rfl, hS8⟩) | (with_reducible refine (k5 _ (by assumption)).mono ?_; rintro r w8 ⟨rfl, hS8⟩)) | (go_at_call 26; with_reducible refine (k6 _ (by assumption)).mono ?_; rintro r w9 ⟨rfl, hS9⟩))
  all_goals
    go_wp2_with fail
    go_ret
    exact ⟨rfl, HFIN.out _ hS9.2.2.2⟩
end Go.Proofs.YtgbobegoknmiaaaGreat
/- What slices.Sort and slices.Compact do at a row of keys: the library's contracts, laid at this program. -/
namespace Go.Proofs
open Go.Shelf
def Tryz.lays194_ren : Go.Shelf.Ren := ⟨fun | 194 => 91 | n => n, fun | 31 => 53 | 9 => 9 | 3 => 3 | 4 => 4 | 0 => 0 | n => n, fun | n => n⟩
theorem Tryz.lays194 : Go.Proofs.Lays.n194 Tryz.prog Tryz.lays194_ren := {
  mixed := by kernel_rfl
  f194 := Tryz.func91.trans (congrArg some (by kernel_rfl))
  t0 := Tryz.underlying0
  a0 := Tryz.isAgg0
  z0 := Tryz.sizeOf0
  v0 := Tryz.zeroValue0
  t3 := Tryz.underlying3
  a3 := Tryz.isAgg3
  z3 := Tryz.sizeOf3
  v3 := Tryz.zeroValue3
  t4 := Tryz.underlying4
  a4 := Tryz.isAgg4
  z4 := Tryz.sizeOf4
  v4 := Tryz.zeroValue4
  t9 := Tryz.underlying9
  a9 := Tryz.isAgg9
  z9 := Tryz.sizeOf9
  v9 := Tryz.zeroValue9
  t31 := Tryz.underlying53
  a31 := Tryz.isAgg53
  z31 := Tryz.sizeOf53
  v31 := Tryz.zeroValue53 }
open Go.RowKit Go.Lib Go.Sort in
theorem Tryz.slices_Compact_string_arr (blk off cap : Nat) (d : Array (List UInt8)) (w : World) (hH : Holds encStr w blk off d) (hsz : d.size ≤ 9223372036854775807) (hcap : d.size ≤ cap) :
    Calls Tryz.prog 91 #[.slice (some ⟨blk, off, none⟩) d.size cap] w fun e w' => e = .returned (.slice (some ⟨blk, off, none⟩) (compactUpTo d d.size).length cap) ∧ ∃ q, w' = putRow encStr (Sort.ahead w q) blk off (compactUpTo d d.size ++ List.replicate (d.size - (compactUpTo d d.size).length) []).toArray := Any.slices_Compact_string_arr Tryz.lays194 blk off cap d w hH hsz hcap
open Go.RowKit Go.Lib Go.Sort in
theorem Tryz.slices_Compact_string (blk off cap : Nat) (zs : List (List UInt8)) (w : World) (hH : Holds encStr w blk off zs.toArray) (hsz : zs.length ≤ 9223372036854775807) (hcap : zs.length ≤ cap) :
    Calls Tryz.prog 91 #[.slice (some ⟨blk, off, none⟩) zs.length cap] w fun e w' => e = .returned (.slice (some ⟨blk, off, none⟩) (Lib.compact zs).length cap) ∧ ∃ q, w' = putRow encStr (Sort.ahead w q) blk off (Lib.compact zs ++ List.replicate (zs.length - (Lib.compact zs).length) []).toArray := Any.slices_Compact_string Tryz.lays194 blk off cap zs w hH hsz hcap
open Go.RowKit Go.Lib Go.Sort in
theorem Tryz.slices_Compact_string_empty (a : Option Addr) (cap : Nat) (w : World) :
    Calls Tryz.prog 91 #[.slice a 0 cap] w fun e w' => e = .returned (.slice a 0 cap) ∧ w' = w := Any.slices_Compact_string_empty Tryz.lays194 a cap w
def Tryz.laysSlM6_f23_ren : Go.Shelf.Ren := ⟨fun | 6 => 90 | 8 => 100 | 9 => 99 | 19 => 117 | 20 => 118 | 21 => 108 | 22 => 109 | 23 => 110 | 24 => 111 | 25 => 112 | 26 => 113 | 27 => 114 | 28 => 115 | 29 => 116 | 36 => 129 | 31 => 130 | 32 => 131 | 37 => 132 | 38 => 133 | 39 => 87 | 41 => 139 | n => n, fun | 27 => 53 | 29 => 9 | 3 => 3 | 32 => 175 | 26 => 53 | 0 => 0 | 44 => 195 | 46 => 197 | 4 => 4 | 36 => 188 | 35 => 187 | 41 => 132 | 5 => 5 | 9 => 9 | 53 => 206 | 57 => 210 | 63 => 216 | 64 => 217 | n => n, fun | n => n⟩
theorem Tryz.laysSlM6_f23 : Go.Proofs.SlLaysM.n6 Tryz.prog Tryz.laysSlM6_f23_ren := {
  mixed := by kernel_rfl
  f6 := ⟨Tryz.f90.name, by decide, Tryz.func90.trans (congrArg some (by kernel_rfl))⟩
  f8 := Tryz.func100.trans (congrArg some (by kernel_rfl))
  f9 := ⟨Tryz.f99.name, by decide, Tryz.func99.trans (congrArg some (by kernel_rfl))⟩
  f19 := Tryz.func117.trans (congrArg some (by kernel_rfl))
  f20 := Tryz.func118.trans (congrArg some (by kernel_rfl))
  f21 := ⟨Tryz.f108.name, by decide, Tryz.func108.trans (congrArg some (by kernel_rfl))⟩
  f22 := ⟨Tryz.f109.name, by decide, Tryz.func109.trans (congrArg some (by kernel_rfl))⟩
  f23 := ⟨Tryz.f110.name, by decide, Tryz.func110.trans (congrArg some (by kernel_rfl))⟩
  f24 := ⟨Tryz.f111.name, by decide, Tryz.func111.trans (congrArg some (by kernel_rfl))⟩
  f25 := ⟨Tryz.f112.name, by decide, Tryz.func112.trans (congrArg some (by kernel_rfl))⟩
  f26 := ⟨Tryz.f113.name, by decide, Tryz.func113.trans (congrArg some (by kernel_rfl))⟩
  f27 := ⟨Tryz.f114.name, by decide, Tryz.func114.trans (congrArg some (by kernel_rfl))⟩
  f28 := ⟨Tryz.f115.name, by decide, Tryz.func115.trans (congrArg some (by kernel_rfl))⟩
  f29 := ⟨Tryz.f116.name, by decide, Tryz.func116.trans (congrArg some (by kernel_rfl))⟩
  f31 := Tryz.func130.trans (congrArg some (by kernel_rfl))
  f32 := Tryz.func131.trans (congrArg some (by kernel_rfl))
  f36 := ⟨Tryz.f129.name, by decide, Tryz.func129.trans (congrArg some (by kernel_rfl))⟩
  f37 := ⟨Tryz.f132.name, by decide, Tryz.func132.trans (congrArg some (by kernel_rfl))⟩
  f38 := ⟨Tryz.f133.name, by decide, Tryz.func133.trans (congrArg some (by kernel_rfl))⟩
  f39 := ⟨Tryz.f87.name, by decide, Tryz.func87.trans (congrArg some (by kernel_rfl))⟩
  f41 := ⟨Tryz.f139.name, by decide, Tryz.func139.trans (congrArg some (by kernel_rfl))⟩
  t0 := Tryz.underlying0
  a0 := Tryz.isAgg0
  z0 := Tryz.sizeOf0
  v0 := Tryz.zeroValue0
  t3 := Tryz.underlying3
  a3 := Tryz.isAgg3
  z3 := Tryz.sizeOf3
  v3 := Tryz.zeroValue3
  t4 := Tryz.underlying4
  a4 := Tryz.isAgg4
  z4 := Tryz.sizeOf4
  v4 := Tryz.zeroValue4
  t5 := Tryz.underlying5
  a5 := Tryz.isAgg5
  z5 := Tryz.sizeOf5
  v5 := Tryz.zeroValue5
  t9 := Tryz.underlying9
  a9 := Tryz.isAgg9
  z9 := Tryz.sizeOf9
  v9 := Tryz.zeroValue9
  t26 := Tryz.underlying53
  a26 := Tryz.isAgg53
  z26 := Tryz.sizeOf53
  v26 := Tryz.zeroValue53
  t27 := Tryz.underlying53
  a27 := Tryz.isAgg53
  z27 := Tryz.sizeOf53
  v27 := Tryz.zeroValue53
  t29 := Tryz.underlying9
  a29 := Tryz.isAgg9
  z29 := Tryz.sizeOf9
  v29 := Tryz.zeroValue9
  t32 := Tryz.underlying175
  a32 := Tryz.isAgg175
  z32 := Tryz.sizeOf175
  v32 := Tryz.zeroValue175
  t35 := Tryz.underlying187
  a35 := Tryz.isAgg187
  z35 := Tryz.sizeOf187
  v35 := Tryz.zeroValue187
  t36 := Tryz.underlying188
  a36 := Tryz.isAgg188
  z36 := Tryz.sizeOf188
  v36 := Tryz.zeroValue188
  t41 := Tryz.underlying132
  a41 := Tryz.isAgg132
  z41 := Tryz.sizeOf132
  v41 := Tryz.zeroValue132
  t44 := Tryz.underlying195
  a44 := Tryz.isAgg195
  z44 := Tryz.sizeOf195
  v44 := Tryz.zeroValue195
  t46 := Tryz.underlying197
  a46 := Tryz.isAgg197
  z46 := Tryz.sizeOf197
  v46 := Tryz.zeroValue197
  t53 := Tryz.underlying206
  a53 := Tryz.isAgg206
  z53 := Tryz.sizeOf206
  v53 := Tryz.zeroValue206
  t57 := Tryz.underlying210
  a57 := Tryz.isAgg210
  z57 := Tryz.sizeOf210
  v57 := Tryz.zeroValue210
  t63 := Tryz.underlying216
  a63 := Tryz.isAgg216
  z63 := Tryz.sizeOf216
  v63 := Tryz.zeroValue216
  t64 := Tryz.underlying217
  a64 := Tryz.isAgg217
  z64 := Tryz.sizeOf217
  v64 := Tryz.zeroValue217 }
open Go.Sort Go.RowKit in
theorem Tryz.slices_Sort_string (blk off cap : Nat) (ss : List (List UInt8)) (w : World) (hH : Holds encStr w blk off ss.toArray) (hblk : blk < w.heap.size) (hsz : ss.length < 4611686018427387904) :
    Calls Tryz.prog 90 #[.slice (some ⟨blk, off, none⟩) ss.length cap] w fun e w' =>
      e = .returned (.tuple #[]) ∧ ∃ n os, w' = grow (putRow encStr (Sort.ahead w n) blk off (ss.mergeSort fun x y => decide (x ≤ y)).toArray) os := AnyM.slices_Sort_string Tryz.laysSlM6_f23 blk off cap ss w hH hblk hsz
open Go.RowKit Go.Sort in
theorem Tryz.slices_Sort_string_none (p : Option Addr) (cap : Nat) (w : World) :
    Calls Tryz.prog 90 #[.slice p 0 cap] w fun e w' => e = .returned (.tuple #[]) ∧ w' = w := AnyM.slices_Sort_string_none Tryz.laysSlM6_f23 p cap w
end Go.Proofs
/- add to a leaf. -/
namespace Go.Proofs.YtgbobegoknmiaaaGreat
open Go Go.RowKit

theorem place_node {w : World} {b : Nat} {iv kv : Value} {its : List Itm} {ks : List Nat} (hN : Nod w b iv kv its ks) (hs : Asc (keysI its)) (hn : its.length ≤ 1000) (key : ByteArray) :
    Calls Tryz.prog 104 #[ptr b, .string key] w fun e w' => e = .returned (.tuple #[.int .i64 (plc its key), .bool (hre its key)]) ∧ Below w.heap.size w w' := by
  rcases hN.items.2 with ⟨h1, h2⟩ | ⟨g, cap, cur, h1, _⟩
  · obtain rfl : its = [] := List.eq_nil_of_length_eq_zero h2
    subst h1
    exact (place_nil b key w hN.c0).mono fun e w' h => ⟨h.1, by rw [h.2]; exact Below.refl _ _⟩
  · have h0 := hN.c0
    rw [h1] at h0
    exact place_any b g cap its key w h0 (fun j it hj => hN.item h1 hj) hs hn
theorem leaf_node {w : World} {b : Nat} {iv kv : Value} {its : List Itm} {ks : List Nat} (hN : Nod w b iv kv its ks) : Calls Tryz.prog 122 #[ptr b] w fun e w' => e = .returned (.bool (decide (ks.length = 0))) ∧ w' = w := by
  obtain ⟨p, c, h, _⟩ := owns_form hN.kids
  have h1 := hN.c1
  rw [h] at h1
  exact leaf_any b _ c p w h1
theorem row_alloc (w : World) (r : Array Value) (t : TypeId) : (w.alloc (.cells r t)).heap[w.heap.size]? = some (.cells r t (0, 0)) := heap_alloc_new w _

set_option maxRecDepth 100000 in
set_option maxHeartbeats 1000000 in
theorem add_leaf {w : World} {b : Nat} {iv kv : Value} {its : List Itm} (hN : Nod w b iv kv its []) (hs : Asc (keysI its)) (hn : its.length ≤ 100) (it : Itm) (hit : isSl it.mv) :
    Calls Tryz.prog 106 #[ptr b, .agg #[.string it.key, it.mv]] w fun e w' => e = .returned (.tuple #[]) ∧ ∃ iv', Nod w' b iv' kv (its.take (plc its it.key) ++ it :: its.drop (plc its it.key)) [] ∧ Step w w' (nf b iv kv) (nf b iv' kv) := by
  have hple := plc_le its it.key
  obtain ⟨W0, hW0⟩ : ∃ W0, W0 = w.alloc (.cells #[.string it.key, it.mv] 167) := ⟨_, rfl⟩
  have hb0 : Below w.heap.size w W0 := by rw [hW0]; exact (Below.refl _ w).alloc (Nat.le_refl _) _
  have hr0 : W0.heap[w.heap.size]? = some (.cells #[.string it.key, it.mv] 167 (0, 0)) := by rw [hW0]; exact row_alloc w _ _
  have hN0 := hN.below hb0
  have hpl := (place_node hN0 hs (by omega) it.key).mono (R' := fun e w' => e = .returned (.tuple #[.int .i64 (plc its it.key), .bool (hre its it.key)]) ∧ Below w.heap.size w w' ∧ w'.heap[w.heap.size]? = some (.cells #[.string it.key, it.mv] 167 (0, 0)))
    fun e w' h => ⟨h.1, hb0.trans (h.2.mono hb0.size), (h.2.block _ (Array.getElem?_eq_some_iff.1 hr0).1).trans hr0⟩
  have k0 : W0.cell? ⟨w.heap.size, 0, none⟩ = some (.string it.key) := by simp [World.cell?, hr0]
  clear hr0
  go_enter Tryz.func106, Tryz.ntmps106
  go_upto_region 1 with (fail)
  rw [← hW0]
  clear hW0
  go_wp2_with (go_at_call 104; refine hpl.mono ?_; rintro e W1 ⟨rfl, hb1, hr1⟩)
  have hN1 := hN.below hb1
  refine (leaf_node hN1).mono ?_
  rintro e w2 ⟨rfl, rfl⟩
  obtain ⟨ip, ic, hiv, _, _⟩ := owns_form hN1.items
  have c0 := hN1.c0
  have e0 : w2.cell? ⟨w.heap.size, 0, none⟩ = some (.string it.key) := by simp [World.cell?, hr1]
  have e1 : w2.cell? ⟨w.heap.size, 1, none⟩ = some it.mv := by simp [World.cell?, hr1]
  have hins : ∀ W, Below w2.heap.size w2 W → W.heap[w2.heap.size]? = some (.cells #[.string it.key, it.mv] 167 (0, 0)) → Calls Tryz.prog 123 #[iv, .int .i64 (plc its it.key), .slice (some ⟨w2.heap.size, 0, none⟩) 1 1] W fun e w' => ∃ iv', e = .returned iv' ∧ slAt iv' (its.length + 1) ∧ w'.cell? ⟨b, 0, none⟩ = some iv ∧ w'.frozen? ⟨b, 0, none⟩ = false ∧
      Nod (w'.setCell ⟨b, 0, none⟩ iv') b iv' kv (its.take (plc its it.key) ++ it :: its.drop (plc its it.key)) [] ∧ Step w (w'.setCell ⟨b, 0, none⟩ iv') (nf b iv kv) (nf b iv' kv) := fun W hb hr => by
    refine (insI_node (hN1.below hb) it hit (plc its it.key) w2.heap.size hple (by omega) hr (fun e => by have := owns_lt hN1.items e; omega)).mono ?_
    rintro e w' ⟨iv', h1, h2, h3, h4, h5, h6⟩
    exact ⟨iv', h1, h2, h3, h4, h5, (Step.below (hb1.trans (hb.mono hb1.size)) hN.nd hN.foot_lt).trans h6⟩
  have ca0 : ∀ o, (w2.alloc o).cell? ⟨b, 0, none⟩ = some iv := fun o => (hN1.below ((Below.refl _ w2).alloc (Nat.le_refl _) o)).c0
  clear hN hN0 hpl k0 hN1 hb0 hs
  subst hiv
  obtain ⟨key, mv⟩ := it
  obtain ⟨mp, mn, mc, rfl⟩ := hit
  dsimp only at *
  go_wp2_with fail
  go_region_with (go_at_call 123; refine (hins _ (by first | exact ((Below.refl _ _).drew.alloc (Nat.le_refl _) _) | exact ((Below.refl _ _).alloc (Nat.le_refl _) _).drew) (by first | exact row_alloc _ _ _ | rfl)).mono ?_; rintro e w' ⟨iv', rfl, ⟨g', c', rfl, _, _⟩, d0, d1, hN', hS⟩)
  all_goals
    go_wp2
    refine bodyPost_ret (results_none rfl _ _ _) rfl ?_
    exact ⟨rfl, _, hN', hS⟩
end Go.Proofs.YtgbobegoknmiaaaGreat
