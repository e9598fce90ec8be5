/- What a message is refused for, and how many bytes it has. -/
import Derived.Test.YtamgoknoapcnjaaDoorNC
namespace Go.Proofs.YtamgoknoapcnjaaDoor
open Go Go.RowKit
def isK (n : Int) : Bool := decide (1 ≤ n ∧ n ≤ 5)
def noB (e : Ent) : Bool := decide (e.k < 0 ∨ 255 < e.k)
theorem isKind_any (n : Int) (w : World) : Calls Tryd.prog 51 #[iv n] w fun e w' => e = .returned (.bool (isK n)) ∧ w' = w := by
  by_cases h1 : 1 ≤ n
  · by_cases h2 : n ≤ 5
    · have h : isK n = true := decide_eq_true ⟨h1, h2⟩
      rw [h]
      go_enter Tryd.func51, Tryd.ntmps51
      go_wp2
      go_ret
      exact ⟨by simp, rfl⟩
    · have h : isK n = false := decide_eq_false (fun h => h2 h.2)
      rw [h]
      have hd : decide (n ≤ 5) = false := by simpa using h2
      go_enter Tryd.func51, Tryd.ntmps51
      go_wp2
      go_ret
      exact ⟨by simp, rfl⟩
  · have h : isK n = false := decide_eq_false (fun h => h1 h.1)
    rw [h]
    have hd : decide (1 ≤ n) = false := by simpa using h1
    go_enter Tryd.func51, Tryd.ntmps51
    go_wp2
    go_ret
    exact ⟨by simp, rfl⟩
theorem noByte_any (x : Ent) (dv : Value) (w : World) : Calls Tryd.prog 53 #[.agg #[iv x.i, iv x.t, iv x.k, dv]] w fun e w' => e = .returned (.bool (noB x)) ∧ Below w.heap.size w w' := by
  have hb : Below w.heap.size w (w.alloc (.cells #[iv x.i, iv x.t, iv x.k, dv] 58)) := (Below.refl _ _).alloc (Nat.le_refl _) _
  by_cases h1 : x.k < 0
  · have h : noB x = true := decide_eq_true (.inl h1)
    rw [h]
    go_enter Tryd.func53, Tryd.ntmps53
    go_wp2
    go_ret
    exact ⟨by simp, hb⟩
  · have hd : decide (x.k < 0) = false := by simpa using h1
    by_cases h2 : 255 < x.k
    · have h : noB x = true := decide_eq_true (.inr h2)
      rw [h]
      go_enter Tryd.func53, Tryd.ntmps53
      go_wp2
      go_ret
      exact ⟨by simp, hb⟩
    · have h : noB x = false := decide_eq_false (fun h => h.elim h1 h2)
      have hd2 : decide (255 < x.k) = false := by simpa using h2
      rw [h]
      go_enter Tryd.func53, Tryd.ntmps53
      go_wp2
      go_ret
      exact ⟨by simp, hb⟩
/-- An entry is read within a walk: its cells, where the world has gone on. -/
theorem ent_cells {Z : Nat → Prop} {w wr : World} {p : Option Addr} {c : Nat} {l : List Ent} (h : Es Z w (.slice p l.length c) l) (hb : Below w.heap.size w wr) {j : Nat} (hj : j < l.length) :
    ∃ g o p1 c1 x, p = some ⟨g, o, none⟩ ∧ l[j]? = some x ∧ Z g ∧ g < w.heap.size ∧ wr.cell? ⟨g, o + j * 4, none⟩ = some (iv x.i) ∧ wr.cell? ⟨g, o + j * 4 + 1, none⟩ = some (iv x.t) ∧ wr.cell? ⟨g, o + j * 4 + 2, none⟩ = some (iv x.k) ∧
      wr.cell? ⟨g, o + j * 4 + 3, none⟩ = some (.slice p1 x.d.length c1) ∧ Bs Z wr (.slice p1 x.d.length c1) x.d := by
  obtain ⟨p', c', e, _, _, hh⟩ := h
  cases e
  obtain ⟨g, o, rfl, hz, hE⟩ := hh j l[j] (List.getElem?_eq_getElem hj)
  have hl := World.block_lt_of_cell? _ _ hE.c0
  have hE' := hE.upd (Upd.ofBelow (S := fun _ => False) hb) hz (fun _ _ _ h => h)
  obtain ⟨q0, q1, q2, dv, q3, hd⟩ := hE'
  obtain ⟨p1, c1, rfl⟩ := hd.slice
  exact ⟨g, o, p1, c1, l[j], rfl, List.getElem?_eq_getElem hj, hz, hl, q0, q1, q2, q3, hd⟩
theorem any_take_succ (l : List Ent) (j : Nat) (x : Ent) (hx : l[j]? = some x) : (l.take (j + 1)).any noB = ((l.take j).any noB || noB x) := by
  rw [List.take_add_one, hx]; simp
theorem indexF_any (Z : Nat → Prop) (w : World) (p : Option Addr) (c : Nat) (l : List Ent) (h : Es Z w (.slice p l.length c) l) (hl : l.length ≤ 1000000) :
    Calls Tryd.prog 82 #[.slice p l.length c, .func (.func 53) #[] #[]] w fun e w' => (∃ r : Int, e = .returned (iv r) ∧ decide (0 ≤ r) = l.any noB) ∧ Below w.heap.size w w' := by
  have HE := Hid.mkW h
  have H0 : Hid (Below w.heap.size w w ∧ (l.take 0).any noB = false) := ⟨Below.refl _ _, by simp⟩
  clear h
  go_enter Tryd.func82, Tryd.ntmps82
  go_wp2
  go_loopg [5, 8] (l.length + 1) (fun kx _s5 s8 wq => ∃ j : Nat, s8 = .int .i64 j ∧ kx + j = l.length + 1 ∧ j ≤ l.length ∧ Hid (Below w.heap.size w wq ∧ (l.take j).any noB = false))
  case atStart => exact ⟨0, rfl, rfl, Nat.zero_le _, H0⟩
  case round =>
    obtain ⟨j, rfl, hk, hj, HW⟩ := hrel
    clear H0
    by_cases hlt : j < l.length
    · obtain ⟨g, o, p1, c1, x, rfl, hx, hz, hgl, q0, q1, q2, q3, hd⟩ := ent_cells HE.out HW.out.1 hlt
      have hc := noByte_any x (.slice p1 x.d.length c1)
      have HX := Hid.mkW hx
      clear hd hz hgl hx
      by_cases hb : noB x = true
      · rw [hb] at hc
        go_wp2_with (go_at_call 53; refine (hc _).mono ?_; rintro e w2 ⟨rfl, hb2⟩; have HB2 := Hid.mkW hb2; clear hb2)
        go_ret
        refine ⟨⟨j, by simp, ?_⟩, HW.out.1.trans (HB2.out.mono HW.out.1.size)⟩
        have h1 : l.any noB = true := List.any_eq_true.2 ⟨x, List.mem_of_getElem? HX.out, hb⟩
        rw [h1]
        simp
      · have hb' : noB x = false := by simpa using hb
        rw [hb'] at hc
        go_wp2_with (go_at_call 53; refine (hc _).mono ?_; rintro e w2 ⟨rfl, hb2⟩; have HB2 := Hid.mkW hb2; clear hb2)
        go_roundg (l.length - j)
        case measure => omega
        case rel =>
          refine ⟨j + 1, by congr 1, by omega, by omega, HW.out.1.trans (HB2.out.mono HW.out.1.size), ?_⟩
          rw [any_take_succ _ _ _ HX.out, HW.out.2, hb']
          rfl
    · obtain rfl : j = l.length := by omega
      go_wp2
      go_ret
      refine ⟨⟨-1, rfl, ?_⟩, HW.out.1⟩
      have := HW.out.2
      rw [List.take_length] at this
      rw [this]
      decide
theorem contains_any (Z : Nat → Prop) (w : World) (p : Option Addr) (c : Nat) (l : List Ent) (h : Es Z w (.slice p l.length c) l) (hl : l.length ≤ 1000000) :
    Calls Tryd.prog 52 #[.slice p l.length c, .func (.func 53) #[] #[]] w fun e w' => e = .returned (.bool (l.any noB)) ∧ Below w.heap.size w w' := by
  have hc := indexF_any Z w p c l h hl
  clear h
  go_enter Tryd.func52, Tryd.ntmps52
  go_wp2_with (go_at_call 82; refine hc.mono ?_; rintro e w2 ⟨⟨r, rfl, hr⟩, hb2⟩; have HR := Hid.mkW hr; clear hr)
  go_ret
  exact ⟨by rw [← HR.out]; rfl, hb2⟩
theorem entsN_succ (l : List Ent) (j : Nat) (x : Ent) (hx : l[j]? = some x) : entsN (l.take (j + 1)) = entsN (l.take j) + x.d.length := by
  rw [List.take_add_one, hx]; simp [entsN]
theorem sizeOf_any (Z : Nat → Prop) (w : World) (m : Md) (ve vv vd : Value) (hm : Ms Z w ve vv vd m) (hf : Fit m) :
    Calls Tryd.prog 54 #[.agg (mrow m ve vv vd)] w fun e w' => e = .returned (iv ((msgB m).length : Nat)) ∧ Below w.heap.size w w' := by
  obtain ⟨pe, ce, rfl, hce1, hce2, hes⟩ := hm.e
  obtain ⟨pv, cv, rfl, hcv1, hcv2, hvs⟩ := hm.v
  obtain ⟨pd, cd, rfl⟩ := hm.d.slice
  obtain ⟨w1, hw1⟩ : ∃ w1, w1 = w.alloc (.cells (mrow m (.slice pe m.es.length ce) (.slice pv m.vs.length cv) (.slice pd m.data.length cd)) 28) := ⟨_, rfl⟩
  have hb1 : Below w.heap.size w w1 := by rw [hw1]; exact (Below.refl _ _).alloc (Nat.le_refl _) _
  obtain ⟨d, hd⟩ : ∃ d, d = w.heap.size := ⟨_, rfl⟩
  have HX1 : Bx d (mrow m (.slice pe m.es.length ce) (.slice pv m.vs.length cv) (.slice pd m.data.length cd)) 28 w1 := by rw [hd, hw1]; exact row_alloc w _ 28
  obtain ⟨-, -, -, -, -, -, c6, -, -, -, -, -, -, c13, c14⟩ := msg_cells d m (.slice pe m.es.length ce) (.slice pv m.vs.length cv) (.slice pd m.data.length cd)
  have HE := Hid.mkW hm.e
  have HF := Hid.mkW hf
  have h1 := hf.es
  have h2 := hf.vs
  have h3 : m.data.length ≤ 30000 := by have := hf.sum; omega
  clear hes hvs hm hf
  go_enter Tryd.func54, Tryd.ntmps54
  go_upto_region 1 with fail
  rw [← hw1, ← hd]
  have HB1 := Hid.mkW hb1
  have H0 : Hid (Below w.heap.size w w1) := hb1
  clear hw1 hd hb1 hce1 hce2 hcv1 hcv2
  go_wp2
  clear HX1 c6 c13 c14
  go_loopg [3, 5, 19] (m.es.length + 1) (fun kx s3 _s5 s19 wq => ∃ j : Nat, s19 = .int .i64 j ∧ kx + j = m.es.length + 1 ∧ j ≤ m.es.length ∧ s3 = .int .i64 ((88 + 8 * m.vs.length + m.data.length + 21 * j + entsN (m.es.take j) : Nat) : Int) ∧ Hid (Below w.heap.size w wq))
  case atStart => exact ⟨0, rfl, rfl, Nat.zero_le _, by simp [entsN], H0⟩
  case round =>
    obtain ⟨j, rfl, hk, hj, rfl, HW⟩ := hrel
    clear H0
    have hsum : entsN (m.es.take j) ≤ 30000 := by have := entsN_take m.es j; have := HF.out.sum; omega
    by_cases hlt : j < m.es.length
    · obtain ⟨g, o, p1, c1, x, rfl, hx, hz, hgl, q0, q1, q2, q3, hd⟩ := ent_cells HE.out HW.out hlt
      have hxl : x.d.length ≤ 30000 := by have := entsN_mem hx; have := HF.out.sum; omega
      have HX := Hid.mkW hx
      clear hd hz hgl hx
      go_wp2
      go_roundg (m.es.length - j)
      case measure => omega
      case rel =>
        refine ⟨j + 1, by congr 1, by omega, by omega, ?_, HW.out.trans (((Below.refl _ _).alloc (Nat.le_refl _) _).mono HW.out.size)⟩
        rw [entsN_succ _ _ _ HX.out]
        congr 1
        omega
    · obtain rfl : j = m.es.length := by omega
      go_wp2
      go_ret
      refine ⟨ret_int ?_, HW.out⟩
      rw [msgB_len, List.take_length]
      congr 1
      omega
end Go.Proofs.YtamgoknoapcnjaaDoor
