/- A field's text. -/
import Derived.Test.YtdojpnhjnhecmaaDoorT1
import Derived.Deep.LoopGhost
namespace Go.Proofs.YtdojpnhjnhecmaaDoor
open Go Go.RowKit
theorem info9 : (Tryd.prog.info? 9).map (fun i => (i.zero, i.size, i.bytes)) = some (some (.string ⟨#[]⟩), 1, 16) := by kernel_rfl
def strs (l : List (List UInt8)) : List Value := l.map fun x => .string ⟨x.toArray⟩
theorem Src_oneS {w : World} {x : ByteArray} : Src Tryd.prog 1 69 (.slice (some ⟨w.heap.size, 0, none⟩) 1 1) 1 [.string x] (w.alloc (.cells #[.string x] 9)) := by
  refine Src.ofSlice _ Tryd.underlying69 ⟨w.heap.size, 0, none⟩ 1 1 [.string x] rfl (fun j u hu => ?_) (fun u hu => by rw [List.mem_singleton.1 hu]; rfl)
  rw [Addr.add_lit, Nat.zero_add]
  exact (cell_of_row _ _ _ _ _ _ (heap_alloc_new w _)).trans (by rw [← hu]; simp)
set_option maxRecDepth 100000 in
set_option maxHeartbeats 1000000 in
theorem field_star (f x : Nat) (w : World) : Calls Tryd.prog 30 #[.int .i64 f, .int .u64 x, .bool true] w fun e w' => e = .returned (.string ⟨(fieldB f x true).toArray⟩) ∧ Below w.heap.size w w' := by
  go_enter Tryd.func30, Tryd.ntmps30
  go_wp2
  go_ret
  exact ⟨rfl, Below.refl _ _⟩
theorem item_len {a b : Nat} (ha : a < 100) (hb : b < 100) : (itemB (a, b)).length ≤ 5 := by
  have l1 := dec_len ha
  have l2 := dec_len hb
  unfold itemB
  split
  · show (Lib.decDigits a).length ≤ 5; omega
  · show (Lib.decDigits a ++ 45 :: Lib.decDigits b).length ≤ 5; simp; omega
theorem flat_len : ∀ (r : List (List UInt8)) (n : Nat), (∀ x ∈ r, x.length ≤ n) → (r.map ([44] ++ ·)).flatten.length ≤ r.length * (n + 1)
  | [], _, _ => by simp
  | x :: r, n, h => by
    have h1 := flat_len r n (fun y hy => h y (by simp [hy]))
    have h2 := h x (by simp)
    simp only [List.map_cons, List.flatten_cons, List.length_append, List.length_cons, List.length_nil, Nat.add_mul]
    omega
theorem join_len (r : List (List UInt8)) (n : Nat) (h : ∀ x ∈ r, x.length ≤ n) : (Lib.join r [44]).length ≤ r.length * (n + 1) := by
  cases r with
  | nil => simp [Lib.join_nil]
  | cons x r =>
    rw [Lib.join_cons, Lib.joinTail]
    have h1 := flat_len r n (fun y hy => h y (by simp [hy]))
    have h2 := h x (by simp)
    simp only [List.length_append, List.length_cons, Nat.add_mul]
    omega
/-- A field's text on its way. -/
structure FW (x hi : Nat) (all : List (List UInt8)) (b : Nat) (w W : World) (k : Nat) (v : Value) (ms : List (List UInt8)) : Prop where
  row : RowO W b 9 1 v ms.length (strs ms)
  rest : ms ++ (runsR x hi k).map itemB = all
  len : ms.length ≤ k
  short : ∀ m ∈ ms, m.length ≤ 5
  bel : Below b w W
theorem FW.start {x hi lo : Nat} {b : Nat} {w W : World} (hb : Below b w W) : FW x hi ((runsR x hi lo).map itemB) b w W lo (.slice none 0 0) [] :=
  ⟨RowO.nil _ _ _ _, rfl, Nat.zero_le _, fun _ h => absurd h (by simp), hb⟩
theorem join_row {w : World} {b : Nat} {v : Value} {ms : List (List UInt8)} (h : RowO w b 9 1 v ms.length (strs ms)) (sep : ByteArray) (hn : ms.length ≤ 140737488355328) (hl : (Lib.join ms sep.data.toList).length ≤ 140737488355328) :
    Calls Tryd.prog 29 #[v, .string sep] w fun e w' => e = .returned (.string ⟨(Lib.join ms sep.data.toList).toArray⟩) ∧ Below w.heap.size w w' := by
  rcases h.2 with ⟨rfl, h0⟩ | ⟨g, off, cap, cur, rfl, hg, hh, hnc, _⟩
  · have : ms = [] := List.eq_nil_of_length_eq_zero h0
    subst this
    refine (join_none none 0 sep w).mono ?_
    rintro e w' ⟨rfl, rfl⟩
    exact ⟨rfl, Below.refl _ _⟩
  · have hj := join_any g off cap (ms.map fun x => ⟨x.toArray⟩) sep w (fun j y hy => by
      rw [List.getElem?_map] at hy
      obtain ⟨x, hx, rfl⟩ := Option.map_eq_some_iff.1 hy
      exact h.cell j _ (by simp [strs, hx])) (Array.getElem?_eq_some_iff.1 hh).1 (by simpa using hn) (by simpa using hnc) (by
      rw [List.map_map]
      have e : ((fun x : ByteArray => x.data.toList) ∘ fun x : List UInt8 => (⟨x.toArray⟩ : ByteArray)) = id := by funext x; rfl
      rw [e, List.map_id]; exact hl)
    rw [List.map_map] at hj
    have e : ((fun x : ByteArray => x.data.toList) ∘ fun x : List UInt8 => (⟨x.toArray⟩ : ByteArray)) = id := by funext x; rfl
    rw [e, List.map_id, List.length_map] at hj
    exact hj
theorem FW.skip {x hi : Nat} {all : List (List UInt8)} {b : Nat} {w W : World} {k : Nat} {v : Value} {ms : List (List UInt8)} (h : FW x hi all b w W k v ms) (hk : k ≤ hi) (hb : x.testBit k = false) : FW x hi all b w W (k + 1) v ms :=
  ⟨h.row, by rw [← runsR_skip hk hb]; exact h.rest, Nat.le_succ_of_le h.len, h.short, h.bel⟩
theorem FW.run {x hi : Nat} {all : List (List UInt8)} {b : Nat} {w W W' : World} {k : Nat} {v v' : Value} {ms : List (List UInt8)} (h : FW x hi all b w W k v ms) (hk : k ≤ hi) (h59 : hi ≤ 59) (hb : x.testBit k = true)
    (hr : RowO W' b 9 1 v' (ms.length + 1) (strs ms ++ [.string ⟨(itemB (k, endR x hi k)).toArray⟩])) (hbel : Below b w W') : FW x hi all b w W' (endR x hi k + 1) v' (ms ++ [itemB (k, endR x hi k)]) := by
  have hbd := endR_bd x hk
  have h0 := h.len
  refine ⟨by simpa [strs] using hr, ?_, by simp; omega, fun m hm => ?_, hbel⟩
  · have := h.rest
    rw [runsR_run hk hb, List.map_cons] at this
    rw [← this]; simp
  · rcases List.mem_append.1 hm with hm | hm
    · exact h.short m hm
    · rw [List.mem_singleton.1 hm]; exact item_len (by omega) (by omega)
set_option maxRecDepth 100000 in
set_option maxHeartbeats 1000000 in
theorem field_0 (x : Nat) (hx : x < 1152921504606846976) (w : World) (hT : HasT w) :
    Calls Tryd.prog 30 #[.int .i64 0, .int .u64 x, .bool false] w fun e w' => e = .returned (.string ⟨(fieldB 0 x false).toArray⟩) ∧ Below w.heap.size w w' := by
  obtain ⟨i0, hi0, hz0, hz1, hz2⟩ := info_parts info9
  have c0 := hT.bd 0 (by decide)
  have c1 := hT.bd 1 (by decide)
  have hsz := hT.size
  clear hT
  have HW := Hid.mk'' (FW.start (x := x) (hi := 59) (lo := 0) ((Below.refl (w.heap.size + 1) (w.alloc (.cells #[.int .i64 0, .int .i64 59] 98)))))
  have HF : Hid (fieldB 0 x false = Lib.join ((runsR x 59 0).map itemB) [44]) := rfl
  generalize (runsR x 59 0).map itemB = all at *
  go_enter Tryd.func30, Tryd.ntmps30
  go_wp2
  go_loopw [8, 9] (fun v n W => ∃ (k : Nat) (u : Value) (ms : List (List UInt8)), n = .int .i64 k ∧ v = u ∧ k ≤ 60 ∧ Hid (FW x 59 all (w.heap.size + 1) (w.alloc (.cells #[.int .i64 0, .int .i64 59] 98)) W k u ms)) (fun _ n _ => 60 - (intOf n).toNat)
  case atStart => exact ⟨0, _, [], rfl, rfl, by decide, HW⟩
  case round =>
    obtain ⟨k, u, ms, rfl, rfl, hk, HP⟩ := hrel
    clear HW c0 c1
    have hz := HP.out.bel.size
    simp only [World.size_alloc] at hz
    have j1 : wr.cell? ⟨w.heap.size, 1, none⟩ = some (.int .i64 59) := (HP.out.bel.cell (p := ⟨w.heap.size, 1, none⟩) (Nat.lt_succ_self _)).trans (cell_of_row _ _ _ _ _ _ (heap_alloc_new w _))
    have hall : ∀ (j : Nat), j ≤ 63 → ∀ W, Calls Tryd.prog 44 #[.int .u64 x, .int .i64 j] W _ := fun j hj W => allows_any x j W (by omega) hj
    by_cases hk59 : k ≤ 59
    · have ha1 := hall k (by omega) wr
      cases hb : x.testBit k with
      | false =>
        rw [hb] at ha1
        have HP1 := Hid.mk'' (HP.out.skip hk59 hb)
        clear hall
        go_wp2_with (go_at_call 44; refine ha1.mono ?_; rintro e w1 ⟨rfl, rfl⟩)
        go_roundw
        case rel => exact ⟨k + 1, _, ms, rfl, rfl, by omega, HP1⟩
        case measure => simp [intOf]; omega
      | true =>
        rw [hb] at ha1
        have hbd := endR_bd x hk59
        go_wp2_with (go_at_call 44; refine ha1.mono ?_; rintro e w1 ⟨rfl, rfl⟩)
        clear ha1
        go_loop [9] (fun n => ∃ j : Nat, n = .int .i64 j ∧ k ≤ j ∧ j ≤ 59 ∧ Hid (endR x 59 j = endR x 59 k)) (fun n => 60 - (intOf n).toNat)
        case atStart => exact ⟨k, rfl, Nat.le_refl _, hk59, Hid.mk'' rfl⟩
        case round =>
          obtain ⟨j, rfl, hj1, hj2, HE⟩ := hrel
          by_cases hj59 : j < 59
          · have ha2 := hall (j + 1) (by omega) w1
            rw [show (((j + 1 : Nat) : Int)) = (j : Int) + 1 by omega] at ha2
            cases hb2 : x.testBit (j + 1) with
            | true =>
              rw [hb2] at ha2
              have HE2 : Hid (endR x 59 (j + 1) = endR x 59 k) := (endR_step hj59 hb2).symm.trans HE.out
              clear HE hall
              go_wp2_with (go_at_call 44; refine ha2.mono ?_; rintro e w2 ⟨rfl, rfl⟩)
              go_round
              case rel => exact ⟨j + 1, rfl, by omega, by omega, HE2⟩
              case measure => simp [intOf]; omega
            | false =>
              rw [hb2] at ha2
              have hno : ¬ (j < 59 ∧ x.testBit (j + 1) = true) := by rw [hb2]; simp
              clear hall
              go_wp2_with (go_at_call 44; refine ha2.mono ?_; rintro e w2 ⟨rfl, rfl⟩)
              have hm : endR x 59 k = j := HE.out.symm.trans (endR_stop hno)
              have hit := item_any k j (by omega) (by omega) w2
              have hrow := HP.out.row
              have hml := HP.out.len
              have hsrc := Src_oneS (w := w2) (x := ⟨(itemB (k, j)).toArray⟩)
              have hb3 : Below w2.heap.size w2 (w2.alloc (.cells #[.string ⟨(itemB (k, j)).toArray⟩] 9)) := (Below.refl _ _).alloc (Nat.le_refl _) _
              have hrow3 := hrow.upd (Upd.ofBelow hb3 : Upd w2 _ (fun _ => False)) (fun _ _ => id)
              obtain ⟨uo, uc, rfl, _, _⟩ := hrow.form
              have HRW := Hid.mk'' hrow
              have HMM := Hid.mk'' hm
              clear hm hno hrow HE
              generalize hI : itemB (k, j) = it at *
              have HIT := Hid.mk'' hI
              clear hI
              go_wp2_with (first | (go_at_call 58; refine hit.mono ?_; rintro e w3 ⟨rfl, rfl⟩) | (at_builtin; refine wpList_appO _ rfl (.tmp 40) (.tmp 44) 69 69 rfl (w.heap.size + 1) 9 i0 (.string ⟨#[]⟩) 1 Tryd.underlying69 hi0 hz0 hz1 rfl (by omega) _ ms.length (strs ms) rfl hrow3 _ rfl 1 _ hsrc (by omega) (by simp; omega) ?_; intro v6 w6 h1 h2 h3; obtain ⟨a6, c6, rfl, _, _⟩ := h1.form))
              have HP1 := HP.out.run hk59 (by decide) hb (by rw [HMM.out, HIT.out]; exact h1) (HP.out.bel.trans ((hb3.mono hz).trans (h2.below (by simp; omega) (fun q hq e => by have := (HRW.out.lt e.symm).1; omega))))
              rw [HMM.out] at HP1
              go_roundw
              case rel => exact ⟨j + 1, _, _, rfl, rfl, by omega, HP1⟩
              case measure => simp [intOf]; omega
          · have hno : ¬ (j < 59 ∧ x.testBit (j + 1) = true) := fun h => hj59 h.1
            have hj60 : ¬ ((j : Int) < 59) := by omega
            clear hall
            go_wp2_with fail
            have hm : endR x 59 k = j := HE.out.symm.trans (endR_stop hno)
            have hit := item_any k j (by omega) (by omega) w1
            have hrow := HP.out.row
            have hml := HP.out.len
            have hsrc := Src_oneS (w := w1) (x := ⟨(itemB (k, j)).toArray⟩)
            have hb3 : Below w1.heap.size w1 (w1.alloc (.cells #[.string ⟨(itemB (k, j)).toArray⟩] 9)) := (Below.refl _ _).alloc (Nat.le_refl _) _
            have hrow3 := hrow.upd (Upd.ofBelow hb3 : Upd w1 _ (fun _ => False)) (fun _ _ => id)
            obtain ⟨uo, uc, rfl, _, _⟩ := hrow.form
            have HRW := Hid.mk'' hrow
            have HMM := Hid.mk'' hm
            clear hm hno hrow HE
            generalize hI : itemB (k, j) = it at *
            have HIT := Hid.mk'' hI
            clear hI
            go_wp2_with (first | (go_at_call 58; refine hit.mono ?_; rintro e w3 ⟨rfl, rfl⟩) | (at_builtin; refine wpList_appO _ rfl (.tmp 40) (.tmp 44) 69 69 rfl (w.heap.size + 1) 9 i0 (.string ⟨#[]⟩) 1 Tryd.underlying69 hi0 hz0 hz1 rfl (by omega) _ ms.length (strs ms) rfl hrow3 _ rfl 1 _ hsrc (by omega) (by simp; omega) ?_; intro v6 w6 h1 h2 h3; obtain ⟨a6, c6, rfl, _, _⟩ := h1.form))
            have HP1 := HP.out.run hk59 (by decide) hb (by rw [HMM.out, HIT.out]; exact h1) (HP.out.bel.trans ((hb3.mono hz).trans (h2.below (by simp; omega) (fun q hq e => by have := (HRW.out.lt e.symm).1; omega))))
            rw [HMM.out] at HP1
            go_roundw
            case rel => exact ⟨j + 1, _, _, rfl, rfl, by omega, HP1⟩
            case measure => simp [intOf]; omega
    · obtain rfl : k = 60 := by omega
      have hrest := HP.out.rest
      rw [runsR_over (by decide), List.map_nil, List.append_nil] at hrest
      subst hrest
      have hjn := join_row HP.out.row ⟨#[44]⟩ (by have := HP.out.len; omega) (by
        have h1 := join_len ms 5 HP.out.short
        have h2 := HP.out.len
        show (Lib.join ms [44]).length ≤ _
        omega)
      clear hall
      go_wp2_with fail
      refine hjn.mono ?_
      rintro e w2 ⟨rfl, hb2⟩
      have HB2 := Hid.mk'' hb2
      clear hb2 hjn
      go_wp2_with fail
      go_ret
      exact ⟨ret_str (by rw [HF.out]), ((Below.refl _ _).alloc (Nat.le_refl _) _).trans ((HP.out.bel.mono (Nat.le_succ _)).trans (HB2.out.mono (by omega)))⟩
end Go.Proofs.YtdojpnhjnhecmaaDoor
