/- The Indexes of a disk's snapshots: filesOf. -/
import Derived.Test.YtdcpfjlnagigaaaGreatDoorSN2
import Derived.Test.YtdcpfjlnagigaaaGreatDoorWR
namespace Go.Proofs.YtdcpfjlnagigaaaGreatDoor
open Go Go.RowKit
theorem info3 : (Tryz.prog.info? 3).map (fun i => (i.zero, i.size, i.bytes)) = some (some (.int .i64 0), 1, 8) := by kernel_rfl
abbrev i64s (l : List Int) : List Value := l.map (Value.int .i64)
theorem Src_oneI {w : World} {x : Int} : Src Tryz.prog 1 32 (.slice (some ⟨w.heap.size, 0, none⟩) 1 1) 1 [.int .i64 x] (w.alloc (.cells #[.int .i64 x] 3)) := by
  refine Src.ofSlice _ Tryz.underlying32 ⟨w.heap.size, 0, none⟩ 1 1 [.int .i64 x] rfl (fun j u hu => ?_) (fun u hu => by rw [List.mem_singleton.1 hu]; rfl)
  rw [Addr.add_lit, Nat.zero_add]
  exact (cell_of_row _ _ _ _ _ _ (heap_alloc_new w _)).trans (by rw [← hu]; simp)
/-- The numbers above 0 of names. -/
def nums (num : List UInt8 → Nat) (l : List (List UInt8)) : List Int := (l.filter (fun x => decide (0 < num x))).map (fun x => (num x : Int))
theorem nums_snoc (num : List UInt8 → Nat) (l : List (List UInt8)) (x : List UInt8) : nums num (l ++ [x]) = nums num l ++ (if 0 < num x then [(num x : Int)] else []) := by
  unfold nums
  rw [List.filter_append, List.map_append]
  congr 1
  by_cases h : 0 < num x <;> simp [h]
abbrev newName : List UInt8 := [115, 104, 111, 116, 46, 110, 101, 119]
/-- A snapshot's name, or that of the file beside. -/
def ShotName (nm : List UInt8) : Prop := (∃ n, 0 < n ∧ n < 100 ∧ nm = sname n) ∨ nm = newName
/-- The Index of a snapshot's name; 0: it has none. -/
def numS (nm : List UInt8) : Nat := if nm.length = 17 then val (nm.drop 5) else 0
theorem numS_name (n : Nat) (hn : n < 100) : numS (sname n) = n := by
  unfold numS
  rw [if_pos (show (sname n).length = 17 from rfl)]
  exact val_dig ⟨n, hn⟩
theorem numS_new : numS newName = 0 := rfl
theorem shotName_num {nm : List UInt8} (h : ShotName nm) (w : World) : Calls Tryz.prog 77 #[.string ⟨nm.toArray⟩] w fun e w' => e = .returned (.tuple #[.int .i64 (numS nm), .bool (decide (0 < numS nm))]) ∧ Below w.heap.size w w' := by
  rcases h with ⟨n, h0, hn, rfl⟩ | rfl
  · rw [numS_name n hn, decide_eq_true h0]; exact indexOf_name n w hn
  · refine (indexOf_no w).mono ?_
    rintro e w' ⟨rfl, rfl⟩
    exact ⟨rfl, Below.refl _ _⟩
theorem shotName_back {nm : List UInt8} (h : ShotName nm) (h0 : 0 < numS nm) : numS nm < 100 ∧ sname (numS nm) = nm := by
  rcases h with ⟨n, _, hn, rfl⟩ | rfl
  · rw [numS_name n hn]; exact ⟨hn, rfl⟩
  · rw [numS_new] at h0; omega
set_option maxRecDepth 100000 in
set_option maxHeartbeats 1000000 in
theorem filesOf_dead (B d : Nat) (g : Gu) (p : PS) (w : World) (hd : Dk B w d g p) (hl : p.fs.length < 1000000) (hdead : p.dead = true) :
    Calls Tryz.prog 41 #[ptr d] w fun e w' => e = .returned (.tuple #[.slice none 0 0, .int .i64 13]) ∧ Below w.heap.size w w' := by
  have hli := list_any B d g p w hd hl
  have hE : listE p = 13 := by unfold listE; rw [hdead]; rfl
  rw [hE] at hli
  clear hd
  go_enter Tryz.func41, Tryz.ntmps41
  go_wp2_with (go_at_call 27; refine hli.mono ?_; rintro e w1 ⟨v1, rfl, hr1, hb1⟩; obtain ⟨a1, c1, rfl⟩ := owns_form hr1)
  go_ret2
  exact ⟨rfl, hb1⟩
set_option maxRecDepth 100000 in
set_option maxHeartbeats 1000000 in
theorem filesOf_any (B d : Nat) (g : Gu) (p : PS) (w : World) (hd : Dk B w d g p) (hl : p.fs.length < 1000000) (hlive : p.dead = false) (hnm : ∀ f ∈ p.fs, ShotName f.name) :
    Calls Tryz.prog 41 #[ptr d] w fun e w' => ∃ v', e = .returned (.tuple #[v', .int .i64 0]) ∧ RowO w' w.heap.size 3 1 v' (nums numS (p.fs.map PF.name)).length (i64s (nums numS (p.fs.map PF.name))) ∧ Below w.heap.size w w' := by
  obtain ⟨i0, hi0, hz0, hz1, hz2⟩ := info_parts info3
  have hli := list_any B d g p w hd hl
  have hE : listE p = 0 := by unfold listE; rw [hlive]; rfl
  have hBn : listB p = p.fs.map PF.name := by unfold listB; rw [hlive]; rfl
  rw [hE, hBn] at hli
  have HNUM : Hid (∀ x ∈ p.fs.map PF.name, ∀ w, Calls Tryz.prog 77 #[.string ⟨x.toArray⟩] w fun e w' => e = .returned (.tuple #[.int .i64 (numS x), .bool (decide (0 < numS x))]) ∧ Below w.heap.size w w') := by
    intro x hx w
    obtain ⟨f, hf, rfl⟩ := List.mem_map.1 hx
    exact shotName_num (hnm f hf) w
  obtain ⟨nms, hnms⟩ : ∃ nms, nms = p.fs.map PF.name := ⟨_, rfl⟩
  rw [← hnms] at hli HNUM ⊢
  have hn : nms.length ≤ 1000000 := by rw [hnms, List.length_map]; omega
  generalize hm : nms.length = n at *
  have HN := Hid.mk' hm
  clear hd hE hBn hnm hnms hm hl hlive
  go_enter Tryz.func41, Tryz.ntmps41
  go_wp2_with (go_at_call 27; refine hli.mono ?_; rintro e w1 ⟨v1, rfl, hr1, hb1⟩; obtain ⟨ao, cp, rfl⟩ := owns_form hr1; have HR := Hid.mk' (RowO.of_owns hr1); have HB1 := Hid.mk' hb1; clear hr1 hb1)
  go_loopg [6, 21] n (fun kx s3 s9 wr => ∃ (k : Nat) (u : Value) (ms : List Int), s9 = .int .i64 k ∧ s3 = u ∧ k ≤ n ∧ n - k ≤ kx ∧ RowO wr w1.heap.size 3 1 u ms.length (i64s ms) ∧ Hid (ms = nums numS (nms.take k)) ∧ ms.length ≤ k ∧ Hid (Below w1.heap.size w1 wr))
  case atStart => exact ⟨0, _, [], rfl, rfl, Nat.zero_le _, by omega, RowO.nil _ _ _ _, Hid.mk' rfl, Nat.le_refl _, Hid.mk' (Below.refl _ _)⟩
  case round =>
    obtain ⟨k, u, ms, rfl, rfl, hk, hkx, hrow, HM, hml, HB⟩ := hrel
    obtain ⟨uo, uc, rfl, _, _⟩ := hrow.form
    by_cases hlt : k < n
    · have hkr : k < nms.length := by rw [HN.out]; exact hlt
      have hr2 := HR.out.upd (Upd.ofBelow HB.out : Upd w1 wr (fun _ => False)) (fun _ _ => id)
      obtain ⟨g, off, hgo⟩ : ∃ g off, ao = some ⟨g, off, none⟩ := by
        rcases hr2.2 with ⟨h', h0⟩ | ⟨g, off, cap, cur, h', _⟩
        · omega
        · simp only [Value.slice.injEq, true_and] at h'
          exact ⟨g, off, h'.1⟩
      subst hgo
      have hcell : wr.cell? ⟨g, off + k, none⟩ = some (.string ⟨nms[k].toArray⟩) := hr2.cell k _ (by simp [strs, hkr])
      have hcall := HNUM.out _ (List.getElem_mem hkr) wr
      have HS : Hid (nums numS (nms.take (k + 1)) = nums numS (nms.take k) ++ (if 0 < numS nms[k] then [(numS nms[k] : Int)] else [])) := by
        show _ = _
        rw [List.take_succ_eq_append_getElem hkr, nums_snoc]
      generalize nms[k] = x at *
      generalize numS x = q at *
      clear hr2 hkr
      by_cases hq : 0 < q
      · rw [if_pos hq] at HS
        rw [decide_eq_true hq] at hcall
        go_wp2_with (first | (go_at_call 77; refine hcall.mono ?_; rintro e w2 ⟨rfl, hb2⟩; have hsrc := Src_oneI (w := w2) (x := (q : Int)); have hb3 : Below wr.heap.size wr (w2.alloc (.cells #[.int .i64 (q : Int)] 3)) := (hb2.alloc hb2.size _); have hrow3 := hrow.upd (Upd.ofBelow hb3 : Upd wr _ (fun _ => False)) (fun _ _ => id); have hbs := hb2.size; have hbw := HB.out.size) | (at_builtin; refine wpList_appO _ rfl (.tmp 31) (.tmp 33) 32 32 rfl w1.heap.size 3 i0 (.int .i64 0) 1 Tryz.underlying32 hi0 hz0 hz1 rfl (by omega) _ ms.length (i64s ms) rfl hrow3 _ rfl 1 _ hsrc (by omega) (by simp; omega) ?_; intro v6 w6 h1 h2 h3; obtain ⟨a6, c6, rfl, _, _⟩ := h1.form))
        go_roundg (n - (k + 1))
        case measure => omega
        case rel =>
          refine ⟨k + 1, _, ms ++ [(q : Int)], rfl, rfl, by omega, by omega, by simpa [i64s] using h1, Hid.mk' (by rw [HS.out, HM.out]), by simp; omega, Hid.mk' ?_⟩
          exact HB.out.trans ((hb3.mono HB.out.size).trans (h2.below (Nat.le_trans HB.out.size hb3.size) (fun j hj e => by have := (hrow.lt e.symm).1; omega)))
      · rw [if_neg hq, List.append_nil] at HS
        rw [decide_eq_false hq] at hcall
        go_wp2_with (first | (go_at_call 77; refine hcall.mono ?_; rintro e w2 ⟨rfl, hb2⟩))
        go_roundg (n - (k + 1))
        case measure => omega
        case rel => exact ⟨k + 1, _, ms, rfl, rfl, by omega, by omega, hrow.upd (Upd.ofBelow hb2 : Upd wr _ (fun _ => False)) (fun _ _ => id), Hid.mk' (by rw [HS.out, HM.out]), by omega, Hid.mk' (HB.out.trans (hb2.mono HB.out.size))⟩
    · obtain rfl : k = n := by omega
      have HE : Hid (ms = nums numS nms) := by show _ = _; rw [HM.out, List.take_of_length_le (by rw [HN.out]; exact Nat.le_refl _)]
      go_wp2
      go_ret2
      rw [← HE.out]
      refine ⟨_, rfl, ?_, HB1.out.trans (HB.out.mono HB1.out.size)⟩
      obtain ⟨g1, g2⟩ := hrow
      exact ⟨g1, g2.imp id (fun ⟨g, off, cap, cur, e1, e2, e3⟩ => ⟨g, off, cap, cur, e1, Nat.le_trans HB1.out.size e2, e3⟩)⟩
end Go.Proofs.YtdcpfjlnagigaaaGreatDoor
