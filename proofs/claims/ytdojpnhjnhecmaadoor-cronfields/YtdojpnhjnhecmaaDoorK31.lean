/- The end of an item, of a field: field 1. -/
import Derived.Test.YtdojpnhjnhecmaaDoorK30
namespace Go.Proofs.YtdojpnhjnhecmaaDoor
open Go Go.RowKit
set_option maxHeartbeats 1000000 in
theorem endI_1 (p : PSt) (B : Nat) (w : World) (hT : HasT w) (hI : InP w B p) (_hB : 4 ≤ B) (hf : p.f = 1) (ha : p.al 1 < 1152921504606846976) (hi : p.itemOk = true) :
    Calls Tryd.prog 51 #[.pointer (some ⟨B, 0, none⟩)] w fun e w' => e = .returned (.bool true) ∧ (∃ q, p.endI = some q ∧ InP w' B q) ∧ Only B w w' := by
  obtain ⟨i1, i2, i3, i4⟩ := PSt.itemOk_iff.1 hi
  have HQ : Hid (p.endI = some { p with al := up p.al p.f (p.al p.f ||| runB p.first p.nm), dg := 0, nm := 0, rg := false, fs := 0 }) := by show _ = _; unfold PSt.endI; rw [if_pos hi]
  rw [hf] at i3 i4
  have i5 := hiP_le 1
  have hnum := numbers_any p B w hI
  have HW : Hid (wholeB p = true) := by show _ = _; simp [wholeB, i1, i2]
  rw [HW.out] at hnum
  have hrun := fun W => run_any p.first p.nm W i2 (by omega)
  have i3' : (0 : Int) ≤ (p.first : Int) := by have : loP 1 = 0 := rfl; omega
  have i4' : (p.nm : Int) ≤ 23 := by have : hiP 1 = 23 := rfl; omega
  have hr60 : runB p.first p.nm < 1152921504606846976 := runB_lt (by omega)
  clear i3 i4 i5 hi i1
  go_enter Tryd.func51, Tryd.ntmps51
  go_wp2_with fail
  refine hnum.mono ?_
  rintro e W ⟨rfl, n, hWn⟩
  have hIW : InP W B p := by rw [hWn]; exact hI.drewN n
  have hTW : HasT W := by rw [hWn]; exact hT.keep fun _ _ _ _ h => h
  have HO : Hid (Only B w W) := by show Only B w W; rw [hWn]; exact Only.drewN w n
  clear hWn hI hT hnum
  have k10 : W.cell? ⟨B, 10, none⟩ = some (.int .i64 1) := (hIW.cell 10).trans (by rw [show (1 : Int) = (p.f : Int) by omega]; rfl)
  have k0 : W.cell? ⟨B, 1, none⟩ = some (.int .u64 (p.al 1)) := hIW.cell 1
  have c0 := hTW.bd 2 (by decide)
  have c1 := hTW.bd 3 (by decide)
  have hlt := hIW.lt
  go_wp2_with fail
  obtain ⟨V, hV⟩ : ∃ V, V = W.alloc (.cells #[.int .i64 0, .int .i64 23] 98) := ⟨_, rfl⟩
  rw [← hV]
  have hIV : InP V B p := by rw [hV]; exact hIW.alloc _
  have HOV : Hid (Only B w V) := by show Only B w V; rw [hV]; exact HO.out.alloc _
  clear hV HO hIW hTW k10 k0 c0 c1 hlt
  have k10 : V.cell? ⟨B, 10, none⟩ = some (.int .i64 1) := (hIV.cell 10).trans (by rw [show (1 : Int) = (p.f : Int) by omega]; rfl)
  have k0 : V.cell? ⟨B, 1, none⟩ = some (.int .u64 (p.al 1)) := hIV.cell 1
  have f0 := frozen_of_row V B 1 _ 66 hIV
  have HI := Hid.mk'' hIV
  clear hIV
  have hor : bits .or .u64 (p.al 1 : Int) ((2 ^ (p.nm + 1) - 2 ^ p.first : Nat) : Int) = ((p.al 1 ||| runB p.first p.nm : Nat) : Int) := bits_or_u64_nat _ _ (by omega) (by unfold runB at hr60; omega)
  generalize 2 ^ (p.nm + 1) - 2 ^ p.first = rv at *
  go_region_with (go_at_call 59; refine (hrun _).mono ?_; rintro e w1 ⟨rfl, n1, rfl⟩)
  all_goals
    generalize hX : World.setCell (World.drewN V _) _ _ = X
    have hXI : X.heap[B]? = some (.cells ((cellsP p).setIfInBounds 1 (.int .u64 ((p.al 1 ||| runB p.first p.nm : Nat) : Int))) 66 (0, 0)) := by rw [← hX]; exact row_set HI.out _ _
    have HXO : Hid (Only B w X) := by show Only B w X; rw [← hX]; exact (HOV.out.trans (Only.drewN V _)).setCell _ _
    clear hX k10 k0 f0
    have f12 := frozen_of_row X B 12 _ 66 hXI
    have f13 := frozen_of_row X B 13 _ 66 hXI
    have f14 := frozen_of_row X B 14 _ 66 hXI
    have f15 := frozen_of_row X B 15 _ 66 hXI
    have k12 : X.cell? ⟨B, 12, none⟩ = some (.int .i64 p.dg) := cell_of_row _ _ _ _ _ _ hXI
    have k13 : X.cell? ⟨B, 13, none⟩ = some (.int .i64 p.nm) := cell_of_row _ _ _ _ _ _ hXI
    have k14 : X.cell? ⟨B, 14, none⟩ = some (.bool p.rg) := cell_of_row _ _ _ _ _ _ hXI
    have k15 : X.cell? ⟨B, 15, none⟩ = some (.int .i64 p.fs) := cell_of_row _ _ _ _ _ _ hXI
    have HXI := Hid.mk'' hXI
    clear hXI
    go_wp2
    go_ret
    refine ⟨rfl, ⟨_, HQ.out, ?_⟩, (((HXO.out.setCell 12 _).setCell 13 _).setCell 14 _).setCell 15 _⟩
    have := row_set (row_set (row_set (row_set HXI.out 12 (.int .i64 0)) 13 (.int .i64 0)) 14 (.bool false)) 15 (.int .i64 0)
    refine this.trans ?_
    simp [cellsP, up, hf]
set_option maxHeartbeats 1000000 in
theorem endIno_1 (p : PSt) (B : Nat) (w : World) (hT : HasT w) (hI : InP w B p) (_hB : 4 ≤ B) (hf : p.f = 1) (hi : p.itemOk = false) :
    Calls Tryd.prog 51 #[.pointer (some ⟨B, 0, none⟩)] w fun e w' => e = .returned (.bool false) ∧ Only B w w' := by
  have hnum := numbers_any p B w hI
  have hno : wholeB p = false ∨ (wholeB p = true ∧ (23 : Int) < (p.nm : Int)) := by
    cases hw : wholeB p with
    | false => exact .inl rfl
    | true =>
      have h1 : loP 1 = 0 := rfl
      have h2 : hiP 1 = 23 := rfl
      have : ¬ (0 < p.dg ∧ p.first ≤ p.nm ∧ loP p.f ≤ p.first ∧ p.nm ≤ hiP p.f) := fun h => by rw [PSt.itemOk_iff.2 h] at hi; exact absurd hi (by simp)
      rw [hf, h1, h2] at this
      simp only [wholeB, Bool.and_eq_true, decide_eq_true_eq] at hw
      exact .inr ⟨rfl, by omega⟩
  rcases hno with hw | ⟨hw, hn⟩
  all_goals
    rw [hw] at hnum
    have HW := Hid.mk'' hw
    clear hw
    go_enter Tryd.func51, Tryd.ntmps51
    go_wp2_with fail
    refine hnum.mono ?_
    rintro e W ⟨rfl, n, hWn⟩
    have hIW : InP W B p := by rw [hWn]; exact hI.drewN n
    have hTW : HasT W := by rw [hWn]; exact hT.keep fun _ _ _ _ h => h
    have HO : Hid (Only B w W) := by show Only B w W; rw [hWn]; exact Only.drewN w n
    clear hWn hI hT hnum
    have k10 : W.cell? ⟨B, 10, none⟩ = some (.int .i64 1) := (hIW.cell 10).trans (by rw [show (1 : Int) = (p.f : Int) by omega]; rfl)
    have c0 := hTW.bd 2 (by decide)
    have c1 := hTW.bd 3 (by decide)
    have hlt := hIW.lt
    clear hIW hTW
    go_wp2_with fail
    go_ret
    exact ⟨rfl, HO.out.alloc _⟩
set_option maxHeartbeats 1000000 in
theorem endF_star1 (p : PSt) (B : Nat) (w : World) (hT : HasT w) (hI : InP w B p) (_hB : 4 ≤ B) (hf : p.f = 1) (hs : p.st 1 = true) :
    Calls Tryd.prog 50 #[.pointer (some ⟨B, 0, none⟩)] w fun e w' => e = .returned (.bool true) ∧ (∃ q, p.endF = some q ∧ InP w' B q) ∧ Only B w w' := by
  have HQ : Hid (p.endF = some ({ p with al := up p.al p.f (allB p.f) } : PSt).next) := by show _ = _; unfold PSt.endF; rw [hf, hs]; rfl
  have k10 : w.cell? ⟨B, 10, none⟩ = some (.int .i64 1) := (hI.cell 10).trans (by rw [show (1 : Int) = (p.f : Int) by omega]; rfl)
  have ks : w.cell? ⟨B, 6, none⟩ = some (.bool true) := (hI.cell 6).trans (by rw [← hs]; rfl)
  have hall : ∀ n, Calls Tryd.prog 31 #[.int .i64 1] (w.drewN n) fun e w' => e = .returned (.int .u64 (allB 1)) ∧ (w'.cell? ⟨B, 10, none⟩ = some (.int .i64 1) ∧ w'.cell? ⟨B, 1, none⟩ = some (.int .u64 (p.al 1)) ∧ w'.frozen? ⟨B, 1, none⟩ = false ∧ Hid (InP w' B p ∧ Only B w w')) := fun n => by
    refine (all_any 1 (by decide) (w.drewN n) (hT.keep fun _ _ _ _ h => h)).mono ?_
    rintro e w' ⟨rfl, hb⟩
    have hI' : InP w' B p := (hb.block B hI.lt).trans hI
    exact ⟨rfl, (hI'.cell 10).trans (by rw [show (1 : Int) = (p.f : Int) by omega]; rfl), hI'.cell 1, frozen_of_row _ B 1 _ 66 hI', hI', (Only.drewN w n).trans (Only.ofBelow hb)⟩
  have f0 := frozen_of_row w B 1 _ 66 hI
  have HI := Hid.mk'' hI
  clear hI hT
  go_enter Tryd.func50, Tryd.ntmps50
  go_wp2_with fail
  go_quiet (fail)
  go_wp2_with fail
  go_region_with (go_at_call 31; refine (hall _).mono ?_; rintro e w1 ⟨rfl, k10', k0', f0', HR⟩)
  all_goals
    generalize hX : World.setCell _ _ _ = X
    have hXI : X.heap[B]? = some (.cells ((cellsP p).setIfInBounds 1 (.int .u64 ((allB 1 : Nat) : Int))) 66 (0, 0)) := by rw [← hX]; exact row_set HR.out.1 _ _
    have HXO : Hid (Only B w X) := by show Only B w X; rw [← hX]; exact (HR.out.2.trans (by first | exact Only.drewN _ _ | exact Only.refl _ _ | exact (Only.refl _ _).drew)).setCell _ _
    clear hX k10 f0 k10' k0' f0' hall HR ks
    have g10 := frozen_of_row X B 10 _ 66 hXI
    have g11 := frozen_of_row X B 11 _ 66 hXI
    have j10 : X.cell? ⟨B, 10, none⟩ = some (.int .i64 1) := (cell_of_row _ _ _ _ _ _ hXI).trans (by rw [show (1 : Int) = (p.f : Int) by omega]; rfl)
    have j11 : X.cell? ⟨B, 11, none⟩ = some (.bool p.op) := cell_of_row _ _ _ _ _ _ hXI
    have HXI := Hid.mk'' hXI
    clear hXI
    go_wp2
    go_ret
    refine ⟨rfl, ⟨_, HQ.out, ?_⟩, (HXO.out.setCell 10 _).setCell 11 _⟩
    have := row_set (row_set HXI.out 10 (.int .i64 2)) 11 (.bool false)
    refine this.trans ?_
    simp [cellsP, up, hf, PSt.next]
set_option maxHeartbeats 1000000 in
theorem endF_item1 (p : PSt) (B : Nat) (w : World) (hT : HasT w) (hI : InP w B p) (_hB : 4 ≤ B) (hf : p.f = 1) (ha : p.al 1 < 1152921504606846976) (hs : p.st 1 = false) (hi : p.itemOk = true) :
    Calls Tryd.prog 50 #[.pointer (some ⟨B, 0, none⟩)] w fun e w' => e = .returned (.bool true) ∧ (∃ q, p.endF = some q ∧ InP w' B q) ∧ Only B w w' := by
  have k10 : w.cell? ⟨B, 10, none⟩ = some (.int .i64 1) := (hI.cell 10).trans (by rw [show (1 : Int) = (p.f : Int) by omega]; rfl)
  have ks : w.cell? ⟨B, 6, none⟩ = some (.bool false) := (hI.cell 6).trans (by rw [← hs]; rfl)
  have hend := fun n => endI_1 p B (w.drewN n) (hT.keep fun _ _ _ _ h => h) (hI.drewN n) _hB hf ha hi
  clear hI hT
  go_enter Tryd.func50, Tryd.ntmps50
  go_wp2_with fail
  go_quiet (fail)
  go_wp2_with fail
  refine (hend _).mono ?_
  rintro e X ⟨rfl, ⟨q, hq, hXI⟩, hO⟩
  have hqf : q.f = 1 := by rw [(PSt.endI_keeps hq).1, hf]
  have g10 := frozen_of_row X B 10 _ 66 hXI
  have g11 := frozen_of_row X B 11 _ 66 hXI
  have j10 : X.cell? ⟨B, 10, none⟩ = some (.int .i64 1) := (cell_of_row _ _ _ _ _ _ hXI).trans (by rw [show (1 : Int) = (q.f : Int) by omega]; rfl)
  have j11 : X.cell? ⟨B, 11, none⟩ = some (.bool q.op) := cell_of_row _ _ _ _ _ _ hXI
  have HXI := Hid.mk'' hXI
  have HO : Hid (Only B w X) := (Only.drewN w _).trans hO
  have HQ : Hid (p.endF = some q.next) := by show _ = _; unfold PSt.endF; rw [hf, hs, hq]; rfl
  clear hXI hO hq k10 ks hend
  go_wp2
  go_ret
  refine ⟨rfl, ⟨_, HQ.out, ?_⟩, (HO.out.setCell 10 _).setCell 11 _⟩
  have := row_set (row_set HXI.out 10 (.int .i64 2)) 11 (.bool false)
  refine this.trans ?_
  simp [cellsP, hqf, PSt.next]
set_option maxHeartbeats 1000000 in
theorem endF_no1 (p : PSt) (B : Nat) (w : World) (hT : HasT w) (hI : InP w B p) (_hB : 4 ≤ B) (hf : p.f = 1) (hs : p.st 1 = false) (hi : p.itemOk = false) :
    Calls Tryd.prog 50 #[.pointer (some ⟨B, 0, none⟩)] w fun e w' => e = .returned (.bool false) ∧ Only B w w' := by
  have k10 : w.cell? ⟨B, 10, none⟩ = some (.int .i64 1) := (hI.cell 10).trans (by rw [show (1 : Int) = (p.f : Int) by omega]; rfl)
  have ks : w.cell? ⟨B, 6, none⟩ = some (.bool false) := (hI.cell 6).trans (by rw [← hs]; rfl)
  have hend := fun n => endIno_1 p B (w.drewN n) (hT.keep fun _ _ _ _ h => h) (hI.drewN n) _hB hf hi
  clear hI hT
  go_enter Tryd.func50, Tryd.ntmps50
  go_wp2_with fail
  go_quiet (fail)
  go_wp2_with fail
  refine (hend _).mono ?_
  rintro e X ⟨rfl, hO⟩
  have HO : Hid (Only B w X) := (Only.drewN w _).trans hO
  clear hO k10 ks hend
  go_wp2
  go_ret
  exact ⟨rfl, HO.out⟩
end Go.Proofs.YtdojpnhjnhecmaaDoor
