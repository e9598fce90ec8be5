/- The walk of PenKept: whatever the bytes and the kinds, it returns true and turns nothing that was there. -/
import Derived.Test.YtjcdjignfjkgaaaDoorRead
import Derived.Deep.LoopGhost
namespace Go.Proofs.YtjcdjignfjkgaaaDoor
open Go Go.RowKit
/-- A slice value through which the numbers zs are seen. -/
def SeesI (w : World) (v : Value) (zs : List Int) : Prop :=
  (zs = [] ∧ ∃ ao cap, v = .slice ao 0 cap) ∨
  ∃ b off cap, v = .slice (some ⟨b, off, none⟩) zs.length cap ∧ 0 < zs.length ∧ b < w.heap.size ∧ ∀ i, i < zs.length → w.cell? ⟨b, off + i, none⟩ = some (.int .i64 (zs.getD i 0))
theorem SeesI.form {w : World} {v : Value} {zs : List Int} (h : SeesI w v zs) : ∃ ao cap, v = .slice ao zs.length cap := by
  rcases h with ⟨rfl, ao, cap, rfl⟩ | ⟨b, off, cap, rfl, _⟩ <;> exact ⟨_, _, rfl⟩
theorem okT8 (xs : List Int) (a n : Nat) : okT xs a 8 n = false := by simp [okT]
theorem takeA8 (xs : List Int) (a n : Nat) : takeA xs a 8 n = a := by simp [takeA, okT8]
theorem takeE8 (xs : List Int) (a n : Nat) : takeE xs a 8 n = 8 := by simp [takeE, okT8]
theorem takeB8 (xs : List Int) (a n : Nat) : takeB xs a 8 n = [] := by simp [takeB, okT8]
theorem textE8 (xs : List Int) (a : Nat) : textE xs a 8 = 8 := by simp [textE, takeE8]
theorem textA8 (xs : List Int) (a : Nat) : textA xs a 8 = a := by simp [textA, textE8]
theorem textB8 (xs : List Int) (a : Nat) : textB xs a 8 = [] := by simp [textB, takeE8, takeB8]

theorem wrap64_rd_nil : wrap64 (rd []) = 0 := by simp [wrap64, rd]
theorem rU8_8 (B : Nat) (b : Nat) (v : Value) (xs : List Int) (a : Nat) (w : World) (hr : Re B w b v xs a 8) :
    Calls Tryd.prog 22 #[.pointer (some ⟨b, 0, none⟩)] w fun e w' => e = .returned (.int .i64 0) ∧ RePost B w w' b v xs a 8 :=
  (rU8 B b v xs a 8 w hr).mono (by rintro e w' ⟨rfl, h⟩; rw [takeA8, takeE8] at h; exact ⟨ret_int (by rw [takeB8]; exact wrap64_rd_nil), h⟩)
theorem rU32_8 (B : Nat) (b : Nat) (v : Value) (xs : List Int) (a : Nat) (w : World) (hr : Re B w b v xs a 8) :
    Calls Tryd.prog 23 #[.pointer (some ⟨b, 0, none⟩)] w fun e w' => e = .returned (.int .i64 0) ∧ RePost B w w' b v xs a 8 :=
  (rU32 B b v xs a 8 w hr).mono (by rintro e w' ⟨rfl, h⟩; rw [takeA8, takeE8] at h; exact ⟨ret_int (by rw [takeB8]; exact wrap64_rd_nil), h⟩)
theorem rInt_8 (B : Nat) (b : Nat) (v : Value) (xs : List Int) (a : Nat) (w : World) (hr : Re B w b v xs a 8) :
    Calls Tryd.prog 24 #[.pointer (some ⟨b, 0, none⟩)] w fun e w' => e = .returned (.int .i64 0) ∧ RePost B w w' b v xs a 8 :=
  (rInt B b v xs a 8 w hr).mono (by rintro e w' ⟨rfl, h⟩; rw [takeA8, takeE8] at h; exact ⟨ret_int (by rw [takeB8]; exact wrap64_rd_nil), h⟩)
theorem rText_8 (B : Nat) (b : Nat) (v : Value) (xs : List Int) (a : Nat) (w : World) (hr : Re B w b v xs a 8) :
    Calls Tryd.prog 25 #[.pointer (some ⟨b, 0, none⟩)] w fun e w' => e = .returned (.string ⟨#[]⟩) ∧ RePost B w w' b v xs a 8 :=
  (rText B b v xs a 8 w hr).mono (by rintro e w' ⟨rfl, h⟩; rw [textA8, textE8] at h; exact ⟨by rw [textB8]; rfl, h⟩)

set_option maxHeartbeats 1000000 in
theorem kept_walk (v0 v1 : Value) (zs ks : List Int) (w : World) (hT : HasTab w) (h0 : Sees w v0 zs) (hb : isB zs) (hl : zs.length ≤ maxLen) (h1 : SeesI w v1 ks) (hk : ks.length ≤ maxLen) :
    Calls Tryd.prog 8 #[v0, v1] w fun e w' => e = .returned (.bool true) ∧ Below w.heap.size w w' := by
  obtain ⟨a0, cap0, rfl, _, _⟩ := h0.form
  obtain ⟨a1, cap1, rfl⟩ := h1.form
  unfold maxLen at hl hk
  by_cases hbig : 500 < zs.length
  · go_enter Tryd.func8, Tryd.ntmps8
    go_wp2_with (go_at_call 9; refine (known_any _ hT).mono ?_; rintro e w1 ⟨rfl, hb1⟩)
    go_ret
    exact ⟨rfl, hb1⟩
  · go_enter Tryd.func8, Tryd.ntmps8
    go_wp2_with (first | (go_at_call 9; refine (known_any _ hT).mono ?_; rintro e w1 ⟨rfl, hb1⟩) | (go_at_call 21; refine (rNew _ zs _ (h0.below hb1) hb (by omega)).mono ?_; rintro e w2 ⟨rb, vr, rfl, hr, hb2⟩))
    go_loopg [16] (2 * zs.length + 1) (fun g p wr => ∃ (k : Nat) (e : Int), 8 * k ≤ zs.length ∧ Re w1.heap.size wr rb vr zs (8 * k) e ∧ Upd w2 wr (fun j => j = rb) ∧ ((e = 0 ∧ g = 2 * (zs.length - 8 * k) + 1) ∨ (e = 8 ∧ zs.length < 8 * k + 8 ∧ g = 0)))
    case atStart => exact ⟨0, 0, by omega, hr, Upd.refl _ _, .inl ⟨rfl, by omega⟩⟩
    case round =>
      obtain ⟨k, e, hle, hr1, hu1, he⟩ := hrel
      rcases he with ⟨rfl, hg⟩ | ⟨rfl, hlt, _⟩
      · go_wp2_with (first | (go_at_call 26; refine (rErr _ _ _ _ _ _ _ hr1).mono ?_; rintro e w3 ⟨rfl, rfl⟩) | (go_at_call 24; refine (rInt _ _ _ _ _ _ _ hr1).mono ?_; rintro e w3 ⟨rfl, hp⟩))
        by_cases hn : 8 * k + 8 ≤ zs.length
        · have ho : okT zs (8 * k) 0 8 = true := by simp [okT, hn]
          go_roundg (2 * (zs.length - 8 * (k + 1)) + 1)
          case measure => omega
          case rel => exact ⟨k + 1, 0, by omega, by have := hp.1; rw [takeA, takeE, if_pos ho, if_pos ho] at this; exact this, hu1.trans hp.2 (fun _ _ h => h), .inl ⟨rfl, rfl⟩⟩
        · have ho : ¬ okT zs (8 * k) 0 8 = true := by simp [okT]; omega
          go_roundg 0
          case measure => omega
          case rel => exact ⟨k, 8, by omega, by have := hp.1; rw [takeA, takeE, if_neg ho, if_neg ho] at this; exact this, hu1.trans hp.2 (fun _ _ h => h), .inr ⟨rfl, by omega, rfl⟩⟩
      · obtain ⟨A, hA⟩ : ∃ A, A = 8 * k := ⟨_, rfl⟩
        rw [← hA] at hr1
        have hA1 : ((zs.length : Int) / 8 * 8) = (A : Int) := by omega
        have hA2 : ((zs.length : Int) % 8) = (zs.length : Int) - (A : Int) := by omega
        have hA3 : A ≤ zs.length := by omega
        have HB : Hid (Below w.heap.size w wr) := (hb1.trans (hb2.mono hb1.size)).trans (hu1.below (by have := hb1.size; have := hb2.size; omega) (fun j hj h => by have := hr1.base; have := hb1.size; omega))
        clear hA hlt hle hu1 hb2 hr
        go_wp2_with (first | (go_at_call 26; refine (rErr _ _ _ _ _ _ _ hr1).mono ?_; rintro e w3 ⟨rfl, rfl⟩) | (go_at_call 28; refine (rAt _ _ _ _ _ _ _ hr1).mono ?_; rintro e w3 ⟨rfl, rfl⟩) | (go_at_call 27; refine (left_any _ _ _ _ _ _ _ hr1).mono ?_; rintro e w3 ⟨rfl, nd, rfl⟩))
        have HR : Hid (Re w1.heap.size (wr.drewN nd) rb vr zs A 8) := hr1.upd (Upd.drewN wr nd (fun _ => False)) (fun h => h) (fun _ _ h => h)
        have HB' : Hid (Below w.heap.size w (wr.drewN nd)) := below_drewN HB.out nd
        have H1 : Hid (SeesI w (.slice a1 ks.length cap1) ks) := h1
        clear hr1 HB hA1 hA2 h1 h0
        go_loopg [7] 20 (fun g i wx => ∃ j : Nat, j ≤ 20 ∧ g = 20 - j ∧ i = .int .i64 j ∧ Re w1.heap.size wx rb vr zs A 8 ∧ Below w.heap.size w wx)
        case atStart => exact ⟨0, by omega, rfl, rfl, HR.out, HB'.out⟩
        case round =>
          obtain ⟨j, hj20, hg, rfl, hr2, hbx⟩ := hrel
          by_cases hjk : j < ks.length
          · by_cases hj : j < 20
            · obtain ⟨b1, off1, c1, he1, _, hbl, hcell⟩ : ∃ b off cap, (Value.slice a1 ks.length cap1) = .slice (some ⟨b, off, none⟩) ks.length cap ∧ 0 < ks.length ∧ b < w.heap.size ∧ ∀ i, i < ks.length → w.cell? ⟨b, off + i, none⟩ = some (.int .i64 (ks.getD i 0)) := by
                rcases H1.out with ⟨h, _⟩ | h
                · subst h; simp at hjk
                · exact h
              cases he1
              have hc := (hbx.cell (p := ⟨b1, off1 + j, none⟩) hbl).trans (hcell j hjk)
              clear hcell
              generalize ks.getD j 0 = q at hc
              go_wp2_with (first | (go_at_call 22; refine (rU8_8 _ _ _ _ _ _ hr2).mono ?_; rintro e w3 ⟨rfl, hr3, hu3⟩) | (go_at_call 23; refine (rU32_8 _ _ _ _ _ _ hr2).mono ?_; rintro e w3 ⟨rfl, hr3, hu3⟩) | (go_at_call 24; refine (rInt_8 _ _ _ _ _ _ hr2).mono ?_; rintro e w3 ⟨rfl, hr3, hu3⟩) | (go_at_call 25; refine (rText_8 _ _ _ _ _ _ hr2).mono ?_; rintro e w3 ⟨rfl, hr3, hu3⟩) | (go_at_call 28; refine (rAt _ _ _ _ _ _ _ hr3).mono ?_; rintro e w4 ⟨rfl, rfl⟩) | (go_at_call 26; refine (rErr _ _ _ _ _ _ _ hr3).mono ?_; rintro e w4 ⟨rfl, rfl⟩))
              all_goals
                go_roundg (20 - (j + 1))
                case measure => omega
                case rel => exact ⟨j + 1, by omega, rfl, by go_num, hr3, hbx.trans (hu3.below (by have := hbx.size; omega) (fun m hm h => by have := hr2.base; have := hb1.size; omega))⟩
            · go_wp2
              go_ret
              exact ⟨rfl, hbx⟩
          · go_wp2
            go_ret
            exact ⟨rfl, hbx⟩
end Go.Proofs.YtjcdjignfjkgaaaDoor
