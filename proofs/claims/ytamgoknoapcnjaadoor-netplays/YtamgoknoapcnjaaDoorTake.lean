/- What a reader of package pen keeps, and what its taking of bytes does. -/
import Derived.Test.YtamgoknoapcnjaaDoorKnown
import Derived.Deep.QuietTactic
import Derived.BigQuiet
namespace Go.Proofs.YtamgoknoapcnjaaDoor
open Go Go.RowKit
/-- A reader at block b: its bytes xs, how many were read, the error that is kept. -/
structure Re (B : Nat) (w : World) (b : Nat) (v : Value) (xs : List Int) (at_ : Nat) (err : Int) : Prop where
  c0 : w.cell? ⟨b, 0, none⟩ = some v
  c1 : w.cell? ⟨b, 1, none⟩ = some (.int .i64 at_)
  c2 : w.cell? ⟨b, 2, none⟩ = some (.int .i64 err)
  f1 : w.frozen? ⟨b, 1, none⟩ = false
  f2 : w.frozen? ⟨b, 2, none⟩ = false
  own : w.ownsRow B 5 1 v xs.length (u8s xs)
  ne : v.ownBlock ≠ some b
  base : B ≤ b
  le : at_ ≤ xs.length
  small : xs.length ≤ 1000000
  bytes : isB xs

theorem Re.lt {B : Nat} {w : World} {b : Nat} {v : Value} {xs : List Int} {a : Nat} {e : Int} (h : Re B w b v xs a e) : b < w.heap.size := World.block_lt_of_cell? _ _ h.c0
theorem Re.upd {B : Nat} {w w' : World} {S : Nat → Prop} {b : Nat} {v : Value} {xs : List Int} {a : Nat} {e : Int} (h : Re B w b v xs a e) (hu : Upd w w' S) (h1 : ¬ S b) (h2 : ∀ k, v.ownBlock = some k → ¬ S k) : Re B w' b v xs a e :=
  have hl := h.lt
  ⟨(hu.cell (p := ⟨b, 0, none⟩) hl h1).trans h.c0, (hu.cell (p := ⟨b, 1, none⟩) hl h1).trans h.c1, (hu.cell (p := ⟨b, 2, none⟩) hl h1).trans h.c2,
   (hu.frozen (p := ⟨b, 1, none⟩) hl h1).trans h.f1, (hu.frozen (p := ⟨b, 2, none⟩) hl h1).trans h.f2, ownsRow_upd h.own hu h2, h.ne, h.base, h.le, h.small, h.bytes⟩
theorem Upd.drewN (w : World) (n : Nat) (S : Nat → Prop) : Upd w (w.drewN n) S := Upd.ofBelow (below_drewN (Below.refl _ _) n)

set_option maxRecDepth 100000 in
set_option maxHeartbeats 400000 in
theorem left_any (B : Nat) (b : Nat) (v : Value) (xs : List Int) (at_ : Nat) (err : Int) (w : World) (hr : Re B w b v xs at_ err) :
    Calls Tryd.prog 74 #[.pointer (some ⟨b, 0, none⟩)] w fun e w' => e = .returned (.int .i64 ((xs.length : Int) - at_)) ∧ ∃ n, w' = w.drewN n := by
  obtain ⟨ao, cp, rfl⟩ := owns_form hr.own
  have h0 := hr.c0
  have h1 := hr.c1
  have hle := hr.le
  have hsm := hr.small
  clear hr
  go_enter Tryd.func74, Tryd.ntmps74
  go_wp2
  go_quiet (fail)
  go_wp2
  go_ret
  exact ⟨rfl, _, rfl⟩

theorem Re.err {B : Nat} {w : World} {b : Nat} {v : Value} {xs : List Int} {a : Nat} {e : Int} (h : Re B w b v xs a e) (e' : Int) : Re B (w.setCell ⟨b, 2, none⟩ (.int .i64 e')) b v xs a e' := by
  have hset : Upd w (w.setCell ⟨b, 2, none⟩ (.int .i64 e')) (fun k => k = b) := (Upd.refl w (fun k => k = b)).setCell (p := ⟨b, 2, none⟩) (.inr rfl) _
  refine ⟨?_, ?_, World.cell?_setCell_same _ _ _ h.c2, by rw [World.frozen?_setCell]; exact h.f1, by rw [World.frozen?_setCell]; exact h.f2, ownsRow_upd h.own hset (fun k hk e => h.ne (by rw [hk, e])), h.ne, h.base, h.le, h.small, h.bytes⟩
  · rw [World.cell?_setCell_other _ _ _ _ (by simp)]; exact h.c0
  · rw [World.cell?_setCell_other _ _ _ _ (by simp)]; exact h.c1
theorem Re.go {B : Nat} {w : World} {b : Nat} {v : Value} {xs : List Int} {a : Nat} {e : Int} (h : Re B w b v xs a e) (a' : Nat) (hle : a' ≤ xs.length) : Re B (w.setCell ⟨b, 1, none⟩ (.int .i64 a')) b v xs a' e := by
  have hset : Upd w (w.setCell ⟨b, 1, none⟩ (.int .i64 a')) (fun k => k = b) := (Upd.refl w (fun k => k = b)).setCell (p := ⟨b, 1, none⟩) (.inr rfl) _
  refine ⟨?_, World.cell?_setCell_same _ _ _ h.c1, ?_, by rw [World.frozen?_setCell]; exact h.f1, by rw [World.frozen?_setCell]; exact h.f2, ownsRow_upd h.own hset (fun k hk e => h.ne (by rw [hk, e])), h.ne, h.base, hle, h.small, h.bytes⟩
  · rw [World.cell?_setCell_other _ _ _ _ (by simp)]; exact h.c0
  · rw [World.cell?_setCell_other _ _ _ _ (by simp)]; exact h.c2

/-- What a reader's call leaves. -/
def RePost (B : Nat) (w w' : World) (b : Nat) (v : Value) (xs : List Int) (a : Nat) (e : Int) : Prop := Re B w' b v xs a e ∧ Upd w w' (fun k => k = b)

set_option maxRecDepth 100000 in
set_option maxHeartbeats 400000 in
theorem take_err (B : Nat) (b : Nat) (v : Value) (xs : List Int) (at_ : Nat) (err : Int) (n : Int) (w : World) (hr : Re B w b v xs at_ err) (he : err ≠ 0) :
    Calls Tryd.prog 88 #[.pointer (some ⟨b, 0, none⟩), .int .i64 n] w fun e w' => e = .returned (.slice none 0 0) ∧ RePost B w w' b v xs at_ 8 := by
  have h2 := hr.c2
  have hf2 := hr.f2
  have he' : (err == 0) = false := by simpa using he
  go_enter Tryd.func88, Tryd.ntmps88
  go_wp2
  go_ret
  exact ⟨rfl, hr.err 8, (Upd.refl w (fun k => k = b)).setCell (p := ⟨b, 2, none⟩) (.inr rfl) _⟩
set_option maxRecDepth 100000 in
set_option maxHeartbeats 400000 in
theorem take_cut (B : Nat) (b : Nat) (v : Value) (xs : List Int) (at_ : Nat) (n : Int) (w : World) (hr : Re B w b v xs at_ 0) (hn : (xs.length : Int) - at_ < n) :
    Calls Tryd.prog 88 #[.pointer (some ⟨b, 0, none⟩), .int .i64 n] w fun e w' => e = .returned (.slice none 0 0) ∧ RePost B w w' b v xs at_ 8 := by
  have h2 := hr.c2
  have hf2 := hr.f2
  go_enter Tryd.func88, Tryd.ntmps88
  go_wp2_with (go_at_call 74; refine (left_any _ _ _ _ _ _ _ hr).mono ?_; rintro e w1 ⟨rfl, k, rfl⟩)
  go_ret
  exact ⟨rfl, (hr.upd (Upd.drewN w k (fun _ => False)) (fun h => h) (fun _ _ h => h)).err 8, (Upd.drewN w k (fun k => k = b)).setCell (p := ⟨b, 2, none⟩) (.inr rfl) _⟩
theorem sees_sub {B : Nat} {w : World} {g cap : Nat} {xs : List Int} (h : w.ownsRow B 5 1 (.slice (some ⟨g, 0, none⟩) xs.length cap) xs.length (u8s xs)) (a n c : Nat) (hn : a + n ≤ xs.length) (hc : n ≤ c) (hcm : c ≤ maxLen) :
    Sees w (.slice (some ⟨g, a, none⟩) n c) ((xs.drop a).take n) := by
  by_cases h0 : n = 0
  · subst h0
    exact .inl ⟨by simp, _, c, rfl, (fun e => by cases e), hcm⟩
  · have hl : ((xs.drop a).take n).length = n := by simp; omega
    refine .inr ⟨g, a, c, by rw [hl], by omega, by omega, hcm, fun i hi => ?_⟩
    rw [owns_cells h (a + i) (by omega)]
    have : i < n := by omega
    simp [List.getD_eq_getElem?_getD, this]
theorem re_moved {B : Nat} {w : World} {b : Nat} {v : Value} {xs : List Int} {a : Nat} {e : Int} (h : Re B w b v xs a e) (k nq n : Nat) (hn : a + n ≤ xs.length) :
    RePost B w (((w.drewN k).setCell ⟨b, 1, none⟩ (.int .i64 ((a : Int) + n))).drewN nq) b v xs (a + n) e := by
  have e1 : (a : Int) + n = ((a + n : Nat) : Int) := by omega
  rw [e1]
  refine ⟨(((h.upd (Upd.drewN w k (fun _ => False)) (fun h => h) (fun _ _ h => h)).go (a + n) hn).upd (Upd.drewN _ nq (fun _ => False)) (fun h => h) (fun _ _ h => h)), ?_⟩
  exact ((Upd.drewN w k (fun k => k = b)).setCell (p := ⟨b, 1, none⟩) (.inr rfl) _).trans (Upd.drewN _ nq (fun _ => False)) (fun _ _ h => h.elim)

set_option maxRecDepth 100000 in
set_option maxHeartbeats 400000 in
theorem take_ok (B : Nat) (b : Nat) (v : Value) (xs : List Int) (at_ : Nat) (n : Nat) (w : World) (hr : Re B w b v xs at_ 0) (hn : at_ + n ≤ xs.length) :
    Calls Tryd.prog 88 #[.pointer (some ⟨b, 0, none⟩), .int .i64 n] w fun e w' => ∃ v', e = .returned v' ∧ RePost B w w' b v xs (at_ + n) 0 ∧ Sees w' v' ((xs.drop at_).take n) := by
  have h0 := hr.c0
  have h1 := hr.c1
  have h2 := hr.c2
  have hf1 := hr.f1
  have hsm := hr.small
  have hd : decide ((xs.length : Int) - at_ < (n : Int)) = false := by simp; omega
  have hn' : (n : Int) ≤ (xs.length : Int) - at_ := by omega
  rcases hr.own.2 with ⟨rfl, hx⟩ | ⟨g, cap, cur, rfl, hbg, hg, hnc, hcm, hcs, htake⟩
  · obtain rfl : at_ = 0 := by omega
    obtain rfl : n = 0 := by omega
    go_enter Tryd.func88, Tryd.ntmps88
    go_wp2_with (go_at_call 74; refine (left_any _ _ _ _ _ _ _ hr).mono ?_; rintro e w1 ⟨rfl, k, rfl⟩)
    go_quiet (fail)
    go_wp2
    go_ret
    refine ⟨_, rfl, ?_, ?_⟩
    · have := re_moved hr k nq 0 (by omega)
      simpa using this
    · exact .inl ⟨by simp, _, _, rfl, (fun _ => rfl), by decide⟩
  · clear hg
    go_enter Tryd.func88, Tryd.ntmps88
    go_wp2_with (go_at_call 74; refine (left_any _ _ _ _ _ _ _ hr).mono ?_; rintro e w1 ⟨rfl, k, rfl⟩)
    go_quiet (fail)
    go_wp2
    · have hca : cap = at_ := by assumption
      go_ret
      refine ⟨_, rfl, by subst hca; exact re_moved hr k nq n hn, ?_⟩
      obtain rfl : n = 0 := by omega
      exact .inl ⟨by simp, _, _, rfl, (fun e => by cases e), by decide⟩
    · go_ret
      exact ⟨_, rfl, re_moved hr k nq n hn, sees_sub (re_moved hr k nq n hn).1.own at_ n _ hn (by omega) (by omega)⟩
end Go.Proofs.YtamgoknoapcnjaaDoor
