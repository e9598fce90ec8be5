/- What the calls of a reader of package pen answer, and what they leave. -/
import Derived.Test.YtamgoknoapcnjaaDoorTake
namespace Go.Proofs.YtamgoknoapcnjaaDoor
open Go Go.RowKit
def okT (xs : List Int) (a : Nat) (e : Int) (n : Nat) : Bool := decide (e = 0 ∧ a + n ≤ xs.length)
def takeA (xs : List Int) (a : Nat) (e : Int) (n : Nat) : Nat := if okT xs a e n then a + n else a
def takeE (xs : List Int) (a : Nat) (e : Int) (n : Nat) : Int := if okT xs a e n then 0 else 8
def takeB (xs : List Int) (a : Nat) (e : Int) (n : Nat) : List Int := if okT xs a e n then (xs.drop a).take n else []
theorem takeB_len (xs : List Int) (a : Nat) (e : Int) (n : Nat) : (takeB xs a e n).length ≤ n := by
  unfold takeB; split
  · exact List.length_take_le _ _
  · simp
theorem takeB_isB {xs : List Int} (h : isB xs) (a : Nat) (e : Int) (n : Nat) : isB (takeB xs a e n) := by
  unfold takeB; split
  · exact fun x hx => h x (List.mem_of_mem_drop (List.mem_of_mem_take hx))
  · intro x hx; cases hx

theorem take_any (B : Nat) (b : Nat) (v : Value) (xs : List Int) (at_ : Nat) (err : Int) (n : Nat) (w : World) (hr : Re B w b v xs at_ err) :
    Calls Tryd.prog 88 #[.pointer (some ⟨b, 0, none⟩), .int .i64 n] w fun e w' => ∃ v', e = .returned v' ∧ RePost B w w' b v xs (takeA xs at_ err n) (takeE xs at_ err n) ∧ Sees w' v' (takeB xs at_ err n) := by
  by_cases h : okT xs at_ err n = true
  · have h' := of_decide_eq_true h
    obtain ⟨rfl, hn⟩ := h'
    refine (take_ok B b v xs at_ n w hr hn).mono ?_
    rintro e w' ⟨v', rfl, h1, h2⟩
    exact ⟨v', rfl, by rw [takeA, takeE, if_pos h, if_pos h]; exact h1, by rw [takeB, if_pos h]; exact h2⟩
  · have hz : ¬ (err = 0 ∧ at_ + n ≤ xs.length) := fun hh => h (decide_eq_true hh)
    have fin : ∀ (e : Ending) (w' : World), (e = .returned (.slice none 0 0) ∧ RePost B w w' b v xs at_ 8) → ∃ v', e = .returned v' ∧ RePost B w w' b v xs (takeA xs at_ err n) (takeE xs at_ err n) ∧ Sees w' v' (takeB xs at_ err n) := by
      rintro e w' ⟨rfl, h1⟩
      exact ⟨_, rfl, by rw [takeA, takeE, if_neg h, if_neg h]; exact h1, by rw [takeB, if_neg h]; exact .inl ⟨rfl, _, _, rfl, (fun _ => rfl), by decide⟩⟩
    by_cases he : err = 0
    · subst he
      exact (take_cut B b v xs at_ n w hr (by omega)).mono fin
    · exact (take_err B b v xs at_ err n w hr he).mono fin

set_option maxRecDepth 100000 in
set_option maxHeartbeats 400000 in
theorem rnum (B : Nat) (b : Nat) (v : Value) (xs : List Int) (at_ : Nat) (err : Int) (n : Nat) (w : World) (hr : Re B w b v xs at_ err) (hn : n ≤ 8) :
    Calls Tryd.prog 85 #[.pointer (some ⟨b, 0, none⟩), .int .i64 n] w fun e w' => e = .returned (.int .i64 (wrap64 (rd (takeB xs at_ err n)))) ∧ RePost B w w' b v xs (takeA xs at_ err n) (takeE xs at_ err n) := by
  go_enter Tryd.func85, Tryd.ntmps85
  go_wp2_with (first | (go_at_call 88; refine (take_any _ _ _ _ _ _ _ _ hr).mono ?_; rintro e w1 ⟨v1, rfl, hp, hs⟩) | (go_at_call 65; refine (fbe_any _ _ _ hs (Nat.le_trans (takeB_len _ _ _ _) hn) (takeB_isB hr.bytes _ _ _)).mono ?_; rintro e w2 ⟨rfl, rfl⟩))
  go_ret
  exact ⟨rfl, hp⟩
set_option maxRecDepth 100000 in
set_option maxHeartbeats 400000 in
theorem rU8 (B : Nat) (b : Nat) (v : Value) (xs : List Int) (at_ : Nat) (err : Int) (w : World) (hr : Re B w b v xs at_ err) :
    Calls Tryd.prog 66 #[.pointer (some ⟨b, 0, none⟩)] w fun e w' => e = .returned (.int .i64 (wrap64 (rd (takeB xs at_ err 1)))) ∧ RePost B w w' b v xs (takeA xs at_ err 1) (takeE xs at_ err 1) := by
  have hnum := rnum B b v xs at_ err 1 w hr (by omega)
  go_enter Tryd.func66, Tryd.ntmps66
  go_wp2_with (go_at_call 85; refine hnum.mono ?_; rintro e w1 ⟨rfl, hp⟩)
  go_ret
  exact ⟨rfl, hp⟩
set_option maxRecDepth 100000 in
set_option maxHeartbeats 400000 in
theorem rU32 (B : Nat) (b : Nat) (v : Value) (xs : List Int) (at_ : Nat) (err : Int) (w : World) (hr : Re B w b v xs at_ err) :
    Calls Tryd.prog 89 #[.pointer (some ⟨b, 0, none⟩)] w fun e w' => e = .returned (.int .i64 (wrap64 (rd (takeB xs at_ err 4)))) ∧ RePost B w w' b v xs (takeA xs at_ err 4) (takeE xs at_ err 4) := by
  have hnum := rnum B b v xs at_ err 4 w hr (by omega)
  go_enter Tryd.func89, Tryd.ntmps89
  go_wp2_with (go_at_call 85; refine hnum.mono ?_; rintro e w1 ⟨rfl, hp⟩)
  go_ret
  exact ⟨rfl, hp⟩
set_option maxRecDepth 100000 in
set_option maxHeartbeats 400000 in
theorem rInt (B : Nat) (b : Nat) (v : Value) (xs : List Int) (at_ : Nat) (err : Int) (w : World) (hr : Re B w b v xs at_ err) :
    Calls Tryd.prog 68 #[.pointer (some ⟨b, 0, none⟩)] w fun e w' => e = .returned (.int .i64 (wrap64 (rd (takeB xs at_ err 8)))) ∧ RePost B w w' b v xs (takeA xs at_ err 8) (takeE xs at_ err 8) := by
  have hnum := rnum B b v xs at_ err 8 w hr (by omega)
  go_enter Tryd.func68, Tryd.ntmps68
  go_wp2_with (go_at_call 85; refine hnum.mono ?_; rintro e w1 ⟨rfl, hp⟩)
  go_ret
  exact ⟨rfl, hp⟩
set_option maxRecDepth 100000 in
set_option maxHeartbeats 400000 in
theorem rErr (B : Nat) (b : Nat) (v : Value) (xs : List Int) (at_ : Nat) (err : Int) (w : World) (hr : Re B w b v xs at_ err) :
    Calls Tryd.prog 67 #[.pointer (some ⟨b, 0, none⟩)] w fun e w' => e = .returned (.int .i64 err) ∧ w = w' := by
  have h2 := hr.c2
  clear hr
  go_enter Tryd.func67, Tryd.ntmps67
  go_wp2
  go_ret
  exact ⟨rfl, rfl⟩
set_option maxRecDepth 100000 in
set_option maxHeartbeats 400000 in
theorem rNew (v : Value) (zs : List Int) (w : World) (hv : Sees w v zs) (hb : isB zs) (hl : zs.length ≤ 1000000) :
    Calls Tryd.prog 36 #[v] w fun e w' => ∃ b v', e = .returned (.pointer (some ⟨b, 0, none⟩)) ∧ Re w.heap.size w' b v' zs 0 0 ∧ Below w.heap.size w w' := by
  go_enter Tryd.func36, Tryd.ntmps36
  go_wp2_with (go_at_call 61; refine (clone_any _ zs _ hv hl).mono ?_; rintro e w1 ⟨v', rfl, h1, h2⟩; obtain ⟨ao, cp, rfl⟩ := owns_form h1)
  go_ret
  refine ⟨w1.heap.size, _, rfl, ⟨by simp, by simp, by simp, by simp, by simp, h1.alloc _, fun e => ?_, h2.size, Nat.zero_le _, hl, hb⟩, h2.alloc h2.size _⟩
  have := (h1.lt _ e).2
  omega
def textN (xs : List Int) (a : Nat) (e : Int) : Nat := (rd (takeB xs a e 4)).toNat
def textE (xs : List Int) (a : Nat) (e : Int) : Int := takeE xs (takeA xs a e 4) (takeE xs a e 4) (textN xs a e)
def textB (xs : List Int) (a : Nat) (e : Int) : List Int := takeB xs (takeA xs a e 4) (takeE xs a e 4) (textN xs a e)
def textA (xs : List Int) (a : Nat) (e : Int) : Nat := if textE xs a e = 0 then takeA xs (takeA xs a e 4) (takeE xs a e 4) (textN xs a e) else a
theorem rd_le {l : List Int} (hb : isB l) (h : l.length ≤ 4) : 0 ≤ rd l ∧ rd l < 4294967296 := by
  have h1 := rd_bd l.length l rfl hb
  rcases (by omega : l.length = 0 ∨ l.length = 1 ∨ l.length = 2 ∨ l.length = 3 ∨ l.length = 4) with h2 | h2 | h2 | h2 | h2 <;> (rw [h2] at h1; simp only [Int.reducePow] at h1; omega)
theorem textN_eq {xs : List Int} (hb : isB xs) (a : Nat) (e : Int) : wrap64 (rd (takeB xs a e 4)) = (textN xs a e : Int) := by
  have h := rd_le (takeB_isB hb a e 4) (takeB_len xs a e 4)
  unfold textN wrap64
  omega
set_option maxRecDepth 100000 in
set_option maxHeartbeats 400000 in
theorem rText (B : Nat) (b : Nat) (v : Value) (xs : List Int) (at_ : Nat) (err : Int) (w : World) (hr : Re B w b v xs at_ err) :
    Calls Tryd.prog 86 #[.pointer (some ⟨b, 0, none⟩)] w fun e w' => e = .returned (.string (strOfNums (textB xs at_ err))) ∧ RePost B w w' b v xs (textA xs at_ err) (textE xs at_ err) := by
  have h1 := hr.c1
  go_enter Tryd.func86, Tryd.ntmps86
  go_wp2_with (first | (go_at_call 89; refine (rU32 _ _ _ _ _ _ _ hr).mono ?_; rintro e w1 ⟨rfl, hp⟩))
  rw [textN_eq hr.bytes]
  refine (take_any _ _ _ _ _ _ _ _ hp.1).mono ?_
  rintro e w2 ⟨v2, rfl, hp2, hs2⟩
  have hc := conv_sees hs2
  have h2 := hp2.1.c2
  have h3 := hp2.1.c1
  have hf := hp2.1.f1
  have HU : Hid (Upd w w2 (fun k => k = b)) := hp.2.trans hp2.2 (fun _ _ h => h)
  have HR : Hid (Re B w2 b v xs (takeA xs (takeA xs at_ err 4) (takeE xs at_ err 4) (textN xs at_ err)) (textE xs at_ err)) := hp2.1
  have hle := hr.le
  clear hp hp2 hs2 hr
  change w2.cell? _ = some (.int .i64 (textE xs at_ err)) at h2
  by_cases he : textE xs at_ err = 0
  · have HA : Hid (textA xs at_ err = takeA xs (takeA xs at_ err 4) (takeE xs at_ err 4) (textN xs at_ err)) := by show textA _ _ _ = _; rw [textA, if_pos he]
    go_wp2
    go_ret
    exact ⟨rfl, by rw [HA.out]; exact ⟨HR.out, HU.out⟩⟩
  · have HA : Hid (textA xs at_ err = at_) := by show textA _ _ _ = _; rw [textA, if_neg he]
    go_wp2
    go_ret
    exact ⟨rfl, by rw [HA.out]; exact ⟨HR.out.go _ hle, HU.out.setCell (p := ⟨b, 1, none⟩) (.inr rfl) _⟩⟩
end Go.Proofs.YtamgoknoapcnjaaDoor
