/- Which marks are needed. -/
import Derived.Test.YtilginghgigiiaaH1
namespace Go.Proofs.Ytilginghgigiiaa
open Go Go.RowKit

set_option maxHeartbeats 1000000 in
/-- fresh of a piece that is empty. -/
theorem freshM0 (g off c : Nat) (w : World) :
    Calls Try.prog 31 #[.slice (some ⟨g, off, none⟩) 0 c] w fun e w' => e = .returned (.slice (some ⟨w.heap.size, 0, none⟩) 0 0) ∧ w'.heap[w.heap.size]? = some (.cells #[] 35 (0, 0)) ∧ Below w.heap.size w w' := by
  obtain ⟨i0, hi, hz0, hz1, hz2⟩ := info_parts info35
  obtain ⟨ROW, hRS, hmk⟩ : ∃ ROW : Array Value, ROW.size = 0 * 2 ∧ (Instr.makeSlice 39 (.int .i64 0) (.int .i64 0)).run Try.prog w = .ok (.slice (some ⟨w.heap.size, 0, none⟩) 0 0) (w.alloc (.cells ROW 35)) := by
    have := run_make (P := Try.prog) w 39 35 i0 _ Try.underlying39 hi hz0 .i64 .i64 (0 : Nat) (0 : Nat) (by omega) (by omega) (by rw [hz2]; omega) (by omega)
    simp only [Int.toNat_natCast] at this
    exact ⟨_, by rw [size_madeCells, hz1], this⟩
  have hgn : (w.alloc (.cells ROW 35)).heap[w.heap.size]? = some (.cells ROW 35 (0, 0)) := heap_alloc_new w _
  have hcp : ∀ ty, (Builtin.copy_ #[39, 39] ty #[.slice (some ⟨w.heap.size, 0, none⟩) 0 0, .slice (some ⟨g, off, none⟩) 0 c]).run Try.prog (w.alloc (.cells ROW 35)) = .ok (goInt (Nat.min 0 0 : Nat)) ((w.alloc (.cells ROW 35)).setRow w.heap.size ([] : List Value).toArray) := fun ty => by
    have := run_copyS (P := Try.prog) (w.alloc (.cells ROW 35)) 39 39 ty 35 35 i0 Try.underlying39 hi w.heap.size 0 0 0 ROW hgn ⟨g, off, none⟩ 0 c [] (by simp) (fun j v hj => by simp at hj) (by simp) (by simp)
    rw [List.take_zero, List.drop_eq_nil_of_le (by simpa using hRS), List.nil_append, List.append_nil] at this
    exact this
  go_enter Try.func31, Try.ntmps31
  go_wp2_with (at_builtin; refine wpList_copy_run _ rfl _ _ 39 39 rfl _ _ rfl rfl (hcp _) ?_)
  go_ret
  refine ⟨rfl, setRow_heap _ _ _ _ _ _ hgn, ?_⟩
  exact ((Below.refl _ w).alloc (Nat.le_refl _) _).trans (upd_setRow _ _ _ (fun k => k = w.heap.size) rfl |>.below (by simp) (fun k hk => by omega))
/-- The place from which on marks are needed at r. -/
def cutA (ms : List Mk) (a : Nat) : Nat := match ms[a]? with | some m => if m.2 then a + 1 else a | none => a
def cutM (ms : List Mk) (r : Int) : Nat := if hrm ms r then cutA ms (plm ms r) else if plm ms r = 0 then 0 else cutA ms (plm ms r - 1)
/-- What needed tells of marks at v. -/
def NeedPost (w w' : World) (v v' : Value) (ms : List Mk) (k : Nat) : Prop :=
  (k = 0 ∧ v' = v ∨ 0 < k ∧ k < ms.length ∧ (∃ b, w.heap.size ≤ b ∧ v' = .slice (some ⟨b, 0, none⟩) (ms.length - k) (ms.length - k) ∧ w'.heap[b]? = some (.cells (mksC (ms.drop k)).toArray 35 (0, 0))) ∨ k = ms.length ∧ (∃ b, w.heap.size ≤ b ∧ v' = .slice (some ⟨b, 0, none⟩) 0 0 ∧ w'.heap[b]? = some (.cells #[] 35 (0, 0)))) ∧ Below w.heap.size w w'
theorem fresh_cut (g c k : Nat) (ms : List Mk) (w : World) (hM : Mks w (.slice (some ⟨g, 0, none⟩) ms.length c) ms) (hn : ms.length ≤ 1000000) (h0 : 0 < k) (hk : k ≤ ms.length) (v : Value) :
    Calls Try.prog 31 #[.slice (some ⟨g, k * 2, none⟩) (ms.length - k) (c - k)] w fun e w' => ∃ v', e = .returned v' ∧ NeedPost w w' v v' ms k := by
  rcases Nat.lt_or_ge k ms.length with h | h
  · refine (freshM g (k * 2) (ms.length - k) (c - k) (mksC (ms.drop k)) w (by omega) (by omega) (by rw [mksC_len]; simp) (fun j u hj => ?_) (mksC_mem _)).mono ?_
    · rw [← mksC_drop, List.getElem?_drop] at hj
      have := hM.cells (g := g) rfl _ _ hj
      simpa only [Addr.add_lit, Nat.zero_add] using this
    · rintro e w' ⟨rfl, h1, h2, h3⟩
      exact ⟨_, rfl, .inr (.inl ⟨h0, h, _, Nat.le_refl _, rfl, h1⟩), h3⟩
  · obtain rfl : k = ms.length := by omega
    rw [Nat.sub_self]
    refine (freshM0 g (ms.length * 2) (c - ms.length) w).mono ?_
    rintro e w' ⟨rfl, h2, h3⟩
    exact ⟨_, rfl, .inr (.inr ⟨rfl, _, Nat.le_refl _, rfl, h2⟩), h3⟩
theorem fresh_cut' (g c k : Nat) (ms : List Mk) (w : World) (hM : Mks w (.slice (some ⟨g, 0, none⟩) ms.length c) ms) (hn : ms.length ≤ 1000000) (h0 : 0 < k) (hk : k ≤ ms.length) (hc : ms.length ≤ c) (v : Value) :
    Calls Try.prog 31 #[.slice (if c = k then some ⟨g, 0, none⟩ else some ⟨g, k * 2, none⟩) (ms.length - k) (c - k)] w fun e w' => ∃ v', e = .returned v' ∧ NeedPost w w' v v' ms k := by
  split
  · obtain rfl : k = ms.length := by omega
    rw [Nat.sub_self]
    refine (freshM0 g 0 (c - ms.length) w).mono ?_
    rintro e w' ⟨rfl, h2, h3⟩
    exact ⟨_, rfl, .inr (.inr ⟨rfl, _, Nat.le_refl _, rfl, h2⟩), h3⟩
  · exact fresh_cut g c k ms w hM hn h0 hk v
theorem NeedPost.after {w w1 w' : World} {v v' : Value} {ms : List Mk} {k : Nat} (hb : Below w.heap.size w w1) (h : NeedPost w1 w' v v' ms k) : NeedPost w w' v v' ms k := by
  obtain ⟨h1, h2⟩ := h
  refine ⟨?_, hb.trans (h2.mono hb.size)⟩
  rcases h1 with h1 | ⟨a, b, x, c, d⟩ | ⟨a, x, c, d⟩
  · exact .inl h1
  · exact .inr (.inl ⟨a, b, x, Nat.le_trans hb.size c, d⟩)
  · exact .inr (.inr ⟨a, x, Nat.le_trans hb.size c, d⟩)
theorem hrm_lt {ms : List Mk} {r : Int} (h : hrm ms r = true) : plm ms r < ms.length := by
  refine Nat.lt_of_not_le fun hle => ?_
  rw [hrm, List.getElem?_eq_none hle] at h
  cases h

set_option maxHeartbeats 2000000 in
theorem needed_any (g c : Nat) (ms : List Mk) (r : Int) (w : World) (hM : Mks w (.slice (some ⟨g, 0, none⟩) ms.length c) ms) (hs : MAsc ms) (hn : ms.length ≤ 1000000) :
    Calls Try.prog 29 #[.slice (some ⟨g, 0, none⟩) ms.length c, .int .i64 r] w fun e w' => ∃ v', e = .returned v' ∧ NeedPost w w' (.slice (some ⟨g, 0, none⟩) ms.length c) v' ms (cutM ms r) := by
  have hsr := searchM g c ms r w (fun j m hj => hM.cell hj) hs hn
  have hp := plm_le ms r
  have hcap : ms.length ≤ c := by
    rcases hM.2 with ⟨h, _⟩ | ⟨g', cap, cur, h, _, _, h1, _⟩
    · cases h
    · cases h; exact h1
  have HF : Hid (∀ W, Below w.heap.size w W → ∀ k, 0 < k → k ≤ ms.length → Calls Try.prog 31 #[.slice (some ⟨g, k * 2, none⟩) (ms.length - k) (c - k)] W fun e w' => ∃ v', e = .returned v' ∧ NeedPost w w' (.slice (some ⟨g, 0, none⟩) ms.length c) v' ms k) := fun W hb k h0 hk =>
    (fresh_cut g c k ms W (ownsRow_upd hM (Upd.ofBelow (S := fun _ => False) hb) (fun _ _ h => h)) hn h0 hk (.slice (some ⟨g, 0, none⟩) ms.length c)).mono (fun e w' ⟨v', h1, h2⟩ => ⟨v', h1, h2.after hb⟩)
  have HG : Hid (∀ W, Below w.heap.size w W → ∀ k, 0 < k → k ≤ ms.length → Calls Try.prog 31 #[.slice (if c = k then some ⟨g, 0, none⟩ else some ⟨g, k * 2, none⟩) (ms.length - k) (c - k)] W fun e w' => ∃ v', e = .returned v' ∧ NeedPost w w' (.slice (some ⟨g, 0, none⟩) ms.length c) v' ms k) := fun W hb k h0 hk =>
    (fresh_cut' g c k ms W (ownsRow_upd hM (Upd.ofBelow (S := fun _ => False) hb) (fun _ _ h => h)) hn h0 hk hcap (.slice (some ⟨g, 0, none⟩) ms.length c)).mono (fun e w' ⟨v', h1, h2⟩ => ⟨v', h1, h2.after hb⟩)
  have HM : Hid (∀ W, Below w.heap.size w W → ∀ j m, ms[j]? = some m → W.cell? ⟨g, j * 2, none⟩ = some (.int .i64 m.1) ∧ W.cell? ⟨g, j * 2 + 1, none⟩ = some (.bool m.2)) := fun W hb j m hj => MksAt.below (fun j m hj => hM.cell hj) hb j m hj
  have HC : Hid (cutM ms r = if hrm ms r then cutA ms (plm ms r) else if plm ms r = 0 then 0 else cutA ms (plm ms r - 1)) := rfl
  have HL : hrm ms r = true → plm ms r < ms.length := hrm_lt
  clear hM hs
  generalize cutM ms r = k at *
  cases hh : hrm ms r
  · rw [hh] at hsr
    rw [hh] at HC
    clear HL
    obtain hp0 | ⟨a, ha⟩ : plm ms r = 0 ∨ ∃ a, plm ms r = a + 1 := by cases plm ms r <;> simp
    · rw [hp0] at hsr
      have hk0 : k = 0 := by have := HC.out; simpa [hp0] using this
      subst hk0
      go_enter Try.func29, Try.ntmps29
      go_wp2_with (go_at_call 40; refine hsr.mono ?_; rintro e w' ⟨rfl, hb⟩)
      go_ret
      exact ⟨_, rfl, .inl ⟨rfl, rfl⟩, hb⟩
    · rw [ha] at hsr hp
      obtain ⟨m, hm⟩ : ∃ m, ms[a]? = some m := ⟨_, List.getElem?_eq_getElem (by omega)⟩
      have hka : k = if m.2 then a + 1 else a := by have := HC.out; simpa [ha, cutA, hm] using this
      have HX : Hid (∀ W, Below w.heap.size w W → W.cell? ⟨g, a * 2 + 1, none⟩ = some (.bool m.2)) := fun W hb => (HM.out W hb a m hm).2
      clear HM hm HC ha
      cases hd : m.2
      · rw [hd] at hka HX
        obtain rfl : k = a := by simpa using hka
        clear hka
        by_cases hk0 : k = 0
        · subst hk0
          go_enter Try.func29, Try.ntmps29
          go_wp2_with (go_at_call 40; refine hsr.mono ?_; rintro e w' ⟨rfl, hb⟩; have hx := HX.out _ hb)
          go_ret
          exact ⟨_, rfl, .inl ⟨rfl, rfl⟩, hb⟩
        · go_enter Try.func29, Try.ntmps29
          go_wp2_with (first | (go_at_call 40; refine hsr.mono ?_; rintro e w' ⟨rfl, hb⟩; have hx := HX.out _ hb) | (go_at_call 31; refine (HF.out _ hb k (by omega) (by omega)).mono ?_; rintro e w1 ⟨v', rfl, hN⟩))
          go_ret
          exact ⟨_, rfl, hN⟩
      · rw [hd] at hka HX
        obtain rfl : k = a + 1 := by simpa using hka
        clear hka
        go_enter Try.func29, Try.ntmps29
        go_wp2_with (first | (go_at_call 40; refine hsr.mono ?_; rintro e w' ⟨rfl, hb⟩; have hx := HX.out _ hb) | (go_at_call 31; refine (HG.out _ hb (a + 1) (by omega) (by omega)).mono ?_; rintro e w1 ⟨v', rfl, hN⟩))
        all_goals
          go_ret
          first | exact ⟨_, rfl, hN⟩ | exact ⟨_, rfl, by rw [h] at hN; exact hN⟩
  · rw [hh] at hsr
    rw [hh] at HC
    have hp := HL hh
    clear HL hh
    obtain ⟨a, ha⟩ : ∃ a, plm ms r = a := ⟨_, rfl⟩
    rw [ha] at hsr hp
    obtain ⟨m, hm⟩ : ∃ m, ms[a]? = some m := ⟨_, List.getElem?_eq_getElem (by omega)⟩
    have hka : k = if m.2 then a + 1 else a := by have := HC.out; simpa [ha, cutA, hm] using this
    have HX : Hid (∀ W, Below w.heap.size w W → W.cell? ⟨g, a * 2 + 1, none⟩ = some (.bool m.2)) := fun W hb => (HM.out W hb a m hm).2
    clear HM hm HC ha
    cases hd : m.2
    · rw [hd] at hka HX
      obtain rfl : k = a := by simpa using hka
      clear hka
      by_cases hk0 : k = 0
      · subst hk0
        go_enter Try.func29, Try.ntmps29
        go_wp2_with (go_at_call 40; refine hsr.mono ?_; rintro e w' ⟨rfl, hb⟩; have hx := HX.out _ hb)
        go_ret
        exact ⟨_, rfl, .inl ⟨rfl, rfl⟩, hb⟩
      · go_enter Try.func29, Try.ntmps29
        go_wp2_with (first | (go_at_call 40; refine hsr.mono ?_; rintro e w' ⟨rfl, hb⟩; have hx := HX.out _ hb) | (go_at_call 31; refine (HF.out _ hb k (by omega) (by omega)).mono ?_; rintro e w1 ⟨v', rfl, hN⟩))
        go_ret
        exact ⟨_, rfl, hN⟩
    · rw [hd] at hka HX
      obtain rfl : k = a + 1 := by simpa using hka
      clear hka
      go_enter Try.func29, Try.ntmps29
      go_wp2_with (first | (go_at_call 40; refine hsr.mono ?_; rintro e w' ⟨rfl, hb⟩; have hx := HX.out _ hb) | (go_at_call 31; refine (HG.out _ hb (a + 1) (by omega) (by omega)).mono ?_; rintro e w1 ⟨v', rfl, hN⟩))
      all_goals
        go_ret
        first | exact ⟨_, rfl, hN⟩ | exact ⟨_, rfl, by rw [h] at hN; exact hN⟩
/-- What is told are the marks that are needed, in the row that was there, or in a new one. -/
theorem NeedPost.mks {w w' : World} {v v' : Value} {ms : List Mk} {k : Nat} (hM : Mks w v ms) (h : NeedPost w w' v v' ms k) (hn : ms.length ≤ 1000000) : Mks w' v' (ms.drop k) ∧ (v' = v ∨ ∃ b, v'.ownBlock = some b ∧ w.heap.size ≤ b) := by
  obtain ⟨h1, hb⟩ := h
  rcases h1 with ⟨rfl, rfl⟩ | ⟨h0, hk, b, hlb, rfl, hr⟩ | ⟨rfl, b, hlb, rfl, hr⟩
  · exact ⟨by rw [List.drop_zero]; exact ownsRow_upd hM (Upd.ofBelow (S := fun _ => False) hb) (fun _ _ h => h), .inl rfl⟩
  · refine ⟨?_, .inr ⟨b, rfl, hlb⟩⟩
    have := owns_of_row (s := 2) (n := ms.length - k) (xs := mksC (ms.drop k)) hr (Nat.le_refl _) (by unfold maxLen; omega) (by simp [mksC_len]) (by rw [List.take_of_length_le (by simp [mksC_len])]) (by rw [mksC_len]; simp)
    show World.ownsRow _ _ _ _ _ (ms.drop k).length _
    rw [List.length_drop]
    exact this
  · refine ⟨?_, .inr ⟨b, rfl, hlb⟩⟩
    rw [List.drop_length]
    exact owns_of_row (n := 0) (xs := []) hr (Nat.le_refl _) (by unfold maxLen; omega) (by simp) (by simp) (by simp)
end Go.Proofs.Ytilginghgigiiaa
