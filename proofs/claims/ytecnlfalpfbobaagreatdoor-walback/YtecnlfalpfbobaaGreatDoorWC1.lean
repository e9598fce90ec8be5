/- What the calls do that read a state: last, place, and the search beneath it. -/
import Derived.Test.YtecnlfalpfbobaaGreatDoorWM
namespace Go.Proofs.YtecnlfalpfbobaaGreatDoor
open Go Go.RowKit
set_option maxHeartbeats 1000000 in
theorem last_any (B b o : Nat) (s : Sm) (ev : Value) (w : World) (h : Smem B w b o s ev) :
    Calls Tryz.prog 125 #[.pointer (some ⟨b, o, none⟩)] w fun e w' => e = .returned (.int .i64 s.last) ∧ ∃ n, w' = w.drewN n := by
  obtain ⟨ao, cp, rfl, _, _⟩ := h.rest.row.form
  have c3 := h.cells.c3
  have c6 := h.cells.c6
  have ht := h.rest.ok.top
  have hb := h.rest.ok.bot
  have HL : Hid (s.last = s.mi + s.es.length) := rfl
  clear h
  go_enter Tryz.func125, Tryz.ntmps125
  go_wp2
  go_quiet (fail)
  go_wp2
  go_ret
  exact ⟨ret_int HL.out.symm, _, rfl⟩
def cmpI (a b : Int) : Int := if a < b then -1 else if b < a then 1 else 0
set_option maxHeartbeats 1000000 in
theorem cmp_any (a b : Int) (w : World) : Calls Tryz.prog 156 #[.int .i64 a, .int .i64 b] w fun e w' => e = .returned (.int .i64 (cmpI a b)) ∧ w' = w := by
  unfold cmpI
  by_cases h1 : a < b
  · rw [if_pos h1]
    go_enter Tryz.func156, Tryz.ntmps156
    go_wp2
    go_ret
    exact ⟨rfl, rfl⟩
  · rw [if_neg h1]
    by_cases h2 : b < a
    · rw [if_pos h2]
      go_enter Tryz.func156, Tryz.ntmps156
      go_wp2
      go_ret
      exact ⟨rfl, rfl⟩
    · rw [if_neg h2]
      go_enter Tryz.func156, Tryz.ntmps156
      go_wp2
      go_ret
      exact ⟨rfl, rfl⟩
set_option maxHeartbeats 1000000 in
theorem place1_any (i t k idx : Int) (v : Value) (w : World) : Calls Tryz.prog 155 #[.agg #[.int .i64 i, .int .i64 t, .int .i64 k, v], .int .i64 idx] w fun e w' => e = .returned (.int .i64 (cmpI i idx)) ∧ Below w.heap.size w w' := by
  go_enter Tryz.func155, Tryz.ntmps155
  go_wp2_with (go_at_call 156; refine (cmp_any _ _ _).mono ?_; rintro e w' ⟨rfl, rfl⟩)
  go_ret
  exact ⟨rfl, (Below.refl _ _).alloc (Nat.le_refl _) _⟩
theorem cmpI_neg {a b : Int} : cmpI a b < 0 ↔ a < b := by unfold cmpI; split <;> (try split) <;> omega
theorem cmpI_zero {a b : Int} : cmpI a b = 0 ↔ a = b := by unfold cmpI; split <;> (try split) <;> omega
set_option maxHeartbeats 4000000 in
theorem search_any (B : Nat) (ev : Value) (s : Sm) (idx : Int) (w : World) (hrow : RowO w B 60 4 ev s.es.length (rowOf s.es)) (hok : s.ok) (hfew : s.es.length ≤ 1000000) :
    Calls Tryz.prog 154 #[ev, .int .i64 idx, .func (.func 155) #[] #[]] w fun e w' => e = .returned (.tuple #[.int .i64 (s.pos idx : Nat), .bool (s.found idx)]) ∧ Below w.heap.size w w' := by
  have hposs : s.pos idx ≤ s.es.length := s.pos_le idx
  have hkey : ∀ m (hm : m < s.es.length), (s.es[m].e.i < idx ↔ m < s.pos idx) := fun m hm => by
    have := hok.at_ m hm
    have e : ix s.es[m] = s.es[m].e.i := rfl
    rw [e] at this
    unfold St.pos
    omega
  have hfnd : ∀ (hm : s.pos idx < s.es.length), (s.es[s.pos idx].e.i = idx ↔ s.found idx = true) := fun hm => by
    have := hok.at_ _ hm
    have e : ix s.es[s.pos idx] = s.es[s.pos idx].e.i := rfl
    rw [e] at this
    unfold St.found
    rw [decide_eq_true_eq]
    unfold St.pos at *
    omega
  have hnf : s.pos idx = s.es.length → s.found idx = false := fun h => by
    unfold St.found
    rw [decide_eq_false_iff_not]
    unfold St.pos at h
    omega
  generalize s.pos idx = pos at *
  generalize s.found idx = fnd at *
  obtain ⟨n, hn⟩ : ∃ n, n = s.es.length := ⟨_, rfl⟩
  have HK := Hid.mk' hkey
  have HF := Hid.mk' hfnd
  clear hkey hfnd hok
  rw [← hn] at hrow hfew hposs hnf
  have HN := Hid.mk' hn
  clear hn
  rcases hrow.2 with ⟨rfl, rfl⟩ | ⟨g, off, cap, cur, rfl, _, _, hcp, hcm, _⟩
  · obtain rfl : pos = 0 := by omega
    obtain rfl := hnf rfl
    clear hrow hnf HK HF HN
    go_enter Tryz.func154, Tryz.ntmps154
    go_wp2
    go_loopg [9, 10] 0 (fun kx s9 s10 wr => s9 = .int .i64 0 ∧ s10 = .int .i64 0 ∧ wr = w)
    case atStart => exact ⟨rfl, rfl, rfl⟩
    case round =>
      obtain ⟨rfl, rfl, rfl⟩ := hrel
      go_wp2
      go_ret2
      exact ⟨rfl, Below.refl _ _⟩
  have HROW := Hid.mk' hrow
  have HNF := Hid.mk' hnf
  have HP := Hid.mk' hposs
  clear hrow hnf hposs
  go_enter Tryz.func154, Tryz.ntmps154
  go_wp2
  go_loopg [9, 10] n (fun kx s9 s10 wr => ∃ lo hi : Nat, s9 = .int .i64 lo ∧ s10 = .int .i64 hi ∧ lo ≤ hi ∧ hi ≤ n ∧ hi - lo ≤ kx ∧ Hid (Below w.heap.size w wr) ∧ Hid (lo ≤ pos ∧ pos ≤ hi))
  case atStart => exact ⟨0, n, rfl, rfl, Nat.zero_le _, Nat.le_refl _, by omega, Hid.mk' (Below.refl _ _), Hid.mk' ⟨Nat.zero_le _, HP.out⟩⟩
  case round =>
    obtain ⟨lo, hi, rfl, rfl, hlh, hin, hg, HB, HI⟩ := hrel
    have hu : Hid (Upd w wr (fun _ => False)) := Upd.ofBelow HB.out
    have HR := Hid.mk' (HROW.out.upd hu.out (fun _ _ => id))
    by_cases hlt : lo < hi
    · have hmm : (lo + hi) / 2 < s.es.length := by rw [← HN.out]; omega
      obtain ⟨e0, e1, e2, e3⟩ := HR.out.entry ((lo + hi) / 2) hmm
      have HKm := Hid.mk' (HK.out ((lo + hi) / 2) (by rw [← HN.out]; omega))
      generalize s.es[(lo + hi) / 2] = x at *
      clear hmm
      by_cases hc : x.e.i < idx
      · have hneg : cmpI x.e.i idx < 0 := cmpI_neg.2 hc
        go_wp2_with (go_at_call 155; refine (place1_any _ _ _ _ _ _).mono ?_; rintro e w' ⟨rfl, hb⟩)
        go_roundg (hi - ((lo + hi) / 2 + 1))
        case measure => omega
        case rel => exact ⟨(lo + hi) / 2 + 1, hi, by rw [show ((lo : Int) + (hi : Int)) / 2 + 1 = (((lo + hi) / 2 + 1 : Nat) : Int) by omega], rfl, by omega, hin, Nat.le_refl _, Hid.mk' (HB.out.trans (hb.mono HB.out.size)), Hid.mk' ⟨by have := HKm.out.1 hc; omega, HI.out.2⟩⟩
      · have hneg : (decide (cmpI x.e.i idx < 0)) = false := by rw [decide_eq_false_iff_not, cmpI_neg]; exact hc
        go_wp2_with (go_at_call 155; refine (place1_any _ _ _ _ _ _).mono ?_; rintro e w' ⟨rfl, hb⟩)
        go_roundg ((lo + hi) / 2 - lo)
        case measure => omega
        case rel => exact ⟨lo, (lo + hi) / 2, rfl, by rw [show ((lo : Int) + (hi : Int)) / 2 = (((lo + hi) / 2 : Nat) : Int) by omega], by omega, by omega, Nat.le_refl _, Hid.mk' (HB.out.trans (hb.mono HB.out.size)), Hid.mk' ⟨HI.out.1, by have := HKm.out; omega⟩⟩
    · obtain rfl : hi = lo := by omega
      obtain rfl : pos = hi := by have := HI.out; omega
      by_cases hp : pos < n
      · have hmm : pos < s.es.length := by rw [← HN.out]; omega
        obtain ⟨e0, e1, e2, e3⟩ := HR.out.entry pos hmm
        have HFm := Hid.mk' (HF.out hmm)
        clear HF
        generalize s.es[pos] = x at *
        clear hmm
        by_cases hc : x.e.i = idx
        · have hz : (cmpI x.e.i idx == 0) = true := by rw [beq_iff_eq]; exact cmpI_zero.2 hc
          obtain rfl := HFm.out.1 hc
          clear hc HFm
          go_wp2_with (go_at_call 155; refine (place1_any _ _ _ _ _ _).mono ?_; rintro e w' ⟨rfl, hb⟩)
          go_ret2
          exact ⟨rfl, HB.out.trans (hb.mono HB.out.size)⟩
        · have hz : (cmpI x.e.i idx == 0) = false := by rw [beq_eq_false_iff_ne, ne_eq, cmpI_zero]; exact hc
          obtain rfl : fnd = false := by have := HFm.out; cases fnd; rfl; exact absurd (this.2 rfl) hc
          clear hc HFm
          go_wp2_with (go_at_call 155; refine (place1_any _ _ _ _ _ _).mono ?_; rintro e w' ⟨rfl, hb⟩)
          go_ret2
          exact ⟨rfl, HB.out.trans (hb.mono HB.out.size)⟩
      · obtain rfl : fnd = false := HNF.out (by omega)
        go_wp2
        go_ret2
        exact ⟨rfl, HB.out⟩
set_option maxHeartbeats 1000000 in
theorem place_any (B b o : Nat) (s : Sm) (ev : Value) (idx : Int) (w : World) (h : Smem B w b o s ev) :
    Calls Tryz.prog 128 #[.pointer (some ⟨b, o, none⟩), .int .i64 idx] w fun e w' => e = .returned (.tuple #[.int .i64 (s.pos idx : Nat), .bool (s.found idx)]) ∧ Below w.heap.size w w' := by
  have c6 := h.cells.c6
  have hs := search_any B ev s idx w h.rest.row h.rest.ok h.rest.few
  clear h
  go_enter Tryz.func128, Tryz.ntmps128
  go_wp2_with (go_at_call 154; refine hs.mono ?_; rintro e w' ⟨rfl, hb⟩)
  go_ret2
  exact ⟨rfl, hb⟩
end Go.Proofs.YtecnlfalpfbobaaGreatDoor
