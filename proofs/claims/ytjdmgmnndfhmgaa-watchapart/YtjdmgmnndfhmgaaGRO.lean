/- A watcher that is behind catches up. -/
import Derived.Test.YtjdmgmnndfhmgaaGRN
import Derived.Maps.OwnSet
import Derived.Maps.Ext
import Derived.Maps.RangeWalk
namespace Go.Proofs.Ytjdmgmnndfhmgaa
open Go Go.RowKit

theorem evN_rev {S : Sto} {p : Int} {m : Nat} {e : Evd} (h : e ∈ evN S p m) : p ≤ e.1 ∧ e.1 < p + m := by
  unfold evN at h
  obtain ⟨i, hi, h2⟩ := List.mem_flatMap.1 h
  have hi' := List.mem_range.1 hi
  unfold evAt at h2
  obtain ⟨k, _, rfl⟩ := List.mem_map.1 h2
  dsimp only
  omega
theorem newsL_rev {S : Sto} {lo hi : ByteArray} {p : Int} {e : Evd} (h : e ∈ newsL S lo hi p) : p ≤ e.1 ∧ e.1 ≤ S.rev := by
  have := evN_rev (List.mem_filter.1 h).1
  omega
/-- A watcher that is behind. -/
def Bh (w : World) (b : Nat) (lo hi : ByteArray) (p : Int) : Prop := w.heap[b]? = some (.cells #[.string lo, .string hi, .int .i64 p] 62 (0, 0))
theorem Bh.ear {w : World} {b : Nat} {lo hi : ByteArray} {p : Int} (h : Bh w b lo hi p) : Ear w 58 b lo hi p := ⟨.inl rfl, cell_of_row _ _ _ _ _ _ h, cell_of_row _ _ _ _ _ _ h, cell_of_row _ _ _ _ _ _ h⟩
theorem Bh.upd {w w' : World} {T : Nat → Prop} {b : Nat} {lo hi : ByteArray} {p : Int} (h : Bh w b lo hi p) (hu : Upd w w' T) (hb : ¬ T b) : Bh w' b lo hi p := (hu.block b (Array.getElem?_eq_some_iff.1 h).1 hb).trans h
theorem Bh.lt {w : World} {b : Nat} {lo hi : ByteArray} {p : Int} (h : Bh w b lo hi p) : b < w.heap.size := (Array.getElem?_eq_some_iff.1 h).1
set_option maxRecDepth 100000 in
set_option maxHeartbeats 2000000 in
theorem catch_past {n : Nat} {w : World} {s : Nat} {S : Sto} {g : Sg} {o : Value} (H : Sk n w s S g o) (b : Nat) (lo hi : ByteArray) (p most : Int) (B : Bh w b lo hi p) (h1 : 1 ≤ p) (hp : p ≤ S.past) :
    Calls Try.prog 31 #[ptr b, ptr s, .int .i64 most] w fun r w' => r = .returned (.tuple #[.slice none 0 0, .bool false, .int .i64 16]) ∧ Below w.heap.size w w' := by
  have hnews := news_past H 58 b lo hi p B.ear h1 hp
  clear H B
  go_enter Try.func31, Try.ntmps31
  go_wp2_with (go_at_call 32; refine hnews.mono ?_; rintro e w' ⟨p', c', rfl, hb⟩)
  refine bodyPost_ret (results_tmp3 rfl _ _ _) rfl ?_
  exact ⟨rfl, hb⟩
/-- The place behind what was told. -/
def placeN (S : Sto) (p : Int) (L : List Evd) (n : Nat) : Int := if n = L.length then max p ((S.rev : Int) + 1) else ((L[n - 1]?.map (·.1)).getD 0) + 1
set_option maxRecDepth 100000 in
set_option maxHeartbeats 4000000 in
theorem catch_ok {n : Nat} {w : World} {s : Nat} {S : Sto} {g : Sg} {o : Value} (H : Sk n w s S g o) (b : Nat) (lo hi : ByteArray) (p most : Int) (B : Bh w b lo hi p) (_hbs : b ≠ s) (h1 : 1 ≤ p) (hp : ¬ p ≤ S.past) (hpm : p ≤ 1000000000) (L : List Evd) (hL : L = newsL S lo hi p) (m : Nat) (hm : m = wholeN most L) :
    Calls Try.prog 31 #[ptr b, ptr s, .int .i64 most] w fun r w' => ∃ p' c', r = .returned (.tuple #[.slice p' m c', .bool (decide (m = L.length)), .int .i64 0]) ∧ w'.ownsRow w.heap.size 37 8 (.slice p' m c') m (evsC (L.take m)) ∧ Bh w' b lo hi (placeN S p L m) ∧ Upd w w' (fun k => k = b) := by
  have hnews := news_ok H 58 b lo hi p B.ear h1 hp hpm
  rw [← hL] at hnews
  have hrv : ∀ e ∈ L, 1 ≤ e.1 ∧ e.1 ≤ 100000 := fun e he => by
    rw [hL] at he
    have h2 := newsL_rev he
    have := H.rev
    omega
  have hLl : L.length ≤ 1000000 := by rw [hL]; exact Nat.le_trans (List.length_filter_le _ _) (H.few p h1)
  have hml : m ≤ L.length := by rw [hm]; exact wholeN_le _ _
  have hmp : m < L.length → 0 < m := by rw [hm]; exact wholeN_pos _ _
  have hr := H.rev
  have HC : Hid (∀ W, Below w.heap.size w W → W.cell? ⟨s, 0, none⟩ = some (.int .i64 S.rev) ∧ Bh W b lo hi p) := fun W hW => ⟨(H.st.below hW).cells.1, B.upd (T := fun _ => False) (Upd.ofBelow hW) (fun e => e)⟩
  have hbl := B.lt
  have HM := Hid.mkW hm
  have HRV := Hid.mkW hrv
  clear H B hL hm hrv
  go_enter Try.func31, Try.ntmps31
  go_upto_region 2 with (go_at_call 32; refine hnews.mono ?_; rintro e w2 ⟨p2, c2, rfl, hE⟩)
  have hwh := whole_any w2 p2 L.length c2 L most (EVs.of hE.1) hLl
  rw [← HM.out] at hwh
  have HE := Hid.mkW hE
  clear hE hnews
  have HW3 : Hid (∀ w3, Below w2.heap.size w2 w3 → w3.cell? ⟨s, 0, none⟩ = some (.int .i64 S.rev) ∧ Bh w3 b lo hi p ∧ ER w w3 (.slice p2 L.length c2) L) := fun w3 h3 => by
    have hb := HE.out.2.trans (h3.mono HE.out.2.size)
    exact ⟨(HC.out w3 hb).1, (HC.out w3 hb).2, ownsRow_upd HE.out.1 (Upd.ofBelow (S := fun _ => False) h3) (fun _ _ h => h), hb⟩
  clear HE HC
  go_upto_region 5 with (go_at_call 38; refine hwh.mono ?_; rintro e w3 ⟨rfl, h3⟩)
  obtain ⟨hs3, hB3, hE3⟩ := HW3.out w3 h3
  have HE3 := Hid.mkW hE3
  have HB3 := Hid.mkW hB3
  clear HW3 h3 hwh
  have HFORM : Hid ((p2 = none ∧ c2 = 0 ∧ L.length = 0) ∨ ∃ g', p2 = some ⟨g', 0, none⟩ ∧ L.length ≤ c2 ∧ w.heap.size ≤ g') := by
    rcases hE3.1.2 with ⟨e, h0⟩ | ⟨g', cap, cur, e, hbg, hh, hnc, _⟩
    · simp only [Value.slice.injEq] at e; exact .inl ⟨e.1, e.2.2, h0⟩
    · cases e; exact .inr ⟨g', rfl, hnc, hbg⟩
  have HCL : Hid (∀ w4, Upd w3 w4 (fun k => k = b) → Calls Try.prog 36 #[.slice p2 m c2] w4 fun r w' => ∃ p' c', r = .returned (.slice p' m c') ∧ w'.ownsRow w.heap.size 37 8 (.slice p' m c') m (evsC (L.take m)) ∧ Below w4.heap.size w4 w' ∧ Upd w w' (fun k => k = b)) := fun w4 h4 => by
    have ho : w4.ownsRow w.heap.size 37 8 (.slice p2 L.length c2) L.length (evsC L) := ownsRow_upd HE3.out.1 h4 (fun k hk e => by have := (HE3.out.1.lt k hk).1; omega)
    have hu : Upd w w4 (fun k => k = b) := (Upd.ofBelow HE3.out.2).trans h4 (fun _ _ h => h)
    refine (clone_any w4 p2 m c2 (L.take m) ((EVs.of ho).take m hml) (by rcases HFORM.out with ⟨e, _⟩ | ⟨g', e, _⟩; exact .inl e; exact .inr ⟨g', e⟩) (by rw [List.length_take]; omega)).mono ?_
    rintro r w' ⟨p', c', rfl, q1, q2⟩
    have hlt : (L.take m).length = m := by rw [List.length_take]; omega
    rw [hlt] at q1
    exact ⟨p', c', rfl, ownsRow_base q1 hu.size, q2, hu.trans (Upd.ofBelow (S := fun _ => False) q2) (fun _ _ h => h.elim)⟩
  have HFIN : Hid (∀ (v : Int) w4 w5, w4.heap[b]? = some (.cells #[.string lo, .string hi, .int .i64 v] 62 (0, 0)) → Below w4.heap.size w4 w5 → Bh w5 b lo hi v) := fun v w4 w5 h4 h5 => (h5.block b (Array.getElem?_eq_some_iff.1 h4).1).trans h4
  by_cases hall : m = L.length
  · have hq : ((m : Int) == (L.length : Int)) = true := by simp; omega
    have HD : Hid (decide (m = L.length) = true ∧ placeN S p L m = max p ((S.rev : Int) + 1)) := ⟨by simp [hall], by unfold placeN; rw [if_pos hall]⟩
    have hpass := pass_any w3 b s S.rev 62 p _ hB3 rfl hs3 hr
    clear hE3 hB3 HE3 HB3 hq
    have HMM := Hid.mkW hall
    rcases HFORM.out with ⟨rfl, rfl, h0⟩ | ⟨g', rfl, hnc, -⟩
    · obtain rfl : L = [] := List.eq_nil_of_length_eq_zero h0
      obtain rfl : m = 0 := hall
      clear HFORM HMM
      go_wp2_with (first | (go_at_call 33; refine hpass.mono ?_; rintro e w4 ⟨rfl, hB4, hu4⟩; have hcl := HCL.out w4 hu4; have HB4 := Hid.mkW hB4; clear hB4) | (go_at_call 36; refine hcl.mono ?_; rintro e w5 ⟨p5, c5, rfl, q1, q2, q3⟩))
      refine bodyPost_ret (results_tmp3 rfl _ _ _) rfl ?_
      rw [HD.out.1, HD.out.2]
      exact ⟨p5, c5, rfl, q1, HFIN.out _ w4 w5 HB4.out q2, q3⟩
    · subst hall
      have hmc : (L.length : Int) ≤ (c2 : Int) := by omega
      clear HFORM HMM
      go_wp2_with (first | (go_at_call 33; refine hpass.mono ?_; rintro e w4 ⟨rfl, hB4, hu4⟩; have hcl := HCL.out w4 hu4; have HB4 := Hid.mkW hB4; clear hB4) | (go_at_call 36; refine hcl.mono ?_; rintro e w5 ⟨p5, c5, rfl, q1, q2, q3⟩))
      refine bodyPost_ret (results_tmp3 rfl _ _ _) rfl ?_
      rw [HD.out.2]
      exact ⟨p5, c5, rfl, by simpa using q1, HFIN.out _ w4 w5 HB4.out q2, q3⟩
  · have hlt : m < L.length := by omega
    have hm0 := hmp hlt
    have hq : ((m : Int) == (L.length : Int)) = false := by simp; omega
    rcases HFORM.out with ⟨rfl, rfl, h0⟩ | ⟨g', rfl, hnc, hgb⟩
    · exfalso; omega
    · obtain ⟨ev, hev⟩ : ∃ ev, L[m - 1]? = some ev := ⟨_, List.getElem?_eq_getElem (by omega)⟩
      have HD : Hid (decide (m = L.length) = false ∧ placeN S p L m = ev.1 + 1) := ⟨by simp [hall], by unfold placeN; rw [if_neg hall, hev]; rfl⟩
      have hrv := HRV.out ev (List.mem_of_getElem? hev)
      have e0 : w3.cell? ⟨g', (m - 1) * 8, none⟩ = some (.int .i64 ev.1) := by
        have := (EVs.of hE3.1).raw ((m - 1) * 8 + 0) (.int .i64 ev.1) (by rw [evsC_at hev 0 (by omega)]; rfl)
        simpa using this
      have c2b : w3.cell? ⟨b, 2, none⟩ = some (.int .i64 p) := cell_of_row _ _ _ _ _ _ hB3
      have f2 : w3.frozen? ⟨b, 2, none⟩ = false := frozen_of_row _ _ _ _ _ hB3
      have HS4 : Hid (∀ v : Int, (w3.setCell ⟨b, 2, none⟩ (.int .i64 v)).heap[b]? = some (.cells #[.string lo, .string hi, .int .i64 v] 62 (0, 0)) ∧ Upd w3 (w3.setCell ⟨b, 2, none⟩ (.int .i64 v)) (fun k => k = b)) := fun v => ⟨heap_setCell_row hB3 _, (Upd.refl w3 (fun k => k = b)).setCell (p := ⟨b, 2, none⟩) (.inr rfl) _⟩
      have hq1 : IntKind.i64.wrap ((m : Int) - 1) = ((m - 1 : Nat) : Int) := by rw [IntKind.wrap_i64]; omega
      have hq2 : (m : Int) - 1 = ((m - 1 : Nat) : Int) := by omega
      have hcl := HCL.out _ (HS4.out (ev.1 + 1)).2
      have hmc : (m : Int) ≤ (c2 : Int) := by omega
      have hml' : (m : Int) ≤ (L.length : Int) := by omega
      generalize ev.1 = r at *
      clear HFORM hE3 hB3 HE3 HB3 hev hall hlt HRV
      obtain ⟨m1, hm1⟩ : ∃ m1, m1 = m - 1 := ⟨_, rfl⟩
      rw [← hm1] at e0 hq1 hq2
      have hm1l : m1 < L.length := by omega
      clear hm1
      go_wp2_with (first | (go_at_call 36; refine hcl.mono ?_; rintro e w5 ⟨p5, c5, rfl, q1, q2, q3⟩))
      refine bodyPost_ret (results_tmp3 rfl _ _ _) rfl ?_
      rw [HD.out.1, HD.out.2]
      exact ⟨p5, c5, rfl, q1, HFIN.out _ _ w5 (HS4.out _).1 q2, q3⟩
end Go.Proofs.Ytjdmgmnndfhmgaa
/- A watcher that is fed. -/
namespace Go.Proofs.Ytjdmgmnndfhmgaa
open Go Go.RowKit

theorem own_ptr {w : World} {B e s n c : Nat} {p : Option Addr} {xs : List Value} (h : w.ownsRow B e s (.slice p n c) n xs) : p = none ∨ ∃ g, p = some ⟨g, 0, none⟩ := by
  rcases h.2 with ⟨e, _⟩ | ⟨g', cap, cur, e, _⟩
  · simp only [Value.slice.injEq] at e; exact .inl e.1
  · simp only [Value.slice.injEq] at e; exact .inr ⟨g', e.1⟩
section
variable {w : World} {b : Nat} {v : Value} {lo hi : ByteArray} {p : Int} {l : List Evd} {fin : Int}
theorem feed_done (h : Fd w b v lo hi p l fin) (s : Nat) (hf : fin ≠ 0) : Calls Try.prog 22 #[ptr b, ptr s] w fun r w' => r = .returned (.tuple #[]) ∧ w' = w := by
  have c4 : w.cell? ⟨b, 4, none⟩ = some (.int .i64 fin) := cell_of_row _ _ _ _ _ _ h.blk
  have hq : (fin != 0) = true := by simp [hf]
  clear h
  go_enter Try.func22, Try.ntmps22
  go_wp2
  first | go_end0 | refine bodyPost_ret (results_none rfl _ _ _) rfl ?_
  exact ⟨rfl, rfl⟩
/-- What is left of a watcher that ends. -/
theorem Fd.end_ {w' : World} (h : Fd w b v lo hi p l 0) (hb : Below w.heap.size w w') (e : Int) : Fd (w'.setCell ⟨b, 4, none⟩ (.int .i64 e)) b v lo hi p l e ∧ Upd w (w'.setCell ⟨b, 4, none⟩ (.int .i64 e)) (fun k => k = b) := by
  have h1 := h.below hb
  have hu : Upd w' (w'.setCell ⟨b, 4, none⟩ (.int .i64 e)) (fun k => k = b) := (Upd.refl w' (fun k => k = b)).setCell (p := ⟨b, 4, none⟩) (.inr rfl) _
  exact ⟨⟨heap_setCell_row h1.blk _, ownsRow_upd h1.row hu (fun k hk e => h1.ne (by rw [hk, e]))⟩, (Upd.ofBelow hb).trans hu (fun _ _ h => h)⟩
variable {n : Nat} {s : Nat} {S : Sto} {g : Sg} {o : Value}
set_option maxRecDepth 100000 in
set_option maxHeartbeats 1000000 in
theorem feed_past (H : Sk n w s S g o) (h : Fd w b v lo hi p l 0) (h1 : 1 ≤ p) (hp : p ≤ S.past) : Calls Try.prog 22 #[ptr b, ptr s] w fun r w' => r = .returned (.tuple #[]) ∧ Fd w' b v lo hi p l 16 ∧ Upd w w' (fun k => k = b) := by
  have c4 : w.cell? ⟨b, 4, none⟩ = some (.int .i64 0) := cell_of_row _ _ _ _ _ _ h.blk
  have hnews := news_past H 67 b lo hi p h.ear h1 hp
  have HF : Hid (∀ W, Below w.heap.size w W → W.cell? ⟨b, 4, none⟩ = some (.int .i64 0) ∧ W.frozen? ⟨b, 4, none⟩ = false) := fun W hW => ⟨cell_of_row _ _ _ _ _ _ (h.below hW).blk, frozen_of_row _ _ _ _ _ (h.below hW).blk⟩
  have HE := Hid.mkW (fun W (hW : Below w.heap.size w W) => h.end_ hW 16)
  clear h H
  go_enter Try.func22, Try.ntmps22
  go_wp2_with (go_at_call 32; refine hnews.mono ?_; rintro e w2 ⟨p2, c2, rfl, hb2⟩; obtain ⟨y4, f4⟩ := HF.out w2 hb2)
  first | go_end0 | refine bodyPost_ret (results_none rfl _ _ _) rfl ?_
  exact ⟨rfl, HE.out w2 hb2⟩
set_option maxRecDepth 100000 in
set_option maxHeartbeats 1000000 in
theorem feed_full (H : Sk n w s S g o) (h : Fd w b v lo hi p l 0) (h1 : 1 ≤ p) (hp : ¬ p ≤ S.past) (hpm : p ≤ 1000000000) (hl : l.length ≤ 16) (hf : 16 < l.length + (newsL S lo hi p).length) : Calls Try.prog 22 #[ptr b, ptr s] w fun r w' => r = .returned (.tuple #[]) ∧ Fd w' b v lo hi p l 14 ∧ Upd w w' (fun k => k = b) := by
  have c4 : w.cell? ⟨b, 4, none⟩ = some (.int .i64 0) := cell_of_row _ _ _ _ _ _ h.blk
  have hnews := news_ok H 67 b lo hi p h.ear h1 hp hpm
  have hLl : (newsL S lo hi p).length ≤ 1000000 := Nat.le_trans (List.length_filter_le _ _) (H.few p h1)
  obtain ⟨L, hL⟩ : ∃ L, L = newsL S lo hi p := ⟨_, rfl⟩
  rw [← hL] at hnews hf hLl
  obtain ⟨pv, cv, hv⟩ := owns_formB0 h.row
  subst hv
  have HF : Hid (∀ W, Below w.heap.size w W → W.cell? ⟨b, 4, none⟩ = some (.int .i64 0) ∧ W.frozen? ⟨b, 4, none⟩ = false ∧ W.cell? ⟨b, 3, none⟩ = some (.slice pv l.length cv)) := fun W hW => ⟨cell_of_row _ _ _ _ _ _ (h.below hW).blk, frozen_of_row _ _ _ _ _ (h.below hW).blk, cell_of_row _ _ _ _ _ _ (h.below hW).blk⟩
  have HE := Hid.mkW (fun W (hW : Below w.heap.size w W) => h.end_ hW 14)
  have hq : (16 : Int) < (l.length : Int) + (L.length : Int) := by omega
  clear h H hL
  go_enter Try.func22, Try.ntmps22
  go_wp2_with (go_at_call 32; refine hnews.mono ?_; rintro e w2 ⟨p2, c2, rfl, hE2⟩; obtain ⟨y4, f4, y3⟩ := HF.out w2 hE2.2)
  first | go_end0 | refine bodyPost_ret (results_none rfl _ _ _) rfl ?_
  exact ⟨rfl, HE.out w2 hE2.2⟩
set_option maxRecDepth 100000 in
set_option maxHeartbeats 2000000 in
theorem feed_ok (H : Sk n w s S g o) (h : Fd w b v lo hi p l 0) (hbs : b ≠ s) (hvs : v.ownBlock ≠ some s) (h1 : 1 ≤ p) (hp : ¬ p ≤ S.past) (hpm : p ≤ 1000000000) (hl : l.length ≤ 16) (hf : ¬ 16 < l.length + (newsL S lo hi p).length) :
    Calls Try.prog 22 #[ptr b, ptr s] w fun r w' => r = .returned (.tuple #[]) ∧ ∃ v', Fd w' b v' lo hi (max p ((S.rev : Int) + 1)) (l ++ newsL S lo hi p) 0 ∧ Upd w w' (fun k => k = b ∨ v.ownBlock = some k) ∧ ∀ k, v'.ownBlock = some k → v.ownBlock = some k ∨ w.heap.size ≤ k := by
  have c4 : w.cell? ⟨b, 4, none⟩ = some (.int .i64 0) := cell_of_row _ _ _ _ _ _ h.blk
  have hnews := news_ok H 67 b lo hi p h.ear h1 hp hpm
  obtain ⟨L, hL⟩ : ∃ L, L = newsL S lo hi p := ⟨_, rfl⟩
  rw [← hL] at hnews hf ⊢
  obtain ⟨pv, cv, hv⟩ := owns_formB0 h.row
  subst hv
  obtain ⟨t9, hti, hz0, hz1, hz2⟩ := info_parts info85
  have hr := H.rev
  have hsl : s < w.heap.size := (Array.getElem?_eq_some_iff.1 H.st.blk).1
  have HH := Hid.mkW h
  have HS : Hid (∀ W, Below w.heap.size w W → W.cell? ⟨s, 0, none⟩ = some (.int .i64 S.rev)) := fun W hW => (H.st.below hW).cells.1
  have hq : ¬ (16 : Int) < (l.length : Int) + (L.length : Int) := by omega
  clear h H hL
  go_enter Try.func22, Try.ntmps22
  go_upto_region 2 with (first | (go_at_call 32; refine hnews.mono ?_; rintro e w2 ⟨p2, c2, rfl, hE2⟩; have H2 := HH.out.below hE2.2; have HE2 := Hid.mkW hE2; have y3 : w2.cell? ⟨b, 3, none⟩ = some (.slice pv l.length cv) := cell_of_row _ _ _ _ _ _ H2.blk; have HB2 := Hid.mkW H2; clear H2 hE2))
  have hsrc := (EVs.of HE2.out.1).src (own_ptr HE2.out.1)
  have hown := HB2.out.row
  have hbl := HB2.out.lt
  have hne := HB2.out.ne
  obtain ⟨V, hV⟩ : ∃ V, V = Value.slice pv l.length cv := ⟨_, rfl⟩
  have HAP : Hid (∀ p3 c3 w3, w3.ownsRow 0 37 8 (.slice p3 (l.length + L.length) c3) (l.length + L.length) (evsC l ++ evsC L) → Upd w2 w3 (fun k => some k = (Value.slice pv l.length cv).ownBlock) → ((Value.slice p3 (l.length + L.length) c3).ownBlock = (Value.slice pv l.length cv).ownBlock ∨ (Value.slice p3 (l.length + L.length) c3).ownBlock = some w2.heap.size) →
      w3.cell? ⟨b, 3, none⟩ = some (.slice pv l.length cv) ∧ w3.frozen? ⟨b, 3, none⟩ = false ∧ (w3.setCell ⟨b, 3, none⟩ (.slice p3 (l.length + L.length) c3)).heap[b]? = some (.cells #[.string lo, .string hi, .int .i64 p, .slice p3 (l.length + L.length) c3, .int .i64 0] 90 (0, 0)) ∧ (w3.setCell ⟨b, 3, none⟩ (.slice p3 (l.length + L.length) c3)).cell? ⟨s, 0, none⟩ = some (.int .i64 S.rev) ∧
      (w3.setCell ⟨b, 3, none⟩ (.slice p3 (l.length + L.length) c3)).ownsRow 0 37 8 (.slice p3 (l.length + L.length) c3) (l.length + L.length) (evsC l ++ evsC L) ∧ Upd w (w3.setCell ⟨b, 3, none⟩ (.slice p3 (l.length + L.length) c3)) (fun k => k = b ∨ (Value.slice pv l.length cv).ownBlock = some k) ∧ (∀ k, (Value.slice p3 (l.length + L.length) c3).ownBlock = some k → k ≠ b) ∧ ∀ k, (Value.slice p3 (l.length + L.length) c3).ownBlock = some k → (Value.slice pv l.length cv).ownBlock = some k ∨ w.heap.size ≤ k) := fun p3 c3 w3 q1 q2 q3 => by
    have hb3 : w3.heap[b]? = some (.cells #[.string lo, .string hi, .int .i64 p, .slice pv l.length cv, .int .i64 0] 90 (0, 0)) := (q2.block b hbl (fun e => hne e.symm)).trans HB2.out.blk
    have hbn : ∀ k, (Value.slice p3 (l.length + L.length) c3).ownBlock = some k → k ≠ b := fun k hk e => by
      rcases q3 with h | h
      · rw [h, e] at hk; exact hne hk
      · rw [h] at hk; cases hk; omega
    have hu4 : Upd w3 (w3.setCell ⟨b, 3, none⟩ (.slice p3 (l.length + L.length) c3)) (fun k => k = b) := (Upd.refl w3 (fun k => k = b)).setCell (p := ⟨b, 3, none⟩) (.inr rfl) _
    have hs3 : w3.cell? ⟨s, 0, none⟩ = some (.int .i64 S.rev) := (q2.cell (p := ⟨s, 0, none⟩) (Nat.lt_of_lt_of_le hsl HE2.out.2.size) (fun e => hvs e.symm)).trans (HS.out w2 HE2.out.2)
    refine ⟨cell_of_row _ _ _ _ _ _ hb3, frozen_of_row _ _ _ _ _ hb3, heap_setCell_row hb3 _, (hu4.cell (p := ⟨s, 0, none⟩) (World.block_lt_of_cell? _ _ hs3) (fun e => hbs e.symm)).trans hs3, ownsRow_upd q1 hu4 (fun k hk e => hbn k hk e), ((Upd.ofBelow HE2.out.2).trans q2 (fun k _ e => .inr e.symm)).trans hu4 (fun k _ e => .inl e), hbn, fun k hk => ?_⟩
    rcases q3 with h | h
    · rw [h] at hk; exact .inl hk
    · rw [h] at hk; cases hk; exact .inr HE2.out.2.size
  have hsum : l.length + L.length ≤ 1000000000 := by omega
  clear hnews HS HE2 HB2 HH hne hV
  go_upto_region 3 with (at_builtin; refine wpList_appS _ rfl (.tmp 22) (.tmp 23) 28 28 rfl 0 37 t9 _ 8 Try.underlying28 hti hz0 hz1 rfl (by rw [hz2]; decide) _ l.length (evsC l) rfl hown _ rfl L.length (evsC L) hsrc hsum (Nat.zero_le _) ?_; intro v' w3 q1 q2 q3 q4; obtain ⟨np, nc, hnv⟩ := owns_formB0 q1; subst hnv; obtain ⟨z1, z2, z3, z4, z5, z6, z7, z8⟩ := HAP.out np nc w3 q1 q2 q3; clear q3 q4 q2 q1)
  obtain ⟨w4, hw4⟩ : ∃ w4, w4 = w3.setCell ⟨b, 3, none⟩ (.slice np (l.length + L.length) nc) := ⟨_, rfl⟩
  rw [← hw4] at z3 z4 z5 z6 ⊢
  have hpass := pass_any w4 b s S.rev 90 p _ z3 rfl z4 hr
  have HZ5 := Hid.mkW z5
  have HZ6 := Hid.mkW z6
  clear hw4 z5 z6 z1 z2 HAP hown hsrc y3
  go_wp2_with (first | (go_at_call 33; refine hpass.mono ?_; rintro e w5 ⟨rfl, q1, q2⟩))
  first | go_end0 | refine bodyPost_ret (results_none rfl _ _ _) rfl ?_
  refine ⟨rfl, _, ⟨q1, ?_⟩, HZ6.out.trans q2 (fun k _ e => .inl e), z8⟩
  rw [List.length_append, evsC_app]
  exact ownsRow_upd HZ5.out q2 (fun k hk e => z7 k hk e)
end
end Go.Proofs.Ytjdmgmnndfhmgaa
/- A hub's map: numbers, and the watchers that they name. -/
namespace Go.Proofs.Ytjdmgmnndfhmgaa
open Go Go.RowKit

def RL (v : Value) : Option (DataW Value × List MemPlace) := some (.held v, [])
theorem RL_hit {v u : Value} {ps : List MemPlace} (h : RL v = some (.held u, ps)) : v = u := by
  simp [RL] at h
  exact h.1
def ent (f : Int → Value) (i : Int) : Lit × DataW Value := (.int .i64 i, .held (f i))
def delN (n : Int) (l : List Int) : List Int := l.filter (fun i => !(i == n))
def insN (f : Int) : List Int → List Int
  | [] => [f]
  | g :: r => if f < g then f :: g :: r else g :: insN f r
abbrev upN (l : List Int) : Prop := l.Pairwise (· < ·)
theorem same_int (a b : Int) : (Lit.int .i64 a).sameKey (.int .i64 b) = (a == b) := by
  simp only [Lit.sameKey]
  by_cases h : a = b <;> simp [h]
theorem has_ents (g : Int → Value) (n : Int) (l : List Int) : Maps.has (.map (l.map (ent g)) : DataW Value) (.int .i64 n) = decide (n ∈ l) := by
  rw [Maps.has_eq, List.any_map]
  have : ((fun p : Lit × DataW Value => p.1.sameKey (.int .i64 n)) ∘ ent g) = (fun i => i == n) := by funext i; exact same_int i n
  rw [this, Bool.eq_iff_iff]
  simp
theorem at_ents (g : Int → Value) (n : Int) (l : List Int) (z : DataW Value) : (DataW.map (l.map (ent g))).atKey (.int .i64 n) z = if n ∈ l then .held (g n) else z := by
  unfold DataW.atKey
  simp only [List.find?_map]
  have e : ((fun p : Lit × DataW Value => p.1.sameKey (.int .i64 n)) ∘ ent g) = (fun i => i == n) := by funext i; exact same_int i n
  rw [e]
  cases h : l.find? (fun i => i == n) with
  | none =>
    have hn : n ∉ l := fun hm => by have := List.find?_eq_none.1 h n hm; simp at this
    rw [if_neg hn]; rfl
  | some i =>
    have h1 : i = n := by simpa using List.find?_some h
    have h2 := List.mem_of_find?_eq_some h
    subst h1
    rw [if_pos h2]; rfl
theorem del_ents (g : Int → Value) (n : Int) (l : List Int) : (DataW.map (l.map (ent g))).del (.int .i64 n) = .map ((delN n l).map (ent g)) := by
  show DataW.map ((l.map (ent g)).filter _) = _
  rw [List.filter_map]
  unfold delN
  congr 3
  funext f
  exact congrArg _ (same_int f n)
theorem before_ent (h : Int → Value) (f g : Int) : (ent h f).1.before (ent h g).1 = decide (f < g) := by simp [ent, Lit.before]
theorem ins_ents (h : Int → Value) (f : Int) : ∀ l : List Int, DataW.insert (ent h f) (l.map (ent h)) = (insN f l).map (ent h)
  | [] => rfl
  | g :: r => by
    simp only [List.map_cons, DataW.insert, insN]
    rw [before_ent]
    by_cases hl : f < g
    · simp [hl]
    · simp [hl, ins_ents h f r]
theorem own_tight {P : Program} {k : TypeId} {R : Value → Option (DataW Value × List MemPlace)} {w : World} {b n : Nat} {l : List (Lit × DataW Value)} (h : w.ownsMap P k R b n (.map l)) : w.ownsMap P k R b l.length (.map l) := by
  obtain ⟨es, clock, hb, F, hs, hD⟩ := h
  refine ⟨es, clock, hb, F, ?_, hD⟩
  have : l = _ := DataW.map.inj hD
  rw [this, length_sorted]
  simp
theorem ownsMap_upd {P : Program} {w w' : World} {S : Nat → Prop} {k : TypeId} {R : Value → Option (DataW Value × List MemPlace)} {b n : Nat} {D : DataW Value} (h : w.ownsMap P k R b n D) (hu : Upd w w' S) (hS : ¬ S b) : w'.ownsMap P k R b n D := by
  have hlt := h.lt
  obtain ⟨es, clock, hb, F, hs, hD⟩ := h
  exact ⟨es, clock, (hu.block b hlt hS).trans hb, F, hs, hD⟩
/-- A map of numbers to watchers. -/
structure MI (w : World) (m : Nat) (A : List Int) (f : Int → Value) : Prop where
  own : w.ownsMap Try.prog 3 RL m A.length (.map (A.map (ent f)))
  up : upN A
  few : A.length ≤ 1000
  ok : ∀ i ∈ A, 1 ≤ i ∧ i ≤ 1000
variable {w w' : World} {m : Nat} {A : List Int} {f : Int → Value}
theorem MI.lt (h : MI w m A f) : m < w.heap.size := h.own.lt
theorem MI.upd {S : Nat → Prop} (h : MI w m A f) (hu : Upd w w' S) (hb : ¬ S m) : MI w' m A f := ⟨ownsMap_upd h.own hu hb, h.up, h.few, h.ok⟩
theorem MI.made (w : World) (f : Int → Value) : MI (w.alloc (.map #[] 0)) w.heap.size [] f := ⟨World.ownsMap_made w Try.prog 3 RL, List.Pairwise.nil, Nat.zero_le _, fun i h => by cases h⟩
theorem MI.congr {g : Int → Value} (h : MI w m A f) (hg : ∀ i ∈ A, g i = f i) : MI w m A g := by
  have e : A.map (ent g) = A.map (ent f) := List.map_congr_left fun i hi => by simp [ent, hg i hi]
  exact ⟨by rw [e]; exact h.own, h.up, h.few, h.ok⟩
abbrev isI (n : Int) : Prop := -9223372036854775808 ≤ n ∧ n ≤ 9223372036854775807
theorem key_int {n : Int} (h : isI n) : keyOf Try.prog 3 (.int .i64 n) = some (.int .i64 n) := by
  have : (Lit.int .i64 n).wf = true := by simp [Lit.wf, IntKind.min, IntKind.max, IntKind.bits, IntKind.signed]; omega
  simp [keyOf, Try.underlying3, mapKey, this]
theorem zero64 (w : World) : (zeroValue 64).run Try.prog w = .ok .nilIface w := by kernel_rfl
theorem keyed3 : Maps.Keyed Try.prog 3 := Maps.int_keyed Try.underlying3
theorem MI.look (h : MI w m A f) (k : Int) (hk : isI k) : (Instr.lookup 54 (.map (some m)) (.int .i64 k) true).run Try.prog w = .ok (.tuple #[if k ∈ A then f k else .nilIface, .bool (decide (k ∈ A))]) w := by
  obtain ⟨v, ps, hrun, hv⟩ := h.own.look_ok keyed3 Try.underlying54 (zero64 w) (zd := .held .nilIface) (zp := []) rfl (key_int hk)
  rw [hrun, has_ents]
  rw [at_ents] at hv
  by_cases hl : k ∈ A
  · rw [if_pos hl] at hv ⊢; rw [RL_hit hv]
  · rw [if_neg hl] at hv ⊢; rw [RL_hit hv]
theorem MI.len (h : MI w m A f) (ty : TypeId) : (Builtin.len_ #[54] ty #[.map (some m)]).run Try.prog w = .ok (.int .i64 A.length) w := by
  rw [h.own.len Try.underlying54 ty, Maps.size_eq, List.length_map]
def setW (f : Int → Value) (k : Int) (v : Value) : Int → Value := fun j => if j = k then v else f j
theorem setW_same (f : Int → Value) (k : Int) (v : Value) : setW f k v k = v := if_pos rfl
theorem setW_other (f : Int → Value) {k j : Int} (v : Value) (h : j ≠ k) : setW f k v j = f j := if_neg h
theorem ins_here : ∀ {A : List Int} {k : Int}, upN A → k ∈ A → insN k (delN k A) = A
  | [], k, _, h => by cases h
  | a :: A, k, hu, h => by
    obtain ⟨h1, h2⟩ := List.pairwise_cons.1 hu
    by_cases e : a = k
    · subst e
      have hd : delN a (a :: A) = A := by
        unfold delN
        rw [List.filter_cons_of_neg (by simp), List.filter_eq_self]
        intro x hx
        have := h1 x hx
        simp; omega
      rw [hd]
      cases A with
      | nil => rfl
      | cons x r => unfold insN; rw [if_pos (h1 x (by simp))]
    · have hk : k ∈ A := by rcases List.mem_cons.1 h with e' | e'; exact absurd e'.symm e; exact e'
      have hd : delN k (a :: A) = a :: delN k A := by unfold delN; rw [List.filter_cons_of_pos (by simp; exact e)]
      rw [hd]
      unfold insN
      rw [if_neg (by have := h1 k hk; omega), ins_here h2 hk]
theorem ins_end : ∀ {A : List Int} {k : Int}, (∀ i ∈ A, i < k) → insN k (delN k A) = A ++ [k]
  | [], k, _ => rfl
  | a :: A, k, h => by
    have ha := h a (by simp)
    have hd : delN k (a :: A) = a :: delN k A := by unfold delN; rw [List.filter_cons_of_pos (by simp; omega)]
    rw [hd]
    unfold insN
    rw [if_neg (by omega), ins_end (fun i hi => h i (by simp [hi]))]
    rfl
theorem mem_delN {n i : Int} {l : List Int} : i ∈ delN n l ↔ i ∈ l ∧ i ≠ n := by simp [delN]
theorem MI.store (h : MI w m A f) (k : Int) (v : Value) (hk : isI k) : ∃ w', (Instr.mapUpdate 54 (.map (some m)) (.int .i64 k) v).run Try.prog w = .ok () w' ∧ w'.ownsMap Try.prog 3 RL m (insN k (delN k A)).length (.map ((insN k (delN k A)).map (ent (setW f k v)))) ∧ Upd w w' (fun j => j = m) := by
  have hf := h.few
  obtain ⟨w', hrun, h1, h2⟩ := h.own.update keyed3 Try.underlying54 (by unfold maxLen; omega) (key_int hk) (val := v) (d := .held v) (ps := []) rfl
  refine ⟨w', hrun, ?_, (Upd.ofGrown h2).mono (fun k _ e => Option.some.inj e)⟩
  have hd : (DataW.map (A.map (ent f))).put (.int .i64 k) (.held v) = .map ((insN k (delN k A)).map (ent (setW f k v))) := by
    have e1 := del_ents f k A
    simp only [DataW.del, DataW.map.injEq] at e1
    show DataW.map (DataW.insert _ ((A.map (ent f)).filter _)) = _
    have e2 : (delN k A).map (ent f) = (delN k A).map (ent (setW f k v)) := List.map_congr_left fun i hi => by simp [ent, setW, (mem_delN.1 hi).2]
    rw [e1, e2, ← ins_ents]
    simp [ent, setW]
  rw [hd] at h1
  have := own_tight h1
  rwa [List.length_map] at this
theorem MI.set (h : MI w m A f) {k : Int} (hk : k ∈ A) (v : Value) : ∃ w', (Instr.mapUpdate 54 (.map (some m)) (.int .i64 k) v).run Try.prog w = .ok () w' ∧ MI w' m A (setW f k v) ∧ Upd w w' (fun j => j = m) := by
  obtain ⟨w', h1, h2, h3⟩ := h.store k v (by have := h.ok k hk; show _ ∧ _; omega)
  rw [ins_here h.up hk] at h2
  exact ⟨w', h1, ⟨h2, h.up, h.few, h.ok⟩, h3⟩
theorem MI.add (h : MI w m A f) {k : Int} (hk : ∀ i ∈ A, i < k) (hk1 : 1 ≤ k ∧ k ≤ 1000) (hl : A.length < 1000) (v : Value) : ∃ w', (Instr.mapUpdate 54 (.map (some m)) (.int .i64 k) v).run Try.prog w = .ok () w' ∧ MI w' m (A ++ [k]) (setW f k v) ∧ Upd w w' (fun j => j = m) := by
  obtain ⟨w', h1, h2, h3⟩ := h.store k v (by show _ ∧ _; omega)
  rw [ins_end hk] at h2
  refine ⟨w', h1, ⟨h2, ?_, by rw [List.length_append]; simp; omega, fun i hi => ?_⟩, h3⟩
  · refine List.pairwise_append.2 ⟨h.up, by simp, fun a ha b hb => ?_⟩
    simp at hb; subst hb; exact hk a ha
  · rcases List.mem_append.1 hi with hi | hi
    · exact h.ok i hi
    · simp at hi; subst hi; exact hk1
theorem MI.del (h : MI w m A f) (k : Int) (hk : isI k) (ty : TypeId) : ∃ w', (Builtin.delete_ #[54, 3] ty #[.map (some m), .int .i64 k]).run Try.prog w = .ok (.tuple #[]) w' ∧ MI w' m (delN k A) f ∧ Upd w w' (fun j => j = m) := by
  obtain ⟨w', h1, h2, h3⟩ := h.own.drop keyed3 Try.underlying54 (key_int hk) ty
  rw [del_ents] at h2
  have h4 := own_tight h2
  rw [List.length_map] at h4
  refine ⟨w', h1, ⟨h4, List.Pairwise.filter _ h.up, Nat.le_trans (List.length_filter_le _ _) h.few, fun i hi => h.ok i (mem_delN.1 hi).1⟩, (Upd.ofGrown (World.mapTurned.grown h3)).mono (fun k _ e => Option.some.inj e)⟩
end Go.Proofs.Ytjdmgmnndfhmgaa
/- A hub in memory: New, Len, Watch. -/
namespace Go.Proofs.Ytjdmgmnndfhmgaa
open Go Go.RowKit

/-- A watcher as data: its range, its place, whether it is fed, its buffer, why it ends. -/
structure Wd where
  lo : ByteArray
  hi : ByteArray
  place : Int
  fd : Bool
  buf : List Evd
  fin : Int
/-- A watcher in memory. -/
def WM (w : World) (q : Nat × Value) (x : Wd) : Prop :=
  match x.fd with
  | true => Fd w q.1 q.2 x.lo x.hi x.place x.buf x.fin
  | false => Bh w q.1 x.lo x.hi x.place ∧ q.2 = .slice none 0 0 ∧ x.buf = [] ∧ x.fin = 0
def ifv (x : Wd) (b : Nat) : Value := .iface (if x.fd then 67 else 58) (ptr b)
def ftE (q : Nat × Value) (k : Nat) : Prop := k = q.1 ∨ q.2.ownBlock = some k
structure Wd.Ok (x : Wd) : Prop where
  a : 1 ≤ x.place
  b : x.place ≤ 1000000000
  c : x.buf.length ≤ 16
theorem WM.upd {w w' : World} {T : Nat → Prop} {q : Nat × Value} {x : Wd} (h : WM w q x) (hu : Upd w w' T) (hT : ∀ k, ftE q k → ¬ T k) : WM w' q x := by
  unfold WM at h ⊢
  split at h
  · exact h.upd hu (hT _ (.inl rfl)) (fun k hk => hT k (.inr hk))
  · exact ⟨h.1.upd hu (hT _ (.inl rfl)), h.2⟩
theorem WM.lt {w : World} {q : Nat × Value} {x : Wd} (h : WM w q x) {k : Nat} (hk : ftE q k) : k < w.heap.size := by
  unfold WM at h
  split at h
  · rcases hk with rfl | hk
    · exact h.lt
    · exact (h.row.lt k hk).2
  · rcases hk with rfl | hk
    · exact h.1.lt
    · rw [h.2.1] at hk; cases hk
/-- A hub in memory. -/
structure Hb (w : World) (h s m : Nat) (last : Nat) (A : List Int) (X : Int → Wd) (G : Int → Nat × Value) : Prop where
  blk : w.heap[h]? = some (.cells #[ptr s, .map (some m), .int .i64 last] 56 (0, 0))
  map : MI w m A (fun i => ifv (X i) (G i).1)
  mem : ∀ i ∈ A, WM w (G i) (X i)
  ok : ∀ i ∈ A, (X i).Ok
  dis : ∀ i ∈ A, ∀ j ∈ A, i ≠ j → ∀ k, ftE (G i) k → ¬ ftE (G j) k
  neh : ∀ i ∈ A, ∀ k, ftE (G i) k → k ≠ h ∧ k ≠ m
  old : ∀ i ∈ A, i ≤ last
  few : last ≤ 900
  len : A.length ≤ last
def ftH (h m : Nat) (A : List Int) (G : Int → Nat × Value) (k : Nat) : Prop := k = h ∨ k = m ∨ ∃ i ∈ A, ftE (G i) k
section
variable {w w' : World} {h s m last : Nat} {A : List Int} {X : Int → Wd} {G : Int → Nat × Value}
theorem Hb.upd {T : Nat → Prop} (H : Hb w h s m last A X G) (hu : Upd w w' T) (hT : ∀ k, ftH h m A G k → ¬ T k) : Hb w' h s m last A X G :=
  ⟨(hu.block h (Array.getElem?_eq_some_iff.1 H.blk).1 (hT h (.inl rfl))).trans H.blk, H.map.upd hu (hT m (.inr (.inl rfl))), fun i hi => (H.mem i hi).upd hu (fun k hk => hT k (.inr (.inr ⟨i, hi, hk⟩))), H.ok, H.dis, H.neh, H.old, H.few, H.len⟩
theorem Hb.below (H : Hb w h s m last A X G) (hb : Below w.heap.size w w') : Hb w' h s m last A X G := H.upd (T := fun _ => False) (Upd.ofBelow hb) (fun _ _ e => e)
theorem Hb.lt (H : Hb w h s m last A X G) {k : Nat} (hk : ftH h m A G k) : k < w.heap.size := by
  rcases hk with rfl | rfl | ⟨i, hi, hk⟩
  · exact (Array.getElem?_eq_some_iff.1 H.blk).1
  · exact H.map.lt
  · exact (H.mem i hi).lt hk
theorem Hb.ne (H : Hb w h s m last A X G) : h ≠ m := fun e => by
  obtain ⟨es, clock, hb, _⟩ := H.map.own
  rw [← e, H.blk] at hb
  cases hb
/-- What a call leaves of a hub: it is written where it lay, or anew. -/
structure Kp (w w' : World) (h m : Nat) (A A' : List Int) (G G' : Int → Nat × Value) : Prop where
  upd : Upd w w' (ftH h m A G)
  foot : ∀ k, ftH h m A' G' k → ftH h m A G k ∨ w.heap.size ≤ k
set_option maxRecDepth 100000 in
theorem hub_new (w : World) (s : Nat) (X : Int → Wd) (G : Int → Nat × Value) : Calls Try.prog 7 #[ptr s] w fun e w' => ∃ h m, e = .returned (ptr h) ∧ Hb w' h s m 0 [] X G ∧ Below w.heap.size w w' ∧ w.heap.size ≤ h ∧ w.heap.size ≤ m := by
  have hmm := @run_makeMap Try.prog
  go_enter Try.func7, Try.ntmps7
  go_wp2
  go_ret
  have hb1 : Below w.heap.size w (w.alloc (.map #[] 0)) := (Below.refl _ w).alloc (Nat.le_refl _) _
  refine ⟨_, w.heap.size, rfl, ⟨?_, ⟨(World.ownsMap_made w Try.prog 3 RL).alloc _, List.Pairwise.nil, Nat.zero_le _, fun i hi => (by cases hi)⟩, fun i hi => (by cases hi), fun i hi => (by cases hi), fun i hi => (by cases hi), fun i hi => (by cases hi), fun i hi => (by cases hi), Nat.zero_le _, Nat.le_refl _⟩, hb1.alloc hb1.size _, ?_, Nat.le_refl _⟩
  · have := row_alloc (w.alloc (.map #[] 0)) #[ptr s, .map (some w.heap.size), .int .i64 0] 56
    simpa using this
  · simp
set_option maxRecDepth 100000 in
theorem len_any (H : Hb w h s m last A X G) : Calls Try.prog 13 #[ptr h] w fun e w' => e = .returned (.int .i64 A.length) ∧ w' = w := by
  have c1 : w.cell? ⟨h, 1, none⟩ = some (.map (some m)) := cell_of_row _ _ _ _ _ _ H.blk
  have hlen := fun ty => H.map.len ty
  clear H
  go_enter Try.func13, Try.ntmps13
  go_wp2
  go_ret
  exact ⟨rfl, rfl⟩
set_option maxRecDepth 100000 in
theorem begin_any (H : Hb w h s m last A X G) : Calls Try.prog 19 #[ptr h] w fun e w' => e = .returned (.tuple #[]) ∧ w' = w := by
  have c1 : w.cell? ⟨h, 1, none⟩ = some (.map (some m)) := cell_of_row _ _ _ _ _ _ H.blk
  have heq : ∀ W, (binOp BinOp.eql 54 (.map (some m)) (.map none)).run Try.prog W = .ok (.bool false) W := fun W => by kernel_rfl
  clear H
  go_enter Try.func19, Try.ntmps19
  go_wp2
  first | go_end0 | refine bodyPost_ret (results_none rfl _ _ _) rfl ?_
  exact ⟨rfl, rfl⟩
set_option maxRecDepth 100000 in
set_option maxHeartbeats 4000000 in
theorem watch_any (H : Hb w h s m last A X G) (hl : last < 900) (lo hi : ByteArray) (from_ : Int) (hls : lo.size ≤ 1000000) (hhs : hi.size ≤ 1000000) (hf : from_ ≤ 1000000000) :
    Calls Try.prog 8 #[ptr h, .string lo, .string hi, .int .i64 from_] w fun e w' => e = .returned (.int .i64 ((last : Int) + 1)) ∧ ∃ G', Hb w' h s m (last + 1) (A ++ [(last : Int) + 1]) (fun i => if i = (last : Int) + 1 then ⟨lo, hi, max from_ 1, false, [], 0⟩ else X i) G' ∧ Kp w w' h m A (A ++ [(last : Int) + 1]) G G' := by
  have hbeg := begin_any H
  have HH := Hid.mkW H
  have hc1 := fun W => clone_all lo hls W
  have hc2 := fun W => clone_all hi hhs W
  have HROW : Hid (∀ W, Below w.heap.size w W → W.heap[h]? = some (.cells #[ptr s, .map (some m), .int .i64 last] 56 (0, 0))) := fun W hW => (hW.block h (H.lt (.inl rfl))).trans H.blk
  have c2 : w.cell? ⟨h, 2, none⟩ = some (.int .i64 last) := cell_of_row _ _ _ _ _ _ H.blk
  have f2 : w.frozen? ⟨h, 2, none⟩ = false := frozen_of_row _ _ _ _ _ H.blk
  have hw1 : IntKind.i64.wrap ((last : Int) + 1) = (last : Int) + 1 := by rw [IntKind.wrap_i64]; omega
  obtain ⟨w1, hw1'⟩ : ∃ w1, w1 = w.setCell ⟨h, 2, none⟩ (.int .i64 ((last : Int) + 1)) := ⟨_, rfl⟩
  have r1 : w1.heap[h]? = some (.cells #[ptr s, .map (some m), .int .i64 ((last : Int) + 1)] 56 (0, 0)) := by rw [hw1']; exact heap_setCell_row H.blk _
  have u1 : Upd w w1 (fun k => k = h) := by rw [hw1']; exact (Upd.refl w (fun k => k = h)).setCell (p := ⟨h, 2, none⟩) (.inr rfl) _
  have s1 : w1.heap.size = w.heap.size := by rw [hw1']; simp
  clear H
  go_enter Try.func8, Try.ntmps8
  go_upto_region 3 with (first | (go_at_call 19; refine hbeg.mono ?_; rintro e w' ⟨rfl, hw'⟩; obtain rfl := hw'.symm))
  rw [← hw1']
  clear hw1' c2 f2 hbeg
  go_upto_region 4 with (first | (go_at_call 20; with_reducible refine (hc1 _).mono ?_; rintro e w2 ⟨rfl, hb2⟩) | (go_at_call 20; with_reducible refine (hc2 _).mono ?_; rintro e w3 ⟨rfl, hb3⟩))
  have hb13 : Below w1.heap.size w1 w3 := hb2.trans (hb3.mono hb2.size)
  have r3 : w3.heap[h]? = some (.cells #[ptr s, .map (some m), .int .i64 ((last : Int) + 1)] 56 (0, 0)) := (hb13.block h (Array.getElem?_eq_some_iff.1 r1).1).trans r1
  have d1 : w3.cell? ⟨h, 1, none⟩ = some (.map (some m)) := cell_of_row _ _ _ _ _ _ r3
  have d2 : w3.cell? ⟨h, 2, none⟩ = some (.int .i64 ((last : Int) + 1)) := cell_of_row _ _ _ _ _ _ r3
  obtain ⟨mx, hmx⟩ : ∃ mx, mx = max from_ 1 := ⟨_, rfl⟩
  have hif : (if from_ < 1 then (1 : Int) else from_) = mx := by rw [hmx]; split <;> omega
  obtain ⟨w4, hw4⟩ : ∃ w4, w4 = (w3.alloc (.cells #[.string lo, .string hi, .int .i64 mx] 62)).drew := ⟨_, rfl⟩
  have b34 : Below w3.heap.size w3 w4 := by rw [hw4]; exact ((Below.refl _ w3).alloc (Nat.le_refl _) _).drew
  have r4 : w4.heap[w3.heap.size]? = some (.cells #[.string lo, .string hi, .int .i64 mx] 62 (0, 0)) := by rw [hw4]; exact row_alloc w3 _ _
  have s3 : w.heap.size ≤ w3.heap.size := by have := hb13.size; omega
  have u4 : Upd w w4 (fun k => k = h) := u1.trans (Upd.ofBelow (S := fun _ => False) (hb13.trans (b34.mono hb13.size))) (fun _ _ e => e.elim)
  have hmh : ¬ m = h := fun e => HH.out.ne e.symm
  obtain ⟨w5, hrun, hM5, u5⟩ := (HH.out.map.upd u4 hmh).add (k := (last : Int) + 1) (fun i hi => by have := HH.out.old i hi; omega) (by omega) (by have := HH.out.len; omega) (.iface 58 (ptr w3.heap.size))
  have hlh : h < w4.heap.size := Nat.lt_of_lt_of_le (HH.out.lt (.inl rfl)) u4.size
  have r4h : w4.heap[h]? = some (.cells #[ptr s, .map (some m), .int .i64 ((last : Int) + 1)] 56 (0, 0)) := (b34.block h (by have := HH.out.lt (k := h) (.inl rfl); omega)).trans r3
  have r5 : w5.heap[h]? = some (.cells #[ptr s, .map (some m), .int .i64 ((last : Int) + 1)] 56 (0, 0)) := (u5.block h hlh (fun e => hmh e.symm)).trans r4h
  have x2 : w5.cell? ⟨h, 2, none⟩ = some (.int .i64 ((last : Int) + 1)) := cell_of_row _ _ _ _ _ _ r5
  have u05 : Upd w w5 (fun k => k = h ∨ k = m) := (u4.mono (fun _ _ e => .inl e)).trans u5 (fun _ _ e => .inr e)
  have b5 : Bh w5 w3.heap.size lo hi mx := (u5.block w3.heap.size (Array.getElem?_eq_some_iff.1 r4).1 (fun e => by have := HH.out.lt (k := m) (.inr (.inl rfl)); omega)).trans r4
  have HFIN : Hid (∃ G', Hb w5 h s m (last + 1) (A ++ [(last : Int) + 1]) (fun i => if i = (last : Int) + 1 then ⟨lo, hi, max from_ 1, false, [], 0⟩ else X i) G' ∧ Kp w w5 h m A (A ++ [(last : Int) + 1]) G G') := by
    rw [← hmx]
    have hnk : ∀ i ∈ A, ¬ i = (last : Int) + 1 := fun i hi e => by have := HH.out.old i hi; omega
    have hin : ∀ i, i ∈ A ++ [(last : Int) + 1] → i ∈ A ∨ i = (last : Int) + 1 := fun i hi => by simpa using hi
    have hft : ∀ k, ftE ((w3.heap.size, Value.slice none 0 0) : Nat × Value) k → k = w3.heap.size := fun k hk => hk.elim (fun e => e) (fun e => by cases e)
    refine ⟨fun i => if i = (last : Int) + 1 then (w3.heap.size, .slice none 0 0) else G i, ⟨r5, hM5.congr (fun i hi => ?_), fun i hi => ?_, fun i hi => ?_, fun i hi j hj hij k hk => ?_, fun i hi k hk => ?_, fun i hi => ?_, by omega, ?_⟩, ⟨u05.mono (fun k _ e => e.elim .inl (fun e => .inr (.inl e))), fun k hk => ?_⟩⟩
    · rcases hin i hi with hi | rfl
      · simp only [if_neg (hnk i hi)]; rw [setW_other _ _ (hnk i hi)]
      · simp only [if_true]; rw [setW_same]; rfl
    · rcases hin i hi with hi | rfl
      · simp only [if_neg (hnk i hi)]
        exact (HH.out.mem i hi).upd u05 (fun k hk e => by have := HH.out.neh i hi k hk; omega)
      · simp only [if_true]
        exact ⟨b5, rfl, rfl, rfl⟩
    · rcases hin i hi with hi | rfl
      · simp only [if_neg (hnk i hi)]; exact HH.out.ok i hi
      · simp only [if_true]; exact ⟨by show 1 ≤ mx; omega, by show mx ≤ _; omega, by simp⟩
    · rcases hin i hi with hi | rfl <;> rcases hin j hj with hj | rfl
      · simp only [if_neg (hnk i hi)] at hk; simp only [if_neg (hnk j hj)]; exact HH.out.dis i hi j hj hij k hk
      · simp only [if_neg (hnk i hi)] at hk; simp only [if_true]
        exact fun e => by have := hft k e; have := (HH.out.mem i hi).lt hk; omega
      · simp only [if_true] at hk; simp only [if_neg (hnk j hj)]
        exact fun e => by have := hft k hk; have := (HH.out.mem j hj).lt e; omega
      · exact absurd rfl hij
    · rcases hin i hi with hi | rfl
      · simp only [if_neg (hnk i hi)] at hk; exact HH.out.neh i hi k hk
      · simp only [if_true] at hk
        have := hft k hk
        have := HH.out.lt (k := h) (.inl rfl)
        have := HH.out.lt (k := m) (.inr (.inl rfl))
        omega
    · rcases hin i hi with hi | rfl
      · have := HH.out.old i hi; omega
      · omega
    · rw [List.length_append]; have := HH.out.len; simp; omega
    · rcases hk with rfl | rfl | ⟨i, hi, hk⟩
      · exact .inl (.inl rfl)
      · exact .inl (.inr (.inl rfl))
      · rcases hin i hi with hi | rfl
        · simp only [if_neg (hnk i hi)] at hk; exact .inl (.inr (.inr ⟨i, hi, hk⟩))
        · simp only [if_true] at hk; have := hft k hk; exact .inr (by omega)
  have a1 : (w3.alloc (.cells #[.string lo, .string hi, .int .i64 mx] 62)).cell? ⟨h, 1, none⟩ = some (.map (some m)) := ((Below.refl _ w3).alloc (Nat.le_refl _) _ |>.cell (p := ⟨h, 1, none⟩) (World.block_lt_of_cell? _ _ d1)).trans d1
  have a2 : (w3.alloc (.cells #[.string lo, .string hi, .int .i64 mx] 62)).cell? ⟨h, 2, none⟩ = some (.int .i64 ((last : Int) + 1)) := ((Below.refl _ w3).alloc (Nat.le_refl _) _ |>.cell (p := ⟨h, 2, none⟩) (World.block_lt_of_cell? _ _ d2)).trans d2
  rw [hw4] at hrun
  clear HH HROW hc1 hc2 r1 u1 hb2 hb3 hb13 r3 b34 r4 u4 hM5 u5 r4h r5 u05 b5 hw4 hmx
  go_region
  go_wp2
  go_ret
  exact ⟨rfl, HFIN.out⟩
end
end Go.Proofs.Ytjdmgmnndfhmgaa
