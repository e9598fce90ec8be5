/- Range of a store. -/
import Derived.Test.YteeflkkoifgcbabGreatMT
namespace Go.Proofs.YteeflkkoifgcbabGreat
open Go Go.RowKit

set_option maxRecDepth 100000 in
set_option maxHeartbeats 1000000 in
/-- The look that Range hands on. -/
theorem rlook_st {n : Nat} {w : World} {s : Nat} {S : Sto} {g : Sg} {o : Value} (h : St n w s S g o) (hn : n ≤ 1000000) (key : ByteArray) (rev : Int) (a q : Nat) (ha : w.cell? ⟨a, 0, none⟩ = some (ptr s)) (hq : w.cell? ⟨q, 0, none⟩ = some (.int .i64 rev)) :
    Calls Tryz.prog 29 #[.string key, ptr a, ptr q] w fun e w' => e = .returned (.tuple #[encKV ((atH (S.kh key) rev).getD noKV), .bool (atH (S.kh key) rev).isSome]) ∧ Below w.heap.size w w' := by
  have hb0 : Below w.heap.size w (w.alloc (.cells #[.string ⟨#[]⟩, .string ⟨#[]⟩, .int .i64 0, .int .i64 0, .int .i64 0, .int .i64 0] 40)) := (Below.refl _ w).alloc (Nat.le_refl _) _
  have r0 := row_alloc w #[.string ⟨#[]⟩, .string ⟨#[]⟩, .int .i64 0, .int .i64 0, .int .i64 0, .int .i64 0] 40
  generalize hV : w.alloc (.cells #[.string ⟨#[]⟩, .string ⟨#[]⟩, .int .i64 0, .int .i64 0, .int .i64 0, .int .i64 0] 40) = V at *
  have hVs : V.heap.size = w.heap.size + 1 := by rw [← hV]; simp
  have hat := at_rev (h.below hb0) hn key rev
  have ka := (hb0.cell (p := ⟨a, 0, none⟩) (World.block_lt_of_cell? _ _ ha)).trans ha
  have kq := (hb0.cell (p := ⟨q, 0, none⟩) (World.block_lt_of_cell? _ _ hq)).trans hq
  generalize (atH (S.kh key) rev).getD noKV = kv at *
  generalize (atH (S.kh key) rev).isSome = th at *
  obtain ⟨kk, kvv, kcr, kmo, kve, kle⟩ := kv
  dsimp only [encKV] at hat
  clear h
  go_enter Tryz.func29, Tryz.ntmps29
  go_wp2_with (go_at_call 30; refine hat.mono ?_; rintro e w3 ⟨rfl, hb3⟩; have r3 := (hb3.block w.heap.size (by omega)).trans r0; have HB : Hid (Below w.heap.size w w3) := hb0.trans (hb3.mono (by omega)); obtain ⟨⟨k0, k1, k2, k3, k4, k5⟩, f0, f1, f2, f3, f4, f5⟩ := box6 r3; have HR := Hid.mk'' r3; clear r3 hb3 hat hV hVs)
  refine bodyPost_ret (results_ct rfl _ _ w.heap.size 40 #[.string kk, .string kvv, .int .i64 kcr, .int .i64 kmo, .int .i64 kve, .int .i64 kle] (0, 0) _ rfl (set6 HR.out _ _ _ _ _ _) Tryz.underlying40 rfl size56) rfl ?_
  exact ⟨rfl, below6 HB.out (Nat.le_refl _) _ _ _ _ _ _⟩
/-- What Range answers. -/
def rangeE (S : Sto) (rev : Int) : Int := if rev < 0 then 1 else if (S.rev : Int) < rev then 17 else if 0 < rev ∧ rev < S.past then 16 else 0
def revOf (S : Sto) (rev : Int) : Int := if rev = 0 then S.rev else rev
def rangeV (S : Sto) (lo hi : ByteArray) (rev : Int) : List KVd := (rangeK S lo hi).filterMap fun k => atH (S.kh k) (revOf S rev)
set_option maxRecDepth 100000 in
set_option maxHeartbeats 2000000 in
theorem range_ok {n : Nat} {w : World} {s : Nat} {S : Sto} {g : Sg} {o : Value} (h : St n w s S g o) (hn : n ≤ 1000000) (lo hi : ByteArray) (rev limit : Int) (hl : lo.size ≤ 140737488355328) (hh : hi.size ≤ 140737488355328) (h0 : 0 ≤ rev) (h1 : rev ≤ S.rev) (h2 : rev = 0 ∨ (S.past : Int) ≤ rev) :
    Calls Tryz.prog 11 #[ptr s, .string lo, .string hi, .int .i64 rev, .int .i64 limit] w fun e w' => ∃ p c, e = .returned (.tuple #[.slice p (toldL limit (rangeV S lo hi rev)).length c, .int .i64 (rangeV S lo hi rev).length, .int .i64 0]) ∧ Hid (KR w w' (.slice p (toldL limit (rangeV S lo hi rev)).length c) (toldL limit (rangeV S lo hi rev))) := by
  obtain ⟨w2, hw2⟩ : ∃ w2, w2 = (w.alloc (.cells #[ptr s] 23)).alloc (.cells #[.int .i64 rev] 3) := ⟨_, rfl⟩
  have hb2 : Below w.heap.size w w2 := by rw [hw2]; exact ((Below.refl _ w).alloc (Nat.le_refl _) _).alloc (by simp) _
  have ra : w2.heap[w.heap.size]? = some (.cells #[ptr s] 23 (0, 0)) := by rw [hw2]; exact (heap_alloc_old _ _ (by simp)).trans (row_alloc w _ _)
  have rq : w2.heap[w.heap.size + 1]? = some (.cells #[.int .i64 rev] 3 (0, 0)) := by rw [hw2]; have := row_alloc (w.alloc (.cells #[ptr s] 23)) #[.int .i64 rev] 3; simpa using this
  have ca : w2.cell? ⟨w.heap.size, 0, none⟩ = some (ptr s) := cell_of_row _ _ _ _ _ _ ra
  have cq : w2.cell? ⟨w.heap.size + 1, 0, none⟩ = some (.int .i64 rev) := cell_of_row _ _ _ _ _ _ rq
  have fq := frozen_of_row w2 (w.heap.size + 1) 0 _ _ rq
  obtain ⟨c0, c1, -⟩ := (h.below hb2).cells
  have HH := Hid.mk'' h
  have HB2 := Hid.mk'' hb2
  have HRA := Hid.mk'' ra
  have HRQ := Hid.mk'' rq
  clear h hb2 ra rq
  generalize hrv : rangeV S lo hi rev = rv
  have HRV := Hid.mk'' hrv
  clear hrv
  go_enter Tryz.func11, Tryz.ntmps11
  go_upto_region 1 with fail
  rw [← hw2]
  clear hw2
  go_upto_region 3 with fail
  go_quiet (fail)
  obtain ⟨N, hN⟩ : ∃ N, N = nq := ⟨_, rfl⟩
  rw [← hN]
  clear hN
  by_cases hz : rev = 0
  · subst hz
    have hrv2 : (rangeK S lo hi).filterMap (fun k => atH (S.kh k) (S.rev : Int)) = rv := by rw [← HRV.out]; unfold rangeV; rw [show revOf S 0 = S.rev from if_pos rfl]
    have HRV2 := Hid.mk'' hrv2
    clear hrv2
    go_upto_region 5 with fail
    go_quiet (fail)
    go_upto_region 9 with fail
    obtain ⟨w5, hw5⟩ : ∃ w5, w5 = (w2.drewN (N + nq)).setCell ⟨w.heap.size + 1, 0, none⟩ (.int .i64 S.rev) := ⟨_, rfl⟩
    rw [← hw5]
    have hb5 : Below w.heap.size w w5 := by rw [hw5]; exact (below_drewQ HB2.out _).setCell (by show w.heap.size ≤ w.heap.size + 1; omega) _
    have ca5 : w5.cell? ⟨w.heap.size, 0, none⟩ = some (ptr s) := by rw [hw5]; exact cell_of_row _ _ _ _ _ _ (((Upd.refl (w2.drewN (N + nq)) (fun k => k = w.heap.size + 1)).setCell (p := ⟨w.heap.size + 1, 0, none⟩) (.inr rfl) (.int .i64 S.rev)).block w.heap.size (by have := (below_drewQ (Below.refl w2.heap.size w2) (N + nq)).size; have := (Array.getElem?_eq_some_iff.1 HRA.out).1; omega) (by omega) |>.trans (((below_drewQ (Below.refl w2.heap.size w2) (N + nq)).block w.heap.size (Array.getElem?_eq_some_iff.1 HRA.out).1).trans HRA.out))
    have cq5 : w5.cell? ⟨w.heap.size + 1, 0, none⟩ = some (.int .i64 (S.rev : Int)) := by rw [hw5]; exact cell_of_row _ _ _ _ _ _ (heap_setCell_row (((below_drewQ (Below.refl w2.heap.size w2) (N + nq)).block (w.heap.size + 1) (Array.getElem?_eq_some_iff.1 HRQ.out).1).trans HRQ.out) _)
    have hlt5 : w.heap.size + 1 < w5.heap.size := World.block_lt_of_cell? _ _ cq5
    obtain ⟨a, ha⟩ : ∃ a, a = w.heap.size := ⟨_, rfl⟩
    obtain ⟨q, hq⟩ : ∃ q, q = w.heap.size + 1 := ⟨_, rfl⟩
    rw [← hq, ← ha]
    rw [← hq] at cq5
    rw [← ha] at ca5
    have hS5 := HH.out.below hb5
    have hks := keys_st hS5 hn lo hi hl hh
    have hlen : (rangeK S lo hi).length ≤ 1000000 := by
      have h2 : (datS S).length = S.ks.length := by unfold datS; simp
      have h3 : (rangeK S lo hi).length ≤ S.ks.length := List.length_filter_le _ _
      have := HH.out.bd.len
      omega
    have HTELL : Hid (∀ w6 p c, KeysPost w5 w6 (.slice p (rangeK S lo hi).length c) (rangeK S lo hi) → Calls Tryz.prog 27 #[.slice p (rangeK S lo hi).length c, .int .i64 limit, .func (.func 29) #[] #[ptr a, ptr q]] w6 fun e w' => ∃ p c, e = .returned (.tuple #[.slice p (toldL limit rv).length c, .int .i64 rv.length]) ∧ Hid (KR w w' (.slice p (toldL limit rv).length c) (toldL limit rv))) := fun w6 p c hP => by
      refine (tell_any p c (rangeK S lo hi) limit (ptr a) (ptr q) (fun k => atH (S.kh k) (S.rev : Int)) w6 hP.row hlen (fun W k _ hb => ?_)).mono ?_
      · have hb6 : Below w5.heap.size w5 W := hP.2.trans (hb.mono hP.2.size)
        have hbw : Below w.heap.size w W := hb5.trans (hb6.mono hb5.size)
        exact rlook_st (HH.out.below hbw) hn k (S.rev : Int) a q ((hb6.cell (p := ⟨a, 0, none⟩) (World.block_lt_of_cell? _ _ ca5)).trans ca5) ((hb6.cell (p := ⟨q, 0, none⟩) (World.block_lt_of_cell? _ _ cq5)).trans cq5)
      · rintro e w' ⟨p', c', rfl, hK⟩
        rw [HRV2.out] at hK ⊢
        refine ⟨p', c', rfl, ?_⟩
        have hb56 : Below w.heap.size w w6 := hb5.trans (hP.2.mono hb5.size)
        exact ⟨hK.1.mono hb56.size, hb56.trans (hK.2.mono hb56.size)⟩
    clear HRV HRV2
    generalize rangeK S lo hi = ks at *
    clear hw5 hS5 hb5 hlt5 ca cq fq c0 c1 HRA HRQ ha hq hlen
    go_wp2_with (first | (go_at_call 28; refine hks.mono ?_; rintro e w6 ⟨p, c, rfl, hP⟩; have htl := HTELL.out _ _ _ hP) | (go_at_call 27; refine htl.mono ?_; rintro e w7 ⟨p', c', rfl, HK7⟩))
    refine bodyPost_ret (results_tmp3 rfl _ _ _) rfl ?_
    exact ⟨p', c', rfl, HK7⟩
  · have hrv2 : (rangeK S lo hi).filterMap (fun k => atH (S.kh k) rev) = rv := by rw [← HRV.out]; unfold rangeV; rw [show revOf S rev = rev from if_neg hz]
    have HRV2 := Hid.mk'' hrv2
    clear hrv2
    have h2' : (S.past : Int) ≤ rev := h2.resolve_left hz
    have hpos : 0 < rev := by omega
    clear h2 hz
    go_upto_region 5 with fail
    go_quiet (fail)
    go_upto_region 9 with fail
    obtain ⟨w5, hw5⟩ : ∃ w5, w5 = w2.drewN (N + nq) := ⟨_, rfl⟩
    rw [← hw5]
    have hb5 : Below w.heap.size w w5 := by rw [hw5]; exact below_drewQ HB2.out _
    have ca5 : w5.cell? ⟨w.heap.size, 0, none⟩ = some (ptr s) := by rw [hw5]; exact cell_of_row _ _ _ _ _ _ (((below_drewQ (Below.refl w2.heap.size w2) (N + nq)).block w.heap.size (Array.getElem?_eq_some_iff.1 HRA.out).1).trans HRA.out)
    have cq5 : w5.cell? ⟨w.heap.size + 1, 0, none⟩ = some (.int .i64 (rev)) := by rw [hw5]; exact cell_of_row _ _ _ _ _ _ (((below_drewQ (Below.refl w2.heap.size w2) (N + nq)).block (w.heap.size + 1) (Array.getElem?_eq_some_iff.1 HRQ.out).1).trans HRQ.out)
    have hlt5 : w.heap.size + 1 < w5.heap.size := World.block_lt_of_cell? _ _ cq5
    obtain ⟨a, ha⟩ : ∃ a, a = w.heap.size := ⟨_, rfl⟩
    obtain ⟨q, hq⟩ : ∃ q, q = w.heap.size + 1 := ⟨_, rfl⟩
    rw [← hq, ← ha]
    rw [← hq] at cq5
    rw [← ha] at ca5
    have hS5 := HH.out.below hb5
    have hks := keys_st hS5 hn lo hi hl hh
    have hlen : (rangeK S lo hi).length ≤ 1000000 := by
      have h2 : (datS S).length = S.ks.length := by unfold datS; simp
      have h3 : (rangeK S lo hi).length ≤ S.ks.length := List.length_filter_le _ _
      have := HH.out.bd.len
      omega
    have HTELL : Hid (∀ w6 p c, KeysPost w5 w6 (.slice p (rangeK S lo hi).length c) (rangeK S lo hi) → Calls Tryz.prog 27 #[.slice p (rangeK S lo hi).length c, .int .i64 limit, .func (.func 29) #[] #[ptr a, ptr q]] w6 fun e w' => ∃ p c, e = .returned (.tuple #[.slice p (toldL limit rv).length c, .int .i64 rv.length]) ∧ Hid (KR w w' (.slice p (toldL limit rv).length c) (toldL limit rv))) := fun w6 p c hP => by
      refine (tell_any p c (rangeK S lo hi) limit (ptr a) (ptr q) (fun k => atH (S.kh k) (rev)) w6 hP.row hlen (fun W k _ hb => ?_)).mono ?_
      · have hb6 : Below w5.heap.size w5 W := hP.2.trans (hb.mono hP.2.size)
        have hbw : Below w.heap.size w W := hb5.trans (hb6.mono hb5.size)
        exact rlook_st (HH.out.below hbw) hn k (rev) a q ((hb6.cell (p := ⟨a, 0, none⟩) (World.block_lt_of_cell? _ _ ca5)).trans ca5) ((hb6.cell (p := ⟨q, 0, none⟩) (World.block_lt_of_cell? _ _ cq5)).trans cq5)
      · rintro e w' ⟨p', c', rfl, hK⟩
        rw [HRV2.out] at hK ⊢
        refine ⟨p', c', rfl, ?_⟩
        have hb56 : Below w.heap.size w w6 := hb5.trans (hP.2.mono hb5.size)
        exact ⟨hK.1.mono hb56.size, hb56.trans (hK.2.mono hb56.size)⟩
    clear HRV HRV2
    generalize rangeK S lo hi = ks at *
    clear hw5 hS5 hb5 hlt5 ca cq fq c0 c1 HRA HRQ ha hq hlen
    go_wp2_with (first | (go_at_call 28; refine hks.mono ?_; rintro e w6 ⟨p, c, rfl, hP⟩; have htl := HTELL.out _ _ _ hP) | (go_at_call 27; refine htl.mono ?_; rintro e w7 ⟨p', c', rfl, HK7⟩))
    refine bodyPost_ret (results_tmp3 rfl _ _ _) rfl ?_
    exact ⟨p', c', rfl, HK7⟩
end Go.Proofs.YteeflkkoifgcbabGreat
