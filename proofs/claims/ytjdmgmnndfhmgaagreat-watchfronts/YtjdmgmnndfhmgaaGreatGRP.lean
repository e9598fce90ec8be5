/- A watcher that is behind catches up. -/
import Derived.Test.YtjdmgmnndfhmgaaGreatGRO
namespace Go.Proofs.YtjdmgmnndfhmgaaGreat
open Go Go.RowKit

theorem run_max (a b : Int) (ty : TypeId) (w : World) : (Builtin.max_ #[3, 3] ty #[.int .i64 a, .int .i64 b]).run Tryz.prog w = .ok (.int .i64 (max a b)) w := by
  have e : (if b > a then b else a) = max a b := by split <;> omega
  show Result.ok (Value.int .i64 (if b > a then b else a)) w = _
  rw [e]
theorem run_min (a b : Int) (ty : TypeId) (w : World) : (Builtin.min_ #[3, 3] ty #[.int .i64 a, .int .i64 b]).run Tryz.prog w = .ok (.int .i64 (min a b)) w := by
  have e : (if b < a then b else a) = min a b := by split <;> omega
  show Result.ok (Value.int .i64 (if b < a then b else a)) w = _
  rw [e]
theorem rev_cell (w : World) (s r : Nat) (h : w.cell? ⟨s, 0, none⟩ = some (.int .i64 r)) : Calls Tryz.prog 31 #[ptr s] w fun e w' => e = .returned (.int .i64 r) ∧ w' = w := by
  go_enter Tryz.func31, Tryz.ntmps31
  go_wp2
  go_ret
  exact ⟨rfl, rfl⟩
set_option maxRecDepth 100000 in
set_option maxHeartbeats 2000000 in
theorem pass_any (w : World) (b s r t : Nat) (p : Int) (cs : Array Value) (hb : w.heap[b]? = some (.cells cs t (0, 0))) (h2 : cs[2]? = some (.int .i64 p)) (hs : w.cell? ⟨s, 0, none⟩ = some (.int .i64 r)) (hr : r ≤ 100000) :
    Calls Tryz.prog 66 #[ptr b, ptr s] w fun e w' => e = .returned (.tuple #[]) ∧ w'.heap[b]? = some (.cells (cs.set! 2 (.int .i64 (max p ((r : Int) + 1)))) t (0, 0)) ∧ Upd w w' (fun k => k = b) := by
  have c2 : w.cell? ⟨b, 2, none⟩ = some (.int .i64 p) := by rw [cell_of_row _ _ _ _ _ _ hb]; exact h2
  have f2 : w.frozen? ⟨b, 2, none⟩ = false := frozen_of_row _ _ _ _ _ hb
  have hrev := rev_cell w.drew s r hs
  have hwr : IntKind.i64.wrap ((r : Int) + 1) = (r : Int) + 1 := by rw [IntKind.wrap_i64]; omega
  have HF : Hid (∀ W v, Upd w W (fun k => k = b) → W.heap[b]? = w.heap[b]? → (W.setCell ⟨b, 2, none⟩ v).heap[b]? = some (.cells (cs.set! 2 v) t (0, 0)) ∧ Upd w (W.setCell ⟨b, 2, none⟩ v) (fun k => k = b)) := fun W v hu hW => ⟨heap_setCell_row (hW.trans hb) v, hu.setCell (.inr rfl) v⟩
  clear hb h2
  go_enter Tryz.func66, Tryz.ntmps66
  go_region_with (refine hrev.mono ?_; rintro e w3 ⟨rfl, hw3⟩; obtain rfl := hw3.symm)
  all_goals go_wp2
  all_goals first | go_end0 | refine bodyPost_ret (results_none rfl _ _ _) rfl ?_
  all_goals
    have hv : max p ((r : Int) + 1) = p ∧ (r : Int) + 1 ≤ p ∨ max p ((r : Int) + 1) = (r : Int) + 1 ∧ p < (r : Int) + 1 := by omega
    rcases hv with ⟨hv, hv2⟩ | ⟨hv, hv2⟩
    all_goals
      first
      | (exfalso; omega)
      | (rw [hv]; exact ⟨rfl, (HF.out w _ (Upd.refl _ _) rfl).1, (HF.out w _ (Upd.refl _ _) rfl).2.drew⟩)
      | (rw [hv]; rw [hwr]; exact ⟨rfl, (HF.out w _ (Upd.refl _ _) rfl).1, (HF.out w _ (Upd.refl _ _) rfl).2.drew⟩)
end Go.Proofs.YtjdmgmnndfhmgaaGreat
/- A watcher that is fed: what it takes. -/
namespace Go.Proofs.YtjdmgmnndfhmgaaGreat
open Go Go.RowKit

/-- A watcher that is fed. -/
structure Fd (w : World) (b : Nat) (v : Value) (lo hi : ByteArray) (p : Int) (l : List Evd) (fin : Int) : Prop where
  blk : w.heap[b]? = some (.cells #[.string lo, .string hi, .int .i64 p, v, .int .i64 fin] 132 (0, 0))
  row : w.ownsRow 0 63 8 v l.length (evsC l)
theorem Fd.ne {w : World} {b : Nat} {v : Value} {lo hi : ByteArray} {p : Int} {l : List Evd} {fin : Int} (h : Fd w b v lo hi p l fin) : v.ownBlock ≠ some b := fun e => by
  obtain ⟨_, c, f, hh⟩ := ownBlock_ge h.row e
  rw [h.blk] at hh
  cases hh
theorem Fd.ear {w : World} {b : Nat} {v : Value} {lo hi : ByteArray} {p : Int} {l : List Evd} {fin : Int} (h : Fd w b v lo hi p l fin) : Ear w 101 b lo hi p := ⟨.inr rfl, cell_of_row _ _ _ _ _ _ h.blk, cell_of_row _ _ _ _ _ _ h.blk, cell_of_row _ _ _ _ _ _ h.blk⟩
theorem Fd.upd {w w' : World} {T : Nat → Prop} {b : Nat} {v : Value} {lo hi : ByteArray} {p : Int} {l : List Evd} {fin : Int} (h : Fd w b v lo hi p l fin) (hu : Upd w w' T) (hb : ¬ T b) (hv : ∀ k, v.ownBlock = some k → ¬ T k) : Fd w' b v lo hi p l fin :=
  ⟨(hu.block b (Array.getElem?_eq_some_iff.1 h.blk).1 hb).trans h.blk, ownsRow_upd h.row hu hv⟩
theorem Fd.below {w w' : World} {b : Nat} {v : Value} {lo hi : ByteArray} {p : Int} {l : List Evd} {fin : Int} (h : Fd w b v lo hi p l fin) (hb : Below w.heap.size w w') : Fd w' b v lo hi p l fin := h.upd (T := fun _ => False) (Upd.ofBelow hb) (fun e => e) (fun _ _ e => e)
theorem Fd.lt {w : World} {b : Nat} {v : Value} {lo hi : ByteArray} {p : Int} {l : List Evd} {fin : Int} (h : Fd w b v lo hi p l fin) : b < w.heap.size := (Array.getElem?_eq_some_iff.1 h.blk).1
set_option maxRecDepth 100000 in
set_option maxHeartbeats 1000000 in
theorem ftake_none (w : World) (b : Nat) (v : Value) (lo hi : ByteArray) (p fin most : Int) (h : Fd w b v lo hi p [] fin) :
    Calls Tryz.prog 67 #[ptr b, .int .i64 most] w fun r w' => r = .returned (.tuple #[.slice none 0 0, .int .i64 fin]) ∧ Below w.heap.size w w' := by
  obtain ⟨pv, cv, rfl⟩ := owns_formB0 h.row
  have c3 : w.cell? ⟨b, 3, none⟩ = some (.slice pv 0 cv) := cell_of_row _ _ _ _ _ _ h.blk
  have c4 : w.cell? ⟨b, 4, none⟩ = some (.int .i64 fin) := cell_of_row _ _ _ _ _ _ h.blk
  clear h
  go_enter Tryz.func67, Tryz.ntmps67
  go_upto_region 2 with fail
  go_quiet (fail)
  go_wp2
  refine bodyPost_ret (results_tmp2 rfl _ _ _) rfl ?_
  exact ⟨rfl, below_drewN (Below.refl _ _) _⟩
set_option maxRecDepth 100000 in
set_option maxHeartbeats 2000000 in
theorem ftake_some (w : World) (b : Nat) (v : Value) (lo hi : ByteArray) (p fin most : Int) (l : List Evd) (h : Fd w b v lo hi p l fin) (hl0 : 0 < l.length) (hl : l.length ≤ 16) (n : Nat) (hn : (n : Int) = min most l.length) (hn1 : 0 < n) :
    Calls Tryz.prog 67 #[ptr b, .int .i64 most] w fun r w' => ∃ p' c', r = .returned (.tuple #[.slice p' n c', .int .i64 0]) ∧ w'.ownsRow w.heap.size 63 8 (.slice p' n c') n (evsC (l.take n)) ∧ ∃ v', Fd w' b v' lo hi p (l.drop n) fin ∧ v'.ownBlock = v.ownBlock ∧ Upd w w' (fun k => k = b ∨ v.ownBlock = some k) := by
  obtain ⟨g, cv, hv, hnc, -⟩ := owns_formB h.row hl0
  subst hv
  have c3 : w.cell? ⟨b, 3, none⟩ = some (.slice (some ⟨g, 0, none⟩) l.length cv) := cell_of_row _ _ _ _ _ _ h.blk
  have hif : (if (l.length : Int) < most then (l.length : Int) else most) = (n : Int) := by split <;> omega
  have hnl : n ≤ l.length := by omega
  have hcl := clone_any w (some ⟨g, 0, none⟩) n cv (l.take n) ((EVs.of h.row).take n hnl) (.inr ⟨g, rfl⟩) (by rw [List.length_take]; omega)
  have HH := Hid.mkW h
  have HD : Hid (∀ w2, Below w.heap.size w w2 → w2.cell? ⟨b, 3, none⟩ = some (.slice (some ⟨g, 0, none⟩) l.length cv) ∧ Calls Tryz.prog 80 #[.slice (some ⟨g, 0, none⟩) l.length cv, .int .i64 0, .int .i64 n] w2 fun e w' => ∃ v', e = .returned v' ∧ Hid (w'.ownsRow 0 63 8 v' (l.drop n).length (evsC (l.drop n)) ∧ Upd w2 w' (fun k => k = g) ∧ v'.ownBlock = some g ∧ w'.heap[b]? = some (.cells #[.string lo, .string hi, .int .i64 p, .slice (some ⟨g, 0, none⟩) l.length cv, .int .i64 fin] 132 (0, 0)))) := fun w2 h2 => by
    have H2 := HH.out.below h2
    refine ⟨cell_of_row _ _ _ _ _ _ H2.blk, ?_⟩
    refine (delE_any _ l.length 0 n _ w2 H2.row hn1 hnl (by omega) (fun u hu => evsC_one hu)).mono ?_
    rintro e w' ⟨v', rfl, q1, q2, q3, q4⟩
    have hbg : b ≠ g := fun e => H2.ne (by rw [e]; rfl)
    refine ⟨v', rfl, ?_, q2.mono (fun k _ e => by have e' : some k = some g := e; cases e'; rfl), q3, (q2.block b H2.lt (fun e => by have e' : some b = some g := e; cases e'; exact hbg rfl)).trans H2.blk⟩
    rw [Nat.zero_mul, List.take_zero, List.nil_append, evsC_drop, Nat.zero_add] at q1
    rw [List.length_drop]
    exact q1
  have hmc : (n : Int) ≤ (cv : Int) := by omega
  have hnl' : (n : Int) ≤ (l.length : Int) := by omega
  have hl1 : ¬ ((l.length : Int) = 0) := by omega
  have HN : Hid (b ≠ g) := fun e => HH.out.ne (by rw [e]; rfl)
  have HGL : Hid (g < w.heap.size) := (h.row.lt g rfl).2
  have HLT : Hid ((l.take n).length = n) := by show _ = _; rw [List.length_take]; omega
  clear h hn
  go_enter Tryz.func67, Tryz.ntmps67
  go_upto_region 5 with (go_at_call 79; refine hcl.mono ?_; rintro e w2 ⟨p2, c2, rfl, hE⟩)
  obtain ⟨d3, hdel⟩ := HD.out w2 hE.2
  have HE := Hid.mkW hE
  clear hcl c3 HD hE
  go_upto_region 6 with (go_at_call 80; refine hdel.mono ?_; rintro e w3 ⟨v3, rfl, HQ⟩; obtain ⟨p3, c3, hv3⟩ := owns_formB0 HQ.out.1; subst hv3; have f3 : w3.frozen? ⟨b, 3, none⟩ = false := (frozen_of_row _ _ _ _ _ HQ.out.2.2.2); have y3 : w3.cell? ⟨b, 3, none⟩ = some (.slice (some ⟨g, 0, none⟩) l.length cv) := (cell_of_row _ _ _ _ _ _ HQ.out.2.2.2))
  go_wp2
  refine bodyPost_ret (results_tmp2 rfl _ _ _) rfl ?_
  obtain ⟨q1, q2, q3, q4⟩ := HQ.out
  rw [List.length_drop] at q1 q3
  have hu3 : Upd w w3 (fun k => k = b ∨ (Value.slice (some ⟨g, 0, none⟩) l.length cv).ownBlock = some k) := (Upd.ofBelow HE.out.2).trans q2 (fun k _ e => .inr (by rw [e]; rfl))
  have hu4 : Upd w3 (w3.setCell ⟨b, 3, none⟩ (.slice p3 (l.length - n) c3)) (fun k => k = b) := (Upd.refl w3 (fun k => k = b)).setCell (p := ⟨b, 3, none⟩) (.inr rfl) _
  have hgb : ∀ k, (Value.slice p3 (l.length - n) c3).ownBlock = some k → ¬ k = b := fun k hk e => by rw [q3] at hk; cases hk; exact HN.out e.symm
  refine ⟨p2, c2, rfl, ?_, _, ⟨heap_setCell_row q4 _, by rw [List.length_drop]; exact ownsRow_upd q1 hu4 hgb⟩, q3, hu3.trans hu4 (fun k _ e => .inl e)⟩
  have h1 := HE.out.1
  rw [HLT.out] at h1
  have h2 := ownsRow_upd h1 q2 (fun k hk e => by have := (h1.lt k hk).1; have := HGL.out; omega)
  exact ownsRow_upd h2 hu4 (fun k hk e => by have := (h1.lt k hk).1; have := HH.out.lt; omega)
end Go.Proofs.YtjdmgmnndfhmgaaGreat
/- A watcher that is behind catches up. -/
namespace Go.Proofs.YtjdmgmnndfhmgaaGreat
open Go Go.RowKit

theorem evN_rev {S : Sto} {p : Int} {m : Nat} {e : Evd} (h : e ∈ evN S p m) : p ≤ e.1 ∧ e.1 < p + m := by
  unfold evN at h
  obtain ⟨i, hi, h2⟩ := List.mem_flatMap.1 h
  have hi' := List.mem_range.1 hi
  unfold evAt at h2
  obtain ⟨k, _, rfl⟩ := List.mem_map.1 h2
  dsimp only
  omega
theorem newsL_rev {S : Sto} {lo hi : ByteArray} {p : Int} {e : Evd} (h : e ∈ newsL S lo hi p) : p ≤ e.1 ∧ e.1 ≤ S.rev := by
  have := evN_rev (List.mem_filter.1 h).1
  omega
/-- A watcher that is behind. -/
def Bh (w : World) (b : Nat) (lo hi : ByteArray) (p : Int) : Prop := w.heap[b]? = some (.cells #[.string lo, .string hi, .int .i64 p] 112 (0, 0))
theorem Bh.ear {w : World} {b : Nat} {lo hi : ByteArray} {p : Int} (h : Bh w b lo hi p) : Ear w 108 b lo hi p := ⟨.inl rfl, cell_of_row _ _ _ _ _ _ h, cell_of_row _ _ _ _ _ _ h, cell_of_row _ _ _ _ _ _ h⟩
theorem Bh.upd {w w' : World} {T : Nat → Prop} {b : Nat} {lo hi : ByteArray} {p : Int} (h : Bh w b lo hi p) (hu : Upd w w' T) (hb : ¬ T b) : Bh w' b lo hi p := (hu.block b (Array.getElem?_eq_some_iff.1 h).1 hb).trans h
theorem Bh.lt {w : World} {b : Nat} {lo hi : ByteArray} {p : Int} (h : Bh w b lo hi p) : b < w.heap.size := (Array.getElem?_eq_some_iff.1 h).1
set_option maxRecDepth 100000 in
set_option maxHeartbeats 2000000 in
theorem catch_past {n : Nat} {w : World} {s : Nat} {S : Sto} {g : Sg} {o : Value} (H : Sk n w s S g o) (b : Nat) (lo hi : ByteArray) (p most : Int) (B : Bh w b lo hi p) (h1 : 1 ≤ p) (hp : p ≤ S.past) :
    Calls Tryz.prog 68 #[ptr b, ptr s, .int .i64 most] w fun r w' => r = .returned (.tuple #[.slice none 0 0, .bool false, .int .i64 16]) ∧ Below w.heap.size w w' := by
  have hnews := news_past H 108 b lo hi p B.ear h1 hp
  clear H B
  go_enter Tryz.func68, Tryz.ntmps68
  go_wp2_with (go_at_call 65; refine hnews.mono ?_; rintro e w' ⟨p', c', rfl, hb⟩)
  refine bodyPost_ret (results_tmp3 rfl _ _ _) rfl ?_
  exact ⟨rfl, hb⟩
/-- The place behind what was told. -/
def placeN (S : Sto) (p : Int) (L : List Evd) (n : Nat) : Int := if n = L.length then max p ((S.rev : Int) + 1) else ((L[n - 1]?.map (·.1)).getD 0) + 1
set_option maxRecDepth 100000 in
set_option maxHeartbeats 4000000 in
theorem catch_ok {n : Nat} {w : World} {s : Nat} {S : Sto} {g : Sg} {o : Value} (H : Sk n w s S g o) (b : Nat) (lo hi : ByteArray) (p most : Int) (B : Bh w b lo hi p) (_hbs : b ≠ s) (h1 : 1 ≤ p) (hp : ¬ p ≤ S.past) (hpm : p ≤ 1000000000) (L : List Evd) (hL : L = newsL S lo hi p) (m : Nat) (hm : m = wholeN most L) :
    Calls Tryz.prog 68 #[ptr b, ptr s, .int .i64 most] w fun r w' => ∃ p' c', r = .returned (.tuple #[.slice p' m c', .bool (decide (m = L.length)), .int .i64 0]) ∧ w'.ownsRow w.heap.size 63 8 (.slice p' m c') m (evsC (L.take m)) ∧ Bh w' b lo hi (placeN S p L m) ∧ Upd w w' (fun k => k = b) := by
  have hnews := news_ok H 108 b lo hi p B.ear h1 hp hpm
  rw [← hL] at hnews
  have hrv : ∀ e ∈ L, 1 ≤ e.1 ∧ e.1 ≤ 100000 := fun e he => by
    rw [hL] at he
    have h2 := newsL_rev he
    have := H.rev
    omega
  have hLl : L.length ≤ 1000000 := by rw [hL]; exact Nat.le_trans (List.length_filter_le _ _) (H.few p h1)
  have hml : m ≤ L.length := by rw [hm]; exact wholeN_le _ _
  have hmp : m < L.length → 0 < m := by rw [hm]; exact wholeN_pos _ _
  have hr := H.rev
  have HC : Hid (∀ W, Below w.heap.size w W → W.cell? ⟨s, 0, none⟩ = some (.int .i64 S.rev) ∧ Bh W b lo hi p) := fun W hW => ⟨(H.st.below hW).cells.1, B.upd (T := fun _ => False) (Upd.ofBelow hW) (fun e => e)⟩
  have hbl := B.lt
  have HM := Hid.mkW hm
  have HRV := Hid.mkW hrv
  clear H B hL hm hrv
  go_enter Tryz.func68, Tryz.ntmps68
  go_upto_region 2 with (go_at_call 65; refine hnews.mono ?_; rintro e w2 ⟨p2, c2, rfl, hE⟩)
  have hwh := whole_any w2 p2 L.length c2 L most (EVs.of hE.1) hLl
  rw [← HM.out] at hwh
  have HE := Hid.mkW hE
  clear hE hnews
  have HW3 : Hid (∀ w3, Below w2.heap.size w2 w3 → w3.cell? ⟨s, 0, none⟩ = some (.int .i64 S.rev) ∧ Bh w3 b lo hi p ∧ ER w w3 (.slice p2 L.length c2) L) := fun w3 h3 => by
    have hb := HE.out.2.trans (h3.mono HE.out.2.size)
    exact ⟨(HC.out w3 hb).1, (HC.out w3 hb).2, ownsRow_upd HE.out.1 (Upd.ofBelow (S := fun _ => False) h3) (fun _ _ h => h), hb⟩
  clear HE HC
  go_upto_region 5 with (go_at_call 81; refine hwh.mono ?_; rintro e w3 ⟨rfl, h3⟩)
  obtain ⟨hs3, hB3, hE3⟩ := HW3.out w3 h3
  have HE3 := Hid.mkW hE3
  have HB3 := Hid.mkW hB3
  clear HW3 h3 hwh
  have HFORM : Hid ((p2 = none ∧ c2 = 0 ∧ L.length = 0) ∨ ∃ g', p2 = some ⟨g', 0, none⟩ ∧ L.length ≤ c2 ∧ w.heap.size ≤ g') := by
    rcases hE3.1.2 with ⟨e, h0⟩ | ⟨g', cap, cur, e, hbg, hh, hnc, _⟩
    · simp only [Value.slice.injEq] at e; exact .inl ⟨e.1, e.2.2, h0⟩
    · cases e; exact .inr ⟨g', rfl, hnc, hbg⟩
  have HCL : Hid (∀ w4, Upd w3 w4 (fun k => k = b) → Calls Tryz.prog 79 #[.slice p2 m c2] w4 fun r w' => ∃ p' c', r = .returned (.slice p' m c') ∧ w'.ownsRow w.heap.size 63 8 (.slice p' m c') m (evsC (L.take m)) ∧ Below w4.heap.size w4 w' ∧ Upd w w' (fun k => k = b)) := fun w4 h4 => by
    have ho : w4.ownsRow w.heap.size 63 8 (.slice p2 L.length c2) L.length (evsC L) := ownsRow_upd HE3.out.1 h4 (fun k hk e => by have := (HE3.out.1.lt k hk).1; omega)
    have hu : Upd w w4 (fun k => k = b) := (Upd.ofBelow HE3.out.2).trans h4 (fun _ _ h => h)
    refine (clone_any w4 p2 m c2 (L.take m) ((EVs.of ho).take m hml) (by rcases HFORM.out with ⟨e, _⟩ | ⟨g', e, _⟩; exact .inl e; exact .inr ⟨g', e⟩) (by rw [List.length_take]; omega)).mono ?_
    rintro r w' ⟨p', c', rfl, q1, q2⟩
    have hlt : (L.take m).length = m := by rw [List.length_take]; omega
    rw [hlt] at q1
    exact ⟨p', c', rfl, ownsRow_base q1 hu.size, q2, hu.trans (Upd.ofBelow (S := fun _ => False) q2) (fun _ _ h => h.elim)⟩
  have HFIN : Hid (∀ (v : Int) w4 w5, w4.heap[b]? = some (.cells #[.string lo, .string hi, .int .i64 v] 112 (0, 0)) → Below w4.heap.size w4 w5 → Bh w5 b lo hi v) := fun v w4 w5 h4 h5 => (h5.block b (Array.getElem?_eq_some_iff.1 h4).1).trans h4
  by_cases hall : m = L.length
  · have hq : ((m : Int) == (L.length : Int)) = true := by simp; omega
    have HD : Hid (decide (m = L.length) = true ∧ placeN S p L m = max p ((S.rev : Int) + 1)) := ⟨by simp [hall], by unfold placeN; rw [if_pos hall]⟩
    have hpass := pass_any w3 b s S.rev 112 p _ hB3 rfl hs3 hr
    clear hE3 hB3 HE3 HB3 hq
    have HMM := Hid.mkW hall
    rcases HFORM.out with ⟨rfl, rfl, h0⟩ | ⟨g', rfl, hnc, -⟩
    · obtain rfl : L = [] := List.eq_nil_of_length_eq_zero h0
      obtain rfl : m = 0 := hall
      clear HFORM HMM
      go_wp2_with (first | (go_at_call 66; refine hpass.mono ?_; rintro e w4 ⟨rfl, hB4, hu4⟩; have hcl := HCL.out w4 hu4; have HB4 := Hid.mkW hB4; clear hB4) | (go_at_call 79; refine hcl.mono ?_; rintro e w5 ⟨p5, c5, rfl, q1, q2, q3⟩))
      refine bodyPost_ret (results_tmp3 rfl _ _ _) rfl ?_
      rw [HD.out.1, HD.out.2]
      exact ⟨p5, c5, rfl, q1, HFIN.out _ w4 w5 HB4.out q2, q3⟩
    · subst hall
      have hmc : (L.length : Int) ≤ (c2 : Int) := by omega
      clear HFORM HMM
      go_wp2_with (first | (go_at_call 66; refine hpass.mono ?_; rintro e w4 ⟨rfl, hB4, hu4⟩; have hcl := HCL.out w4 hu4; have HB4 := Hid.mkW hB4; clear hB4) | (go_at_call 79; refine hcl.mono ?_; rintro e w5 ⟨p5, c5, rfl, q1, q2, q3⟩))
      refine bodyPost_ret (results_tmp3 rfl _ _ _) rfl ?_
      rw [HD.out.2]
      exact ⟨p5, c5, rfl, by simpa using q1, HFIN.out _ w4 w5 HB4.out q2, q3⟩
  · have hlt : m < L.length := by omega
    have hm0 := hmp hlt
    have hq : ((m : Int) == (L.length : Int)) = false := by simp; omega
    rcases HFORM.out with ⟨rfl, rfl, h0⟩ | ⟨g', rfl, hnc, hgb⟩
    · exfalso; omega
    · obtain ⟨ev, hev⟩ : ∃ ev, L[m - 1]? = some ev := ⟨_, List.getElem?_eq_getElem (by omega)⟩
      have HD : Hid (decide (m = L.length) = false ∧ placeN S p L m = ev.1 + 1) := ⟨by simp [hall], by unfold placeN; rw [if_neg hall, hev]; rfl⟩
      have hrv := HRV.out ev (List.mem_of_getElem? hev)
      have e0 : w3.cell? ⟨g', (m - 1) * 8, none⟩ = some (.int .i64 ev.1) := by
        have := (EVs.of hE3.1).raw ((m - 1) * 8 + 0) (.int .i64 ev.1) (by rw [evsC_at hev 0 (by omega)]; rfl)
        simpa using this
      have c2b : w3.cell? ⟨b, 2, none⟩ = some (.int .i64 p) := cell_of_row _ _ _ _ _ _ hB3
      have f2 : w3.frozen? ⟨b, 2, none⟩ = false := frozen_of_row _ _ _ _ _ hB3
      have HS4 : Hid (∀ v : Int, (w3.setCell ⟨b, 2, none⟩ (.int .i64 v)).heap[b]? = some (.cells #[.string lo, .string hi, .int .i64 v] 112 (0, 0)) ∧ Upd w3 (w3.setCell ⟨b, 2, none⟩ (.int .i64 v)) (fun k => k = b)) := fun v => ⟨heap_setCell_row hB3 _, (Upd.refl w3 (fun k => k = b)).setCell (p := ⟨b, 2, none⟩) (.inr rfl) _⟩
      have hq1 : IntKind.i64.wrap ((m : Int) - 1) = ((m - 1 : Nat) : Int) := by rw [IntKind.wrap_i64]; omega
      have hq2 : (m : Int) - 1 = ((m - 1 : Nat) : Int) := by omega
      have hcl := HCL.out _ (HS4.out (ev.1 + 1)).2
      have hmc : (m : Int) ≤ (c2 : Int) := by omega
      have hml' : (m : Int) ≤ (L.length : Int) := by omega
      generalize ev.1 = r at *
      clear HFORM hE3 hB3 HE3 HB3 hev hall hlt HRV
      obtain ⟨m1, hm1⟩ : ∃ m1, m1 = m - 1 := ⟨_, rfl⟩
      rw [← hm1] at e0 hq1 hq2
      have hm1l : m1 < L.length := by omega
      clear hm1
      go_wp2_with (first | (go_at_call 79; refine hcl.mono ?_; rintro e w5 ⟨p5, c5, rfl, q1, q2, q3⟩))
      refine bodyPost_ret (results_tmp3 rfl _ _ _) rfl ?_
      rw [HD.out.1, HD.out.2]
      exact ⟨p5, c5, rfl, q1, HFIN.out _ _ w5 (HS4.out _).1 q2, q3⟩
end Go.Proofs.YtjdmgmnndfhmgaaGreat
/- A watcher that is fed. -/
namespace Go.Proofs.YtjdmgmnndfhmgaaGreat
open Go Go.RowKit

theorem own_ptr {w : World} {B e s n c : Nat} {p : Option Addr} {xs : List Value} (h : w.ownsRow B e s (.slice p n c) n xs) : p = none ∨ ∃ g, p = some ⟨g, 0, none⟩ := by
  rcases h.2 with ⟨e, _⟩ | ⟨g', cap, cur, e, _⟩
  · simp only [Value.slice.injEq] at e; exact .inl e.1
  · simp only [Value.slice.injEq] at e; exact .inr ⟨g', e.1⟩
section
variable {w : World} {b : Nat} {v : Value} {lo hi : ByteArray} {p : Int} {l : List Evd} {fin : Int}
theorem feed_done (h : Fd w b v lo hi p l fin) (s : Nat) (hf : fin ≠ 0) : Calls Tryz.prog 48 #[ptr b, ptr s] w fun r w' => r = .returned (.tuple #[]) ∧ w' = w := by
  have c4 : w.cell? ⟨b, 4, none⟩ = some (.int .i64 fin) := cell_of_row _ _ _ _ _ _ h.blk
  have hq : (fin != 0) = true := by simp [hf]
  clear h
  go_enter Tryz.func48, Tryz.ntmps48
  go_wp2
  first | go_end0 | refine bodyPost_ret (results_none rfl _ _ _) rfl ?_
  exact ⟨rfl, rfl⟩
/-- What is left of a watcher that ends. -/
theorem Fd.end_ {w' : World} (h : Fd w b v lo hi p l 0) (hb : Below w.heap.size w w') (e : Int) : Fd (w'.setCell ⟨b, 4, none⟩ (.int .i64 e)) b v lo hi p l e ∧ Upd w (w'.setCell ⟨b, 4, none⟩ (.int .i64 e)) (fun k => k = b) := by
  have h1 := h.below hb
  have hu : Upd w' (w'.setCell ⟨b, 4, none⟩ (.int .i64 e)) (fun k => k = b) := (Upd.refl w' (fun k => k = b)).setCell (p := ⟨b, 4, none⟩) (.inr rfl) _
  exact ⟨⟨heap_setCell_row h1.blk _, ownsRow_upd h1.row hu (fun k hk e => h1.ne (by rw [hk, e]))⟩, (Upd.ofBelow hb).trans hu (fun _ _ h => h)⟩
variable {n : Nat} {s : Nat} {S : Sto} {g : Sg} {o : Value}
set_option maxRecDepth 100000 in
set_option maxHeartbeats 1000000 in
theorem feed_past (H : Sk n w s S g o) (h : Fd w b v lo hi p l 0) (h1 : 1 ≤ p) (hp : p ≤ S.past) : Calls Tryz.prog 48 #[ptr b, ptr s] w fun r w' => r = .returned (.tuple #[]) ∧ Fd w' b v lo hi p l 16 ∧ Upd w w' (fun k => k = b) := by
  have c4 : w.cell? ⟨b, 4, none⟩ = some (.int .i64 0) := cell_of_row _ _ _ _ _ _ h.blk
  have hnews := news_past H 101 b lo hi p h.ear h1 hp
  have HF : Hid (∀ W, Below w.heap.size w W → W.cell? ⟨b, 4, none⟩ = some (.int .i64 0) ∧ W.frozen? ⟨b, 4, none⟩ = false) := fun W hW => ⟨cell_of_row _ _ _ _ _ _ (h.below hW).blk, frozen_of_row _ _ _ _ _ (h.below hW).blk⟩
  have HE := Hid.mkW (fun W (hW : Below w.heap.size w W) => h.end_ hW 16)
  clear h H
  go_enter Tryz.func48, Tryz.ntmps48
  go_wp2_with (go_at_call 65; refine hnews.mono ?_; rintro e w2 ⟨p2, c2, rfl, hb2⟩; obtain ⟨y4, f4⟩ := HF.out w2 hb2)
  first | go_end0 | refine bodyPost_ret (results_none rfl _ _ _) rfl ?_
  exact ⟨rfl, HE.out w2 hb2⟩
set_option maxRecDepth 100000 in
set_option maxHeartbeats 1000000 in
theorem feed_full (H : Sk n w s S g o) (h : Fd w b v lo hi p l 0) (h1 : 1 ≤ p) (hp : ¬ p ≤ S.past) (hpm : p ≤ 1000000000) (hl : l.length ≤ 16) (hf : 16 < l.length + (newsL S lo hi p).length) : Calls Tryz.prog 48 #[ptr b, ptr s] w fun r w' => r = .returned (.tuple #[]) ∧ Fd w' b v lo hi p l 14 ∧ Upd w w' (fun k => k = b) := by
  have c4 : w.cell? ⟨b, 4, none⟩ = some (.int .i64 0) := cell_of_row _ _ _ _ _ _ h.blk
  have hnews := news_ok H 101 b lo hi p h.ear h1 hp hpm
  have hLl : (newsL S lo hi p).length ≤ 1000000 := Nat.le_trans (List.length_filter_le _ _) (H.few p h1)
  obtain ⟨L, hL⟩ : ∃ L, L = newsL S lo hi p := ⟨_, rfl⟩
  rw [← hL] at hnews hf hLl
  obtain ⟨pv, cv, hv⟩ := owns_formB0 h.row
  subst hv
  have HF : Hid (∀ W, Below w.heap.size w W → W.cell? ⟨b, 4, none⟩ = some (.int .i64 0) ∧ W.frozen? ⟨b, 4, none⟩ = false ∧ W.cell? ⟨b, 3, none⟩ = some (.slice pv l.length cv)) := fun W hW => ⟨cell_of_row _ _ _ _ _ _ (h.below hW).blk, frozen_of_row _ _ _ _ _ (h.below hW).blk, cell_of_row _ _ _ _ _ _ (h.below hW).blk⟩
  have HE := Hid.mkW (fun W (hW : Below w.heap.size w W) => h.end_ hW 14)
  have hq : (16 : Int) < (l.length : Int) + (L.length : Int) := by omega
  clear h H hL
  go_enter Tryz.func48, Tryz.ntmps48
  go_wp2_with (go_at_call 65; refine hnews.mono ?_; rintro e w2 ⟨p2, c2, rfl, hE2⟩; obtain ⟨y4, f4, y3⟩ := HF.out w2 hE2.2)
  first | go_end0 | refine bodyPost_ret (results_none rfl _ _ _) rfl ?_
  exact ⟨rfl, HE.out w2 hE2.2⟩
set_option maxRecDepth 100000 in
set_option maxHeartbeats 2000000 in
theorem feed_ok (H : Sk n w s S g o) (h : Fd w b v lo hi p l 0) (hbs : b ≠ s) (hvs : v.ownBlock ≠ some s) (h1 : 1 ≤ p) (hp : ¬ p ≤ S.past) (hpm : p ≤ 1000000000) (hl : l.length ≤ 16) (hf : ¬ 16 < l.length + (newsL S lo hi p).length) :
    Calls Tryz.prog 48 #[ptr b, ptr s] w fun r w' => r = .returned (.tuple #[]) ∧ ∃ v', Fd w' b v' lo hi (max p ((S.rev : Int) + 1)) (l ++ newsL S lo hi p) 0 ∧ Upd w w' (fun k => k = b ∨ v.ownBlock = some k) ∧ ∀ k, v'.ownBlock = some k → v.ownBlock = some k ∨ w.heap.size ≤ k := by
  have c4 : w.cell? ⟨b, 4, none⟩ = some (.int .i64 0) := cell_of_row _ _ _ _ _ _ h.blk
  have hnews := news_ok H 101 b lo hi p h.ear h1 hp hpm
  obtain ⟨L, hL⟩ : ∃ L, L = newsL S lo hi p := ⟨_, rfl⟩
  rw [← hL] at hnews hf ⊢
  obtain ⟨pv, cv, hv⟩ := owns_formB0 h.row
  subst hv
  obtain ⟨t9, hti, hz0, hz1, hz2⟩ := info_parts info85
  have hr := H.rev
  have hsl : s < w.heap.size := (Array.getElem?_eq_some_iff.1 H.st.blk).1
  have HH := Hid.mkW h
  have HS : Hid (∀ W, Below w.heap.size w W → W.cell? ⟨s, 0, none⟩ = some (.int .i64 S.rev)) := fun W hW => (H.st.below hW).cells.1
  have hq : ¬ (16 : Int) < (l.length : Int) + (L.length : Int) := by omega
  clear h H hL
  go_enter Tryz.func48, Tryz.ntmps48
  go_upto_region 2 with (first | (go_at_call 65; refine hnews.mono ?_; rintro e w2 ⟨p2, c2, rfl, hE2⟩; have H2 := HH.out.below hE2.2; have HE2 := Hid.mkW hE2; have y3 : w2.cell? ⟨b, 3, none⟩ = some (.slice pv l.length cv) := cell_of_row _ _ _ _ _ _ H2.blk; have HB2 := Hid.mkW H2; clear H2 hE2))
  have hsrc := (EVs.of HE2.out.1).src (own_ptr HE2.out.1)
  have hown := HB2.out.row
  have hbl := HB2.out.lt
  have hne := HB2.out.ne
  obtain ⟨V, hV⟩ : ∃ V, V = Value.slice pv l.length cv := ⟨_, rfl⟩
  have HAP : Hid (∀ p3 c3 w3, w3.ownsRow 0 63 8 (.slice p3 (l.length + L.length) c3) (l.length + L.length) (evsC l ++ evsC L) → Upd w2 w3 (fun k => some k = (Value.slice pv l.length cv).ownBlock) → ((Value.slice p3 (l.length + L.length) c3).ownBlock = (Value.slice pv l.length cv).ownBlock ∨ (Value.slice p3 (l.length + L.length) c3).ownBlock = some w2.heap.size) →
      w3.cell? ⟨b, 3, none⟩ = some (.slice pv l.length cv) ∧ w3.frozen? ⟨b, 3, none⟩ = false ∧ (w3.setCell ⟨b, 3, none⟩ (.slice p3 (l.length + L.length) c3)).heap[b]? = some (.cells #[.string lo, .string hi, .int .i64 p, .slice p3 (l.length + L.length) c3, .int .i64 0] 132 (0, 0)) ∧ (w3.setCell ⟨b, 3, none⟩ (.slice p3 (l.length + L.length) c3)).cell? ⟨s, 0, none⟩ = some (.int .i64 S.rev) ∧
      (w3.setCell ⟨b, 3, none⟩ (.slice p3 (l.length + L.length) c3)).ownsRow 0 63 8 (.slice p3 (l.length + L.length) c3) (l.length + L.length) (evsC l ++ evsC L) ∧ Upd w (w3.setCell ⟨b, 3, none⟩ (.slice p3 (l.length + L.length) c3)) (fun k => k = b ∨ (Value.slice pv l.length cv).ownBlock = some k) ∧ (∀ k, (Value.slice p3 (l.length + L.length) c3).ownBlock = some k → k ≠ b) ∧ ∀ k, (Value.slice p3 (l.length + L.length) c3).ownBlock = some k → (Value.slice pv l.length cv).ownBlock = some k ∨ w.heap.size ≤ k) := fun p3 c3 w3 q1 q2 q3 => by
    have hb3 : w3.heap[b]? = some (.cells #[.string lo, .string hi, .int .i64 p, .slice pv l.length cv, .int .i64 0] 132 (0, 0)) := (q2.block b hbl (fun e => hne e.symm)).trans HB2.out.blk
    have hbn : ∀ k, (Value.slice p3 (l.length + L.length) c3).ownBlock = some k → k ≠ b := fun k hk e => by
      rcases q3 with h | h
      · rw [h, e] at hk; exact hne hk
      · rw [h] at hk; cases hk; omega
    have hu4 : Upd w3 (w3.setCell ⟨b, 3, none⟩ (.slice p3 (l.length + L.length) c3)) (fun k => k = b) := (Upd.refl w3 (fun k => k = b)).setCell (p := ⟨b, 3, none⟩) (.inr rfl) _
    have hs3 : w3.cell? ⟨s, 0, none⟩ = some (.int .i64 S.rev) := (q2.cell (p := ⟨s, 0, none⟩) (Nat.lt_of_lt_of_le hsl HE2.out.2.size) (fun e => hvs e.symm)).trans (HS.out w2 HE2.out.2)
    refine ⟨cell_of_row _ _ _ _ _ _ hb3, frozen_of_row _ _ _ _ _ hb3, heap_setCell_row hb3 _, (hu4.cell (p := ⟨s, 0, none⟩) (World.block_lt_of_cell? _ _ hs3) (fun e => hbs e.symm)).trans hs3, ownsRow_upd q1 hu4 (fun k hk e => hbn k hk e), ((Upd.ofBelow HE2.out.2).trans q2 (fun k _ e => .inr e.symm)).trans hu4 (fun k _ e => .inl e), hbn, fun k hk => ?_⟩
    rcases q3 with h | h
    · rw [h] at hk; exact .inl hk
    · rw [h] at hk; cases hk; exact .inr HE2.out.2.size
  have hsum : l.length + L.length ≤ 1000000000 := by omega
  clear hnews HS HE2 HB2 HH hne hV
  go_upto_region 3 with (at_builtin; refine wpList_appS _ rfl (.tmp 22) (.tmp 23) 28 28 rfl 0 63 t9 _ 8 Tryz.underlying28 hti hz0 hz1 rfl (by rw [hz2]; decide) _ l.length (evsC l) rfl hown _ rfl L.length (evsC L) hsrc hsum (Nat.zero_le _) ?_; intro v' w3 q1 q2 q3 q4; obtain ⟨np, nc, hnv⟩ := owns_formB0 q1; subst hnv; obtain ⟨z1, z2, z3, z4, z5, z6, z7, z8⟩ := HAP.out np nc w3 q1 q2 q3; clear q3 q4 q2 q1)
  obtain ⟨w4, hw4⟩ : ∃ w4, w4 = w3.setCell ⟨b, 3, none⟩ (.slice np (l.length + L.length) nc) := ⟨_, rfl⟩
  rw [← hw4] at z3 z4 z5 z6 ⊢
  have hpass := pass_any w4 b s S.rev 132 p _ z3 rfl z4 hr
  have HZ5 := Hid.mkW z5
  have HZ6 := Hid.mkW z6
  clear hw4 z5 z6 z1 z2 HAP hown hsrc y3
  go_wp2_with (first | (go_at_call 66; refine hpass.mono ?_; rintro e w5 ⟨rfl, q1, q2⟩))
  first | go_end0 | refine bodyPost_ret (results_none rfl _ _ _) rfl ?_
  refine ⟨rfl, _, ⟨q1, ?_⟩, HZ6.out.trans q2 (fun k _ e => .inl e), z8⟩
  rw [List.length_append, evsC_app]
  exact ownsRow_upd HZ5.out q2 (fun k hk e => z7 k hk e)
end
end Go.Proofs.YtjdmgmnndfhmgaaGreat
