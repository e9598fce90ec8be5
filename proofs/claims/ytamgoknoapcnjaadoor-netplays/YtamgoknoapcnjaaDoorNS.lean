/- A net of small messages: sending, doubling. -/
import Derived.Test.YtamgoknoapcnjaaDoorNR
namespace Go.Proofs.YtamgoknoapcnjaaDoor
open Go Go.RowKit
theorem infoP : (Tryd.prog.info? 90).map (fun i => (i.zero, i.size, i.bytes)) = some (some (.pointer none), 1, 8) := by kernel_rfl
theorem rowO_ne {w : World} {base e s n : Nat} {v : Value} {xs : List Value} (h : RowO w base e s v n xs) {b T : Nat} {row : Array Value} (hx : Bx b row T w) (hT : T ≠ e) : some b ≠ v.ownBlock := by
  rcases h.2 with ⟨rfl, _⟩ | ⟨g, off, cap, cur, rfl, _, hh, _⟩
  · simp [Value.ownBlock]
  · intro e1
    obtain rfl : b = g := by simpa [Value.ownBlock] using e1
    have := hx.symm.trans hh
    simp at this
    exact hT this.2
theorem bx_ne {w : World} {b c T U : Nat} {r q : Array Value} (h : Bx b r T w) (k : Bx c q U w) (hT : T ≠ U) : b ≠ c := by
  rintro rfl
  have := h.symm.trans k
  simp at this
  exact hT this.2
theorem Nt.upd {base d : Nat} {w w' : World} {v : Value} {l : List Int} {bs : List Nat} {S : Nat → Prop} (h : Nt base w d v l bs) (hu : Upd w w' S) (hd : ¬ S d) (hv : ∀ k, v.ownBlock = some k → ¬ S k) (hb : ∀ b row, Bx b row 28 w → ¬ S b) : Nt base w' d v l bs :=
  ⟨h.x.upd hu hd, h.row.upd hu hv, h.len, fun i b s h1 h2 => (h.m i b s h1 h2).upd hu (hb b _ (h.m i b s h1 h2))⟩
theorem Nt.below {base d : Nat} {w w' : World} {v : Value} {l : List Int} {bs : List Nat} (h : Nt base w d v l bs) (hb : Below w.heap.size w w') : Nt base w' d v l bs :=
  h.upd (S := fun _ => False) (Upd.ofBelow hb) (fun h => h) (fun _ _ h => h) (fun _ _ _ h => h)
theorem src_ptr (w : World) (b : Nat) : Src Tryd.prog 1 86 (.slice (some ⟨w.heap.size, 0, none⟩) 1 1) 1 [ptr b] (w.alloc (.cells #[ptr b] 90)) :=
  Src.ofSlice _ Tryd.underlying86 ⟨w.heap.size, 0, none⟩ 1 1 _ rfl (fun j u hj => by
    rw [Addr.add_lit, cell_of_row _ _ _ _ _ _ (row_alloc w _ 90), Nat.zero_add]
    simpa using hj) (fun u hu => by
    simp at hu
    rcases hu with rfl
    rfl)
/-- A message is behind the others. -/
theorem Nt.push {base d : Nat} {w w4 w5 : World} {v v5 : Value} {l : List Int} {bs : List Nat} {s : Int} {b : Nat} (h : Nt base w d v l bs) (hb : Below w.heap.size w w4) (hx : Bx b (srow s) 28 w4)
    (q1 : RowO w5 base 90 1 v5 (l.length + 1) (bs.map ptr ++ [ptr b])) (q2 : Upd w4 w5 (fun k => some k = v.ownBlock)) :
    Nt base (w5.setCell ⟨d, 0, none⟩ v5) d v5 (l ++ [s]) (bs ++ [b]) ∧ Upd w (w5.setCell ⟨d, 0, none⟩ v5) (fun k => k = d ∨ some k = v.ownBlock) := by
  have h4 := h.below hb
  have hd4 := rowO_ne h4.row h4.x (by decide)
  have hx5 : Bx d #[v] 88 w5 := h4.x.upd q2 hd4
  have u5 : Upd w5 (w5.setCell ⟨d, 0, none⟩ v5) (fun k => k = d) := (Upd.refl w5 (fun k => k = d)).setCell (.inr rfl) _
  have hd5 := rowO_ne q1 hx5 (by decide)
  refine ⟨⟨hx5.set 0 _ rfl, ?_, by simp [h.len], fun i c t h1 h2 => ?_⟩, ?_⟩
  · have := q1.upd u5 (fun k hk e => by
      have e1 : k = d := e
      rw [e1] at hk
      exact hd5 hk.symm)
    simpa using this
  · have key : ∀ (c : Nat) (t : Int), Bx c (srow t) 28 w4 → Bx c (srow t) 28 (w5.setCell ⟨d, 0, none⟩ v5) := fun c t hc => by
      have h5 := hc.upd q2 (rowO_ne h4.row hc (by decide))
      exact h5.upd u5 (bx_ne h5 hx5 (by decide))
    by_cases hi : i < l.length
    · have h1' : bs[i]? = some c := by rw [← h1, List.getElem?_append_left (by rw [h.len]; exact hi)]
      have h2' : l[i]? = some t := by rw [← h2, List.getElem?_append_left hi]
      exact key c t (h4.m i c t h1' h2')
    · have hil : i = l.length := by
        have := (List.getElem?_eq_some_iff.1 h2).1
        simp at this
        omega
      subst hil
      have e1 : b = c := by rw [← h.len] at h1; simpa using h1
      have e2 : s = t := by simpa using h2
      subst e1 e2
      exact key _ _ hx
  · exact ((Upd.ofBelow hb).trans (q2.mono (fun k _ e => .inr e)) (fun _ _ h => h)).trans (u5.mono (fun k _ e => .inl e)) (fun _ _ h => h)
theorem boxed (w : World) (row : Array Value) : Bx w.heap.size row 28 ((w.alloc (.cells zrow 28)).setRow w.heap.size row) ∧ Below w.heap.size w ((w.alloc (.cells zrow 28)).setRow w.heap.size row) := by
  have hr : Bx w.heap.size zrow 28 (w.alloc (.cells zrow 28)) := row_alloc w zrow 28
  obtain ⟨h1, h2⟩ := hr.fill (row' := row)
  have hb : Below w.heap.size w (w.alloc (.cells zrow 28)) := (Below.refl _ _).alloc (Nat.le_refl _) _
  exact ⟨h1, hb.trans (h2.below hb.size (fun k hk e => by have e1 : k = w.heap.size := e; omega))⟩
set_option maxRecDepth 100000 in
set_option maxHeartbeats 2000000 in
theorem send_small {base d g : Nat} {w : World} {v : Value} {l : List Int} {bs : List Nat} (h : Nt base w d v l bs) (s : Int) (hg : Bx g (srow s) 28 w) (hB : base ≤ w.heap.size) (hl : l.length ≤ 100000) :
    Calls Tryd.prog 18 #[ptr d, .slice (some ⟨g, 0, none⟩) 1 1] w fun e w' => e = .returned (.tuple #[]) ∧ ∃ v' b, Nt base w' d v' (l ++ [s]) (bs ++ [b]) ∧ Upd w w' (fun k => k = d ∨ some k = v.ownBlock) := by
  obtain ⟨ao, c, rfl, _⟩ := h.row.form
  obtain ⟨i0, hi, hz0, hz1, hz2⟩ := info_parts infoP
  have HN := Hid.mkW h
  have HG := Hid.mkW hg
  clear h
  go_enter Tryd.func18, Tryd.ntmps18
  go_wp2
  go_loopg [5, 6, 9] 2 (fun kx _s5 _s6 s9 wq => ∃ j : Nat, s9 = .int .i64 j ∧ kx + j = 2 ∧ j ≤ 1 ∧ Hid ((j = 0 → wq = w) ∧ (j = 1 → ∃ v' b, Nt base wq d v' (l ++ [s]) (bs ++ [b]) ∧ Upd w wq (fun k => k = d ∨ some k = (Value.slice ao l.length c).ownBlock))))
  case atStart => exact ⟨0, rfl, rfl, by omega, ⟨fun _ => rfl, fun h => absurd h (by decide)⟩⟩
  case round =>
    obtain ⟨j, rfl, hk, hj, HJ⟩ := hrel
    by_cases h0 : j = 0
    · subst h0
      have hwr := HJ.out.1 rfl
      obtain rfl := hwr.symm
      clear HJ
      have hr1 : (w.alloc (.cells zrow 28)).heap[w.heap.size]? = some (.cells zrow 28 (0, 0)) := row_alloc w zrow 28
      obtain ⟨hx1, hb1⟩ := boxed w (srow s)
      go_upto_region 3 with (first
        | (refine wpList_load_row rfl 28 _ rfl g rfl 28 _ (0, 0) _ hg Tryd.underlying28 rfl (by kernel_rfl) ?_)
        | (refine wpList_store_row rfl 28 _ _ rfl w.heap.size (srow s) rfl rfl 28 zrow hr1 (by kernel_rfl) rfl (by kernel_rfl) ?_))
      obtain ⟨w1, hw1⟩ : ∃ w1, w1 = (w.alloc (.cells zrow 28)).setRow w.heap.size (srow s) := ⟨_, rfl⟩
      rw [← hw1] at hx1 hb1
      unfold zrow at hw1
      rw [← hw1]
      clear hw1 hr1
      have hcl := clone_small s w1
      go_wp2_with (refine wpList_load_row rfl 28 _ rfl w.heap.size rfl 28 _ (0, 0) _ hx1 Tryd.underlying28 rfl (by kernel_rfl) ?_)
      refine hcl.mono ?_
      rintro e w2 ⟨rfl, hb2⟩
      have hr2 : (w2.alloc (.cells zrow 28)).heap[w2.heap.size]? = some (.cells zrow 28 (0, 0)) := row_alloc w2 zrow 28
      obtain ⟨hx3, hb3⟩ := boxed w2 (srow s)
      have HB3 := Hid.mkW (hb1.trans ((hb2.trans (hb3.mono hb2.size)).mono hb1.size))
      clear hcl hb1 hx1 hb2
      go_upto_region 4 with (refine wpList_store_row rfl 28 _ _ rfl w2.heap.size (srow s) rfl rfl 28 zrow hr2 (by kernel_rfl) rfl (by kernel_rfl) ?_)
      obtain ⟨w3, hw3⟩ : ∃ w3, w3 = (w2.alloc (.cells zrow 28)).setRow w2.heap.size (srow s) := ⟨_, rfl⟩
      rw [← hw3] at hx3 HB3
      unfold zrow at hw3
      rw [← hw3]
      clear hw3 hr2 hb3
      obtain ⟨b, hb⟩ : ∃ b, b = w2.heap.size := ⟨_, rfl⟩
      rw [← hb] at hx3 ⊢
      clear hb
      have h3 := HN.out.below HB3.out
      have e0 : w3.cell? ⟨d, 0, none⟩ = some (.slice ao l.length c) := h3.x.cell 0
      have hb4 : Below w3.heap.size w3 (w3.alloc (.cells #[ptr b] 90)) := (Below.refl _ _).alloc (Nat.le_refl _) _
      have HB4 := Hid.mkW (HB3.out.trans (hb4.mono HB3.out.size))
      have hrow := (h3.below hb4).row
      have HX4 := Hid.mkW (hx3.below hb4)
      have hBs : base ≤ (w3.alloc (.cells #[ptr b] 90)).heap.size := Nat.le_trans hB HB4.out.size
      have HX5 : Hid (∀ w5 v5, RowO w5 base 90 1 v5 (l.length + 1) (bs.map ptr ++ [ptr b]) → Upd (w3.alloc (.cells #[ptr b] 90)) w5 (fun k => some k = (Value.slice ao l.length c).ownBlock) → w5.cell? ⟨d, 0, none⟩ = some (.slice ao l.length c) ∧ w5.frozen? ⟨d, 0, none⟩ = false) := fun w5 v5 _ q2 => by
        have hx := ((h3.below hb4).x).upd q2 (rowO_ne hrow (h3.below hb4).x (by decide))
        exact ⟨hx.cell 0, hx.free 0⟩
      clear h3 hb4 hx3
      go_wp2_with (at_builtin; refine wpList_appO _ rfl (.tmp 19) (.tmp 20) 86 86 rfl base 90 i0 _ 1 Tryd.underlying86 hi hz0 hz1 rfl (by rw [hz2]; decide) _ l.length (bs.map ptr) rfl hrow _ rfl 1 _ (src_ptr w3 b) (by omega) hBs ?_; intro v5 w5 q1 q2 _q3; obtain ⟨e5, f5⟩ := HX5.out w5 v5 q1 q2; have HQ := Hid.mkW (Nt.push HN.out HB4.out HX4.out q1 q2); obtain ⟨a5, c5, rfl, _⟩ := q1.form; clear q1 q2 _q3)
      go_roundg 1
      case measure => omega
      case rel =>
        exact ⟨1, rfl, by omega, by omega, ⟨fun h => absurd h (by decide), fun _ => ⟨_, b, HQ.out.1, HQ.out.2⟩⟩⟩
    · obtain rfl : j = 1 := by omega
      clear hg
      go_wp2
      go_end0
      obtain ⟨v', b, h1, h2⟩ := HJ.out.2 (by simp)
      exact ⟨rfl, ⟨v', b, h1⟩, h2⟩
theorem pickF_bd (i : Int) (n : Nat) (hn : 0 < n) : 0 ≤ pickF i n ∧ pickF i n < n := by
  unfold pickF
  exact ⟨Int.emod_nonneg _ (by omega), Int.emod_lt_of_pos _ (by omega)⟩
set_option maxRecDepth 100000 in
set_option maxHeartbeats 2000000 in
theorem double_small {base d : Nat} {w : World} {v : Value} {l : List Int} {bs : List Nat} (h : Nt base w d v l bs) (i : Int) (k : Nat) (s : Int) (hk : pickF i l.length = k) (hs : l[k]? = some s) (hB : base ≤ w.heap.size) (hl : l.length ≤ 100000) :
    Calls Tryd.prog 21 #[ptr d, iv i] w fun e w' => e = .returned (iv 0) ∧ ∃ v' b, Nt base w' d v' (l ++ [s]) (bs ++ [b]) ∧ Upd w w' (fun k => k = d ∨ some k = v.ownBlock) := by
  have hkl := (List.getElem?_eq_some_iff.1 hs).1
  have hp := pick_some h i (by omega) (by omega)
  rw [hk] at hp
  obtain ⟨b, hbk⟩ : ∃ b, bs[k]? = some b := ⟨_, List.getElem?_eq_getElem (by rw [h.len]; exact hkl)⟩
  have hxb := h.m k b s hbk hs
  have hpk : (bs.map ptr)[k]? = some (ptr b) := by rw [List.getElem?_map, hbk]; rfl
  rcases h.row.2 with ⟨_, h0⟩ | ⟨g, off, c, cur, rfl, _⟩
  · omega
  have hcell := h.row.cell k _ hpk
  have e0 : w.cell? ⟨d, 0, none⟩ = some (.slice (some ⟨g, off, none⟩) l.length c) := h.x.cell 0
  have hxl : Bx w.heap.size (srow s) 28 (w.alloc (.cells (srow s) 28)) := row_alloc w _ 28
  have hb1 : Below w.heap.size w (w.alloc (.cells (srow s) 28)) := (Below.refl _ _).alloc (Nat.le_refl _) _
  have hsd := send_small (h.below hb1) s hxl (Nat.le_trans hB hb1.size) hl
  have HB1 := Hid.mkW hb1
  clear h hbk hb1 hxl hs hk
  unfold srow at hsd hxb
  go_enter Tryd.func21, Tryd.ntmps21
  go_upto_region 4 with (go_at_call 49; refine hp.mono ?_; rintro e w2 ⟨rfl, hw2⟩; obtain rfl := hw2.symm)
  go_wp2_with (refine wpList_load_row rfl 28 _ rfl b rfl 28 _ (0, 0) _ hxb Tryd.underlying28 rfl (by kernel_rfl) ?_)
  refine hsd.mono ?_
  rintro e w3 ⟨rfl, v', b', hn, hu⟩
  have HN := Hid.mkW hn
  have HU := Hid.mkW hu
  clear hn hu hsd
  go_wp2
  go_ret
  refine ⟨rfl, v', b', HN.out, (Upd.ofBelow HB1.out).trans HU.out (fun _ _ h => h)⟩
end Go.Proofs.YtamgoknoapcnjaaDoor
