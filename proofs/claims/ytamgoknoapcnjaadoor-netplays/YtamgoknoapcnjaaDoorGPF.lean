/- A net of any messages: sending. -/
import Derived.Test.YtamgoknoapcnjaaDoorGPC
import Derived.Test.YtamgoknoapcnjaaDoorNS
namespace Go.Proofs.YtamgoknoapcnjaaDoor
open Go Go.RowKit
/-- Blocks that a net's messages may lie in: its own ones, but neither the net's box nor its row. -/
def Zn (base : Nat) (X : Nat → Prop) (w : World) (d : Nat) (v : Value) (k : Nat) : Prop := base ≤ k ∧ k < w.heap.size ∧ ¬ X k ∧ k ≠ d ∧ some k ≠ v.ownBlock
/-- A net at block d: its messages, in order, each in a box of its own; X: blocks that are none of its. -/
structure Nn (base : Nat) (X : Nat → Prop) (w : World) (d : Nat) (v : Value) (l : List Md) (bs : List Nat) : Prop where
  x : Bx d #[v] 88 w
  row : RowO w base 90 1 v l.length (bs.map ptr)
  len : bs.length = l.length
  nd : ¬ X d
  nv : ∀ k, v.ownBlock = some k → ¬ X k
  nb : ∀ b ∈ bs, ¬ X b
  m : ∀ (i : Nat) (b : Nat) (m : Md), bs[i]? = some b → l[i]? = some m → ∃ ve vv vd, Bx b (mrow m ve vv vd) 28 w ∧ Ms (Zn base X w d v) w ve vv vd m
section
variable {base d : Nat} {X : Nat → Prop} {w w' : World} {v : Value} {l : List Md} {bs : List Nat}
theorem Nn.law (h : Nn base X w d v l bs) {S : Nat → Prop} (hu : Upd w w' S) (hS : ∀ k, k < w.heap.size → S k → X k) : Nn base X w' d v l bs :=
  ⟨h.x.upd hu (fun e => h.nd (hS d h.x.lt e)), h.row.upd hu (fun k hk e => h.nv k hk (hS k (h.row.lt hk).2 e)), h.len, h.nd, h.nv, h.nb, fun i b m h1 h2 => by
    obtain ⟨ve, vv, vd, hx, hm⟩ := h.m i b m h1 h2
    exact ⟨ve, vv, vd, hx.upd hu (fun e => h.nb b (List.mem_of_getElem? h1) (hS b hx.lt e)), (hm.upd hu (fun k hk hl e => hk.2.2.1 (hS k hl e))).mono (fun k hk => ⟨hk.1, Nat.lt_of_lt_of_le hk.2.1 hu.size, hk.2.2⟩)⟩⟩
theorem Nn.below (h : Nn base X w d v l bs) (hb : Below w.heap.size w w') : Nn base X w' d v l bs := h.law (Upd.ofBelow (S := fun _ => False) hb) (fun _ _ h => h.elim)
/-- Other blocks of the law's. -/
theorem Nn.reX (h : Nn base X w d v l bs) {X' : Nat → Prop} (hX : ∀ k, k < w.heap.size → X' k → X k) : Nn base X' w d v l bs :=
  ⟨h.x, h.row, h.len, fun e => h.nd (hX d h.x.lt e), fun k hk e => h.nv k hk (hX k (h.row.lt hk).2 e), fun b hb e => by
    obtain ⟨i, hi⟩ := List.getElem?_of_mem hb
    have hil := (List.getElem?_eq_some_iff.1 hi).1
    obtain ⟨_, _, _, hx, _⟩ := h.m i b _ hi (List.getElem?_eq_getElem (by rw [← h.len]; exact hil))
    exact h.nb b hb (hX b hx.lt e), fun i b m h1 h2 => by
    obtain ⟨ve, vv, vd, hx, hm⟩ := h.m i b m h1 h2
    exact ⟨ve, vv, vd, hx, hm.mono (fun k hk => ⟨hk.1, hk.2.1, fun e => hk.2.2.1 (hX k hk.2.1 e), hk.2.2.2⟩)⟩⟩
/-- A message is behind the others. -/
theorem Nn.push {w4 w5 : World} {v5 : Value} {m : Md} {b : Nat} {ve vv vd : Value} (h : Nn base X w d v l bs) (hb : Below w.heap.size w w4) (hx : Bx b (mrow m ve vv vd) 28 w4) (hnb : ¬ X b) (hbl : base ≤ w.heap.size) (hX : ∀ k, X k → k < w.heap.size) (hm : Ms (fun k => w.heap.size ≤ k) w4 ve vv vd m)
    (q1 : RowO w5 base 90 1 v5 (l.length + 1) (bs.map ptr ++ [ptr b])) (q2 : Upd w4 w5 (fun k => some k = v.ownBlock)) (q3 : v5.ownBlock = v.ownBlock ∨ v5.ownBlock = some w4.heap.size) :
    Nn base X (w5.setCell ⟨d, 0, none⟩ v5) d v5 (l ++ [m]) (bs ++ [b]) ∧ Upd w (w5.setCell ⟨d, 0, none⟩ v5) (fun k => k = d ∨ some k = v.ownBlock) := by
  have h4 := h.below hb
  have hd4 := rowO_ne h4.row h4.x (by decide)
  have hx5 : Bx d #[v] 88 w5 := h4.x.upd q2 hd4
  have u5 : Upd w5 (w5.setCell ⟨d, 0, none⟩ v5) (fun k => k = d) := (Upd.refl w5 (fun k => k = d)).setCell (.inr rfl) _
  have hd5 := rowO_ne q1 hx5 (by decide)
  have hw4 := hb.size
  refine ⟨⟨hx5.set 0 _ rfl, ?_, by simp [h.len], h.nd, fun k hk e => ?_, fun c hc => ?_, fun i c t h1 h2 => ?_⟩, ?_⟩
  · have := q1.upd u5 (fun k hk e => by
      have e1 : k = d := e
      rw [e1] at hk
      exact hd5 hk.symm)
    simpa using this
  · rcases q3 with q3 | q3
    · exact h.nv k (q3 ▸ hk) e
    · rw [q3] at hk
      cases hk
      have := hX _ e
      omega
  · rcases List.mem_append.1 hc with h1 | h1
    · exact h.nb c h1
    · obtain rfl := List.mem_singleton.1 h1
      exact hnb
  · have key : ∀ (c : Nat) (t : Md) (ve vv vd : Value), Bx c (mrow t ve vv vd) 28 w4 → Ms (fun k => k < w4.heap.size ∧ base ≤ k ∧ ¬ X k ∧ k ≠ d ∧ some k ≠ v.ownBlock) w4 ve vv vd t → ∃ ve vv vd, Bx c (mrow t ve vv vd) 28 (w5.setCell ⟨d, 0, none⟩ v5) ∧ Ms (Zn base X (w5.setCell ⟨d, 0, none⟩ v5) d v5) (w5.setCell ⟨d, 0, none⟩ v5) ve vv vd t := fun c t ve vv vd hc hmc => by
      have h5 := hc.upd q2 (rowO_ne h4.row hc (by decide))
      refine ⟨ve, vv, vd, h5.upd u5 (bx_ne h5 hx5 (by decide)), ((hmc.upd q2 (fun k hk _ e => hk.2.2.2.2 e)).upd u5 (fun k hk _ e => hk.2.2.2.1 e)).mono (fun k hk => ⟨hk.2.1, Nat.lt_of_lt_of_le hk.1 (Nat.le_trans q2.size u5.size), hk.2.2.1, hk.2.2.2.1, fun e => ?_⟩)⟩
      rcases q3 with q3 | q3
      · exact hk.2.2.2.2 (e.trans q3)
      · rw [q3] at e
        cases e
        exact Nat.lt_irrefl _ hk.1
    by_cases hi : i < l.length
    · have h1' : bs[i]? = some c := by rw [← h1, List.getElem?_append_left (by rw [h.len]; exact hi)]
      have h2' : l[i]? = some t := by rw [← h2, List.getElem?_append_left hi]
      obtain ⟨a1, a2, a3, hxx, hmm⟩ := h4.m i c t h1' h2'
      exact key c t a1 a2 a3 hxx (hmm.mono (fun k hk => ⟨hk.2.1, hk.1, hk.2.2⟩))
    · have hil : i = l.length := by
        have := (List.getElem?_eq_some_iff.1 h2).1
        simp at this
        omega
      subst hil
      have e1 : b = c := by rw [← h.len] at h1; simpa using h1
      have e2 : m = t := by simpa using h2
      subst e1 e2
      have hdl := h.x.lt
      refine key _ _ ve vv vd hx (Ms.mono (Z := fun k => w.heap.size ≤ k ∧ k < w4.heap.size) ⟨?_, ?_, ?_⟩ (fun k hk => ⟨hk.2, by omega, fun e => by have := hX k e; omega, by omega, fun e => by have := (h.row.lt e.symm).2; omega⟩))
      · obtain ⟨p, c, e, a, b, hh⟩ := hm.e
        refine ⟨p, c, e, a, b, fun i x hi => ?_⟩
        obtain ⟨g, o, e', hz, hc⟩ := hh i x hi
        obtain ⟨u, h3, hbu⟩ := hc.c3
        exact ⟨g, o, e', ⟨hz, World.block_lt_of_cell? _ _ hc.c0⟩, hc.c0, hc.c1, hc.c2, u, h3, hbu.strong⟩
      · obtain ⟨p, c, e, a, b, hh⟩ := hm.v
        refine ⟨p, c, e, a, b, fun i x hi => ?_⟩
        obtain ⟨g, o, e', hz, hc⟩ := hh i x hi
        exact ⟨g, o, e', ⟨hz, World.block_lt_of_cell? _ _ hc⟩, hc⟩
      · exact hm.d.strong
  · exact ((Upd.ofBelow hb).trans (q2.mono (fun k _ e => .inr e)) (fun _ _ h => h)).trans (u5.mono (fun k _ e => .inl e)) (fun _ _ h => h)
end
end Go.Proofs.YtamgoknoapcnjaaDoor
/- A net of any messages: a message sent; the place that is picked; how many. -/
namespace Go.Proofs.YtamgoknoapcnjaaDoor
open Go Go.RowKit
section
variable {base d : Nat} {X : Nat → Prop} {w : World} {v : Value} {l : List Md} {bs : List Nat}
set_option maxRecDepth 100000 in
set_option maxHeartbeats 4000000 in
theorem Nn.send (h : Nn base X w d v l bs) {Z : Nat → Prop} {g : Nat} {m : Md} {ve vv vd : Value} (hg : Bx g (mrow m ve vv vd) 28 w) (hm : Ms Z w ve vv vd m) (hZ : ∀ k, Z k → k < w.heap.size) (hs : Small m) (hB : base ≤ w.heap.size) (hX : ∀ k, X k → k < w.heap.size) (hl : l.length ≤ 100000) :
    Calls Tryd.prog 18 #[ptr d, .slice (some ⟨g, 0, none⟩) 1 1] w fun e w' => e = .returned (.tuple #[]) ∧ ∃ v' b, Nn base X w' d v' (l ++ [m]) (bs ++ [b]) ∧ Upd w w' (fun k => k = d ∨ some k = v.ownBlock) := by
  obtain ⟨ao, c, rfl, _⟩ := h.row.form
  obtain ⟨i0, hi, hz0, hz1, hz2⟩ := info_parts infoP
  obtain ⟨R, hR⟩ : ∃ R, R = mrow m ve vv vd := ⟨_, rfl⟩
  rw [← hR] at hg
  have HR := Hid.mkW hR
  have HRs : Hid (R.size = 15) := by show _ = _; rw [hR]; rfl
  have hRa : R.all (·.oneCell') = true := by
    obtain ⟨pe, ce, rfl, -, -, -⟩ := hm.e
    obtain ⟨pv, cv, rfl, -, -, -⟩ := hm.v
    obtain ⟨pd, cd, rfl⟩ := hm.d.slice
    rw [hR]
    kernel_rfl
  have HN := Hid.mkW h
  have HM := Hid.mkW hm
  have HZ := Hid.mkW hZ
  have HS := Hid.mkW hs
  have HX := Hid.mkW hX
  clear h hR hm hZ hs hX
  go_enter Tryd.func18, Tryd.ntmps18
  go_wp2
  go_loopg [5, 6, 9] 2 (fun kx _s5 _s6 s9 wq => ∃ j : Nat, s9 = .int .i64 j ∧ kx + j = 2 ∧ j ≤ 1 ∧ Hid ((j = 0 → wq = w) ∧ (j = 1 → ∃ v' b, Nn base X wq d v' (l ++ [m]) (bs ++ [b]) ∧ Upd w wq (fun k => k = d ∨ some k = (Value.slice ao l.length c).ownBlock))))
  case atStart => exact ⟨0, rfl, rfl, by omega, ⟨fun _ => rfl, fun h => absurd h (by decide)⟩⟩
  case round =>
    obtain ⟨j, rfl, hk, hj, HJ⟩ := hrel
    by_cases h0 : j = 0
    · subst h0
      have hwr := HJ.out.1 rfl
      obtain rfl := hwr.symm
      clear HJ
      have hr1 : (w.alloc (.cells zrow 28)).heap[w.heap.size]? = some (.cells zrow 28 (0, 0)) := row_alloc w zrow 28
      obtain ⟨hx1, hb1⟩ := boxed w R
      go_upto_region 3 with (first
        | (refine wpList_load_row rfl 28 _ rfl g rfl 28 _ (0, 0) _ hg Tryd.underlying28 rfl (by rw [HRs.out]; kernel_rfl) ?_)
        | (refine wpList_store_row rfl 28 _ _ rfl w.heap.size R rfl rfl 28 zrow hr1 (by rw [HRs.out]; kernel_rfl) (by rw [HRs.out]; rfl) hRa ?_))
      obtain ⟨w1, hw1⟩ : ∃ w1, w1 = (w.alloc (.cells zrow 28)).setRow w.heap.size R := ⟨_, rfl⟩
      rw [← hw1] at hx1 hb1
      unfold zrow at hw1
      rw [← hw1]
      clear hw1 hr1
      have hcl := clone_msg Z w1 m ve vv vd (HM.out.below hb1) HS.out (fun k hk => Nat.lt_of_lt_of_le (HZ.out k hk) hb1.size)
      rw [← HR.out] at hcl
      go_wp2_with (refine wpList_load_row rfl 28 _ rfl w.heap.size rfl 28 _ (0, 0) _ hx1 Tryd.underlying28 rfl (by rw [HRs.out]; kernel_rfl) ?_)
      refine hcl.mono ?_
      rintro e w2 ⟨pe, ce, pv, cv, pd, cd, rfl, hm2, hb2⟩
      obtain ⟨Q, hQ⟩ : ∃ Q, Q = mrow m (.slice pe m.es.length ce) (.slice pv m.vs.length cv) (.slice pd m.data.length cd) := ⟨_, rfl⟩
      rw [← hQ]
      have HQ' := Hid.mkW hQ
      have HQs : Hid (Q.size = 15) := by show _ = _; rw [hQ]; rfl
      have hQa : Q.all (·.oneCell') = true := by rw [hQ]; kernel_rfl
      have hr2 : (w2.alloc (.cells zrow 28)).heap[w2.heap.size]? = some (.cells zrow 28 (0, 0)) := row_alloc w2 zrow 28
      obtain ⟨hx3, hb3⟩ := boxed w2 Q
      have HB3 := Hid.mkW (hb1.trans ((hb2.trans (hb3.mono hb2.size)).mono hb1.size))
      have HM3 := Hid.mkW ((hm2.below hb3).mono (Z' := fun k => w.heap.size ≤ k) (fun k hk => Nat.le_trans hb1.size hk))
      have hs2 := Nat.le_trans hb1.size hb2.size
      clear hcl hb1 hx1 hb2 hm2 hQ
      go_upto_region 4 with (refine wpList_store_row rfl 28 _ _ rfl w2.heap.size Q rfl rfl 28 zrow hr2 (by rw [HQs.out]; kernel_rfl) (by rw [HQs.out]; rfl) hQa ?_)
      obtain ⟨w3, hw3⟩ : ∃ w3, w3 = (w2.alloc (.cells zrow 28)).setRow w2.heap.size Q := ⟨_, rfl⟩
      rw [← hw3] at hx3 HB3 HM3
      unfold zrow at hw3
      rw [← hw3]
      clear hw3 hr2 hb3
      obtain ⟨b, hb⟩ : ∃ b, b = w2.heap.size := ⟨_, rfl⟩
      rw [← hb] at hx3 ⊢
      have hwb : w.heap.size ≤ b := by omega
      have HNX : Hid (¬ X b) := fun e => by have := HX.out b e; omega
      clear hb hs2
      have h3 := HN.out.below HB3.out
      have e0 : w3.cell? ⟨d, 0, none⟩ = some (.slice ao l.length c) := h3.x.cell 0
      have hb4 : Below w3.heap.size w3 (w3.alloc (.cells #[ptr b] 90)) := (Below.refl _ _).alloc (Nat.le_refl _) _
      have HB4 := Hid.mkW (HB3.out.trans (hb4.mono HB3.out.size))
      have HM4 := Hid.mkW (HM3.out.below hb4)
      have hrow := (h3.below hb4).row
      rw [HQ'.out] at hx3
      have HX4 := Hid.mkW (hx3.below hb4)
      have hBs : base ≤ (w3.alloc (.cells #[ptr b] 90)).heap.size := Nat.le_trans hB HB4.out.size
      have HX5 : Hid (∀ w5 v5, RowO w5 base 90 1 v5 (l.length + 1) (bs.map ptr ++ [ptr b]) → Upd (w3.alloc (.cells #[ptr b] 90)) w5 (fun k => some k = (Value.slice ao l.length c).ownBlock) → w5.cell? ⟨d, 0, none⟩ = some (.slice ao l.length c) ∧ w5.frozen? ⟨d, 0, none⟩ = false) := fun w5 v5 _ q2 => by
        have hx := ((h3.below hb4).x).upd q2 (rowO_ne hrow (h3.below hb4).x (by decide))
        exact ⟨hx.cell 0, hx.free 0⟩
      clear h3 hb4 hx3
      go_wp2_with (at_builtin; refine wpList_appO _ rfl (.tmp 19) (.tmp 20) 86 86 rfl base 90 i0 _ 1 Tryd.underlying86 hi hz0 hz1 rfl (by rw [hz2]; decide) _ l.length (bs.map ptr) rfl hrow _ rfl 1 _ (src_ptr w3 b) (by omega) hBs ?_; intro v5 w5 q1 q2 q3; obtain ⟨e5, f5⟩ := HX5.out w5 v5 q1 q2; have HQ := Hid.mkW (Nn.push HN.out HB4.out HX4.out HNX.out hB HX.out HM4.out q1 q2 q3); obtain ⟨a5, c5, rfl, _⟩ := q1.form; clear q1 q2 q3)
      go_roundg 1
      case measure => omega
      case rel =>
        exact ⟨1, rfl, by omega, by omega, ⟨fun h => absurd h (by decide), fun _ => ⟨_, b, HQ.out.1, HQ.out.2⟩⟩⟩
    · obtain rfl : j = 1 := by omega
      clear hg
      go_wp2
      go_end0
      obtain ⟨v', b, h1, h2⟩ := HJ.out.2 (by simp)
      exact ⟨rfl, ⟨v', b, h1⟩, h2⟩
theorem Nn.len_any (h : Nn base X w d v l bs) : Calls Tryd.prog 22 #[ptr d] w fun e w' => e = .returned (iv (l.length : Nat)) ∧ w' = w := by
  obtain ⟨ao, c, rfl, _⟩ := h.row.form
  have e0 : w.cell? ⟨d, 0, none⟩ = some (.slice ao l.length c) := h.x.cell 0
  clear h
  go_enter Tryd.func22, Tryd.ntmps22
  go_wp2
  go_ret
  exact ⟨rfl, rfl⟩
theorem Nn.pick_none (h : Nn base X w d v [] []) (i : Int) : Calls Tryd.prog 49 #[ptr d, iv i] w fun e w' => e = .returned (.tuple #[iv 0, iv 2]) ∧ w' = w := by
  obtain ⟨ao, c, rfl, _⟩ := h.row.form
  have e0 : w.cell? ⟨d, 0, none⟩ = some (.slice ao 0 c) := h.x.cell 0
  clear h
  go_enter Tryd.func49, Tryd.ntmps49
  go_wp2
  go_ret2
  exact ⟨rfl, rfl⟩
theorem Nn.pick_some (h : Nn base X w d v l bs) (i : Int) (hl : 0 < l.length) (hm : l.length ≤ 1000000) : Calls Tryd.prog 49 #[ptr d, iv i] w fun e w' => e = .returned (.tuple #[iv (pickF i l.length), iv 0]) ∧ w' = w := by
  obtain ⟨ao, c, rfl, _⟩ := h.row.form
  have e0 : w.cell? ⟨d, 0, none⟩ = some (.slice ao l.length c) := h.x.cell 0
  obtain ⟨n, hn⟩ : ∃ n, n = l.length := ⟨_, rfl⟩
  rw [← hn] at e0 hl hm ⊢
  have h1 := Int.lt_tmod_of_pos i (b := n) (by omega)
  have h2 := Int.tmod_lt_of_pos i (b := n) (by omega)
  have hn0 : ((n : Int) == 0) = false := by simp; omega
  have hp : 0 ≤ i.tmod n + n := by omega
  clear h hn
  go_enter Tryd.func49, Tryd.ntmps49
  go_wp2
  go_ret2
  exact ⟨rfl, rfl⟩
theorem Nn.new (w : World) (X : Nat → Prop) (hX : ∀ k, X k → k < w.heap.size) : Calls Tryd.prog 17 #[] w fun e w' => e = .returned (ptr w.heap.size) ∧ Nn w.heap.size X w' w.heap.size (.slice none 0 0) [] [] ∧ Below w.heap.size w w' := by
  go_enter Tryd.func17, Tryd.ntmps17
  go_wp2
  go_ret
  exact ⟨rfl, ⟨row_alloc w _ 88, RowO.nil _ _ _ _, rfl, fun e => by have := hX _ e; omega, fun k hk => by simp [Value.ownBlock] at hk, fun b hb => by simp at hb, fun i b s h => by simp at h⟩, (Below.refl _ _).alloc (Nat.le_refl _) _⟩
end
end Go.Proofs.YtamgoknoapcnjaaDoor
/- A net of any messages: doubling. -/
namespace Go.Proofs.YtamgoknoapcnjaaDoor
open Go Go.RowKit
section
variable {base d : Nat} {X : Nat → Prop} {w : World} {v : Value} {l : List Md} {bs : List Nat}
set_option maxRecDepth 100000 in
set_option maxHeartbeats 4000000 in
theorem Nn.double (h : Nn base X w d v l bs) (i : Int) (k : Nat) (m : Md) (hk : pickF i l.length = k) (hs : l[k]? = some m) (hsm : Small m) (hB : base ≤ w.heap.size) (hX : ∀ k, X k → k < w.heap.size) (hl : l.length ≤ 100000) :
    Calls Tryd.prog 21 #[ptr d, iv i] w fun e w' => e = .returned (iv 0) ∧ ∃ v' b, Nn base X w' d v' (l ++ [m]) (bs ++ [b]) ∧ Upd w w' (fun k => k = d ∨ some k = v.ownBlock) := by
  have hkl := (List.getElem?_eq_some_iff.1 hs).1
  have hp := h.pick_some i (by omega) (by omega)
  rw [hk] at hp
  obtain ⟨b, hbk⟩ : ∃ b, bs[k]? = some b := ⟨_, List.getElem?_eq_getElem (by rw [h.len]; exact hkl)⟩
  obtain ⟨ve, vv, vd, hxb, hmb⟩ := h.m k b m hbk hs
  have hpk : (bs.map ptr)[k]? = some (ptr b) := by rw [List.getElem?_map, hbk]; rfl
  rcases h.row.2 with ⟨_, h0⟩ | ⟨g, off, c, cur, rfl, _⟩
  · omega
  have hcell := h.row.cell k _ hpk
  have e0 : w.cell? ⟨d, 0, none⟩ = some (.slice (some ⟨g, off, none⟩) l.length c) := h.x.cell 0
  obtain ⟨pe, ce, rfl, -, -, -⟩ := hmb.e
  obtain ⟨pv, cv, rfl, -, -, -⟩ := hmb.v
  obtain ⟨pd, cd, rfl⟩ := hmb.d.slice
  have hxl : Bx w.heap.size (mrow m (.slice pe m.es.length ce) (.slice pv m.vs.length cv) (.slice pd m.data.length cd)) 28 (w.alloc (.cells (mrow m (.slice pe m.es.length ce) (.slice pv m.vs.length cv) (.slice pd m.data.length cd)) 28)) := row_alloc w _ 28
  have hb1 : Below w.heap.size w (w.alloc (.cells (mrow m (.slice pe m.es.length ce) (.slice pv m.vs.length cv) (.slice pd m.data.length cd)) 28)) := (Below.refl _ _).alloc (Nat.le_refl _) _
  have hsd := (h.below hb1).send hxl (hmb.below hb1) (fun k hk => Nat.lt_of_lt_of_le hk.2.1 hb1.size) hsm (Nat.le_trans hB hb1.size) (fun k hk => Nat.lt_of_lt_of_le (hX k hk) hb1.size) hl
  have HB1 := Hid.mkW hb1
  clear h hbk hb1 hxl hs hk hmb hsm hX
  unfold mrow at hsd hxb
  go_enter Tryd.func21, Tryd.ntmps21
  go_upto_region 4 with (go_at_call 49; refine hp.mono ?_; rintro e w2 ⟨rfl, hw2⟩; obtain rfl := hw2.symm)
  go_wp2_with (refine wpList_load_row rfl 28 _ rfl b rfl 28 _ (0, 0) _ hxb Tryd.underlying28 rfl (by kernel_rfl) ?_)
  refine hsd.mono ?_
  rintro e w3 ⟨rfl, v', b', hn, hu⟩
  have HN := Hid.mkW hn
  have HU := Hid.mkW hu
  clear hn hu hsd
  go_wp2
  go_ret
  refine ⟨rfl, v', b', HN.out, (Upd.ofBelow HB1.out).trans HU.out (fun _ _ h => h)⟩
theorem Nn.double_none (h : Nn base X w d v [] []) (i : Int) : Calls Tryd.prog 21 #[ptr d, iv i] w fun e w' => e = .returned (iv 2) ∧ w' = w := by
  have hp := h.pick_none i
  clear h
  go_enter Tryd.func21, Tryd.ntmps21
  go_wp2_with (go_at_call 49; refine hp.mono ?_; rintro e w2 ⟨rfl, hw2⟩; obtain rfl := hw2.symm)
  go_ret
  exact ⟨rfl, rfl⟩
end
end Go.Proofs.YtamgoknoapcnjaaDoor
