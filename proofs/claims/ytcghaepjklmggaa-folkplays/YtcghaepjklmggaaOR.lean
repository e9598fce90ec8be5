/- Lists of results; ownResult, ownList of results, ownReply, ownRow: the same anew. -/
import Derived.Test.YtcghaepjklmggaaOL
namespace Go.Proofs.Ytcghaepjklmggaa
open Go Go.RowKit
theorem heap_setCell_other {w : World} (p : Addr) (u : Value) {g : Nat} (h : g ≠ p.block) : (w.setCell p u).heap[g]? = w.heap[g]? := by
  unfold World.setCell
  simp [Array.getElem?_modify, Ne.symm h]
structure Rs where
  n : Int
  kvs : List KVd
/-- A result in memory. -/
structure HasR (Z : Nat → Prop) (w : World) (g o : Nat) (r : Rs) : Prop where
  c0 : w.cell? ⟨g, o, none⟩ = some (.int .i64 r.n)
  c1 : ∃ u, w.cell? ⟨g, o + 1, none⟩ = some u ∧ KVs Z w u r.kvs
  ln : r.kvs.length ≤ 2199023255552
theorem HasR.upd {Z S : Nat → Prop} {w w' : World} {g o : Nat} {r : Rs} (h : HasR Z w g o r) (hz : Z g) (hl : g < w.heap.size) (hu : Upd w w' S) (hS : ∀ k, Z k → ¬ S k) : HasR Z w' g o r := by
  have hc := fun j => hu.cell (p := ⟨g, j, none⟩) hl (hS g hz)
  obtain ⟨u, h1, h2⟩ := h.c1
  exact ⟨(hc _).trans h.c0, ⟨u, (hc _).trans h1, h2.upd hu hS⟩, h.ln⟩
/-- A list of results that can be read; its blocks are of Z. -/
def RSs (Z : Nat → Prop) (w : World) (v : Value) (l : List Rs) : Prop :=
  ∃ p c, v = .slice p l.length c ∧ ∀ i r, l[i]? = some r → ∃ g o, p = some ⟨g, o, none⟩ ∧ Z g ∧ g < w.heap.size ∧ HasR Z w g (o + i * 2) r
theorem RSs.upd {Z S : Nat → Prop} {w w' : World} {v : Value} {l : List Rs} (h : RSs Z w v l) (hu : Upd w w' S) (hS : ∀ k, Z k → ¬ S k) : RSs Z w' v l := by
  obtain ⟨p, c, rfl, hh⟩ := h
  refine ⟨p, c, rfl, fun i kv hi => ?_⟩
  obtain ⟨g, o, e, hz, hl, hk⟩ := hh i kv hi
  exact ⟨g, o, e, hz, Nat.lt_of_lt_of_le hl hu.size, hk.upd hz hl hu hS⟩
theorem RSs.below {Z : Nat → Prop} {w w' : World} {v : Value} {l : List Rs} (h : RSs Z w v l) (hb : Below w.heap.size w w') : RSs Z w' v l := h.upd (S := fun _ => False) (Upd.ofBelow hb) (fun _ _ h => h)
theorem RSs.mono {Z Z' : Nat → Prop} {w : World} {v : Value} {l : List Rs} (h : RSs Z w v l) (hz : ∀ k, Z k → Z' k) : RSs Z' w v l := by
  obtain ⟨p, c, rfl, hh⟩ := h
  refine ⟨p, c, rfl, fun i kv hi => ?_⟩
  obtain ⟨g, o, e, hz1, hl, hk⟩ := hh i kv hi
  obtain ⟨u, h1, h2⟩ := hk.c1
  exact ⟨g, o, e, hz g hz1, hl, hk.c0, ⟨u, h1, h2.mono hz⟩, hk.ln⟩
theorem RSs.nil (Z : Nat → Prop) (w : World) : RSs Z w (.slice none 0 0) [] := ⟨none, 0, rfl, fun i kv hi => by simp at hi⟩
set_option maxRecDepth 100000 in
set_option maxHeartbeats 1000000 in
theorem own_res {Z : Nat → Prop} (n : Int) (l : List KVd) (u : Value) (w : World) (hv : KVs Z w u l) (hl : l.length ≤ 2199023255552) :
    Calls Try.prog 22 #[.agg #[.int .i64 n, u]] w fun e w' => ∃ u', e = .returned (.agg #[.int .i64 n, u']) ∧ KVs (fun k => w.heap.size ≤ k) w' u' l ∧ Below w.heap.size w w' := by
  obtain ⟨W0, hW0⟩ : ∃ W0, W0 = (w.alloc (.cells #[.int .i64 n, u] 58)).alloc (.cells #[.int .i64 0, .slice none 0 0] 58) := ⟨_, rfl⟩
  have hb0 : Below w.heap.size w W0 := by rw [hW0]; exact ((Below.refl _ _).alloc (Nat.le_refl _) _).alloc (by simp) _
  have hs0 : W0.heap.size = w.heap.size + 2 := by rw [hW0]; simp
  have hcall := own_kvs l u W0 (hv.below hb0) hl
  obtain ⟨p, c, rfl, _⟩ := hv
  have k0 : W0.heap[w.heap.size]? = some (.cells #[.int .i64 n, .slice p l.length c] 58 (0, 0)) := by
    rw [hW0]
    have := heap_alloc_new w (.cells #[.int .i64 n, .slice p l.length c] 58)
    rw [← this]
    exact Below.heap_alloc _ _ _ (by simp)
  have k1 : W0.heap[w.heap.size + 1]? = some (.cells #[.int .i64 0, .slice none 0 0] 58 (0, 0)) := by
    rw [hW0]
    have := heap_alloc_new (w.alloc (.cells #[.int .i64 n, .slice p l.length c] 58)) (.cells #[.int .i64 0, .slice none 0 0] 58)
    simpa using this
  go_enter Try.func22, Try.ntmps22
  go_upto_region 1 with fail
  rw [← hW0]
  obtain ⟨bx, hbx⟩ : ∃ bx, bx = w.heap.size := ⟨_, rfl⟩
  rw [← hbx] at k0 k1 hs0 ⊢
  have hbl : bx < W0.heap.size := by omega
  have hrl : bx + 1 < W0.heap.size := by omega
  have q1 : W0.cell? ⟨bx, 1, none⟩ = some (.slice p l.length c) := cell_of_row _ _ _ _ _ _ k0
  have HB0 := Hid.mk'' hb0
  have HBX := Hid.mk'' hbx
  have HS0 := Hid.mk'' hs0
  clear hW0 hb0 hbx hs0
  go_wp2_with (go_at_call 26; refine hcall.mono ?_; rintro e w1 ⟨v', rfl, hv', bel⟩
               have r0 := (bel.block bx hbl).trans k0
               have r1 := (bel.block (bx + 1) hrl).trans k1
               have c0 : w1.cell? ⟨bx, 0, none⟩ = some (.int .i64 n) := cell_of_row _ _ _ _ _ _ r0
               have c1 : w1.cell? ⟨bx, 1, none⟩ = some (.slice p l.length c) := cell_of_row _ _ _ _ _ _ r0
               have f1 : w1.frozen? ⟨bx, 1, none⟩ = false := by simp [World.frozen?, r0]
               have d0 : w1.cell? ⟨bx + 1, 0, none⟩ = some (.int .i64 0) := cell_of_row _ _ _ _ _ _ r1
               have d1 : w1.cell? ⟨bx + 1, 1, none⟩ = some (.slice none 0 0) := cell_of_row _ _ _ _ _ _ r1
               have g0 : w1.frozen? ⟨bx + 1, 0, none⟩ = false := by simp [World.frozen?, r1]
               have g1 : w1.frozen? ⟨bx + 1, 1, none⟩ = false := by simp [World.frozen?, r1]
               have HR1 := Hid.mk'' r1
               have HV := Hid.mk'' hv'
               have HBE := Hid.mk'' bel
               obtain ⟨p', c', hve, _⟩ := hv'
               subst hve
               clear r0 r1 bel hcall)
  have HQ := heap_setCell_row (heap_setCell_row ((heap_setCell_other (w := w1) ⟨bx, 1, none⟩ (.slice p' l.length c') (g := bx + 1) (by show bx + 1 ≠ bx; omega)).trans HR1.out) 0 (.int .i64 n)) 1 (.slice p' l.length c')
  refine bodyPost_ret (results_cell_row rfl _ _ (bx + 1) 58 #[.int .i64 n, .slice p' l.length c'] (0, 0) _ rfl HQ Try.underlying58 rfl (by kernel_rfl)) rfl ?_
  have e1 := HBX.out
  have e2 := HS0.out
  have hu : Upd w1 (((w1.setCell ⟨bx, 1, none⟩ (.slice p' l.length c')).setCell ⟨bx + 1, 0, none⟩ (.int .i64 n)).setCell ⟨bx + 1, 1, none⟩ (.slice p' l.length c')) (fun k => k = bx ∨ k = bx + 1) :=
    (((Upd.refl _ _).setCell (p := ⟨bx, 1, none⟩) (.inr (.inl rfl)) _).setCell (p := ⟨bx + 1, 0, none⟩) (.inr (.inr rfl)) _).setCell (p := ⟨bx + 1, 1, none⟩) (.inr (.inr rfl)) _
  refine ⟨_, rfl, (HV.out.upd hu (fun k hk e => by have hk' : W0.heap.size ≤ k := hk; omega)).mono (fun k hk => by have hk' : W0.heap.size ≤ k := hk; show w.heap.size ≤ k; omega), ?_⟩
  exact (HB0.out.trans (HBE.out.mono HB0.out.size)).trans (hu.below (by have := HB0.out.size; have := HBE.out.size; omega) (fun k hk e => by omega))
theorem set2 (cur : Array Value) (k j : Nat) (a0 a1 : Value) (hk : k + 2 ≤ cur.size) :
    ((cur.setIfInBounds k a0).setIfInBounds (k + 1) a1)[j]? = if j < k ∨ k + 2 ≤ j then cur[j]? else [a0, a1][j - k]? := by
  simp only [Array.getElem?_setIfInBounds, Array.size_setIfInBounds]
  by_cases h : j < k ∨ k + 2 ≤ j
  · rw [if_pos h, if_neg (by omega), if_neg (by omega)]
  · rw [if_neg h]
    have : j = k ∨ j = k + 1 := by omega
    rcases this with rfl | rfl
    · rw [if_neg (by omega), if_pos rfl, if_pos (by omega), Nat.sub_self]; rfl
    · rw [if_pos rfl, if_pos (by omega), Nat.add_sub_cancel_left]; rfl
/-- The list of results that is being made. -/
structure MR (w wq : World) (G : Nat) (l : List Rs) (i : Nat) : Prop where
  row : ∃ cur, wq.heap[G]? = some (.cells cur 58 (0, 0)) ∧ cur.size = l.length * 2
  dn : ∀ j r, j < i → l[j]? = some r → HasR (fun k => G < k) wq G (0 + j * 2) r
  bel : Below w.heap.size w wq
theorem HasR.of {Z : Nat → Prop} {w w' : World} {g o : Nat} {r : Rs} (h : HasR Z w g o r) (h0 : w'.cell? ⟨g, o, none⟩ = w.cell? ⟨g, o, none⟩) (h1 : w'.cell? ⟨g, o + 1, none⟩ = w.cell? ⟨g, o + 1, none⟩) (hk : ∀ u, KVs Z w u r.kvs → KVs Z w' u r.kvs) : HasR Z w' g o r := by
  obtain ⟨u, q1, q2⟩ := h.c1
  exact ⟨h0.trans h.c0, ⟨u, h1.trans q1, hk u q2⟩, h.ln⟩
theorem MR.below {w wq w' : World} {G : Nat} {l : List Rs} {i : Nat} (h : MR w wq G l i) (hb : Below wq.heap.size wq w') : MR w w' G l i := by
  obtain ⟨cur, h1, h2⟩ := h.row
  have hG : G < wq.heap.size := (Array.getElem?_eq_some_iff.1 h1).1
  have hc := fun t => hb.cell (p := ⟨G, t, none⟩) hG
  exact ⟨⟨cur, (hb.block G hG).trans h1, h2⟩, fun j kv hj hk => (h.dn j kv hj hk).of (hc _) (hc _) (fun u hu => hu.below hb), h.bel.trans (hb.mono h.bel.size)⟩
theorem MR.put {w wq : World} {G : Nat} {l : List Rs} {i : Nat} {r : Rs} {u : Value} (h : MR w wq G l i) (hG : w.heap.size ≤ G) (hi : l[i]? = some r) (hu : KVs (fun k => G < k) wq u r.kvs) (hn : r.kvs.length ≤ 2199023255552) :
    MR w ((wq.setCell ⟨G, i * 2, none⟩ (.int .i64 r.n)).setCell ⟨G, i * 2 + 1, none⟩ u) G l (i + 1) := by
  obtain ⟨cur, h1, h2⟩ := h.row
  have hil : i < l.length := (List.getElem?_eq_some_iff.1 hi).1
  have hsz : i * 2 + 2 ≤ cur.size := by omega
  have HQ := heap_setCell_row (heap_setCell_row h1 (i * 2) (.int .i64 r.n)) (i * 2 + 1) u
  have hcell := fun j => (cell_of_row _ _ j _ _ _ HQ).trans (set2 cur (i * 2) j _ _ hsz)
  have hup : Upd wq ((wq.setCell ⟨G, i * 2, none⟩ (.int .i64 r.n)).setCell ⟨G, i * 2 + 1, none⟩ u) (fun k => k = G) := ((Upd.refl _ (fun k => k = G)).setCell (p := ⟨G, i * 2, none⟩) (.inr rfl) _).setCell (p := ⟨G, i * 2 + 1, none⟩) (.inr rfl) _
  obtain ⟨W', hW'⟩ : ∃ W', W' = (wq.setCell ⟨G, i * 2, none⟩ (.int .i64 r.n)).setCell ⟨G, i * 2 + 1, none⟩ u := ⟨_, rfl⟩
  refine ⟨⟨_, HQ, by simpa using h2⟩, fun j r' hj hk => ?_, (h.bel.setCell hG _).setCell hG _⟩
  rw [← hW'] at hup hcell ⊢
  have hkv : ∀ u l, KVs (fun k => G < k) wq u l → KVs (fun k => G < k) W' u l := fun u l hu => hu.upd hup (fun k hk e => by have : G < k := hk; omega)
  by_cases hji : j = i
  · subst hji
    obtain rfl : r = r' := Option.some.inj (hi.symm.trans hk)
    refine ⟨?_, ⟨u, ?_, hkv _ _ hu⟩, hn⟩
    · rw [hcell, if_neg (by omega), show 0 + j * 2 - j * 2 = 0 by omega]; rfl
    · rw [hcell, if_neg (by omega), show 0 + j * 2 + 1 - j * 2 = 1 by omega]; rfl
  · have hq : ∀ t, wq.cell? ⟨G, t, none⟩ = cur[t]? := fun t => cell_of_row _ _ _ _ _ _ h1
    refine (h.dn j r' (by omega) hk).of ?_ ?_ (fun u hu => hkv _ _ hu)
    · rw [hcell, if_pos (by omega), ← hq]
    · rw [hcell, if_pos (by omega), ← hq]
theorem info58 : (Try.prog.info? 58).map (fun i => (i.zero, i.size, i.bytes)) = some (some (.agg #[.int .i64 0, .slice none 0 0]), 2, 32) := by kernel_rfl
set_option maxRecDepth 100000 in
set_option maxHeartbeats 1000000 in
theorem own_ress {Z : Nat → Prop} (l : List Rs) (v : Value) (w : World) (hv : RSs Z w v l) (hl : l.length ≤ 1000000) :
    Calls Try.prog 21 #[v, .func (.func 22) #[] #[]] w fun e w' => ∃ v', e = .returned v' ∧ RSs (fun k => w.heap.size ≤ k) w' v' l ∧ Below w.heap.size w w' := by
  have HV := Hid.mk'' hv
  obtain ⟨p, c, rfl, hh⟩ := hv
  by_cases h0 : l.length = 0
  · obtain rfl := List.eq_nil_of_length_eq_zero h0
    clear hh HV
    go_enter Try.func21, Try.ntmps21
    go_wp2
    go_ret
    exact ⟨_, rfl, RSs.nil _ _, Below.refl _ _⟩
  obtain ⟨i0, hi0, hz0, hz1, hz2⟩ := info_parts info58
  obtain ⟨n, hn⟩ : ∃ n, n = l.length := ⟨_, rfl⟩
  rw [← hn] at h0 hl
  obtain ⟨ROW, hRS, hmk⟩ : ∃ ROW : Array Value, ROW.size = n * 2 ∧ (Instr.makeSlice 31 (.int .i64 n) (.int .i64 n)).run Try.prog w = .ok (.slice (some ⟨w.heap.size, 0, none⟩) n n) (w.alloc (.cells ROW 58)) := by
    have := run_make (P := Try.prog) w 31 58 i0 _ Try.underlying31 hi0 hz0 .i64 .i64 n n (by omega) (by omega) (by rw [hz2]; omega) (by omega)
    simp only [Int.toNat_natCast] at this
    exact ⟨_, by rw [size_madeCells, hz1], this⟩
  have hgn : (w.alloc (.cells ROW 58)).heap[w.heap.size]? = some (.cells ROW 58 (0, 0)) := heap_alloc_new w _
  have HH := Hid.mk'' hh
  obtain ⟨w1, hw1⟩ : ∃ w1, w1 = w.alloc (.cells ROW 58) := ⟨_, rfl⟩
  rw [← hw1] at hmk hgn
  have HM1 : Hid (MR w w1 w.heap.size l 0) := ⟨⟨ROW, hgn, by rw [hRS, hn]⟩, fun j kv hj => by omega, by rw [hw1]; exact (Below.refl _ _).alloc (Nat.le_refl _) _⟩
  obtain ⟨G, hG⟩ : ∃ G, G = w.heap.size := ⟨_, rfl⟩
  rw [← hG] at hmk HM1
  have HG := Hid.mk'' hG
  have HN := Hid.mk'' hn
  rw [← hn]
  have hn0 : decide ((n : Int) = 0) = false := by simp; omega
  clear hh hw1 hgn hRS hG hn hz0 hz1 hz2 hi0
  go_enter Try.func21, Try.ntmps21
  go_wp2
  have hbn : ((n : Int) == 0) = false := by simp; omega
  simp only [hbn]
  go_loopg [16] (n + 1) (fun kx s16 wq => ∃ i : Nat, s16 = .int .i64 i ∧ kx + i = n + 1 ∧ i ≤ n ∧ Hid (MR w wq G l i))
  case atStart => exact ⟨0, rfl, rfl, Nat.zero_le _, HM1⟩
  case round =>
    obtain ⟨i, rfl, hkx, hi, HM⟩ := hrel
    by_cases hlt : i < n
    · obtain ⟨r, hr⟩ : ∃ r, l[i]? = some r := ⟨_, List.getElem?_eq_getElem (by rw [← HN.out]; exact hlt)⟩
      obtain ⟨g, o, rfl, hz, hgl, hk⟩ := HH.out i r hr
      obtain ⟨u, hu1, hu2⟩ := hk.c1
      have hcc := fun j => HM.out.bel.cell (p := ⟨g, j, none⟩) hgl
      have q0 := (hcc _).trans hk.c0
      have q1 := (hcc _).trans hu1
      have hln := hk.ln
      have HU := Hid.mk'' (hu2.below HM.out.bel)
      obtain ⟨up, uc, rfl, _⟩ := hu2
      have HR := Hid.mk'' hr
      obtain ⟨rn, rk⟩ := r
      dsimp only at *
      clear hk hr HM1 hcc hu1
      have hb0 : Below wr.heap.size wr (wr.alloc (.cells #[.int .i64 rn, .slice up rk.length uc] 58)) := (Below.refl _ _).alloc (Nat.le_refl _) _
      have hok := own_res rn rk _ (wr.alloc (.cells #[.int .i64 rn, .slice up rk.length uc] 58)) (HU.out.below hb0) hln
      have HW2 : Hid (∀ W2, Below (wr.alloc (.cells #[.int .i64 rn, .slice up rk.length uc] 58)).heap.size (wr.alloc (.cells #[.int .i64 rn, .slice up rk.length uc] 58)) W2 → MR w W2 G l i) := fun W2 hb => (HM.out.below hb0).below hb
      have HN6 : Hid (i * 2 + 2 ≤ l.length * 2) := by rw [← HN.out]; show _ ≤ _; omega
      have HGW : Hid (G < wr.heap.size) := by
        obtain ⟨cur, e1, e2⟩ := HM.out.row
        exact (Array.getElem?_eq_some_iff.1 e1).1
      clear hb0
      go_wp2_with (go_at_call 22; refine hok.mono ?_; rintro e2 w2 ⟨u2, rfl, hu2, hb2⟩
                   have HM2 := Hid.mk'' (HW2.out w2 hb2)
                   have hcx : ∀ t, t < 2 → ∃ u, w2.cell? ⟨G, i * 2 + t, none⟩ = some u := fun t ht => by
                     obtain ⟨cur, e1, e2⟩ := HM2.out.row
                     have := HN6.out
                     exact ⟨_, (cell_of_row _ _ _ _ _ _ e1).trans (Array.getElem?_eq_getElem (by omega))⟩
                   have hfx : ∀ t, w2.frozen? ⟨G, t, none⟩ = false := fun t => by
                     obtain ⟨cur, e1, e2⟩ := HM2.out.row
                     simp [World.frozen?, e1]
                   obtain ⟨u0, x0⟩ := hcx 0 (by omega)
                   obtain ⟨u1, x1⟩ := hcx 1 (by omega)
                   simp only [Nat.add_zero] at x0
                   have HU2 : Hid (KVs (fun k => G < k) w2 u2 rk) := hu2.mono (fun k hk => by
                     have hk' : (wr.alloc (.cells #[.int .i64 rn, .slice up rk.length uc] 58)).heap.size ≤ k := hk
                     have := HGW.out
                     simp at hk'
                     show G < k
                     omega)
                   obtain ⟨vp, vc, hve, _⟩ := hu2
                   subst hve
                   clear hcx hb2 hok)
      go_roundg (n - i)
      case measure => omega
      case rel =>
        have HP := HM2.out.put (by rw [HG.out]; exact Nat.le_refl _) HR.out HU2.out hln
        dsimp only at HP
        exact ⟨i + 1, by congr 1, by omega, by omega, HP⟩
    · obtain rfl : i = n := by omega
      go_wp2
      go_ret
      refine ⟨_, rfl, ⟨some ⟨G, 0, none⟩, i, by rw [← HN.out]; rfl, fun j r hj => ?_⟩, HM.out.bel⟩
      obtain ⟨cur, e1, _⟩ := HM.out.row
      have hd := HM.out.dn j r (by rw [HN.out]; exact (List.getElem?_eq_some_iff.1 hj).1) hj
      have hG := HG.out
      refine ⟨G, 0, rfl, by rw [hG]; exact Nat.le_refl _, (Array.getElem?_eq_some_iff.1 e1).1, hd.c0, ?_, hd.ln⟩
      obtain ⟨u, q1, q2⟩ := hd.c1
      exact ⟨u, q1, q2.mono (fun k hk => by have hk' : G < k := hk; show w.heap.size ≤ k; omega)⟩
/-- A reply: all but its list of results as data. -/
structure Rp where
  err : Int
  rev : Int
  thn : Bool
  tim : Int
abbrev repV (r : Rp) (v : Value) : Value := .agg #[.int .i64 r.err, .int .i64 r.rev, .bool r.thn, v, .int .i64 r.tim]
abbrev rowV (c s : Int) (r : Rp) (v : Value) : Value := .agg #[.int .i64 c, .int .i64 s, .int .i64 r.err, .int .i64 r.rev, .bool r.thn, v, .int .i64 r.tim]
set_option maxRecDepth 100000 in
set_option maxHeartbeats 1000000 in
theorem own_rep {Z : Nat → Prop} (r : Rp) (l : List Rs) (v : Value) (w : World) (hv : RSs Z w v l) (hl : l.length ≤ 1000000) :
    Calls Try.prog 15 #[.agg #[.int .i64 r.err, .int .i64 r.rev, .bool r.thn, v, .int .i64 r.tim]] w fun e w' => ∃ v', e = .returned (.agg #[.int .i64 r.err, .int .i64 r.rev, .bool r.thn, v', .int .i64 r.tim]) ∧ RSs (fun k => w.heap.size ≤ k) w' v' l ∧ Below w.heap.size w w' := by
  obtain ⟨W0, hW0⟩ : ∃ W0, W0 = (w.alloc (.cells #[.int .i64 r.err, .int .i64 r.rev, .bool r.thn, v, .int .i64 r.tim] 33)).alloc (.cells #[.int .i64 0, .int .i64 0, .bool false, .slice none 0 0, .int .i64 0] 33) := ⟨_, rfl⟩
  have hb0 : Below w.heap.size w W0 := by rw [hW0]; exact ((Below.refl _ _).alloc (Nat.le_refl _) _).alloc (by simp) _
  have hs0 : W0.heap.size = w.heap.size + 2 := by rw [hW0]; simp
  have hcall := own_ress l v W0 (hv.below hb0) hl
  obtain ⟨p, c, rfl, _⟩ := hv
  have k0 : W0.heap[w.heap.size]? = some (.cells #[.int .i64 r.err, .int .i64 r.rev, .bool r.thn, .slice p l.length c, .int .i64 r.tim] 33 (0, 0)) := by
    rw [hW0]
    have := heap_alloc_new w (.cells #[.int .i64 r.err, .int .i64 r.rev, .bool r.thn, .slice p l.length c, .int .i64 r.tim] 33)
    rw [← this]
    exact Below.heap_alloc _ _ _ (by simp)
  have k1 : W0.heap[w.heap.size + 1]? = some (.cells #[.int .i64 0, .int .i64 0, .bool false, .slice none 0 0, .int .i64 0] 33 (0, 0)) := by
    rw [hW0]
    have := heap_alloc_new (w.alloc (.cells #[.int .i64 r.err, .int .i64 r.rev, .bool r.thn, .slice p l.length c, .int .i64 r.tim] 33)) (.cells #[.int .i64 0, .int .i64 0, .bool false, .slice none 0 0, .int .i64 0] 33)
    simpa using this
  go_enter Try.func15, Try.ntmps15
  go_upto_region 1 with fail
  rw [← hW0]
  obtain ⟨bx, hbx⟩ : ∃ bx, bx = w.heap.size := ⟨_, rfl⟩
  rw [← hbx] at k0 k1 hs0 ⊢
  have hbl : bx < W0.heap.size := by omega
  have hrl : bx + 1 < W0.heap.size := by omega
  have q0 : W0.cell? ⟨bx, 0, none⟩ = some (.int .i64 r.err) := cell_of_row _ _ _ _ _ _ k0
  have q1 : W0.cell? ⟨bx, 1, none⟩ = some (.int .i64 r.rev) := cell_of_row _ _ _ _ _ _ k0
  have q2 : W0.cell? ⟨bx, 2, none⟩ = some (.bool r.thn) := cell_of_row _ _ _ _ _ _ k0
  have q3 : W0.cell? ⟨bx, 3, none⟩ = some (.slice p l.length c) := cell_of_row _ _ _ _ _ _ k0
  have q4 : W0.cell? ⟨bx, 4, none⟩ = some (.int .i64 r.tim) := cell_of_row _ _ _ _ _ _ k0
  have HB0 := Hid.mk'' hb0
  have HBX := Hid.mk'' hbx
  have HS0 := Hid.mk'' hs0
  clear hW0 hb0 hbx hs0
  go_wp2_with (go_at_call 21; refine hcall.mono ?_; rintro e w1 ⟨v', rfl, hv', bel⟩
               have r0 := (bel.block bx hbl).trans k0
               have r1 := (bel.block (bx + 1) hrl).trans k1
               have c0 : w1.cell? ⟨bx, 0, none⟩ = some (.int .i64 r.err) := cell_of_row _ _ _ _ _ _ r0
               have c1 : w1.cell? ⟨bx, 1, none⟩ = some (.int .i64 r.rev) := cell_of_row _ _ _ _ _ _ r0
               have c2 : w1.cell? ⟨bx, 2, none⟩ = some (.bool r.thn) := cell_of_row _ _ _ _ _ _ r0
               have c3 : w1.cell? ⟨bx, 3, none⟩ = some (.slice p l.length c) := cell_of_row _ _ _ _ _ _ r0
               have c4 : w1.cell? ⟨bx, 4, none⟩ = some (.int .i64 r.tim) := cell_of_row _ _ _ _ _ _ r0
               have ff : ∀ t, w1.frozen? ⟨bx, t, none⟩ = false := fun t => by simp [World.frozen?, r0]
               have d0 : w1.cell? ⟨bx + 1, 0, none⟩ = some (.int .i64 0) := cell_of_row _ _ _ _ _ _ r1
               have d1 : w1.cell? ⟨bx + 1, 1, none⟩ = some (.int .i64 0) := cell_of_row _ _ _ _ _ _ r1
               have d2 : w1.cell? ⟨bx + 1, 2, none⟩ = some (.bool false) := cell_of_row _ _ _ _ _ _ r1
               have d3 : w1.cell? ⟨bx + 1, 3, none⟩ = some (.slice none 0 0) := cell_of_row _ _ _ _ _ _ r1
               have d4 : w1.cell? ⟨bx + 1, 4, none⟩ = some (.int .i64 0) := cell_of_row _ _ _ _ _ _ r1
               have fg : ∀ t, w1.frozen? ⟨bx + 1, t, none⟩ = false := fun t => by simp [World.frozen?, r1]
               have HR0 := Hid.mk'' r0
               have HR1 := Hid.mk'' r1
               have HV := Hid.mk'' hv'
               have HBE := Hid.mk'' bel
               obtain ⟨p', c', hve, _⟩ := hv'
               subst hve
               clear r0 r1 bel hcall)
  have HQ := (heap_setCell_row (heap_setCell_row (heap_setCell_row (heap_setCell_row (heap_setCell_row ((heap_setCell_other (w := w1) ⟨bx, 3, none⟩ (.slice p' l.length c') (g := bx + 1) (by show bx + 1 ≠ bx; omega)).trans HR1.out) 0 (.int .i64 r.err)) 1 (.int .i64 r.rev)) 2 (.bool r.thn)) 3 (.slice p' l.length c')) 4 (.int .i64 r.tim))
  refine bodyPost_ret (results_cell_row rfl _ _ (bx + 1) 33 #[.int .i64 r.err, .int .i64 r.rev, .bool r.thn, .slice p' l.length c', .int .i64 r.tim] (0, 0) _ rfl HQ Try.underlying33 rfl (by kernel_rfl)) rfl ?_
  have e1 := HBX.out
  have e2 := HS0.out
  have hu0 : Upd w1 w1 (fun k => k = bx ∨ k = bx + 1) := Upd.refl _ _
  have hu1 := hu0.setCell (p := ⟨bx, 3, none⟩) (.inr (.inl rfl)) (.slice p' l.length c')
  have hu2 := hu1.setCell (p := ⟨bx + 1, 0, none⟩) (.inr (.inr rfl)) (.int .i64 r.err)
  have hu3 := hu2.setCell (p := ⟨bx + 1, 1, none⟩) (.inr (.inr rfl)) (.int .i64 r.rev)
  have hu4 := hu3.setCell (p := ⟨bx + 1, 2, none⟩) (.inr (.inr rfl)) (.bool r.thn)
  have hu5 := hu4.setCell (p := ⟨bx + 1, 3, none⟩) (.inr (.inr rfl)) (.slice p' l.length c')
  have hu6 := hu5.setCell (p := ⟨bx + 1, 4, none⟩) (.inr (.inr rfl)) (.int .i64 r.tim)
  have hu := hu6
  refine ⟨_, rfl, (HV.out.upd hu (fun k hk e => by have hk' : W0.heap.size ≤ k := hk; omega)).mono (fun k hk => by have hk' : W0.heap.size ≤ k := hk; show w.heap.size ≤ k; omega), ?_⟩
  exact (HB0.out.trans (HBE.out.mono HB0.out.size)).trans (hu.below (by have := HB0.out.size; have := HBE.out.size; omega) (fun k hk e => by omega))
set_option maxRecDepth 100000 in
set_option maxHeartbeats 1000000 in
theorem own_row {Z : Nat → Prop} (a b : Int) (r : Rp) (l : List Rs) (v : Value) (w : World) (hv : RSs Z w v l) (hl : l.length ≤ 1000000) :
    Calls Try.prog 20 #[.agg #[.int .i64 a, .int .i64 b, .int .i64 r.err, .int .i64 r.rev, .bool r.thn, v, .int .i64 r.tim]] w fun e w' => ∃ v', e = .returned (.agg #[.int .i64 a, .int .i64 b, .int .i64 r.err, .int .i64 r.rev, .bool r.thn, v', .int .i64 r.tim]) ∧ RSs (fun k => w.heap.size ≤ k) w' v' l ∧ Below w.heap.size w w' := by
  obtain ⟨W0, hW0⟩ : ∃ W0, W0 = (w.alloc (.cells #[.int .i64 a, .int .i64 b, .int .i64 r.err, .int .i64 r.rev, .bool r.thn, v, .int .i64 r.tim] 43)).alloc (.cells #[.int .i64 0, .int .i64 0, .int .i64 0, .int .i64 0, .bool false, .slice none 0 0, .int .i64 0] 43) := ⟨_, rfl⟩
  have hb0 : Below w.heap.size w W0 := by rw [hW0]; exact ((Below.refl _ _).alloc (Nat.le_refl _) _).alloc (by simp) _
  have hs0 : W0.heap.size = w.heap.size + 2 := by rw [hW0]; simp
  have hcall := own_rep r l v W0 (hv.below hb0) hl
  obtain ⟨p, c, rfl, _⟩ := hv
  have k0 : W0.heap[w.heap.size]? = some (.cells #[.int .i64 a, .int .i64 b, .int .i64 r.err, .int .i64 r.rev, .bool r.thn, .slice p l.length c, .int .i64 r.tim] 43 (0, 0)) := by
    rw [hW0]
    have := heap_alloc_new w (.cells #[.int .i64 a, .int .i64 b, .int .i64 r.err, .int .i64 r.rev, .bool r.thn, .slice p l.length c, .int .i64 r.tim] 43)
    rw [← this]
    exact Below.heap_alloc _ _ _ (by simp)
  have k1 : W0.heap[w.heap.size + 1]? = some (.cells #[.int .i64 0, .int .i64 0, .int .i64 0, .int .i64 0, .bool false, .slice none 0 0, .int .i64 0] 43 (0, 0)) := by
    rw [hW0]
    have := heap_alloc_new (w.alloc (.cells #[.int .i64 a, .int .i64 b, .int .i64 r.err, .int .i64 r.rev, .bool r.thn, .slice p l.length c, .int .i64 r.tim] 43)) (.cells #[.int .i64 0, .int .i64 0, .int .i64 0, .int .i64 0, .bool false, .slice none 0 0, .int .i64 0] 43)
    simpa using this
  go_enter Try.func20, Try.ntmps20
  go_upto_region 1 with fail
  rw [← hW0]
  obtain ⟨bx, hbx⟩ : ∃ bx, bx = w.heap.size := ⟨_, rfl⟩
  rw [← hbx] at k0 k1 hs0 ⊢
  have hbl : bx < W0.heap.size := by omega
  have hrl : bx + 1 < W0.heap.size := by omega
  have q0 : W0.cell? ⟨bx, 0, none⟩ = some (.int .i64 a) := cell_of_row _ _ _ _ _ _ k0
  have q1 : W0.cell? ⟨bx, 1, none⟩ = some (.int .i64 b) := cell_of_row _ _ _ _ _ _ k0
  have q2 : W0.cell? ⟨bx, 2, none⟩ = some (.int .i64 r.err) := cell_of_row _ _ _ _ _ _ k0
  have q3 : W0.cell? ⟨bx, 3, none⟩ = some (.int .i64 r.rev) := cell_of_row _ _ _ _ _ _ k0
  have q4 : W0.cell? ⟨bx, 4, none⟩ = some (.bool r.thn) := cell_of_row _ _ _ _ _ _ k0
  have q5 : W0.cell? ⟨bx, 5, none⟩ = some (.slice p l.length c) := cell_of_row _ _ _ _ _ _ k0
  have q6 : W0.cell? ⟨bx, 6, none⟩ = some (.int .i64 r.tim) := cell_of_row _ _ _ _ _ _ k0
  have HB0 := Hid.mk'' hb0
  have HBX := Hid.mk'' hbx
  have HS0 := Hid.mk'' hs0
  clear hW0 hb0 hbx hs0
  go_upto_region 2 with (go_at_call 15; refine hcall.mono ?_; rintro e w1 ⟨v', rfl, hv', bel⟩
                         have r0 := (bel.block bx hbl).trans k0
                         have r1 := (bel.block (bx + 1) hrl).trans k1
                         have c0 : w1.cell? ⟨bx, 0, none⟩ = some (.int .i64 a) := cell_of_row _ _ _ _ _ _ r0
                         have c1 : w1.cell? ⟨bx, 1, none⟩ = some (.int .i64 b) := cell_of_row _ _ _ _ _ _ r0
                         have c2 : w1.cell? ⟨bx, 2, none⟩ = some (.int .i64 r.err) := cell_of_row _ _ _ _ _ _ r0
                         have c3 : w1.cell? ⟨bx, 3, none⟩ = some (.int .i64 r.rev) := cell_of_row _ _ _ _ _ _ r0
                         have c4 : w1.cell? ⟨bx, 4, none⟩ = some (.bool r.thn) := cell_of_row _ _ _ _ _ _ r0
                         have c5 : w1.cell? ⟨bx, 5, none⟩ = some (.slice p l.length c) := cell_of_row _ _ _ _ _ _ r0
                         have c6 : w1.cell? ⟨bx, 6, none⟩ = some (.int .i64 r.tim) := cell_of_row _ _ _ _ _ _ r0
                         have ff : ∀ t, w1.frozen? ⟨bx, t, none⟩ = false := fun t => by simp [World.frozen?, r0]
                         have d0 : w1.cell? ⟨bx + 1, 0, none⟩ = some (.int .i64 0) := cell_of_row _ _ _ _ _ _ r1
                         have d1 : w1.cell? ⟨bx + 1, 1, none⟩ = some (.int .i64 0) := cell_of_row _ _ _ _ _ _ r1
                         have d2 : w1.cell? ⟨bx + 1, 2, none⟩ = some (.int .i64 0) := cell_of_row _ _ _ _ _ _ r1
                         have d3 : w1.cell? ⟨bx + 1, 3, none⟩ = some (.int .i64 0) := cell_of_row _ _ _ _ _ _ r1
                         have d4 : w1.cell? ⟨bx + 1, 4, none⟩ = some (.bool false) := cell_of_row _ _ _ _ _ _ r1
                         have d5 : w1.cell? ⟨bx + 1, 5, none⟩ = some (.slice none 0 0) := cell_of_row _ _ _ _ _ _ r1
                         have d6 : w1.cell? ⟨bx + 1, 6, none⟩ = some (.int .i64 0) := cell_of_row _ _ _ _ _ _ r1
                         have fg : ∀ t, w1.frozen? ⟨bx + 1, t, none⟩ = false := fun t => by simp [World.frozen?, r1]
                         have HR0 := Hid.mk'' r0
                         have HR1 := Hid.mk'' r1
                         have HV := Hid.mk'' hv'
                         have HBE := Hid.mk'' bel
                         obtain ⟨p', c', hve, _⟩ := hv'
                         subst hve
                         clear r0 r1 bel hcall)
  have s0 : w1.heap[bx]? = some (.cells #[.int .i64 a, .int .i64 b, .int .i64 r.err, .int .i64 r.rev, .bool r.thn, .slice p l.length c, .int .i64 r.tim] 43 (0, 0)) := HR0.out
  have s1 := (heap_setCell_row (heap_setCell_row (heap_setCell_row (heap_setCell_row (heap_setCell_row s0 2 (.int .i64 r.err)) 3 (.int .i64 r.rev)) 4 (.bool r.thn)) 5 (.slice p' l.length c')) 6 (.int .i64 r.tim))
  have s2 := ((heap_setCell_other (w := ((((w1.setCell ⟨bx, 2, none⟩ (.int .i64 r.err)).setCell ⟨bx, 3, none⟩ (.int .i64 r.rev)).setCell ⟨bx, 4, none⟩ (.bool r.thn)).setCell ⟨bx, 5, none⟩ (.slice p' l.length c'))) ⟨bx, 6, none⟩ (.int .i64 r.tim) (g := bx + 1) (by show bx + 1 ≠ bx; omega)).trans ((heap_setCell_other (w := (((w1.setCell ⟨bx, 2, none⟩ (.int .i64 r.err)).setCell ⟨bx, 3, none⟩ (.int .i64 r.rev)).setCell ⟨bx, 4, none⟩ (.bool r.thn))) ⟨bx, 5, none⟩ (.slice p' l.length c') (g := bx + 1) (by show bx + 1 ≠ bx; omega)).trans ((heap_setCell_other (w := ((w1.setCell ⟨bx, 2, none⟩ (.int .i64 r.err)).setCell ⟨bx, 3, none⟩ (.int .i64 r.rev))) ⟨bx, 4, none⟩ (.bool r.thn) (g := bx + 1) (by show bx + 1 ≠ bx; omega)).trans ((heap_setCell_other (w := (w1.setCell ⟨bx, 2, none⟩ (.int .i64 r.err))) ⟨bx, 3, none⟩ (.int .i64 r.rev) (g := bx + 1) (by show bx + 1 ≠ bx; omega)).trans ((heap_setCell_other (w := w1) ⟨bx, 2, none⟩ (.int .i64 r.err) (g := bx + 1) (by show bx + 1 ≠ bx; omega)).trans HR1.out)))))
  have hu0 : Upd w1 w1 (fun k => k = bx ∨ k = bx + 1) := Upd.refl _ _
  have hu1 := hu0.setCell (p := ⟨bx, 2, none⟩) (.inr (.inl rfl)) (.int .i64 r.err)
  have hu2 := hu1.setCell (p := ⟨bx, 3, none⟩) (.inr (.inl rfl)) (.int .i64 r.rev)
  have hu3 := hu2.setCell (p := ⟨bx, 4, none⟩) (.inr (.inl rfl)) (.bool r.thn)
  have hu4 := hu3.setCell (p := ⟨bx, 5, none⟩) (.inr (.inl rfl)) (.slice p' l.length c')
  have hu5 := hu4.setCell (p := ⟨bx, 6, none⟩) (.inr (.inl rfl)) (.int .i64 r.tim)
  obtain ⟨w2, hw2⟩ : ∃ w2, w2 = (((((w1.setCell ⟨bx, 2, none⟩ (.int .i64 r.err)).setCell ⟨bx, 3, none⟩ (.int .i64 r.rev)).setCell ⟨bx, 4, none⟩ (.bool r.thn)).setCell ⟨bx, 5, none⟩ (.slice p' l.length c')).setCell ⟨bx, 6, none⟩ (.int .i64 r.tim)) := ⟨_, rfl⟩
  rw [← hw2] at s1 s2 hu5 ⊢
  have s1' : w2.heap[bx]? = some (.cells #[.int .i64 a, .int .i64 b, .int .i64 r.err, .int .i64 r.rev, .bool r.thn, .slice p' l.length c', .int .i64 r.tim] 43 (0, 0)) := s1
  have y0 : w2.cell? ⟨bx, 0, none⟩ = some (.int .i64 a) := cell_of_row _ _ _ _ _ _ s1'
  have y1 : w2.cell? ⟨bx, 1, none⟩ = some (.int .i64 b) := cell_of_row _ _ _ _ _ _ s1'
  have y2 : w2.cell? ⟨bx, 2, none⟩ = some (.int .i64 r.err) := cell_of_row _ _ _ _ _ _ s1'
  have y3 : w2.cell? ⟨bx, 3, none⟩ = some (.int .i64 r.rev) := cell_of_row _ _ _ _ _ _ s1'
  have y4 : w2.cell? ⟨bx, 4, none⟩ = some (.bool r.thn) := cell_of_row _ _ _ _ _ _ s1'
  have y5 : w2.cell? ⟨bx, 5, none⟩ = some (.slice p' l.length c') := cell_of_row _ _ _ _ _ _ s1'
  have y6 : w2.cell? ⟨bx, 6, none⟩ = some (.int .i64 r.tim) := cell_of_row _ _ _ _ _ _ s1'
  have z0 : w2.cell? ⟨bx + 1, 0, none⟩ = some (.int .i64 0) := cell_of_row _ _ _ _ _ _ s2
  have z1 : w2.cell? ⟨bx + 1, 1, none⟩ = some (.int .i64 0) := cell_of_row _ _ _ _ _ _ s2
  have z2 : w2.cell? ⟨bx + 1, 2, none⟩ = some (.int .i64 0) := cell_of_row _ _ _ _ _ _ s2
  have z3 : w2.cell? ⟨bx + 1, 3, none⟩ = some (.int .i64 0) := cell_of_row _ _ _ _ _ _ s2
  have z4 : w2.cell? ⟨bx + 1, 4, none⟩ = some (.bool false) := cell_of_row _ _ _ _ _ _ s2
  have z5 : w2.cell? ⟨bx + 1, 5, none⟩ = some (.slice none 0 0) := cell_of_row _ _ _ _ _ _ s2
  have z6 : w2.cell? ⟨bx + 1, 6, none⟩ = some (.int .i64 0) := cell_of_row _ _ _ _ _ _ s2
  have zf : ∀ t, w2.frozen? ⟨bx + 1, t, none⟩ = false := fun t => by simp [World.frozen?, s2]
  have HS2 := Hid.mk'' s2
  have HU5 := Hid.mk'' hu5
  clear hw2 s0 s1 s1' s2 hu0 hu1 hu2 hu3 hu4 hu5 c0 c1 c2 c3 c4 c5 c6 d0 d1 d2 d3 d4 d5 d6 ff fg q0 q1 q2 q3 q4 q5 q6 k0 k1
  go_wp2
  have HQ := (heap_setCell_row (heap_setCell_row (heap_setCell_row (heap_setCell_row (heap_setCell_row (heap_setCell_row (heap_setCell_row HS2.out 0 (.int .i64 a)) 1 (.int .i64 b)) 2 (.int .i64 r.err)) 3 (.int .i64 r.rev)) 4 (.bool r.thn)) 5 (.slice p' l.length c')) 6 (.int .i64 r.tim))
  refine bodyPost_ret (results_cell_row rfl _ _ (bx + 1) 43 #[.int .i64 a, .int .i64 b, .int .i64 r.err, .int .i64 r.rev, .bool r.thn, .slice p' l.length c', .int .i64 r.tim] (0, 0) _ rfl HQ Try.underlying43 rfl (by kernel_rfl)) rfl ?_
  have e1 := HBX.out
  have e2 := HS0.out
  have hu0 := HU5.out
  have hu1 := hu0.setCell (p := ⟨bx + 1, 0, none⟩) (.inr (.inr rfl)) (.int .i64 a)
  have hu2 := hu1.setCell (p := ⟨bx + 1, 1, none⟩) (.inr (.inr rfl)) (.int .i64 b)
  have hu3 := hu2.setCell (p := ⟨bx + 1, 2, none⟩) (.inr (.inr rfl)) (.int .i64 r.err)
  have hu4 := hu3.setCell (p := ⟨bx + 1, 3, none⟩) (.inr (.inr rfl)) (.int .i64 r.rev)
  have hu5 := hu4.setCell (p := ⟨bx + 1, 4, none⟩) (.inr (.inr rfl)) (.bool r.thn)
  have hu6 := hu5.setCell (p := ⟨bx + 1, 5, none⟩) (.inr (.inr rfl)) (.slice p' l.length c')
  have hu7 := hu6.setCell (p := ⟨bx + 1, 6, none⟩) (.inr (.inr rfl)) (.int .i64 r.tim)
  refine ⟨_, rfl, (HV.out.upd hu7 (fun k hk e => by have hk' : W0.heap.size ≤ k := hk; omega)).mono (fun k hk => by have hk' : W0.heap.size ≤ k := hk; show w.heap.size ≤ k; omega), ?_⟩
  exact (HB0.out.trans (HBE.out.mono HB0.out.size)).trans (hu7.below (by have := HB0.out.size; have := HBE.out.size; omega) (fun k hk e => by omega))
end Go.Proofs.Ytcghaepjklmggaa
