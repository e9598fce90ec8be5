/- Lists of keys that are read; ownList of keys: the same list anew. -/
import Derived.Test.YtcghaepjklmggaaOC
namespace Go.Proofs.Ytcghaepjklmggaa
open Go Go.RowKit
/-- A key and what is with it, in memory. -/
structure HasK (w : World) (g o : Nat) (kv : KVd) : Prop where
  c0 : w.cell? ⟨g, o, none⟩ = some (.string kv.key)
  c1 : w.cell? ⟨g, o + 1, none⟩ = some (.string kv.value)
  c2 : w.cell? ⟨g, o + 2, none⟩ = some (.int .i64 kv.create)
  c3 : w.cell? ⟨g, o + 3, none⟩ = some (.int .i64 kv.mod)
  c4 : w.cell? ⟨g, o + 4, none⟩ = some (.int .i64 kv.version)
  c5 : w.cell? ⟨g, o + 5, none⟩ = some (.int .i64 kv.lease)
  s0 : kv.key.size ≤ 140737488355328
  s1 : kv.value.size ≤ 140737488355328
theorem HasK.same {w w' : World} {g o : Nat} {kv : KVd} (h : HasK w g o kv) (hc : ∀ j, w'.cell? ⟨g, j, none⟩ = w.cell? ⟨g, j, none⟩) : HasK w' g o kv :=
  ⟨(hc _).trans h.c0, (hc _).trans h.c1, (hc _).trans h.c2, (hc _).trans h.c3, (hc _).trans h.c4, (hc _).trans h.c5, h.s0, h.s1⟩
/-- A list of keys that can be read; its block is one of Z. -/
def KVs (Z : Nat → Prop) (w : World) (v : Value) (l : List KVd) : Prop :=
  ∃ p c, v = .slice p l.length c ∧ ∀ i kv, l[i]? = some kv → ∃ g o, p = some ⟨g, o, none⟩ ∧ Z g ∧ g < w.heap.size ∧ HasK w g (o + i * 6) kv
theorem KVs.upd {Z S : Nat → Prop} {w w' : World} {v : Value} {l : List KVd} (h : KVs Z w v l) (hu : Upd w w' S) (hS : ∀ k, Z k → ¬ S k) : KVs Z w' v l := by
  obtain ⟨p, c, rfl, hh⟩ := h
  refine ⟨p, c, rfl, fun i kv hi => ?_⟩
  obtain ⟨g, o, e, hz, hl, hk⟩ := hh i kv hi
  exact ⟨g, o, e, hz, Nat.lt_of_lt_of_le hl hu.size, hk.same (fun j => hu.cell (p := ⟨g, j, none⟩) hl (hS g hz))⟩
theorem KVs.below {Z : Nat → Prop} {w w' : World} {v : Value} {l : List KVd} (h : KVs Z w v l) (hb : Below w.heap.size w w') : KVs Z w' v l := h.upd (S := fun _ => False) (Upd.ofBelow hb) (fun _ _ h => h)
theorem KVs.mono {Z Z' : Nat → Prop} {w : World} {v : Value} {l : List KVd} (h : KVs Z w v l) (hz : ∀ k, Z k → Z' k) : KVs Z' w v l := by
  obtain ⟨p, c, rfl, hh⟩ := h
  refine ⟨p, c, rfl, fun i kv hi => ?_⟩
  obtain ⟨g, o, e, hz1, hl, hk⟩ := hh i kv hi
  exact ⟨g, o, e, hz g hz1, hl, hk⟩
theorem KVs.nil (Z : Nat → Prop) (w : World) : KVs Z w (.slice none 0 0) [] := ⟨none, 0, rfl, fun i kv hi => by simp at hi⟩
theorem set6 (cur : Array Value) (k j : Nat) (a0 a1 a2 a3 a4 a5 : Value) (hk : k + 6 ≤ cur.size) :
    ((((((cur.setIfInBounds k a0).setIfInBounds (k + 1) a1).setIfInBounds (k + 2) a2).setIfInBounds (k + 3) a3).setIfInBounds (k + 4) a4).setIfInBounds (k + 5) a5)[j]? =
      if j < k ∨ k + 6 ≤ j then cur[j]? else [a0, a1, a2, a3, a4, a5][j - k]? := by
  simp only [Array.getElem?_setIfInBounds, Array.size_setIfInBounds]
  by_cases h : j < k ∨ k + 6 ≤ j
  · rw [if_pos h]
    rw [if_neg (by omega), if_neg (by omega), if_neg (by omega), if_neg (by omega), if_neg (by omega), if_neg (by omega)]
  · rw [if_neg h]
    have : j = k ∨ j = k + 1 ∨ j = k + 2 ∨ j = k + 3 ∨ j = k + 4 ∨ j = k + 5 := by omega
    rcases this with rfl | rfl | rfl | rfl | rfl | rfl
    · rw [if_neg (by omega), if_neg (by omega), if_neg (by omega), if_neg (by omega), if_neg (by omega), if_pos rfl, if_pos (by omega), Nat.sub_self]; rfl
    · rw [if_neg (by omega), if_neg (by omega), if_neg (by omega), if_neg (by omega), if_pos rfl, if_pos (by omega), Nat.add_sub_cancel_left]; rfl
    · rw [if_neg (by omega), if_neg (by omega), if_neg (by omega), if_pos rfl, if_pos (by omega), Nat.add_sub_cancel_left]; rfl
    · rw [if_neg (by omega), if_neg (by omega), if_pos rfl, if_pos (by omega), Nat.add_sub_cancel_left]; rfl
    · rw [if_neg (by omega), if_pos rfl, if_pos (by omega), Nat.add_sub_cancel_left]; rfl
    · rw [if_pos rfl, if_pos (by omega), Nat.add_sub_cancel_left]; rfl
/-- The list that is being made. -/
structure MK (w wq : World) (G : Nat) (l : List KVd) (i : Nat) : Prop where
  row : ∃ cur, wq.heap[G]? = some (.cells cur 68 (0, 0)) ∧ cur.size = l.length * 6
  dn : ∀ j kv, j < i → l[j]? = some kv → HasK wq G (0 + j * 6) kv
  bel : Below w.heap.size w wq
theorem MK.below {w wq w' : World} {G : Nat} {l : List KVd} {i : Nat} (h : MK w wq G l i) (hb : Below wq.heap.size wq w') : MK w w' G l i := by
  obtain ⟨cur, h1, h2⟩ := h.row
  have hG : G < wq.heap.size := (Array.getElem?_eq_some_iff.1 h1).1
  exact ⟨⟨cur, (hb.block G hG).trans h1, h2⟩, fun j kv hj hk => (h.dn j kv hj hk).same (fun t => hb.cell (p := ⟨G, t, none⟩) hG), h.bel.trans (hb.mono h.bel.size)⟩
theorem MK.put {w wq : World} {G : Nat} {l : List KVd} {i : Nat} {kv : KVd} (h : MK w wq G l i) (hG : w.heap.size ≤ G) (hi : l[i]? = some kv) (s0 : kv.key.size ≤ 140737488355328) (s1 : kv.value.size ≤ 140737488355328) :
    MK w ((((((wq.setCell ⟨G, i * 6, none⟩ (.string kv.key)).setCell ⟨G, i * 6 + 1, none⟩ (.string kv.value)).setCell ⟨G, i * 6 + 2, none⟩ (.int .i64 kv.create)).setCell ⟨G, i * 6 + 3, none⟩ (.int .i64 kv.mod)).setCell ⟨G, i * 6 + 4, none⟩ (.int .i64 kv.version)).setCell ⟨G, i * 6 + 5, none⟩ (.int .i64 kv.lease)) G l (i + 1) := by
  obtain ⟨cur, h1, h2⟩ := h.row
  have hil : i < l.length := (List.getElem?_eq_some_iff.1 hi).1
  have hsz : i * 6 + 6 ≤ cur.size := by omega
  have HQ := heap_setCell_row (heap_setCell_row (heap_setCell_row (heap_setCell_row (heap_setCell_row (heap_setCell_row h1 (i * 6) (.string kv.key)) (i * 6 + 1) (.string kv.value)) (i * 6 + 2) (.int .i64 kv.create)) (i * 6 + 3) (.int .i64 kv.mod)) (i * 6 + 4) (.int .i64 kv.version)) (i * 6 + 5) (.int .i64 kv.lease)
  have hcell := fun j => (cell_of_row _ _ j _ _ _ HQ).trans (set6 cur (i * 6) j _ _ _ _ _ _ hsz)
  refine ⟨⟨_, HQ, by simpa using h2⟩, fun j kv' hj hk => ?_, (((((h.bel.setCell hG _).setCell hG _).setCell hG _).setCell hG _).setCell hG _).setCell hG _⟩
  obtain ⟨W', hW'⟩ : ∃ W', W' = (((((wq.setCell ⟨G, i * 6, none⟩ (.string kv.key)).setCell ⟨G, i * 6 + 1, none⟩ (.string kv.value)).setCell ⟨G, i * 6 + 2, none⟩ (.int .i64 kv.create)).setCell ⟨G, i * 6 + 3, none⟩ (.int .i64 kv.mod)).setCell ⟨G, i * 6 + 4, none⟩ (.int .i64 kv.version)).setCell ⟨G, i * 6 + 5, none⟩ (.int .i64 kv.lease) := ⟨_, rfl⟩
  rw [← hW']
  by_cases hji : j = i
  · subst hji
    obtain rfl : kv = kv' := Option.some.inj (hi.symm.trans hk)
    have e : ∀ t u, t < 6 → [Value.string kv.key, .string kv.value, .int .i64 kv.create, .int .i64 kv.mod, .int .i64 kv.version, .int .i64 kv.lease][t]? = some u → W'.cell? ⟨G, 0 + j * 6 + t, none⟩ = some u := fun t u ht hu => by rw [hW', hcell, if_neg (by omega), show 0 + j * 6 + t - j * 6 = t by omega]; exact hu
    exact ⟨e 0 _ (by omega) rfl, e 1 _ (by omega) rfl, e 2 _ (by omega) rfl, e 3 _ (by omega) rfl, e 4 _ (by omega) rfl, e 5 _ (by omega) rfl, s0, s1⟩
  · have hold := h.dn j kv' (by omega) hk
    have hq : ∀ t, wq.cell? ⟨G, t, none⟩ = cur[t]? := fun t => cell_of_row _ _ _ _ _ _ h1
    have e : ∀ t u, t < 6 → wq.cell? ⟨G, 0 + j * 6 + t, none⟩ = some u → W'.cell? ⟨G, 0 + j * 6 + t, none⟩ = some u := fun t u ht hu => by rw [hW', hcell, if_pos (by omega), ← hq]; exact hu
    exact ⟨e 0 _ (by omega) hold.c0, e 1 _ (by omega) hold.c1, e 2 _ (by omega) hold.c2, e 3 _ (by omega) hold.c3, e 4 _ (by omega) hold.c4, e 5 _ (by omega) hold.c5, hold.s0, hold.s1⟩
theorem info68 : (Try.prog.info? 68).map (fun i => (i.zero, i.size, i.bytes)) = some (some (.agg #[.string ⟨#[]⟩, .string ⟨#[]⟩, .int .i64 0, .int .i64 0, .int .i64 0, .int .i64 0]), 6, 64) := by kernel_rfl
set_option maxRecDepth 100000 in
set_option maxHeartbeats 1000000 in
theorem own_kvs {Z : Nat → Prop} (l : List KVd) (v : Value) (w : World) (hv : KVs Z w v l) (hl : l.length ≤ 2199023255552) :
    Calls Try.prog 26 #[v, .func (.func 27) #[] #[]] w fun e w' => ∃ v', e = .returned v' ∧ KVs (fun k => w.heap.size ≤ k) w' v' l ∧ Below w.heap.size w w' := by
  obtain ⟨p, c, rfl, hh⟩ := hv
  by_cases h0 : l.length = 0
  · obtain rfl := List.eq_nil_of_length_eq_zero h0
    clear hh
    go_enter Try.func26, Try.ntmps26
    go_wp2
    go_ret
    exact ⟨_, rfl, KVs.nil _ _, Below.refl _ _⟩
  obtain ⟨i0, hi0, hz0, hz1, hz2⟩ := info_parts info68
  obtain ⟨n, hn⟩ : ∃ n, n = l.length := ⟨_, rfl⟩
  rw [← hn] at h0 hl
  obtain ⟨ROW, hRS, hmk⟩ : ∃ ROW : Array Value, ROW.size = n * 6 ∧ (Instr.makeSlice 56 (.int .i64 n) (.int .i64 n)).run Try.prog w = .ok (.slice (some ⟨w.heap.size, 0, none⟩) n n) (w.alloc (.cells ROW 68)) := by
    have := run_make (P := Try.prog) w 56 68 i0 _ Try.underlying56 hi0 hz0 .i64 .i64 n n (by omega) (by omega) (by rw [hz2]; omega) (by omega)
    simp only [Int.toNat_natCast] at this
    exact ⟨_, by rw [size_madeCells, hz1], this⟩
  have hgn : (w.alloc (.cells ROW 68)).heap[w.heap.size]? = some (.cells ROW 68 (0, 0)) := heap_alloc_new w _
  have HH := Hid.mk'' hh
  obtain ⟨w1, hw1⟩ : ∃ w1, w1 = w.alloc (.cells ROW 68) := ⟨_, rfl⟩
  rw [← hw1] at hmk hgn
  have HM1 : Hid (MK w w1 w.heap.size l 0) := ⟨⟨ROW, hgn, by rw [hRS, hn]⟩, fun j kv hj => by omega, by rw [hw1]; exact (Below.refl _ _).alloc (Nat.le_refl _) _⟩
  obtain ⟨G, hG⟩ : ∃ G, G = w.heap.size := ⟨_, rfl⟩
  rw [← hG] at hmk HM1
  have HG := Hid.mk'' hG
  have HN := Hid.mk'' hn
  rw [← hn]
  have hn0 : decide ((n : Int) = 0) = false := by simp; omega
  clear hh hw1 hgn hRS hG hn hz0 hz1 hz2 hi0
  go_enter Try.func26, Try.ntmps26
  go_wp2
  have hbn : ((n : Int) == 0) = false := by simp; omega
  simp only [hbn]
  go_loopg [16] (n + 1) (fun kx s16 wq => ∃ i : Nat, s16 = .int .i64 i ∧ kx + i = n + 1 ∧ i ≤ n ∧ Hid (MK w wq G l i))
  case atStart => exact ⟨0, rfl, rfl, Nat.zero_le _, HM1⟩
  case round =>
    obtain ⟨i, rfl, hkx, hi, HM⟩ := hrel
    by_cases hlt : i < n
    · obtain ⟨kv, hkv⟩ : ∃ kv, l[i]? = some kv := ⟨_, List.getElem?_eq_getElem (by rw [← HN.out]; exact hlt)⟩
      obtain ⟨g, o, rfl, hz, hgl, hk⟩ := HH.out i kv hkv
      have hk2 := hk.same (w' := wr) (fun j => HM.out.bel.cell (p := ⟨g, j, none⟩) hgl)
      obtain ⟨q0, q1, q2, q3, q4, q5, z0, z1⟩ := hk2
      have hok := fun W => own_kv kv W z0 z1
      have HKV := Hid.mk'' hkv
      obtain ⟨a, b, cc, d, f, e⟩ := kv
      dsimp only [encKV] at *
      clear hk hkv HM1
      have HW2 : Hid (∀ W2, Below (wr.alloc (.cells #[.string a, .string b, .int .i64 cc, .int .i64 d, .int .i64 f, .int .i64 e] 68)).heap.size (wr.alloc (.cells #[.string a, .string b, .int .i64 cc, .int .i64 d, .int .i64 f, .int .i64 e] 68)) W2 → MK w W2 G l i) := fun W2 hb => (HM.out.below ((Below.refl _ _).alloc (Nat.le_refl _) _)).below hb
      have HN6 : Hid (i * 6 + 6 ≤ l.length * 6) := by rw [← HN.out]; show _ ≤ _; omega
      go_wp2_with (go_at_call 27; refine (hok _).mono ?_; rintro e2 w2 ⟨rfl, hb2⟩
                   have HM2 := Hid.mk'' (HW2.out w2 hb2)
                   have hcx : ∀ t, t < 6 → ∃ u, w2.cell? ⟨G, i * 6 + t, none⟩ = some u := fun t ht => by
                     obtain ⟨cur, e1, e2⟩ := HM2.out.row
                     have := HN6.out
                     exact ⟨_, (cell_of_row _ _ _ _ _ _ e1).trans (Array.getElem?_eq_getElem (by omega))⟩
                   have hfx : ∀ t, w2.frozen? ⟨G, t, none⟩ = false := fun t => by
                     obtain ⟨cur, e1, e2⟩ := HM2.out.row
                     simp [World.frozen?, e1]
                   obtain ⟨u0, x0⟩ := hcx 0 (by omega)
                   obtain ⟨u1, x1⟩ := hcx 1 (by omega)
                   obtain ⟨u2, x2⟩ := hcx 2 (by omega)
                   obtain ⟨u3, x3⟩ := hcx 3 (by omega)
                   obtain ⟨u4, x4⟩ := hcx 4 (by omega)
                   obtain ⟨u5, x5⟩ := hcx 5 (by omega)
                   simp only [Nat.add_zero] at x0
                   clear hcx hb2)
      go_roundg (n - i)
      case measure => omega
      case rel =>
        have HP := HM2.out.put (by rw [HG.out]; exact Nat.le_refl _) HKV.out z0 z1
        dsimp only at HP
        refine ⟨i + 1, by congr 1, by omega, by omega, ?_⟩
        exact HP
    · obtain rfl : i = n := by omega
      go_wp2
      go_ret
      refine ⟨_, rfl, ⟨some ⟨G, 0, none⟩, i, by rw [← HN.out]; rfl, fun j kv hj => ?_⟩, HM.out.bel⟩
      obtain ⟨cur, e1, _⟩ := HM.out.row
      refine ⟨G, 0, rfl, by rw [HG.out]; exact Nat.le_refl _, (Array.getElem?_eq_some_iff.1 e1).1, HM.out.dn j kv (by rw [HN.out]; exact (List.getElem?_eq_some_iff.1 hj).1) hj⟩
end Go.Proofs.Ytcghaepjklmggaa
