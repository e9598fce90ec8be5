/- Rows of keys that are read; SameKVs of two that are the same; the document's find. -/
import Derived.Test.YtgbobegoknmiaaaGreatGRN
import Derived.BigQuiet
import Derived.Test.YtgbobegoknmiaaaGreatGRO
import Derived.Test.YtgbobegoknmiaaaGreatGRM
namespace Go.Proofs.YtgbobegoknmiaaaGreat
open Go Go.RowKit

theorem stood56 : Tryz.prog.stoodInHeld 62 = false := by kernel_rfl
section
variable (a0 a1 a2 a3 a4 a5 : Value) (w : World)
theorem p56_0 : (part 9 #[a0, a1, a2, a3, a4, a5] 0).run Tryz.prog w = .ok a0 w := by kernel_rfl
theorem p56_1 : (part 9 #[a0, a1, a2, a3, a4, a5] 1).run Tryz.prog w = .ok a1 w := by kernel_rfl
theorem p56_2 : (part 3 #[a0, a1, a2, a3, a4, a5] 2).run Tryz.prog w = .ok a2 w := by kernel_rfl
theorem p56_3 : (part 3 #[a0, a1, a2, a3, a4, a5] 3).run Tryz.prog w = .ok a3 w := by kernel_rfl
theorem p56_4 : (part 3 #[a0, a1, a2, a3, a4, a5] 4).run Tryz.prog w = .ok a4 w := by kernel_rfl
theorem p56_5 : (part 3 #[a0, a1, a2, a3, a4, a5] 5).run Tryz.prog w = .ok a5 w := by kernel_rfl
end
theorem eq56 (k : KVd) (w : World) : (Op.equal 62 (encKV k) (encKV k)).run Tryz.prog w = .ok true w := by
  obtain ⟨a, b, c, d, e, f⟩ := k
  show (Op.equalIn (9999 + 1) 62 _ _).run Tryz.prog w = _
  have s1 := eqStr 9998 a a w
  have s2 := eqStr 9998 b b w
  have b1 : (a == a) = true := (MapKept.bytes_beq a a).2 rfl
  have b2 : (b == b) = true := (MapKept.bytes_beq b b).2 rfl
  rw [b1] at s1
  rw [b2] at s2
  have i1 := eqInt 9998 c c w
  have i2 := eqInt 9998 d d w
  have i3 := eqInt 9998 e e w
  have i4 := eqInt 9998 f f w
  unfold Op.equalIn
  dsimp only [encKV]
  simp only [Sem.run_bind, run_underlying Tryz.underlying62, Result.andThen, run_program, stood56]
  simp [p56_0, p56_1, p56_2, p56_3, p56_4, p56_5, s1, s2, i1, i2, i3, i4, Result.andThen]
theorem kvsC_at : ∀ {l : List KVd} {i : Nat} {kv : KVd} (_ : l[i]? = some kv) (t : Nat), t < 6 → (kvsC l)[i * 6 + t]? = (kvC kv)[t]?
  | [], i, kv, h, t, ht => by simp at h
  | x :: l, 0, kv, h, t, ht => by
    have e : x = kv := by simpa using h
    subst e
    show (kvC x ++ kvsC l)[0 * 6 + t]? = _
    rw [Nat.zero_mul, Nat.zero_add, List.getElem?_append_left (by show t < 6; exact ht)]
  | x :: l, i + 1, kv, h, t, ht => by
    have h' : l[i]? = some kv := by simpa using h
    show (kvC x ++ kvsC l)[(i + 1) * 6 + t]? = _
    rw [List.getElem?_append_right (by show 6 ≤ _; omega)]
    have e : (i + 1) * 6 + t - (kvC x).length = i * 6 + t := by show (i + 1) * 6 + t - 6 = _; omega
    rw [e]
    exact kvsC_at h' t ht
/-- A row of keys that can be read. -/
def KVs (w : World) (v : Value) (l : List KVd) : Prop := ∃ p c, v = .slice p l.length c ∧ l.length ≤ c ∧ ∀ i kv, l[i]? = some kv → ∃ g, p = some ⟨g, 0, none⟩ ∧ g < w.heap.size ∧ w.cell? ⟨g, i * 6, none⟩ = some (.string kv.key) ∧ w.cell? ⟨g, i * 6 + 1, none⟩ = some (.string kv.value) ∧ w.cell? ⟨g, i * 6 + 2, none⟩ = some (.int .i64 kv.create) ∧ w.cell? ⟨g, i * 6 + 3, none⟩ = some (.int .i64 kv.mod) ∧ w.cell? ⟨g, i * 6 + 4, none⟩ = some (.int .i64 kv.version) ∧ w.cell? ⟨g, i * 6 + 5, none⟩ = some (.int .i64 kv.lease)
theorem KVs.of {w : World} {B : Nat} {v : Value} {l : List KVd} (h : w.ownsRow B 62 6 v l.length (kvsC l)) : KVs w v l := by
  by_cases h0 : l.length = 0
  · obtain ⟨p, c, rfl⟩ := owns_formB0 h
    exact ⟨p, c, rfl, by omega, fun i kv hi => by have := (List.getElem?_eq_some_iff.1 hi).1; omega⟩
  · obtain ⟨g, c, hv, hc, _⟩ := owns_formB h (by omega)
    refine ⟨_, c, hv, hc, fun i kv hi => ?_⟩
    have hb : v.ownBlock = some g := by rw [hv]; rfl
    have hcell : ∀ t u, t < 6 → (kvC kv)[t]? = some u → w.cell? ⟨g, i * 6 + t, none⟩ = some u := fun t u ht hu => by
      have := h.cells (g := g) hb (i * 6 + t) u ((kvsC_at hi t ht).trans hu)
      simpa only [Addr.add_lit, Nat.zero_add] using this
    exact ⟨g, rfl, (h.lt g hb).2, hcell 0 _ (by omega) rfl, hcell 1 _ (by omega) rfl, hcell 2 _ (by omega) rfl, hcell 3 _ (by omega) rfl, hcell 4 _ (by omega) rfl, hcell 5 _ (by omega) rfl⟩
theorem KVs.nil (w : World) : KVs w (.slice none 0 0) [] := ⟨none, 0, rfl, Nat.le_refl _, fun i kv hi => by simp at hi⟩
theorem KVs.below {w w' : World} {v : Value} {l : List KVd} (h : KVs w v l) {B : Nat} (hb : Below B w w') (hB : w.heap.size ≤ B) : KVs w' v l := by
  obtain ⟨p, c, rfl, hc, hh⟩ := h
  refine ⟨p, c, rfl, hc, fun i kv hi => ?_⟩
  obtain ⟨g, h1, h2, h3, h4, h5, h6, h7, h8⟩ := hh i kv hi
  have hq : ∀ t, w'.cell? ⟨g, t, none⟩ = w.cell? ⟨g, t, none⟩ := fun t => hb.cell (p := ⟨g, t, none⟩) (by show g < _; omega)
  exact ⟨g, h1, Nat.lt_of_lt_of_le h2 (by have := hb.size; omega), (hq _).trans h3, (hq _).trans h4, (hq _).trans h5, (hq _).trans h6, (hq _).trans h7, (hq _).trans h8⟩
set_option maxRecDepth 100000 in
set_option maxHeartbeats 1000000 in
/-- Two rows of the same keys are the same. -/
theorem same_kvs {w : World} {va vb : Value} {l : List KVd} (ha : KVs w va l) (hb : KVs w vb l) (hl : l.length ≤ 1000000) : Calls Tryz.prog 51 #[va, vb] w fun e w' => e = .returned (.bool true) ∧ Below w.heap.size w w' := by
  obtain ⟨pa, ca, rfl, hca, hA⟩ := ha
  obtain ⟨pb, cb, rfl, hcb, hB⟩ := hb
  have HA := Hid.mk'' hA
  have HB := Hid.mk'' hB
  clear hA hB
  go_enter Tryz.func51, Tryz.ntmps51
  go_wp2
  go_loopg [5] (l.length + 1) (fun kx s5 wr => ∃ i : Nat, s5 = .int .i64 i ∧ kx + i = l.length + 1 ∧ i ≤ l.length ∧ Hid (Below w.heap.size w wr))
  case atStart => exact ⟨0, rfl, rfl, Nat.zero_le _, Below.refl _ _⟩
  case round =>
    obtain ⟨i, rfl, hkx, hi, HM⟩ := hrel
    by_cases hlt : i < l.length
    · obtain ⟨kv, hkv⟩ : ∃ kv, l[i]? = some kv := ⟨_, List.getElem?_eq_getElem hlt⟩
      obtain ⟨ga, rfl, la, a0, a1, a2, a3, a4, a5⟩ := HA.out i kv hkv
      obtain ⟨gb, rfl, lb, b0, b1, b2, b3, b4, b5⟩ := HB.out i kv hkv
      have heq := eq56 kv
      obtain ⟨kk, kvv, kcr, kmo, kve, kle⟩ := kv
      dsimp only [encKV] at *
      have qa : ∀ t, wr.drew.cell? ⟨ga, t, none⟩ = w.cell? ⟨ga, t, none⟩ := fun t => HM.out.cell (p := ⟨ga, t, none⟩) la
      have qb : ∀ t, wr.drew.cell? ⟨gb, t, none⟩ = w.cell? ⟨gb, t, none⟩ := fun t => HM.out.cell (p := ⟨gb, t, none⟩) lb
      have c0 := (qa _).trans a0
      have c1 := (qa _).trans a1
      have c2 := (qa _).trans a2
      have c3 := (qa _).trans a3
      have c4 := (qa _).trans a4
      have c5 := (qa _).trans a5
      have d0 := (qb _).trans b0
      have d1 := (qb _).trans b1
      have d2 := (qb _).trans b2
      have d3 := (qb _).trans b3
      have d4 := (qb _).trans b4
      have d5 := (qb _).trans b5
      clear a0 a1 a2 a3 a4 a5 b0 b1 b2 b3 b4 b5 qa qb hkv
      go_upto_region 6 with fail
      go_region
      all_goals
        go_wp2
        go_roundg (l.length - i)
        case measure => omega
        case rel => exact ⟨i + 1, by congr 1, by omega, by omega, HM.out.drew⟩
    · obtain rfl : i = l.length := by omega
      go_wp2
      go_ret
      exact ⟨rfl, HM.out⟩
/-- How many keys stand ahead of a key. -/
def cntK (l : List KVd) (key : ByteArray) : Nat := (l.filter fun kv => klt kv.key key).length
theorem cntK_le (l : List KVd) (key : ByteArray) : cntK l key ≤ l.length := List.length_filter_le _ _
theorem cntK_none {x : KVd} {l : List KVd} {key : ByteArray} (ha : Asc ((x :: l).map (·.key))) (hx : klt x.key key = false) : ∀ y ∈ x :: l, klt y.key key = false := fun y hy => by
  rcases List.mem_cons.1 hy with rfl | hy
  · exact hx
  · have h1 : klt x.key y.key = true := ha.1 _ (List.mem_map_of_mem hy)
    cases h : klt y.key key
    · rfl
    · rw [klt_trans h1 h] at hx
      cases hx
/-- In a rising row the keys ahead of a key are its front. -/
theorem cntK_iff : ∀ {l : List KVd} {key : ByteArray}, Asc (l.map (·.key)) → ∀ {i : Nat} {kv : KVd}, l[i]? = some kv → (klt kv.key key = true ↔ i < cntK l key)
  | [], _, _, i, kv, h => by simp at h
  | x :: l, key, ha, i, kv, h => by
    cases hx : klt x.key key
    · have hn := cntK_none ha hx
      have e : cntK (x :: l) key = 0 := by
        unfold cntK
        rw [List.filter_eq_nil_iff.2 (fun y hy => by rw [hn y hy]; decide)]
        rfl
      rw [e, hn kv (List.mem_of_getElem? h)]
      simp
    · have e : cntK (x :: l) key = cntK l key + 1 := by
        unfold cntK
        rw [List.filter_cons_of_pos (p := fun kv : KVd => klt kv.key key) hx]
        rfl
      rw [e]
      match i, h with
      | 0, h =>
        have : x = kv := by simpa using h
        subst this
        rw [hx]
        simp
      | i + 1, h =>
        have := cntK_iff (key := key) ha.2 (show l[i]? = some kv by simpa using h)
        rw [this]
        omega
set_option maxRecDepth 100000 in
set_option maxHeartbeats 1000000 in
theorem find_kvs {w : World} {va : Value} {l : List KVd} (ha : KVs w va l) (hl : l.length ≤ 1000000) (hs : Asc (l.map (·.key))) (key : ByteArray) : Calls Tryz.prog 65 #[va, .string key] w fun e w' => e = .returned (.int .i64 (cntK l key)) ∧ w' = w := by
  obtain ⟨pa, ca, rfl, hca, hA⟩ := ha
  have HA := Hid.mk'' hA
  have HS := Hid.mk'' hs
  have HC := Hid.mk'' (cntK_le l key)
  clear hA hs
  go_enter Tryz.func65, Tryz.ntmps65
  go_wp2
  go_loopg [5, 6] (l.length + 1) (fun kx s5 s6 wr => ∃ a b : Nat, s5 = .int .i64 a ∧ s6 = .int .i64 b ∧ b - a < kx ∧ a ≤ cntK l key ∧ cntK l key ≤ b ∧ b ≤ l.length ∧ wr = w)
  case atStart => exact ⟨0, l.length, rfl, rfl, by omega, Nat.zero_le _, HC.out, Nat.le_refl _, rfl⟩
  case round =>
    obtain ⟨a, b, rfl, rfl, hkx, h1, h2, h3, rfl⟩ := hrel
    by_cases hlt : a < b
    · obtain ⟨m, hm⟩ : ∃ m : Nat, m = (a + b) / 2 := ⟨_, rfl⟩
      have hm1 : a ≤ m ∧ m < b := by omega
      obtain ⟨kv, hkv⟩ : ∃ kv, l[m]? = some kv := ⟨_, List.getElem?_eq_getElem (by omega)⟩
      obtain ⟨g, rfl, la, a0, -⟩ := HA.out m kv hkv
      have hiff := cntK_iff (key := key) HS.out hkv
      go_upto_region 4 with fail
      have em : ((a : Int) + b) / 2 = (m : Int) := by omega
      rw [em]
      have hml : m < l.length := by omega
      have hmb : b - (m + 1) < gk - 1 ∧ m - a < gk - 1 := by omega
      clear em hm HA
      go_wp2
      · have hb := ‹Op.bytesLess kv.key.toList key.toList = true›
        rw [bl_data] at hb
        have := hiff.1 hb
        go_roundg (gk - 1)
        case measure => omega
        case rel => exact ⟨m + 1, b, by congr 1, rfl, hmb.1, this, h2, h3, rfl⟩
      · have hb := ‹Op.bytesLess kv.key.toList key.toList = false›
        rw [bl_data] at hb
        have : ¬ m < cntK l key := fun h => by have e := hiff.2 h; rw [hb] at e; cases e
        go_roundg (gk - 1)
        case measure => omega
        case rel => exact ⟨a, m, rfl, rfl, hmb.2, h1, by omega, by omega, rfl⟩
    · obtain rfl : a = cntK l key := by omega
      go_wp2
      go_ret
      exact ⟨rfl, rfl⟩
end Go.Proofs.YtgbobegoknmiaaaGreat
/- Lists of keys and of results that can be read; how much keys count for. -/
namespace Go.Proofs.YtgbobegoknmiaaaGreat
open Go Go.RowKit

/-- A key and what is with it, in memory. -/
structure HasZ (w : World) (g o : Nat) (kv : KVd) : Prop where
  c0 : w.cell? ⟨g, o, none⟩ = some (.string kv.key)
  c1 : w.cell? ⟨g, o + 1, none⟩ = some (.string kv.value)
  c2 : w.cell? ⟨g, o + 2, none⟩ = some (.int .i64 kv.create)
  c3 : w.cell? ⟨g, o + 3, none⟩ = some (.int .i64 kv.mod)
  c4 : w.cell? ⟨g, o + 4, none⟩ = some (.int .i64 kv.version)
  c5 : w.cell? ⟨g, o + 5, none⟩ = some (.int .i64 kv.lease)
  s0 : kv.key.size ≤ 140737488355328
  s1 : kv.value.size ≤ 140737488355328
theorem HasZ.same {w w' : World} {g o : Nat} {kv : KVd} (h : HasZ w g o kv) (hc : ∀ j, w'.cell? ⟨g, j, none⟩ = w.cell? ⟨g, j, none⟩) : HasZ w' g o kv :=
  ⟨(hc _).trans h.c0, (hc _).trans h.c1, (hc _).trans h.c2, (hc _).trans h.c3, (hc _).trans h.c4, (hc _).trans h.c5, h.s0, h.s1⟩
/-- A list of keys that can be read; its block is one of Z. -/
def KVz (Z : Nat → Prop) (w : World) (v : Value) (l : List KVd) : Prop :=
  ∃ p c, v = .slice p l.length c ∧ ∀ i kv, l[i]? = some kv → ∃ g o, p = some ⟨g, o, none⟩ ∧ Z g ∧ g < w.heap.size ∧ HasZ w g (o + i * 6) kv
theorem KVz.upd {Z S : Nat → Prop} {w w' : World} {v : Value} {l : List KVd} (h : KVz Z w v l) (hu : Upd w w' S) (hS : ∀ k, Z k → ¬ S k) : KVz Z w' v l := by
  obtain ⟨p, c, rfl, hh⟩ := h
  refine ⟨p, c, rfl, fun i kv hi => ?_⟩
  obtain ⟨g, o, e, hz, hl, hk⟩ := hh i kv hi
  exact ⟨g, o, e, hz, Nat.lt_of_lt_of_le hl hu.size, hk.same (fun j => hu.cell (p := ⟨g, j, none⟩) hl (hS g hz))⟩
theorem KVz.below {Z : Nat → Prop} {w w' : World} {v : Value} {l : List KVd} (h : KVz Z w v l) (hb : Below w.heap.size w w') : KVz Z w' v l := h.upd (S := fun _ => False) (Upd.ofBelow hb) (fun _ _ h => h)
theorem KVz.mono {Z Z' : Nat → Prop} {w : World} {v : Value} {l : List KVd} (h : KVz Z w v l) (hz : ∀ k, Z k → Z' k) : KVz Z' w v l := by
  obtain ⟨p, c, rfl, hh⟩ := h
  refine ⟨p, c, rfl, fun i kv hi => ?_⟩
  obtain ⟨g, o, e, hz1, hl, hk⟩ := hh i kv hi
  exact ⟨g, o, e, hz g hz1, hl, hk⟩
theorem KVz.nil (Z : Nat → Prop) (w : World) : KVz Z w (.slice none 0 0) [] := ⟨none, 0, rfl, fun i kv hi => by simp at hi⟩
structure Rs where
  n : Int
  kvs : List KVd
/-- A result in memory. -/
structure HasY (Z : Nat → Prop) (w : World) (g o : Nat) (r : Rs) : Prop where
  c0 : w.cell? ⟨g, o, none⟩ = some (.int .i64 r.n)
  c1 : ∃ u, w.cell? ⟨g, o + 1, none⟩ = some u ∧ KVz Z w u r.kvs
  ln : r.kvs.length ≤ 2199023255552
theorem HasY.upd {Z S : Nat → Prop} {w w' : World} {g o : Nat} {r : Rs} (h : HasY Z w g o r) (hz : Z g) (hl : g < w.heap.size) (hu : Upd w w' S) (hS : ∀ k, Z k → ¬ S k) : HasY Z w' g o r := by
  have hc := fun j => hu.cell (p := ⟨g, j, none⟩) hl (hS g hz)
  obtain ⟨u, h1, h2⟩ := h.c1
  exact ⟨(hc _).trans h.c0, ⟨u, (hc _).trans h1, h2.upd hu hS⟩, h.ln⟩
/-- A list of results that can be read; its blocks are of Z. -/
def RSz (Z : Nat → Prop) (w : World) (v : Value) (l : List Rs) : Prop :=
  ∃ p c, v = .slice p l.length c ∧ ∀ i r, l[i]? = some r → ∃ g o, p = some ⟨g, o, none⟩ ∧ Z g ∧ g < w.heap.size ∧ HasY Z w g (o + i * 2) r
theorem RSz.upd {Z S : Nat → Prop} {w w' : World} {v : Value} {l : List Rs} (h : RSz Z w v l) (hu : Upd w w' S) (hS : ∀ k, Z k → ¬ S k) : RSz Z w' v l := by
  obtain ⟨p, c, rfl, hh⟩ := h
  refine ⟨p, c, rfl, fun i kv hi => ?_⟩
  obtain ⟨g, o, e, hz, hl, hk⟩ := hh i kv hi
  exact ⟨g, o, e, hz, Nat.lt_of_lt_of_le hl hu.size, hk.upd hz hl hu hS⟩
theorem RSz.below {Z : Nat → Prop} {w w' : World} {v : Value} {l : List Rs} (h : RSz Z w v l) (hb : Below w.heap.size w w') : RSz Z w' v l := h.upd (S := fun _ => False) (Upd.ofBelow hb) (fun _ _ h => h)
theorem RSz.mono {Z Z' : Nat → Prop} {w : World} {v : Value} {l : List Rs} (h : RSz Z w v l) (hz : ∀ k, Z k → Z' k) : RSz Z' w v l := by
  obtain ⟨p, c, rfl, hh⟩ := h
  refine ⟨p, c, rfl, fun i kv hi => ?_⟩
  obtain ⟨g, o, e, hz1, hl, hk⟩ := hh i kv hi
  obtain ⟨u, h1, h2⟩ := hk.c1
  exact ⟨g, o, e, hz g hz1, hl, hk.c0, ⟨u, h1, h2.mono hz⟩, hk.ln⟩
theorem RSz.nil (Z : Nat → Prop) (w : World) : RSz Z w (.slice none 0 0) [] := ⟨none, 0, rfl, fun i kv hi => by simp at hi⟩
/-- A key that a store may keep. -/
def smallK (kv : KVd) : Prop := kv.key.size ≤ 100 ∧ kv.value.size ≤ 4096
theorem kvz_of {w w' : World} {p : Option Addr} {c : Nat} {l : List KVd} (h : KR w w' (.slice p l.length c) l) (hs : ∀ kv ∈ l, smallK kv) : KVz (fun k => w.heap.size ≤ k) w' (.slice p l.length c) l := by
  refine ⟨p, c, rfl, fun i kv hi => ?_⟩
  rcases h.1.2 with ⟨e1, e2⟩ | ⟨g, cap, cur, e, hbase, hb, h1, h2, h3, h4⟩
  · have := (List.getElem?_eq_some_iff.1 hi).1
    omega
  · cases e
    have q : ∀ t u, t < 6 → (kvC kv)[t]? = some u → w'.cell? ⟨g, 0 + i * 6 + t, none⟩ = some u := fun t u ht hu => by
      have := h.1.cells (g := g) rfl (i * 6 + t) u ((kvsC_at hi t ht).trans hu)
      rw [Nat.zero_add]
      simpa only [Addr.add_lit, Nat.zero_add] using this
    obtain ⟨s0, s1⟩ := hs kv (List.mem_of_getElem? hi)
    exact ⟨g, 0, rfl, hbase, (Array.getElem?_eq_some_iff.1 hb).1, ⟨q 0 _ (by omega) rfl, q 1 _ (by omega) rfl, q 2 _ (by omega) rfl, q 3 _ (by omega) rfl, q 4 _ (by omega) rfl, q 5 _ (by omega) rfl, by omega, by omega⟩⟩
def sizeK : List KVd → Nat
  | [] => 0
  | kv :: l => kv.key.size + kv.value.size + 40 + sizeK l
theorem sizeK_append : ∀ a b : List KVd, sizeK (a ++ b) = sizeK a + sizeK b
  | [], b => by simp [sizeK]
  | x :: a, b => by simp only [List.cons_append, sizeK, sizeK_append a b]; omega
theorem sizeK_le : ∀ {l : List KVd}, (∀ kv ∈ l, smallK kv) → sizeK l ≤ l.length * 4236
  | [], _ => Nat.zero_le _
  | x :: l, h => by
    have h1 := h x (by simp)
    have h2 := sizeK_le (l := l) (fun y hy => h y (by simp [hy]))
    unfold smallK at h1
    simp only [sizeK, List.length_cons]
    omega
theorem sizeK_take {l : List KVd} {i : Nat} {kv : KVd} (h : l[i]? = some kv) : sizeK (l.take (i + 1)) = sizeK (l.take i) + (kv.key.size + kv.value.size + 40) := by
  rw [List.take_add_one, h, sizeK_append]
  simp [sizeK]
set_option maxRecDepth 100000 in
set_option maxHeartbeats 1000000 in
theorem size_any {Z : Nat → Prop} (l : List KVd) (v : Value) (w : World) (hv : KVz Z w v l) (hs : ∀ kv ∈ l, smallK kv) (hl : l.length ≤ 1000000) :
    Calls Tryz.prog 67 #[v] w fun e w' => e = .returned (.int .i64 (sizeK l)) ∧ Below w.heap.size w w' := by
  obtain ⟨p, c, rfl, hh⟩ := hv
  have HH := Hid.mk'' hh
  have HS : Hid (∀ i, sizeK (l.take i) ≤ 4236000000) := fun i => by
    have h1 := sizeK_le (l := l.take i) (fun kv hk => hs kv (List.mem_of_mem_take hk))
    rw [List.length_take] at h1
    have : min i l.length * 4236 ≤ 1000000 * 4236 := Nat.mul_le_mul_right _ (by omega)
    omega
  have HT : Hid (∀ i kv, l[i]? = some kv → sizeK (l.take (i + 1)) = sizeK (l.take i) + (kv.key.size + kv.value.size + 40)) := fun i kv h => sizeK_take h
  have HA : Hid (sizeK (l.take l.length) = sizeK l) := by show _ = _; rw [List.take_length]
  obtain ⟨m, hm⟩ : ∃ m, m = l.length := ⟨_, rfl⟩
  rw [← hm] at hl HA ⊢
  have HN := Hid.mk'' hm
  clear hh hm
  go_enter Tryz.func67, Tryz.ntmps67
  go_wp2
  go_loopg [3, 8] (m + 1) (fun kx s3 s8 wr => ∃ i : Nat, s3 = .int .i64 (sizeK (l.take i)) ∧ s8 = .int .i64 i ∧ kx + i = m + 1 ∧ i ≤ m ∧ Hid (Below w.heap.size w wr))
  case atStart => exact ⟨0, by simp [sizeK], rfl, rfl, Nat.zero_le _, Below.refl _ _⟩
  case round =>
    obtain ⟨i, rfl, rfl, hkx, hi, HM⟩ := hrel
    by_cases hlt : i < m
    · obtain ⟨x, hx⟩ : ∃ x, l[i]? = some x := ⟨_, List.getElem?_eq_getElem (by rw [← HN.out]; exact hlt)⟩
      obtain ⟨gg, oo, rfl, hz, hgl, hk⟩ := HH.out i x hx
      obtain ⟨q0, q1, q2, q3, q4, q5, z0, z1⟩ := hk.same (w' := wr) (fun j => HM.out.cell (p := ⟨gg, j, none⟩) hgl)
      have HSU := Hid.mk'' (HT.out i x hx)
      have hb0 := HS.out i
      have hb1 := HS.out (i + 1)
      rw [HSU.out] at hb1
      obtain ⟨T, hT⟩ : ∃ T, T = sizeK (l.take i) := ⟨_, rfl⟩
      rw [← hT] at hb0 hb1 ⊢
      have HTT := Hid.mk'' hT
      obtain ⟨a, b, cc, d, f, h⟩ := x
      dsimp only at *
      clear hk hx hT
      go_wp2
      go_roundg (m - i)
      case measure => omega
      case rel => exact ⟨i + 1, by rw [HSU.out, ← HTT.out]; congr 1, by congr 1, by omega, by omega, HM.out.alloc HM.out.size _⟩
    · obtain rfl : i = m := by omega
      go_wp2
      go_ret
      exact ⟨by rw [← HA.out]; rfl, HM.out⟩
end Go.Proofs.YtgbobegoknmiaaaGreat
/- A put, a deletion, within a write: one contract each, for every store. -/
namespace Go.Proofs.YtgbobegoknmiaaaGreat
open Go Go.RowKit

theorem nodup_le {α : Type} : ∀ {l m : List α}, l.Nodup → (∀ x ∈ l, x ∈ m) → l.length ≤ m.length
  | [], _, _, _ => Nat.zero_le _
  | a :: l, m, hn, hs => by
    obtain ⟨h1, h2⟩ := List.nodup_cons.1 hn
    obtain ⟨A, B, rfl⟩ := List.append_of_mem (hs a (by simp))
    have := nodup_le (l := l) (m := A ++ B) h2 (fun x hx => by
      have h3 := hs x (by simp [hx])
      have h4 : x ≠ a := fun e => h1 (e ▸ hx)
      simp only [List.mem_append, List.mem_cons] at h3 ⊢
      rcases h3 with h | h | h
      · exact .inl h
      · exact absurd h h4
      · exact .inr h)
    simp only [List.length_cons, List.length_append] at this ⊢
    omega
/-- A write of j puts at most. -/
structure WI (S : Sto) (W : Wri) (j : Nat) : Prop where
  ok : Wok S W
  ps : ∃ P : List ByteArray, P.length ≤ j ∧ ∀ k ∈ W.keys, k ∈ S.ks ∨ k ∈ P
  lo : (S.nth : Int) - W.keys.length ≤ W.count
  hi : W.count ≤ (S.nth : Int) + W.keys.length
  sm : ∀ k v, W.ch k = some (some v) → smallK v
/-- A store that is not too great. -/
structure SF (n : Nat) (S : Sto) : Prop where
  n : n ≤ 20000
  ks : S.ks.length ≤ 10000
  nth : S.nth ≤ 10000
  rev : S.rev ≤ 500000
  sm : ∀ k r v, (r, some v) ∈ S.kh k → smallK v
theorem WI.kl {S : Sto} {W : Wri} {j : Nat} (H : WI S W j) (hnd : W.keys.Nodup) : W.keys.length ≤ S.ks.length + j := by
  obtain ⟨P, h1, h2⟩ := H.ps
  have := nodup_le (m := S.ks ++ P) hnd (fun k hk => List.mem_append.2 (h2 k hk))
  rw [List.length_append] at this
  omega
theorem WI.mono {S : Sto} {W : Wri} {j i : Nat} (H : WI S W j) (h : j ≤ i) : WI S W i := by
  obtain ⟨P, h1, h2⟩ := H.ps
  exact ⟨H.ok, ⟨P, by omega, h2⟩, H.lo, H.hi, H.sm⟩
theorem WI.new (S : Sto) : WI S (noW S.nth) 0 :=
  ⟨fun k c hc => (by cases hc), ⟨[], Nat.le_refl _, fun k hk => (by cases hk)⟩, by show (S.nth : Int) - ((0 : Nat) : Int) ≤ S.nth; omega, by show (S.nth : Int) ≤ S.nth + ((0 : Nat) : Int); omega, fun k v hv => by cases hv⟩
theorem WI.noted {S : Sto} {W : Wri} {j : Nat} (H : WI S W j) (W' : Wri) (key : ByteArray) (kv : KVd) (hW : W' = W.note key (some kv) ∨ W' = ({ W with count := W.count + 1 } : Wri).note key (some kv))
    (hk : 0 < key.size ∧ key.size ≤ 100) (hkv : kv.key = key ∧ kv.mod = (S.rev : Int) + 1 ∧ 1 ≤ kv.version ∧ kv.version ≤ (S.rev : Int) + 1) (hv : kv.value.size ≤ 4096) : WI S W' (j + 1) := by
  obtain ⟨P, h1, h2⟩ := H.ps
  have hlo := H.lo
  have hhi := H.hi
  have hch : (∀ k, W'.ch k = if k = key then some (some kv) else W.ch k) ∧ W'.keys = W.keys ++ [key] ∧ W.count ≤ W'.count ∧ W'.count ≤ W.count + 1 := by
    rcases hW with rfl | rfl
    · exact ⟨fun _ => rfl, rfl, by show W.count ≤ W.count; omega, by show W.count ≤ W.count + 1; omega⟩
    · exact ⟨fun _ => rfl, rfl, by show W.count ≤ W.count + 1; omega, by show W.count + 1 ≤ W.count + 1; omega⟩
  obtain ⟨c1, c2, c3, c4⟩ := hch
  refine ⟨fun k c hc => ?_, ⟨key :: P, by simp; omega, fun k hk => ?_⟩, by rw [c2, List.length_append]; simp; omega, by rw [c2, List.length_append]; simp; omega, fun k v hc => ?_⟩
  · rw [c1 k] at hc
    by_cases e : k = key
    · rw [if_pos e] at hc
      cases hc
      subst e
      exact ⟨hk, fun v hv => by cases hv; exact hkv, fun hv => by cases hv⟩
    · rw [if_neg e] at hc
      exact H.ok k c hc
  · rw [c2] at hk
    rcases List.mem_append.1 hk with hk | hk
    · exact (h2 k hk).imp id (fun h => by simp [h])
    · exact .inr (by simp at hk; simp [hk])
  · rw [c1 k] at hc
    by_cases e : k = key
    · rw [if_pos e] at hc
      cases hc
      exact ⟨by rw [hkv.1]; exact hk.2, hv⟩
    · rw [if_neg e] at hc
      exact H.sm k v hc
/-- The error of a put within a write. -/
def tputE (S : Sto) (W : Wri) (o : Opd) : Int := if isK o.key = false ∨ o.lease < 0 then 1 else if 4096 < o.value.size then 5 else if (W.ch o.key).isSome = true then 18 else if (thereH (S.kh o.key)).isNone = true ∧ 4096 ≤ W.count then 14 else 0
def tputK (S : Sto) (W : Wri) (o : Opd) : Wri := match thereH (S.kh o.key) with
  | some kv => W.note o.key (some ⟨o.key, o.value, kv.create, (S.rev : Int) + 1, kv.version + 1, o.lease⟩)
  | none => ({ W with count := W.count + 1 } : Wri).note o.key (some ⟨o.key, o.value, (S.rev : Int) + 1, (S.rev : Int) + 1, 0 + 1, o.lease⟩)
def tputW (S : Sto) (W : Wri) (o : Opd) : Wri := if tputE S W o = 0 then tputK S W o else W
theorem KpW.keep {w w' : World} {b : Nat} {h : Wg} (hb : Below w.heap.size w w') : KpW w w' b h h := ⟨(Upd.ofBelow (S := ftW b h) hb), fun _k hk => .inl hk⟩
theorem wput_any {n : Nat} {w : World} {s b j : Nat} {S : Sto} {W : Wri} {g : Sg} {h : Wg} (H : Ow n w s b S W g h) (F : SF n S) (I : WI S W j) (hj : j ≤ 1000) (o : Opd) (hks : o.key.size ≤ 140737488355328) (hvs : o.value.size ≤ 140737488355328) :
    Calls Tryz.prog 23 #[ptr b, .string o.key, .string o.value, .int .i64 o.lease] w fun e w' => e = .returned (.int .i64 (tputE S W o)) ∧ ∃ h', Hid (Ow n w' s b S (tputW S W o) g h' ∧ WI S (tputW S W o) (j + 1) ∧ KpW w w' b h h') := by
  have hkl := I.kl H.wr.nd
  have hlo := I.lo
  have hhi := I.hi
  have f1 := F.ks
  have f2 := F.nth
  have f3 := F.rev
  obtain ⟨kd, key, fin, value, lease, lim⟩ := o
  dsimp only at hks hvs ⊢
  unfold tputW
  by_cases hk : 0 < key.size ∧ key.size ≤ 100
  · have hK : isK key = true := decide_eq_true hk
    by_cases hl : lease < 0
    · have hE : tputE S W ⟨kd, key, fin, value, lease, lim⟩ = 1 := if_pos (.inr hl)
      rw [hE, if_neg (by decide)]
      refine (wput_arg H key value lease (by omega) (.inr hl)).mono ?_
      rintro e w' ⟨rfl, rfl⟩
      exact ⟨rfl, h, H, I.mono (by omega), KpW.keep (Below.refl _ _)⟩
    · have hne : ¬ (isK key = false ∨ lease < 0) := by rw [hK]; rintro (h | h); cases h; exact hl h
      by_cases hv : 4096 < value.size
      · have hE : tputE S W ⟨kd, key, fin, value, lease, lim⟩ = 5 := by unfold tputE; dsimp only; rw [if_neg hne, if_pos hv]
        rw [hE, if_neg (by decide)]
        refine (wput_long H key value lease (by omega) (by omega) hk hl hv).mono ?_
        rintro e w' ⟨rfl, rfl⟩
        exact ⟨rfl, h, H, I.mono (by omega), KpW.keep (Below.refl _ _)⟩
      · cases hc : W.ch key with
        | some o =>
          have hE : tputE S W ⟨kd, key, fin, value, lease, lim⟩ = 18 := by unfold tputE; dsimp only; rw [if_neg hne, if_neg hv, if_pos (by rw [hc]; rfl)]
          rw [hE, if_neg (by decide)]
          refine (wput_twice H key value lease (by omega) (by omega) hk hl hv hc).mono ?_
          rintro e w' ⟨rfl, rfl⟩
          exact ⟨rfl, h, H, I.mono (by omega), KpW.keep (Below.refl _ _)⟩
        | none =>
          have hc' : ¬ (W.ch key).isSome = true := by rw [hc]; decide
          cases ht : thereH (S.kh key) with
          | some kv =>
            have hE : tputE S W ⟨kd, key, fin, value, lease, lim⟩ = 0 := by unfold tputE; dsimp only; rw [if_neg hne, if_neg hv, if_neg hc', if_neg (by rw [ht]; simp)]
            have hP : tputK S W ⟨kd, key, fin, value, lease, lim⟩ = W.note key (some ⟨key, value, kv.create, (S.rev : Int) + 1, kv.version + 1, lease⟩) := by unfold tputK; dsimp only; rw [ht]
            rw [hE, if_pos rfl, hP]
            obtain ⟨r, hm, _⟩ := thereH_mem ht
            obtain ⟨_, _, p1, p2⟩ := (H.st.hok key).kv r kv hm
            have p3 := ((H.st.hok key).pos _ hm).2
            dsimp only at p3
            refine (wput_there H key value lease hk hv hl hc (by omega) (by omega) ht (by omega)).mono ?_
            rintro e w' ⟨rfl, h', q1, q2⟩
            exact ⟨rfl, h', q1, I.noted _ key _ (.inl rfl) hk ⟨rfl, rfl, by show 1 ≤ kv.version + 1; omega, by show kv.version + 1 ≤ _; omega⟩ (by show value.size ≤ 4096; omega), q2⟩
          | none =>
            by_cases hf : 4096 ≤ W.count
            · have hE : tputE S W ⟨kd, key, fin, value, lease, lim⟩ = 14 := by unfold tputE; dsimp only; rw [if_neg hne, if_neg hv, if_neg hc', if_pos (by rw [ht]; exact ⟨rfl, hf⟩)]
              rw [hE, if_neg (by decide)]
              refine (wput_full H key value lease (by omega) (by omega) hk hl hv hc ht hf).mono ?_
              rintro e w' ⟨rfl, hb⟩
              exact ⟨rfl, h, H.below hb, I.mono (by omega), KpW.keep hb⟩
            · have hE : tputE S W ⟨kd, key, fin, value, lease, lim⟩ = 0 := by unfold tputE; dsimp only; rw [if_neg hne, if_neg hv, if_neg hc', if_neg (fun h => hf h.2)]
              have hP : tputK S W ⟨kd, key, fin, value, lease, lim⟩ = ({ W with count := W.count + 1 } : Wri).note key (some ⟨key, value, (S.rev : Int) + 1, (S.rev : Int) + 1, 0 + 1, lease⟩) := by unfold tputK; dsimp only; rw [ht]
              rw [hE, if_pos rfl, hP]
              refine (wput_new H key value lease hk hv hl hc (by omega) (by omega) ht (by omega)).mono ?_
              rintro e w' ⟨rfl, h', q1, q2⟩
              exact ⟨rfl, h', q1, I.noted _ key _ (.inr rfl) hk ⟨rfl, rfl, by show (1 : Int) ≤ 0 + 1; omega, by show (0 : Int) + 1 ≤ _; omega⟩ (by show value.size ≤ 4096; omega), q2⟩
  · have hE : tputE S W ⟨kd, key, fin, value, lease, lim⟩ = 1 := if_pos (.inl (decide_eq_false hk))
    rw [hE, if_neg (by decide)]
    refine (wput_arg H key value lease (by omega) (.inl hk)).mono ?_
    rintro e w' ⟨rfl, rfl⟩
    exact ⟨rfl, h, H, I.mono (by omega), KpW.keep (Below.refl _ _)⟩
/-- What a deletion takes away, and the write behind it. -/
def delG (S : Sto) (W : Wri) (lo hi : ByteArray) : List ByteArray := (rangeK S lo hi).filter (goesP S W)
def delW (S : Sto) (W : Wri) (lo hi : ByteArray) : Wri := { W.notes (delG S W lo hi) with count := W.count - (delG S W lo hi).length }
theorem wdel_any {n : Nat} {w : World} {s b j : Nat} {S : Sto} {W : Wri} {g : Sg} {h : Wg} (H : Ow n w s b S W g h) (F : SF n S) (I : WI S W j) (hj : j ≤ 1000) (lo hi' : ByteArray) (hls : lo.size ≤ 140737488355328) (hhs : hi'.size ≤ 140737488355328) :
    Calls Tryz.prog 81 #[ptr b, .string lo, .string hi'] w fun e w' => e = .returned (.int .i64 (delG S W lo hi').length) ∧ ∃ h', Hid (Ow n w' s b S (delW S W lo hi') g h' ∧ WI S (delW S W lo hi') j ∧ KpW w w' b h h') := by
  have hkl := I.kl H.wr.nd
  have hlo := I.lo
  have hhi := I.hi
  have f0 := F.n
  have f1 := F.ks
  have f2 := F.nth
  refine (delete_st H (by omega) lo hi' hls hhs (by omega) (by omega)).mono ?_
  rintro e w' ⟨rfl, h', q1, q2⟩
  refine ⟨rfl, h', q1, ⟨?_, ?_, ?_, ?_, ?_⟩, q2⟩
  all_goals
    unfold delW
    generalize hG : delG S W lo hi' = G
  · intro k c hc
    have hc : (if hasK G k then some none else W.ch k) = some c := hc
    cases hk : hasK G k with
    | true =>
      rw [hk, if_pos rfl] at hc
      cases hc
      have hm := hasK_iff.1 hk
      rw [← hG] at hm
      obtain ⟨m1, m2⟩ := List.mem_filter.1 hm
      have m3 : k ∈ S.ks := (List.mem_filter.1 m1).1
      refine ⟨H.st.sz k m3, (fun v hv => by cases hv), fun _ => ?_⟩
      unfold goesP at m2
      simp only [Bool.and_eq_true] at m2
      exact m2.2
    | false =>
      rw [hk] at hc
      exact I.ok k c (by simpa using hc)
  · obtain ⟨P, h1, h2⟩ := I.ps
    refine ⟨P, by omega, fun k hk => ?_⟩
    have hk : k ∈ W.keys ++ G := hk
    rcases List.mem_append.1 hk with hk | hk
    · exact h2 k hk
    · rw [← hG] at hk
      exact .inl (List.mem_filter.1 (List.mem_filter.1 hk).1).1
  · show (S.nth : Int) - ((W.keys ++ G).length : Nat) ≤ W.count - G.length
    rw [List.length_append]
    omega
  · show W.count - G.length ≤ (S.nth : Int) + ((W.keys ++ G).length : Nat)
    rw [List.length_append]
    omega
  · intro k v hc
    have hc : (if hasK G k then some none else W.ch k) = some (some v) := hc
    cases hk : hasK G k with
    | true => rw [hk, if_pos rfl] at hc; cases hc
    | false => rw [hk] at hc; exact I.sm k v (by simpa using hc)
theorem small_look {n : Nat} {w : World} {s : Nat} {S : Sto} {W : Wri} {g : Sg} {o : Value} {j : Nat} (_h : St n w s S g o) (F : SF n S) (I : WI S W j) {k : ByteArray} {v : KVd} (e : lookW S W k = some v) : smallK v := by
  unfold lookW at e
  cases hc : W.ch k with
  | some c =>
    rw [hc] at e
    dsimp only [Option.getD_some] at e
    subst e
    exact I.sm k v hc
  | none =>
    rw [hc] at e
    dsimp only [Option.getD_none] at e
    obtain ⟨r, hm, _⟩ := thereH_mem e
    exact F.sm k r v hm
theorem small_wr {n : Nat} {w : World} {s : Nat} {S : Sto} {W : Wri} {g : Sg} {o : Value} {j : Nat} (h : St n w s S g o) (F : SF n S) (I : WI S W j) (lo hi : ByteArray) : ∀ kv ∈ wrV S W lo hi, smallK kv := fun kv hk => by
  unfold wrV at hk
  obtain ⟨k, _, e⟩ := List.mem_filterMap.1 hk
  exact small_look h F I e
end Go.Proofs.YtgbobegoknmiaaaGreat
/- One operation of a transaction. -/
namespace Go.Proofs.YtgbobegoknmiaaaGreat
open Go Go.RowKit

theorem set2 {W : World} {gb t : Nat} {a0 a1 : Value} (h : W.heap[gb]? = some (.cells #[a0, a1] t (0, 0))) (v0 v1 : Value) : ((W.setCell ⟨gb, 0, none⟩ v0).setCell ⟨gb, 1, none⟩ v1).heap[gb]? = some (.cells #[v0, v1] t (0, 0)) := heap_setCell_row (heap_setCell_row h v0) v1
theorem box2 {W : World} {gb t : Nat} {a0 a1 : Value} (h : W.heap[gb]? = some (.cells #[a0, a1] t (0, 0))) : (W.cell? ⟨gb, 0, none⟩ = some a0 ∧ W.cell? ⟨gb, 1, none⟩ = some a1) ∧ W.frozen? ⟨gb, 0, none⟩ = false ∧ W.frozen? ⟨gb, 1, none⟩ = false := ⟨⟨cell_of_row _ _ _ _ _ _ h, cell_of_row _ _ _ _ _ _ h⟩, frozen_of_row _ _ _ _ _ h, frozen_of_row _ _ _ _ _ h⟩
theorem size60 : (Tryz.prog.info? 60).map (·.size) = some 2 := by kernel_rfl
theorem Ow.upd {n : Nat} {w w' : World} {s b : Nat} {S : Sto} {W : Wri} {g : Sg} {h : Wg} {T : Nat → Prop} (H : Ow n w s b S W g h) (hu : Upd w w' T) (h1 : ∀ k, ftS s g k → ¬ T k) (h2 : ∀ k, ftW b h k → ¬ T k) : Ow n w' s b S W g h := ⟨H.st.upd hu h1, H.wr.upd hu h2, H.ap⟩
/-- What a call leaves, behind stores into a block of its own. -/
theorem fin2 {n : Nat} {w w3 w4 : World} {s b gb : Nat} {S : Sto} {W W' : Wri} {g : Sg} {h h' : Wg} (hb : Below w.heap.size w w3) (hg : w.heap.size ≤ gb) (hl : gb < w3.heap.size) (H : Ow n w s b S W g h) (HO : Ow n w4 s b S W' g h') (hK : KpW w3 w4 b h h') (v0 v1 : Value) :
    Ow n ((w4.setCell ⟨gb, 0, none⟩ v0).setCell ⟨gb, 1, none⟩ v1) s b S W' g h' ∧ KpW w ((w4.setCell ⟨gb, 0, none⟩ v0).setCell ⟨gb, 1, none⟩ v1) b h h' := by
  have hu : Upd w4 ((w4.setCell ⟨gb, 0, none⟩ v0).setCell ⟨gb, 1, none⟩ v1) (fun k => k = gb) := ((Upd.refl w4 (fun k => k = gb)).setCell (p := ⟨gb, 0, none⟩) (.inr rfl) _).setCell (p := ⟨gb, 1, none⟩) (.inr rfl) _
  refine ⟨HO.upd hu (fun k hk e => ?_) (fun k hk e => ?_), ?_, fun k hk => ?_⟩
  · have := H.st.lt hk
    omega
  · rcases hK.2 k hk with e2 | e2
    · have := H.wr.lt e2
      omega
    · omega
  · have h1 : Upd w w3 (ftW b h) := Upd.ofBelow hb
    exact (h1.trans hK.1 (fun _ _ e => e)).trans hu (fun k hk e => by omega)
  · rcases hK.2 k hk with e | e
    · exact .inl e
    · exact .inr (Nat.le_trans hb.size e)
/-- The leases that there are, as they are asked. -/
structure Lea (L : Int → Bool) (Lz : Nat → Prop) (q : Nat) (LP : World → Prop) : Prop where
  upd : ∀ V V' T, LP V → Upd V V' T → (∀ k, Lz k → ¬ T k) → LP V'
  has : ∀ V id, LP V → Calls Tryz.prog 162 #[ptr q, .int .i64 id] V fun e w' => e = .returned (.bool (L id)) ∧ w' = V
theorem Lea.below {L : Int → Bool} {Lz : Nat → Prop} {q : Nat} {LP : World → Prop} (h : Lea L Lz q LP) {V V' : World} (h1 : LP V) (hb : Below V.heap.size V V') : LP V' := h.upd V V' (fun _ => False) h1 (Upd.ofBelow hb) (fun _ _ e => e)
def opPE (S : Sto) (L : Int → Bool) (W : Wri) (o : Opd) : Int := if ¬ o.lease = 0 ∧ L o.lease = false then 19 else tputE S W o
def opPW (S : Sto) (L : Int → Bool) (W : Wri) (o : Opd) : Wri := if ¬ o.lease = 0 ∧ L o.lease = false then W else tputW S W o
theorem nil94 (q : Nat) (W : World) : (binOp BinOp.eql 94 (.iface 45 (ptr q)) .nilIface).run Tryz.prog W = .ok (.bool false) W := by kernel_rfl
set_option maxRecDepth 100000 in
set_option maxHeartbeats 2000000 in
theorem put_op {n : Nat} {w : World} {s b j q : Nat} {S : Sto} {W : Wri} {g : Sg} {h : Wg} {L : Int → Bool} {Lz : Nat → Prop} {LP : World → Prop} (H : Ow n w s b S W g h) (F : SF n S) (I : WI S W j) (hj : j ≤ 900) (HL : Lea L Lz q LP) (hLP : LP w) (o : Opd) (hks : o.key.size ≤ 140737488355328) (hvs : o.value.size ≤ 140737488355328) :
    Calls Tryz.prog 80 #[ptr b, .iface 45 (ptr q), encOp o] w fun e w' => ∃ x : Int, e = .returned (.tuple #[.agg #[.int .i64 x, .slice none 0 0], .int .i64 (opPE S L W o)]) ∧ (opPE S L W o = 0 → x = (wrV S W o.key ByteArray.empty).length) ∧ ∃ h', Hid (Ow n w' s b S (opPW S L W o) g h' ∧ WI S (opPW S L W o) (j + 1) ∧ KpW w w' b h h') := by
  have hkl := I.kl H.wr.nd
  have f0 := F.n
  have f1 := F.ks
  unfold opPE opPW
  obtain ⟨kd, key, fin, value, lease, lim⟩ := o
  dsimp only [encOp] at hks hvs ⊢
  obtain ⟨w2, hw2⟩ : ∃ w2, w2 = (w.alloc (.cells #[.int .i64 kd, .string key, .string fin, .string value, .int .i64 lease, .int .i64 lim] 57)).alloc (.cells #[.int .i64 0, .slice none 0 0] 60) := ⟨_, rfl⟩
  have hb2 : Below w.heap.size w w2 := by rw [hw2]; exact ((Below.refl _ _).alloc (Nat.le_refl _) _).alloc (by simp) _
  have hs2 : w2.heap.size = w.heap.size + 2 := by rw [hw2]; simp
  have ro : w2.heap[w.heap.size]? = some (.cells #[.int .i64 kd, .string key, .string fin, .string value, .int .i64 lease, .int .i64 lim] 57 (0, 0)) := by rw [hw2]; exact (heap_alloc_old _ _ (by simp)).trans (row_alloc w _ _)
  have rr : w2.heap[w.heap.size + 1]? = some (.cells #[.int .i64 0, .slice none 0 0] 60 (0, 0)) := by rw [hw2]; have := row_alloc (w.alloc (.cells #[.int .i64 kd, .string key, .string fin, .string value, .int .i64 lease, .int .i64 lim] 57)) #[.int .i64 0, .slice none 0 0] 60; simpa using this
  obtain ⟨bo, hbo⟩ : ∃ bo, bo = w.heap.size := ⟨_, rfl⟩
  obtain ⟨br, hbr⟩ : ∃ br, br = w.heap.size + 1 := ⟨_, rfl⟩
  rw [← hbo] at ro
  rw [← hbr] at rr
  have HRO := Hid.mk'' ro
  have HRR := Hid.mk'' rr
  have HB2 := Hid.mk'' hb2
  have HH := Hid.mk'' H
  have HI := Hid.mk'' I
  have HN : Hid (w.heap.size ≤ bo ∧ w.heap.size ≤ br ∧ bo < w2.heap.size ∧ br < w2.heap.size) := by show _ ∧ _; omega
  obtain ⟨⟨o0, o1, o2, o3, o4, o5⟩, -⟩ := box6 ro
  obtain ⟨⟨y0, y1⟩, g0, g1⟩ := box2 rr
  have hhas := HL.has w2 lease (HL.below hLP hb2)
  have hnil := nil94 q w2
  have hwr := wrange_st (H.below hb2) (by omega) (by omega) key ByteArray.empty 1 hks (by decide)
  have HPUT : Hid (∀ w3, Below w2.heap.size w2 w3 → Calls Tryz.prog 23 #[ptr b, .string key, .string value, .int .i64 lease] w3 fun e w' => e = .returned (.int .i64 (tputE S W ⟨kd, key, fin, value, lease, lim⟩)) ∧ ∃ h', Hid (Ow n w' s b S (tputW S W ⟨kd, key, fin, value, lease, lim⟩) g h' ∧ WI S (tputW S W ⟨kd, key, fin, value, lease, lim⟩) (j + 1) ∧ KpW w3 w' b h h')) := fun w3 hb => wput_any (HH.out.below (hb2.trans (hb.mono hb2.size))) F I (by omega) ⟨kd, key, fin, value, lease, lim⟩ hks hvs
  have HW3 : Hid (∀ w3, Below w2.heap.size w2 w3 → w3.heap[bo]? = some (.cells #[.int .i64 kd, .string key, .string fin, .string value, .int .i64 lease, .int .i64 lim] 57 (0, 0)) ∧ w3.heap[br]? = some (.cells #[.int .i64 0, .slice none 0 0] 60 (0, 0)) ∧ Below w.heap.size w w3 ∧ bo < w3.heap.size ∧ br < w3.heap.size) := fun w3 hb => ⟨(hb.block bo HN.out.2.2.1).trans HRO.out, (hb.block br HN.out.2.2.2).trans HRR.out, HB2.out.trans (hb.mono HB2.out.size), Nat.lt_of_lt_of_le HN.out.2.2.1 hb.size, Nat.lt_of_lt_of_le HN.out.2.2.2 hb.size⟩
  have HAP : Hid (¬ ftW b h br) := fun e => by have := HH.out.wr.lt e; have := HN.out.2.1; omega
  clear H I F hb2 HL hLP ro rr
  by_cases hc : ¬ lease = 0 ∧ L lease = false
  · rw [if_pos hc, if_pos hc]
    obtain ⟨hl0, hl1⟩ := hc
    rw [hl1] at hhas
    clear hwr HPUT
    go_enter Tryz.func80, Tryz.ntmps80
    go_upto_region 1 with fail
    rw [← hw2, ← hbr, ← hbo]
    clear hw2 hbo hbr hs2
    go_wp2_with (go_at_call 162; refine hhas.mono ?_; rintro e w3 ⟨rfl, hw3⟩; obtain rfl := hw3.symm)
    refine bodyPost_ret (results_ct rfl _ _ br 60 #[.int .i64 0, .slice none 0 0] (0, 0) _ rfl (set2 HRR.out _ _) Tryz.underlying60 rfl size60) rfl ?_
    have HF := fin2 HB2.out HN.out.2.1 HN.out.2.2.2 HH.out (HH.out.below HB2.out) (KpW.keep (Below.refl _ _)) (.int .i64 0) (.slice none 0 0)
    exact ⟨0, rfl, fun e => by simp at e, h, HF.1, HI.out.mono (by omega), HF.2⟩
  · rw [if_neg hc, if_neg hc]
    have hcl : lease = 0 ∨ (¬ lease = 0 ∧ L lease = true) := by
      by_cases h0 : lease = 0
      · exact .inl h0
      · exact .inr ⟨h0, by cases h1 : L lease; exact absurd ⟨h0, h1⟩ hc; rfl⟩
    have HWV := Hid.mk'' (rfl : wrV S W key ByteArray.empty = wrV S W key ByteArray.empty)
    generalize hwv : wrV S W key ByteArray.empty = V at hwr
    have HVV := Hid.mk'' hwv
    generalize hpe : tputE S W ⟨kd, key, fin, value, lease, lim⟩ = E at *
    generalize hpw : tputW S W ⟨kd, key, fin, value, lease, lim⟩ = W' at *
    clear hc hwv HWV hpe hpw
    rcases hcl with rfl | ⟨hl0, hl1⟩
    · clear hhas hnil
      go_enter Tryz.func80, Tryz.ntmps80
      go_upto_region 1 with fail
      rw [← hw2, ← hbr, ← hbo]
      clear hw2 hbo hbr hs2
      go_wp2_with (first | (go_at_call 82; refine hwr.mono ?_; rintro e w3 ⟨p, c, rfl, HK⟩; obtain ⟨r3, t3, HB3, hn3, hn4⟩ := HW3.out w3 HK.out.2; obtain ⟨⟨z0, z1, z2, z3, z4, z5⟩, -⟩ := box6 r3; have hput := HPUT.out w3 HK.out.2; have HT3 := Hid.mk'' t3; have HBB := Hid.mk'' HB3; clear r3 t3 HB3) | (go_at_call 23; refine hput.mono ?_; rintro e w4 ⟨rfl, h', HO⟩; have t4 := (HO.out.2.2.1.block br hn4 HAP.out).trans HT3.out; obtain ⟨⟨x0, x1⟩, i0, i1⟩ := box2 t4; have HT4 := Hid.mk'' t4; clear t4))
      refine bodyPost_ret (results_ct rfl _ _ br 60 #[.int .i64 V.length, .slice none 0 0] (0, 0) _ rfl (set2 HT4.out _ _) Tryz.underlying60 rfl size60) rfl ?_
      have HF := fin2 HBB.out HN.out.2.1 hn4 HH.out HO.out.1 HO.out.2.2 (.int .i64 V.length) (.slice none 0 0)
      exact ⟨V.length, rfl, fun _ => (by first | rfl | rw [HVV.out]), h', HF.1, HO.out.2.1, HF.2⟩
    · rw [hl1] at hhas
      go_enter Tryz.func80, Tryz.ntmps80
      go_upto_region 1 with fail
      rw [← hw2, ← hbr, ← hbo]
      clear hw2 hbo hbr hs2
      go_wp2_with (first | (go_at_call 162; refine hhas.mono ?_; rintro e w3 ⟨rfl, hw3⟩; obtain rfl := hw3.symm) | (go_at_call 82; refine hwr.mono ?_; rintro e w3 ⟨p, c, rfl, HK⟩; obtain ⟨r3, t3, HB3, hn3, hn4⟩ := HW3.out w3 HK.out.2; obtain ⟨⟨z0, z1, z2, z3, z4, z5⟩, -⟩ := box6 r3; have hput := HPUT.out w3 HK.out.2; have HT3 := Hid.mk'' t3; have HBB := Hid.mk'' HB3; clear r3 t3 HB3) | (go_at_call 23; refine hput.mono ?_; rintro e w4 ⟨rfl, h', HO⟩; have t4 := (HO.out.2.2.1.block br hn4 HAP.out).trans HT3.out; obtain ⟨⟨x0, x1⟩, i0, i1⟩ := box2 t4; have HT4 := Hid.mk'' t4; clear t4))
      refine bodyPost_ret (results_ct rfl _ _ br 60 #[.int .i64 V.length, .slice none 0 0] (0, 0) _ rfl (set2 HT4.out _ _) Tryz.underlying60 rfl size60) rfl ?_
      have HF := fin2 HBB.out HN.out.2.1 hn4 HH.out HO.out.1 HO.out.2.2 (.int .i64 V.length) (.slice none 0 0)
      exact ⟨V.length, rfl, fun _ => (by first | rfl | rw [HVV.out]), h', HF.1, HO.out.2.1, HF.2⟩
/-- What an operation is refused for, the write behind it, what it tells. -/
def doE (S : Sto) (L : Int → Bool) (W : Wri) (o : Opd) : Int := if o.kind = 0 then opPE S L W o else 0
def doW (S : Sto) (L : Int → Bool) (W : Wri) (o : Opd) : Wri := if o.kind = 0 then opPW S L W o else if o.kind = 1 then delW S W o.key o.fin else W
def doR (S : Sto) (W : Wri) (o : Opd) : Rs := if o.kind = 0 then ⟨(wrV S W o.key ByteArray.empty).length, []⟩ else if o.kind = 1 then ⟨(delG S W o.key o.fin).length, []⟩ else ⟨(wrV S W o.key o.fin).length, toldL o.limit (wrV S W o.key o.fin)⟩
theorem told_mem {limit : Int} {l : List KVd} {kv : KVd} (h : kv ∈ toldL limit l) : kv ∈ l := by
  unfold toldL at h
  split at h
  · exact h
  · exact List.mem_of_mem_take h
theorem seenK_len (S : Sto) (W : Wri) (lo hi : ByteArray) : (seenK S W lo hi).length ≤ S.ks.length + W.keys.length := by
  unfold seenK rangeK
  rw [List.length_map]
  refine Nat.le_trans (comp_le _) ?_
  rw [List.length_mergeSort, List.length_map, List.length_append]
  have h1 := List.length_filter_le (inR lo hi) S.ks
  have h2 := List.length_filter_le (inR lo hi) W.keys
  omega
theorem wrV_len (S : Sto) (W : Wri) (lo hi : ByteArray) : (wrV S W lo hi).length ≤ S.ks.length + W.keys.length := Nat.le_trans (List.length_filterMap_le _ _) (seenK_len S W lo hi)
theorem kvz_set {Z : Nat → Prop} {w : World} {u : Value} {l : List KVd} {gb : Nat} (h : KVz Z w u l) (hz : ¬ Z gb) (v0 v1 : Value) : KVz Z ((w.setCell ⟨gb, 0, none⟩ v0).setCell ⟨gb, 1, none⟩ v1) u l :=
  h.upd (S := fun k => k = gb) (((Upd.refl w (fun k => k = gb)).setCell (p := ⟨gb, 0, none⟩) (.inr rfl) _).setCell (p := ⟨gb, 1, none⟩) (.inr rfl) _) (fun _k hk e => hz (e ▸ hk))
set_option maxRecDepth 100000 in
set_option maxHeartbeats 2000000 in
theorem do_op {n : Nat} {w : World} {s b j q : Nat} {S : Sto} {W : Wri} {g : Sg} {h : Wg} {L : Int → Bool} {Lz : Nat → Prop} {LP : World → Prop} (H : Ow n w s b S W g h) (F : SF n S) (I : WI S W j) (hj : j ≤ 900) (HL : Lea L Lz q LP) (hLP : LP w) (o : Opd) (hks : o.key.size ≤ 140737488355328) (hfs : o.fin.size ≤ 140737488355328) (hvs : o.value.size ≤ 140737488355328) :
    Calls Tryz.prog 66 #[ptr b, .iface 45 (ptr q), encOp o] w fun e w' => ∃ (x : Int) (p : Option Addr) (m c : Nat), e = .returned (.tuple #[.agg #[.int .i64 x, .slice p m c], .int .i64 (doE S L W o)]) ∧ ∃ h', Hid (doE S L W o = 0 → x = (doR S W o).n ∧ KVz (fun k => w.heap.size ≤ k ∧ ¬ ftW b h' k) w' (.slice p m c) (doR S W o).kvs) ∧ Hid (Ow n w' s b S (doW S L W o) g h' ∧ WI S (doW S L W o) (j + 1) ∧ KpW w w' b h h') := by
  have hkl := I.kl H.wr.nd
  have f0 := F.n
  have f1 := F.ks
  unfold doE doW doR
  obtain ⟨kd, key, fin, value, lease, lim⟩ := o
  dsimp only [encOp] at hks hvs hfs ⊢
  obtain ⟨w2, hw2⟩ : ∃ w2, w2 = (w.alloc (.cells #[.int .i64 kd, .string key, .string fin, .string value, .int .i64 lease, .int .i64 lim] 57)).alloc (.cells #[.int .i64 0, .slice none 0 0] 60) := ⟨_, rfl⟩
  have hb2 : Below w.heap.size w w2 := by rw [hw2]; exact ((Below.refl _ _).alloc (Nat.le_refl _) _).alloc (by simp) _
  have hs2 : w2.heap.size = w.heap.size + 2 := by rw [hw2]; simp
  have ro : w2.heap[w.heap.size]? = some (.cells #[.int .i64 kd, .string key, .string fin, .string value, .int .i64 lease, .int .i64 lim] 57 (0, 0)) := by rw [hw2]; exact (heap_alloc_old _ _ (by simp)).trans (row_alloc w _ _)
  have rr : w2.heap[w.heap.size + 1]? = some (.cells #[.int .i64 0, .slice none 0 0] 60 (0, 0)) := by rw [hw2]; have := row_alloc (w.alloc (.cells #[.int .i64 kd, .string key, .string fin, .string value, .int .i64 lease, .int .i64 lim] 57)) #[.int .i64 0, .slice none 0 0] 60; simpa using this
  obtain ⟨bo, hbo⟩ : ∃ bo, bo = w.heap.size := ⟨_, rfl⟩
  obtain ⟨br, hbr⟩ : ∃ br, br = w.heap.size + 1 := ⟨_, rfl⟩
  rw [← hbo] at ro
  rw [← hbr] at rr
  have HRR := Hid.mk'' rr
  have HB2 := Hid.mk'' hb2
  have HH := Hid.mk'' H
  have HI := Hid.mk'' I
  have HN : Hid (w.heap.size ≤ bo ∧ w.heap.size ≤ br ∧ bo < w2.heap.size ∧ br < w2.heap.size) := by show _ ∧ _; omega
  obtain ⟨⟨o0, o1, o2, o3, o4, o5⟩, -⟩ := box6 ro
  have HAP : Hid (¬ ftW b h br) := fun e => by have := HH.out.wr.lt e; have := HN.out.2.1; omega
  have hkn : br < w2.heap.size := HN.out.2.2.2
  have HKN := Hid.mk'' hkn
  clear hkn
  by_cases h0 : kd = 0
  · subst h0
    rw [if_pos rfl, if_pos rfl, if_pos rfl]
    have hput := put_op (H.below hb2) F I hj HL (HL.below hLP hb2) ⟨0, key, fin, value, lease, lim⟩ hks hvs
    generalize opPE S L W ⟨0, key, fin, value, lease, lim⟩ = E at *
    generalize opPW S L W ⟨0, key, fin, value, lease, lim⟩ = W' at *
    dsimp only [encOp] at hput
    clear H I F hb2 HL hLP ro rr
    go_enter Tryz.func66, Tryz.ntmps66
    go_upto_region 1 with fail
    rw [← hw2, ← hbr, ← hbo]
    clear hw2 hbo hbr hs2
    go_wp2_with (go_at_call 80; refine hput.mono ?_; rintro e w4 ⟨x, rfl, hx, h', HO⟩; have t4 := (HO.out.2.2.1.block br HKN.out HAP.out).trans HRR.out; have HX := Hid.mk'' hx; obtain ⟨⟨x0, x1⟩, i0, i1⟩ := box2 t4; have HT4 := Hid.mk'' t4; clear t4 hx)
    refine bodyPost_ret (results_ct rfl _ _ br 60 #[.int .i64 x, .slice none 0 0] (0, 0) _ rfl (set2 HT4.out _ _) Tryz.underlying60 rfl size60) rfl ?_
    have HF := fin2 HB2.out HN.out.2.1 HN.out.2.2.2 HH.out HO.out.1 HO.out.2.2 (.int .i64 x) (.slice none 0 0)
    exact ⟨x, none, 0, 0, rfl, h', fun e => ⟨HX.out e, KVz.nil _ _⟩, HF.1, HO.out.2.1, HF.2⟩
  rw [if_neg h0, if_neg h0, if_neg h0]
  by_cases h1 : kd = 1
  · subst h1
    rw [if_pos rfl, if_pos rfl]
    have hdel := wdel_any (H.below hb2) F I (by omega) key fin hks hfs
    generalize delG S W key fin = G at *
    generalize delW S W key fin = W' at *
    clear H I F hb2 HL hLP ro rr
    go_enter Tryz.func66, Tryz.ntmps66
    go_upto_region 1 with fail
    rw [← hw2, ← hbr, ← hbo]
    clear hw2 hbo hbr hs2
    go_wp2_with (go_at_call 81; refine hdel.mono ?_; rintro e w4 ⟨rfl, h', HO⟩; have t4 := (HO.out.2.2.1.block br HKN.out HAP.out).trans HRR.out; obtain ⟨⟨x0, x1⟩, i0, i1⟩ := box2 t4; have HT4 := Hid.mk'' t4; clear t4)
    refine bodyPost_ret (results_ct rfl _ _ br 60 #[.int .i64 G.length, .slice none 0 0] (0, 0) _ rfl (set2 HT4.out _ _) Tryz.underlying60 rfl size60) rfl ?_
    have HF := fin2 HB2.out HN.out.2.1 HN.out.2.2.2 HH.out HO.out.1 HO.out.2.2 (.int .i64 G.length) (.slice none 0 0)
    exact ⟨G.length, none, 0, 0, rfl, h', fun e => ⟨rfl, KVz.nil _ _⟩, HF.1, HO.out.2.1.mono (by omega), HF.2⟩
  · rw [if_neg h1, if_neg h1]
    have hwr := wrange_st (H.below hb2) (by omega) (by omega) key fin lim hks hfs
    have HSM := Hid.mk'' (small_wr H.st F I key fin)
    generalize wrV S W key fin = V at *
    clear H I F hb2 HL hLP ro rr
    go_enter Tryz.func66, Tryz.ntmps66
    go_upto_region 1 with fail
    rw [← hw2, ← hbr, ← hbo]
    clear hw2 hbo hbr hs2
    go_wp2_with (go_at_call 82; refine hwr.mono ?_; rintro e w4 ⟨p, c, rfl, HK⟩; have t4 := (HK.out.2.block br HKN.out).trans HRR.out; obtain ⟨⟨x0, x1⟩, i0, i1⟩ := box2 t4; have HT4 := Hid.mk'' t4; clear t4)
    refine bodyPost_ret (results_ct rfl _ _ br 60 #[.int .i64 V.length, .slice p (toldL lim V).length c] (0, 0) _ rfl (set2 HT4.out _ _) Tryz.underlying60 rfl size60) rfl ?_
    have HF := fin2 HB2.out HN.out.2.1 HN.out.2.2.2 HH.out ((HH.out.below HB2.out).below HK.out.2) (KpW.keep HK.out.2) (.int .i64 V.length) (.slice p (toldL lim V).length c)
    refine ⟨V.length, p, _, c, rfl, h, fun e => ⟨rfl, ?_⟩, HF.1, HI.out.mono (by omega), HF.2⟩
    exact (kvz_set (kvz_of HK.out (fun kv hk => HSM.out kv (told_mem hk))) (by have := HKN.out; omega) _ _).mono (fun k hk => ⟨Nat.le_trans HB2.out.size hk, fun e => by have := HH.out.wr.lt e; have := HB2.out.size; omega⟩)
end Go.Proofs.YtgbobegoknmiaaaGreat
