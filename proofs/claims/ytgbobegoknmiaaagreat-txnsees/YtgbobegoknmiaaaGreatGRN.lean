/- lastPut of the past. -/
import Derived.Test.YtgbobegoknmiaaaGreatGRM
import Derived.Test.YtgbobegoknmiaaaGreatGRH
import Derived.Test.YtgbobegoknmiaaaGreatGRL
namespace Go.Proofs.YtgbobegoknmiaaaGreat
open Go Go.RowKit

def tlen (ms : List Mk) (r : Int) : Nat := (ms.takeWhile fun m => decide (m.1 ≤ r)).length
theorem tlen_le (ms : List Mk) (r : Int) : tlen ms r ≤ ms.length := (List.takeWhile_prefix _).length_le
theorem tlen_lt {r : Int} : ∀ {ms : List Mk} {k : Nat} {m : Mk}, k < tlen ms r → ms[k]? = some m → m.1 ≤ r
  | [], _, _, _, h => by simp at h
  | x :: ms, k, m, hk, h => by
    unfold tlen at hk
    rw [List.takeWhile_cons] at hk
    by_cases hx : x.1 ≤ r
    · rw [if_pos (decide_eq_true hx)] at hk
      cases k with
      | zero => obtain rfl : x = m := by simpa using h
                exact hx
      | succ k => exact tlen_lt (ms := ms) (k := k) (by simpa [tlen] using hk) (by simpa using h)
    · rw [if_neg (by simp [hx])] at hk
      simp at hk
theorem tlen_ge {r : Int} : ∀ {ms : List Mk} {k : Nat} {m : Mk}, MAsc ms → tlen ms r ≤ k → ms[k]? = some m → r < m.1
  | [], _, _, _, _, h => by simp at h
  | x :: ms, k, m, hs, hk, h => by
    obtain ⟨h1, h2⟩ := List.pairwise_cons.1 hs
    unfold tlen at hk
    rw [List.takeWhile_cons] at hk
    by_cases hx : x.1 ≤ r
    · rw [if_pos (decide_eq_true hx)] at hk
      cases k with
      | zero => simp at hk
      | succ k => exact tlen_ge (ms := ms) (k := k) h2 (by simpa [tlen] using hk) (by simpa using h)
    · cases k with
      | zero => obtain rfl : x = m := by simpa using h
                omega
      | succ k =>
        have := h1 m (List.mem_of_getElem? (i := k) (by simpa using h))
        omega
/-- Marks in a row of cells. -/
def MksAt (w : World) (g : Nat) (ms : List Mk) : Prop := ∀ j m, ms[j]? = some m → w.cell? ⟨g, j * 2, none⟩ = some (.int .i64 m.1) ∧ w.cell? ⟨g, j * 2 + 1, none⟩ = some (.bool m.2)
theorem MksAt.below {w w' : World} {g : Nat} {ms : List Mk} (h : MksAt w g ms) (hb : Below w.heap.size w w') : MksAt w' g ms := fun j it hj => by
  obtain ⟨h1, h2⟩ := h j it hj
  exact ⟨(hb.cell (p := ⟨g, j * 2, none⟩) (World.block_lt_of_cell? _ _ h1)).trans h1, (hb.cell (p := ⟨g, j * 2 + 1, none⟩) (World.block_lt_of_cell? _ _ h2)).trans h2⟩
theorem below_drewQ {B : Nat} {w W : World} (h : Below B w W) : ∀ n, Below B w (W.drewN n)
  | 0 => h
  | n + 1 => (below_drewQ h n).drew
set_option maxRecDepth 100000 in
set_option maxHeartbeats 400000 in
theorem behind_any (a q g c : Nat) (ms : List Mk) (r : Int) (w : World) (ha : w.cell? ⟨a, 0, none⟩ = some (.slice (some ⟨g, 0, none⟩) ms.length c)) (hq : w.cell? ⟨q, 0, none⟩ = some (.int .i64 r)) (i : Nat) (m : Mk) (hm : ms[i]? = some m) (hc : MksAt w g ms) :
    Calls Tryz.prog 95 #[.int .i64 i, ptr a, ptr q] w fun e w' => e = .returned (.bool (decide (r < m.1))) ∧ Below w.heap.size w w' := by
  obtain ⟨c1, -⟩ := hc i m hm
  have hi := (List.getElem?_eq_some_iff.1 hm).1
  have HB : ∀ q, Hid (Below w.heap.size w (w.drewN q)) := fun q => below_drewQ (Below.refl _ _) q
  clear hc hm
  go_enter Tryz.func95, Tryz.ntmps95
  go_wp2
  go_quiet (fail)
  go_wp2
  go_ret
  exact ⟨rfl, (HB _).out⟩
set_option maxRecDepth 100000 in
set_option maxHeartbeats 1000000 in
theorem ssearch_any (a q g c : Nat) (ms : List Mk) (r : Int) (w : World) (ha : w.cell? ⟨a, 0, none⟩ = some (.slice (some ⟨g, 0, none⟩) ms.length c)) (hq : w.cell? ⟨q, 0, none⟩ = some (.int .i64 r)) (hc : MksAt w g ms) (hs : MAsc ms) (hn : ms.length ≤ 1000000) :
    Calls Tryz.prog 94 #[.int .i64 ms.length, .func (.func 95) #[] #[ptr a, ptr q]] w fun e w' => e = .returned (.int .i64 (tlen ms r)) ∧ Below w.heap.size w w' := by
  have HF : Hid (∀ (W : World) (i : Nat) (m : Mk), Below w.heap.size w W → ms[i]? = some m → Calls Tryz.prog 95 #[.int .i64 i, ptr a, ptr q] W fun e w' => e = .returned (.bool (decide (r < m.1))) ∧ Below W.heap.size W w') := fun W i m hb hm =>
    behind_any a q g c ms r W ((hb.cell (p := ⟨a, 0, none⟩) (World.block_lt_of_cell? _ _ ha)).trans ha) ((hb.cell (p := ⟨q, 0, none⟩) (World.block_lt_of_cell? _ _ hq)).trans hq) i m hm (hc.below hb)
  have HS := Hid.mk'' hs
  have hp := tlen_le ms r
  clear hs hc ha hq
  go_enter Tryz.func94, Tryz.ntmps94
  go_wp2
  go_loopw [5, 6] (fun x y W => ∃ i j : Nat, x = .int .i64 i ∧ y = .int .i64 j ∧ i ≤ tlen ms r ∧ tlen ms r ≤ j ∧ j ≤ ms.length ∧ Below w.heap.size w W) (fun x y _ => (intOf y).toNat - (intOf x).toNat)
  case atStart => exact ⟨0, ms.length, rfl, rfl, Nat.zero_le _, hp, Nat.le_refl _, Below.refl _ _⟩
  case round =>
    obtain ⟨i, j, rfl, rfl, h1, h2, h3, hb⟩ := hrel
    by_cases hij : i < j
    · obtain ⟨m, hit⟩ : ∃ m, ms[(i + j) / 2]? = some m := ⟨_, List.getElem?_eq_getElem (by omega)⟩
      have hci := HF.out wr ((i + j) / 2) m hb hit
      have HI : Hid (ms[(i + j) / 2]? = some m) := hit
      clear hit
      by_cases hk : r < m.1
      · rw [decide_eq_true hk] at hci
        have HK := Hid.mk'' hk
        clear hk
        go_wp2_with (go_at_call 95; refine hci.mono ?_; rintro e w' ⟨rfl, hb'⟩)
        go_roundw
        case rel =>
          refine ⟨i, (i + j) / 2, rfl, rfl, h1, ?_, by omega, hb.trans (hb'.mono hb.size)⟩
          refine Nat.le_of_not_lt fun hlt => ?_
          have h1 := tlen_lt hlt HI.out
          have h2 := HK.out
          omega
        case measure => simp [intOf]; omega
      · rw [decide_eq_false hk] at hci
        have HK := Hid.mk'' hk
        clear hk
        go_wp2_with (go_at_call 95; refine hci.mono ?_; rintro e w' ⟨rfl, hb'⟩)
        go_roundw
        case rel =>
          refine ⟨(i + j) / 2 + 1, j, by go_num, rfl, ?_, h2, h3, hb.trans (hb'.mono hb.size)⟩
          refine Nat.le_of_not_lt fun hlt => ?_
          have := tlen_ge (r := r) HS.out (by omega) HI.out
          have := HK.out
          omega
        case measure => simp [intOf]; omega
    · obtain rfl : i = tlen ms r := by omega
      have hb9 := Hid.mk'' hb
      go_wp2
      go_ret
      exact ⟨rfl, hb9.out⟩
end Go.Proofs.YtgbobegoknmiaaaGreat
/- A key as it was at any revision. -/
namespace Go.Proofs.YtgbobegoknmiaaaGreat
open Go Go.RowKit

theorem filter_take : ∀ {h : Hs} {r : Int}, h.Pairwise (fun p q => p.1 < q.1) → h.filter (fun p => decide (p.1 ≤ r)) = h.take (tlen (h.map markOf) r)
  | [], r, _ => by simp
  | p :: h, r, hp => by
    obtain ⟨h1, h2⟩ := List.pairwise_cons.1 hp
    have ih := filter_take (r := r) h2
    unfold tlen at ih ⊢
    rw [List.map_cons, List.takeWhile_cons, List.filter_cons]
    by_cases hx : p.1 ≤ r
    · have hm : (markOf p).1 ≤ r := hx
      rw [if_pos (decide_eq_true hx), if_pos (decide_eq_true hm), List.length_cons, List.take_succ_cons, ih]
    · have hm : ¬ (markOf p).1 ≤ r := hx
      rw [if_neg (by simp [hx]), if_neg (by simp [hm]), List.length_nil, List.take_zero, List.filter_eq_nil_iff]
      intro q hq
      have := h1 q hq
      simp; omega
theorem atH_zero {h : Hs} {r : Int} (hp : h.Pairwise (fun p q => p.1 < q.1)) (hc : tlen (h.map markOf) r = 0) : atH h r = none := by
  unfold atH
  rw [filter_take hp, hc]
  rfl
theorem atH_pos {h : Hs} {r : Int} (hp : h.Pairwise (fun p q => p.1 < q.1)) {c : Nat} (hc : tlen (h.map markOf) r = c + 1) : ∃ p, h[c]? = some p ∧ (h.map markOf)[c]? = some (markOf p) ∧ atH h r = p.2 := by
  have hl := tlen_le (h.map markOf) r
  rw [List.length_map] at hl
  obtain ⟨p, hpc⟩ : ∃ p, h[c]? = some p := ⟨_, List.getElem?_eq_getElem (by omega)⟩
  refine ⟨p, hpc, by rw [List.getElem?_map, hpc]; rfl, ?_⟩
  unfold atH
  rw [filter_take hp, hc, List.take_add_one, hpc]
  exact thereH_snoc _ _ _
theorem marks_asc {h : Hs} (hp : h.Pairwise (fun p q => p.1 < q.1)) : MAsc (h.map markOf) := by
  unfold MAsc
  rw [List.pairwise_map]
  exact hp
theorem hlen_le {n : Nat} {w : World} {s : Nat} {S : Sto} {g : Sg} {o : Value} (h : St n w s S g o) (key : ByteArray) : (S.kh key).length ≤ n := by
  by_cases hm : key ∈ S.ks
  · have := (h.bd.ms (key, (S.kh key).map markOf) (List.mem_map.2 ⟨key, hm, rfl⟩)).1
    simpa using this
  · have h0 : S.kh key = [] := Classical.byContradiction fun hn => hm ((h.mem key).2 hn)
    rw [h0]; simp
set_option maxRecDepth 100000 in
set_option maxHeartbeats 1000000 in
theorem ssearch_zero (fv : Value) (w : World) : Calls Tryz.prog 94 #[.int .i64 0, fv] w fun e w' => e = .returned (.int .i64 0) ∧ w' = w := by
  go_enter Tryz.func94, Tryz.ntmps94
  go_wp2
  go_loopw [5, 6] (fun x y W => x = .int .i64 0 ∧ y = .int .i64 0 ∧ W = w) (fun _ _ _ => 0)
  case atStart => exact ⟨rfl, rfl, rfl⟩
  case round =>
    obtain ⟨rfl, rfl, rfl⟩ := hrel
    go_wp2
    go_ret
    exact ⟨rfl, rfl⟩
set_option maxRecDepth 100000 in
set_option maxHeartbeats 1000000 in
theorem last_past {n : Nat} {w : World} {s : Nat} {S : Sto} {g : Sg} {o : Value} (h : St n w s S g o) (hn : n ≤ 1000000) (key : ByteArray) (rev : Int) (hne : rev ≠ S.rev) : Calls Tryz.prog 85 #[ptr s, .string key, .int .i64 rev] w fun e w' => e = .returned (.int .i64 (modOf (atH (S.kh key) rev))) ∧ Below w.heap.size w w' := by
  have hb0 : Below w.heap.size w (w.alloc (.cells #[.int .i64 rev] 3)) := (Below.refl _ w).alloc (Nat.le_refl _) _
  have r0 := row_alloc w #[.int .i64 rev] 3
  generalize hV : w.alloc (.cells #[.int .i64 rev] 3) = V at *
  have hVs : V.heap.size = w.heap.size + 1 := by rw [← hV]; simp
  have hbd : ∀ q, Below w.heap.size w (V.drewN q) := fun q => below_drewQ hb0 q
  have hhl := hlen_le h key
  have HMK : Hid (∀ W, Below w.heap.size w W → Calls Tryz.prog 93 #[ptr g.x, .string key] W fun e w' => ∃ v, e = .returned v ∧ MarksPost W w' v ((S.kh key).map markOf)) := fun W hb => by
    have := marks_xd (h.below hb).ix (h.below hb).bd hn key
    rw [(lookD_datS h key).1] at this
    exact this
  have HC : Hid (∀ W, Below w.heap.size w W → W.cell? ⟨s, 0, none⟩ = some (.int .i64 S.rev) ∧ W.cell? ⟨s, 2, none⟩ = some (ptr g.x)) := fun W hb => ⟨(h.below hb).cells.1, (h.below hb).cells.2.2.1⟩
  have hasc := (h.hok key).asc
  have HKV : Hid (∀ r v, (r, some v) ∈ S.kh key → v.mod = r) := fun r v hm => ((h.hok key).kv r v hm).2.1
  obtain ⟨c0, c2⟩ := HC.out V hb0
  have k0 : V.cell? ⟨w.heap.size, 0, none⟩ = some (.int .i64 rev) := cell_of_row _ _ _ _ _ _ r0
  have hneb : (rev == (S.rev : Int)) = false := by rw [beq_eq_false_iff_ne]; exact hne
  generalize S.kh key = hs at *
  have HA := Hid.mk'' hasc
  have HBD := Hid.mk'' hbd
  have HR0 := Hid.mk'' r0
  clear h hasc hne hbd r0
  go_enter Tryz.func85, Tryz.ntmps85
  go_wp2
  go_quiet (fail)
  have hmk := HMK.out _ (HBD.out nq)
  have c2q := (HC.out _ (HBD.out nq)).2
  go_upto_region 4 with (go_at_call 93; refine hmk.mono ?_; rintro e w3 ⟨v, rfl, hP⟩; obtain ⟨⟨p, c, rfl, -⟩, hM, hb3⟩ := hP)
  obtain ⟨w4, hw4⟩ : ∃ w4, w4 = w3.alloc (.cells #[.slice p hs.length c] 165) := ⟨_, rfl⟩
  rw [← hw4]
  obtain ⟨a, ha⟩ : ∃ a, a = w3.heap.size := ⟨_, rfl⟩
  rw [← ha]
  obtain ⟨q, hq⟩ : ∃ q, q = w.heap.size := ⟨_, rfl⟩
  rw [← hq]
  have hB3 : Below w.heap.size w w3 := (HBD.out nq).trans (hb3.mono (HBD.out nq).size)
  have b34 : Below w3.heap.size w3 w4 := by rw [hw4]; exact (Below.refl _ _).alloc (Nat.le_refl _) _
  have hB4 : Below w.heap.size w w4 := hB3.trans (b34.mono hB3.size)
  have ka : w4.cell? ⟨a, 0, none⟩ = some (.slice p hs.length c) := by rw [hw4, ha]; exact cell_of_row _ _ _ _ _ _ (row_alloc w3 _ _)
  have kq : w4.cell? ⟨q, 0, none⟩ = some (.int .i64 rev) := by
    have h1 : (V.drewN nq).heap[w.heap.size]? = V.heap[w.heap.size]? := (below_drewQ (Below.refl V.heap.size V) nq).block w.heap.size (by omega)
    have h2 := (hb3.block w.heap.size (by have := (below_drewQ (Below.refl V.heap.size V) nq).size; omega)).trans (h1.trans HR0.out)
    have h3 := (b34.block w.heap.size (Array.getElem?_eq_some_iff.1 h2).1).trans h2
    rw [hq]
    exact cell_of_row _ _ _ _ _ _ h3
  have HB4 := Hid.mk'' hB4
  have HQL : Hid (q = w.heap.size) := hq
  have hlen2 : (hs.map markOf).length = hs.length := List.length_map _
  have HMS : Hid (Mks w4 (.slice p (hs.map markOf).length c) (hs.map markOf)) := ownsRow_upd hM (Upd.ofBelow (S := fun _ => False) b34) (fun _ _ h => h)
  clear hw4 ha hq hM hb3 hB3 b34 hB4 hmk c2q HMK HC c0 c2 k0 hneb HR0 hV hb0 hVs
  by_cases hnil : hs = []
  · subst hnil
    have hsr := ssearch_zero (.func (.func 95) #[] #[.pointer (some ⟨a, 0, none⟩), .pointer (some ⟨q, 0, none⟩)]) w4
    go_wp2_with (go_at_call 94; refine hsr.mono ?_; rintro e w' ⟨rfl, hw'⟩; obtain rfl := hw'.symm)
    go_ret
    exact ⟨rfl, HB4.out⟩
  · obtain ⟨gk, ck, hv, -, -⟩ := owns_form1 HMS.out (by rw [hlen2]; exact List.length_pos_iff.2 hnil)
    have hpk : p = some ⟨gk, 0, none⟩ := by cases hv; rfl
    subst hpk
    have hat : MksAt w4 gk (hs.map markOf) := fun j m hj => HMS.out.cell hj
    have hsr := ssearch_any a q gk c (hs.map markOf) rev w4 (by rw [hlen2]; exact ka) kq hat (marks_asc HA.out) (by omega)
    rw [hlen2] at hsr
    have HAT := Hid.mk'' hat
    clear hat hv
    cases hc : tlen (hs.map markOf) rev with
    | zero =>
      have HE := Hid.mk'' (atH_zero HA.out hc)
      rw [hc] at hsr
      clear hc
      go_wp2_with (go_at_call 94; refine hsr.mono ?_; rintro e w5 ⟨rfl, hb5⟩)
      go_ret
      exact ⟨by rw [HE.out]; rfl, HB4.out.trans (hb5.mono HB4.out.size)⟩
    | succ cn =>
      obtain ⟨pe, hpe, hme, hate⟩ := atH_pos HA.out hc
      have hcl := tlen_le (hs.map markOf) rev
      rw [hc] at hsr hcl
      rw [hlen2] at hcl
      have HPE : Hid (pe ∈ hs) := List.mem_of_getElem? hpe
      have HE := Hid.mk'' hate
      have HME := Hid.mk'' hme
      have hx : IntKind.i64.wrap (((cn + 1 : Nat) : Int) - 1) = (cn : Int) := by rw [IntKind.wrap_i64]; omega
      clear hc hpe hme hate
      go_upto_region 5 with (go_at_call 94; refine hsr.mono ?_; rintro e w5 ⟨rfl, hb5⟩)
      obtain ⟨x1, x2⟩ := (HAT.out.below hb5) cn (markOf pe) HME.out
      have ka5 := (hb5.cell (p := ⟨a, 0, none⟩) (World.block_lt_of_cell? _ _ ka)).trans ka
      have HB5 : Hid (Below w.heap.size w w5) := HB4.out.trans (hb5.mono HB4.out.size)
      obtain ⟨pr, po⟩ := pe
      dsimp only [markOf] at x1 x2
      clear hsr hb5 ka kq HMS HAT HME
      cases po with
      | none =>
        dsimp only [Option.isNone_none] at x2
        go_wp2
        go_ret
        exact ⟨by rw [HE.out]; rfl, HB5.out⟩
      | some v =>
        dsimp only [Option.isNone_some] at x2
        go_wp2
        go_ret
        refine ⟨?_, HB5.out⟩
        rw [HE.out]
        show Ending.returned (.int .i64 pr) = .returned (.int .i64 v.mod)
        rw [HKV.out pr v HPE.out]
theorem plast_any {n : Nat} {w : World} {s : Nat} {S : Sto} {g : Sg} {o : Value} (h : St n w s S g o) (hn : n ≤ 1000000) (key : ByteArray) (rev : Int) : Calls Tryz.prog 85 #[ptr s, .string key, .int .i64 rev] w fun e w' => e = .returned (.int .i64 (modOf (atH (S.kh key) rev))) ∧ Below w.heap.size w w' := by
  by_cases e : rev = S.rev
  · subst e
    have ha : atH (S.kh key) S.rev = thereH (S.kh key) := atH_all (fun p hp => ((h.hok key).pos p hp).2)
    rw [ha]
    exact last_now h key
  · exact last_past h hn key rev e
theorem at_rev {n : Nat} {w : World} {s : Nat} {S : Sto} {g : Sg} {o : Value} (h : St n w s S g o) (hn : n ≤ 1000000) (key : ByteArray) (rev : Int) :
    Calls Tryz.prog 74 #[ptr s, .string key, .int .i64 rev] w fun e w' => e = .returned (.tuple #[encKV ((atH (S.kh key) rev).getD noKV), .bool (atH (S.kh key) rev).isSome]) ∧ Below w.heap.size w w' :=
  at_any h key rev (fun _ hb => plast_any (h.below hb) hn key rev)
end Go.Proofs.YtgbobegoknmiaaaGreat
/- What a store tells of keys, by a look at each. -/
namespace Go.Proofs.YtgbobegoknmiaaaGreat
open Go Go.RowKit

def kvC (k : KVd) : List Value := [.string k.key, .string k.value, .int .i64 k.create, .int .i64 k.mod, .int .i64 k.version, .int .i64 k.lease]
def kvsC (l : List KVd) : List Value := l.flatMap kvC
theorem kvsC_len (l : List KVd) : (kvsC l).length = l.length * 6 := by
  unfold kvsC
  rw [List.length_flatMap]
  induction l with
  | nil => rfl
  | cons a l ih => simp only [List.map_cons, List.sum_cons, List.length_cons, ih]; simp [kvC]; omega
def toldL (limit : Int) (l : List KVd) : List KVd := if limit < 1 then l else l.take limit.toNat
theorem toldL_more {limit : Int} {l : List KVd} {x : KVd} (h : limit < 1 ∨ (l.length : Int) + 1 ≤ limit) : toldL limit (l ++ [x]) = toldL limit l ++ [x] := by
  unfold toldL
  by_cases h1 : limit < 1
  · rw [if_pos h1, if_pos h1]
  · rw [if_neg h1, if_neg h1, List.take_of_length_le (by simp; omega), List.take_of_length_le (by omega)]
theorem toldL_full {limit : Int} {l : List KVd} {x : KVd} (h : ¬ limit < 1) (h2 : ¬ (l.length : Int) + 1 ≤ limit) : toldL limit (l ++ [x]) = toldL limit l := by
  unfold toldL
  rw [if_neg h, if_neg h, List.take_append_of_le_length (by omega)]
theorem toldL_len (limit : Int) (l : List KVd) : (toldL limit l).length ≤ l.length := by
  unfold toldL
  split
  · omega
  · rw [List.length_take]; omega
theorem info56 : (Tryz.prog.info? 62).map (fun i => (i.zero, i.size, i.bytes)) = some (some (.agg #[.string ⟨#[]⟩, .string ⟨#[]⟩, .int .i64 0, .int .i64 0, .int .i64 0, .int .i64 0]), 6, 64) := by kernel_rfl
/-- A row of keys that was told. -/
def KR (w wr : World) (v : Value) (l : List KVd) : Prop := wr.ownsRow w.heap.size 62 6 v l.length (kvsC l) ∧ Below w.heap.size w wr
theorem fm_take {f : ByteArray → Option KVd} {ks : List ByteArray} {i : Nat} {k : ByteArray} (hk : ks[i]? = some k) : (ks.take (i + 1)).filterMap f = (ks.take i).filterMap f ++ (f k).toList := by
  rw [List.take_add_one, hk, List.filterMap_append]
  cases h : f k <;> simp [h]
set_option maxRecDepth 100000 in
set_option maxHeartbeats 2000000 in
theorem tell_any (kp : Option Addr) (kc : Nat) (ks : List ByteArray) (limit : Int) (p1 p2 : Value) (f : ByteArray → Option KVd) (w : World)
    (hR : Row w (.slice kp ks.length kc) ks) (hn : ks.length ≤ 1000000)
    (hf : ∀ W k, k ∈ ks → Below w.heap.size w W → Calls Tryz.prog 73 #[.string k, p1, p2] W fun e w' => e = .returned (.tuple #[encKV ((f k).getD noKV), .bool (f k).isSome]) ∧ Below W.heap.size W w') :
    Calls Tryz.prog 71 #[.slice kp ks.length kc, .int .i64 limit, .func (.func 73) #[] #[p1, p2]] w fun e w' => ∃ p c, e = .returned (.tuple #[.slice p (toldL limit (ks.filterMap f)).length c, .int .i64 (ks.filterMap f).length]) ∧ KR w w' (.slice p (toldL limit (ks.filterMap f)).length c) (toldL limit (ks.filterMap f)) := by
  have HR := Hid.mk'' hR
  have HF := Hid.mk'' hf
  clear hR hf
  obtain ⟨t9, hti, hz0, hz1, hz2⟩ := info_parts info56
  go_enter Tryz.func71, Tryz.ntmps71
  go_wp2
  go_loopg [8, 9, 16] (ks.length + 1) (fun kx s8 s9 s16 wr => ∃ (i : Nat) (p : Option Addr) (c : Nat), s8 = .slice p (toldL limit ((ks.take i).filterMap f)).length c ∧ s9 = .int .i64 ((ks.take i).filterMap f).length ∧ s16 = .int .i64 i ∧ kx + i = ks.length + 1 ∧ i ≤ ks.length ∧ Hid (KR w wr (.slice p (toldL limit ((ks.take i).filterMap f)).length c) (toldL limit ((ks.take i).filterMap f))))
  case atStart =>
    have e : toldL limit (([] : List ByteArray).filterMap f) = [] := by unfold toldL; split <;> simp
    exact ⟨0, none, 0, by simp [toldL], by simp, rfl, rfl, Nat.zero_le _, by rw [List.take_zero, e]; exact ⟨World.ownsRow_nil _ _ _ _, Below.refl _ _⟩⟩
  case round =>
    obtain ⟨i, p, c, rfl, rfl, rfl, hk, hi, HM⟩ := hrel
    have hl1 : ((ks.take i).filterMap f).length ≤ i := Nat.le_trans (List.length_filterMap_le _ _) (by rw [List.length_take]; omega)
    have hl2 := toldL_len limit ((ks.take i).filterMap f)
    by_cases hlt : i < ks.length
    · obtain ⟨k, hkk⟩ : ∃ k, ks[i]? = some k := ⟨_, List.getElem?_eq_getElem hlt⟩
      have hfm := fm_take (f := f) hkk
      obtain ⟨g, cg, hv, hgl, hgc⟩ := (HR.out).at_ i k hkk
      have kcell := (HM.out.2.cell (p := ⟨g, i, none⟩) hgl).trans hgc
      have hcall := HF.out wr k (List.mem_of_getElem? hkk) HM.out.2
      have hkp : kp = some ⟨g, 0, none⟩ := by cases hv; rfl
      subst hkp
      clear hv hgc hgl hkk
      generalize hfd : (ks.take i).filterMap f = fd at *
      cases hfk : f k with
      | none =>
        rw [hfk] at hcall hfm
        simp only [Option.toList_none, List.append_nil] at hfm
        have HM2 : Hid (∀ W, Below wr.heap.size wr W → KR w W (.slice p (toldL limit fd).length c) (toldL limit fd)) := fun W hb => ⟨ownsRow_upd HM.out.1 (Upd.ofBelow (S := fun _ => False) hb) (fun _ _ h => h), HM.out.2.trans (hb.mono HM.out.2.size)⟩
        dsimp only [Option.getD_none, encKV, noKV, Option.isSome_none] at hcall
        clear HM hfk HF
        go_wp2_with (go_at_call 73; refine hcall.mono ?_; rintro e w3 ⟨rfl, hb3⟩)
        go_roundg (ks.length - i)
        case measure => omega
        case rel => exact ⟨i + 1, p, c, by rw [hfm], by rw [hfm], by congr 1, by omega, by omega, by rw [hfm]; exact HM2.out _ (hb3.alloc (by have := hb3.size; omega) _)⟩
      | some kv =>
        rw [hfk] at hcall hfm
        simp only [Option.toList_some] at hfm
        have HM3 : Hid (KR w wr (.slice p (toldL limit fd).length c) (toldL limit fd)) := HM.out
        obtain ⟨kk, kvv, kcr, kmo, kve, kle⟩ := kv
        dsimp only [Option.getD_some, encKV, Option.isSome_some] at hcall
        have HFM := Hid.mk'' hfm
        clear HM hfk HF hfm
        go_upto_region 8 with (go_at_call 73; refine hcall.mono ?_; rintro e w3 ⟨rfl, hb3⟩)
        obtain ⟨w4, hw4⟩ : ∃ w4, w4 = w3.alloc (.cells #[.string kk, .string kvv, .int .i64 kcr, .int .i64 kmo, .int .i64 kve, .int .i64 kle] 62) := ⟨_, rfl⟩
        rw [← hw4]
        obtain ⟨bx, hbx⟩ : ∃ bx, bx = w3.heap.size := ⟨_, rfl⟩
        rw [← hbx]
        have r4 : w4.heap[bx]? = some (.cells #[.string kk, .string kvv, .int .i64 kcr, .int .i64 kmo, .int .i64 kve, .int .i64 kle] 62 (0, 0)) := by rw [hw4, hbx]; exact row_alloc w3 _ _
        have b34 : Below wr.heap.size wr w4 := by rw [hw4]; exact hb3.alloc hb3.size _
        have HK4 : Hid (KR w w4 (.slice p (toldL limit fd).length c) (toldL limit fd)) := ⟨ownsRow_upd HM3.out.1 (Upd.ofBelow (S := fun _ => False) b34) (fun _ _ h => h), HM3.out.2.trans (b34.mono HM3.out.2.size)⟩
        obtain ⟨⟨x0, x1, x2, x3, x4, x5⟩, -⟩ := box6 r4
        clear hw4 hbx b34 hb3 hcall HM3 r4
        by_cases hmore : limit < 1 ∨ (fd.length : Int) + 1 ≤ limit
        · have hto := toldL_more (x := (⟨kk, kvv, kcr, kmo, kve, kle⟩ : KVd)) hmore
          have HTO := Hid.mk'' hto
          have hba : Below w4.heap.size w4 (w4.alloc (.cells #[.string kk, .string kvv, .int .i64 kcr, .int .i64 kmo, .int .i64 kve, .int .i64 kle] 62)) := (Below.refl _ w4).alloc (Nat.le_refl _) _
          have hsrc : Src Tryz.prog 6 28 (.slice (some ⟨w4.heap.size, 0, none⟩) 1 1) 1 (kvsC [⟨kk, kvv, kcr, kmo, kve, kle⟩]) (w4.alloc (.cells #[.string kk, .string kvv, .int .i64 kcr, .int .i64 kmo, .int .i64 kve, .int .i64 kle] 62)) := Src.ofSlice _ Tryz.underlying28 ⟨w4.heap.size, 0, none⟩ 1 1 _ rfl (fun j u hj => by
            rw [Addr.add_lit, Nat.zero_add, cell_of_row _ _ _ _ _ _ (row_alloc w4 _ 62)]; simpa [kvsC, kvC] using hj) (fun u hu => by simp [kvsC, kvC] at hu; rcases hu with rfl | rfl | rfl | rfl | rfl | rfl <;> rfl)
          have hown : (w4.alloc (.cells #[.string kk, .string kvv, .int .i64 kcr, .int .i64 kmo, .int .i64 kve, .int .i64 kle] 62)).ownsRow w.heap.size 62 6 (.slice p (toldL limit fd).length c) (toldL limit fd).length (kvsC (toldL limit fd)) := ownsRow_upd HK4.out.1 (Upd.ofBelow (S := fun _ => False) hba) (fun _ _ h => h)
          have hwz : w.heap.size ≤ w4.heap.size := HK4.out.2.size
          have hl3 : (toldL limit fd).length ≤ 1000000 := by omega
          have HFIN : Hid (∀ w', Upd (w4.alloc (.cells #[.string kk, .string kvv, .int .i64 kcr, .int .i64 kmo, .int .i64 kve, .int .i64 kle] 62)) w' (fun k => some k = (Value.slice p (toldL limit fd).length c).ownBlock) → Below w.heap.size w w')   := fun w' hu => (HK4.out.2.trans (hba.mono hwz)).trans (hu.below (HK4.out.2.trans (hba.mono hwz)).size (fun k hk e => by have := (HK4.out.1.lt k e.symm).1; omega))
          have HTL := Hid.mk'' (rfl : toldL limit fd = toldL limit fd)
          generalize htl : toldL limit fd = tl at *
          clear hto hba HK4 HTL
          rcases Int.lt_or_le limit 1 with hli | hli
          · go_wp2_with (at_builtin; refine wpList_appS _ rfl (.tmp 37) (.tmp 39) 28 28 rfl w.heap.size 62 t9 _ 6 Tryz.underlying28 hti hz0 hz1 rfl (by rw [hz2]; decide) _ tl.length (kvsC tl) rfl hown _ rfl 1 (kvsC [⟨kk, kvv, kcr, kmo, kve, kle⟩]) hsrc (by omega) (by simp; omega) ?_; intro v' w' q1 q2 q3 q4; obtain ⟨np, nc, hnv⟩ := owns_formB0 q1; subst hnv; clear q3 q4)
            go_roundg (ks.length - i)
            case measure => omega
            case rel => exact ⟨i + 1, np, nc, by rw [HFM.out, HTO.out]; simp, by rw [HFM.out]; simp, by congr 1, by omega, by omega, by rw [HFM.out, HTO.out]; exact ⟨by simpa [kvsC] using q1, HFIN.out _ q2⟩⟩
          · have hm2 : (fd.length : Int) + 1 ≤ limit := by omega
            go_wp2_with (at_builtin; refine wpList_appS _ rfl (.tmp 37) (.tmp 39) 28 28 rfl w.heap.size 62 t9 _ 6 Tryz.underlying28 hti hz0 hz1 rfl (by rw [hz2]; decide) _ tl.length (kvsC tl) rfl hown _ rfl 1 (kvsC [⟨kk, kvv, kcr, kmo, kve, kle⟩]) hsrc (by omega) (by simp; omega) ?_; intro v' w' q1 q2 q3 q4; obtain ⟨np, nc, hnv⟩ := owns_formB0 q1; subst hnv; clear q3 q4)
            go_roundg (ks.length - i)
            case measure => omega
            case rel => exact ⟨i + 1, np, nc, by rw [HFM.out, HTO.out]; simp, by rw [HFM.out]; simp, by congr 1, by omega, by omega, by rw [HFM.out, HTO.out]; exact ⟨by simpa [kvsC] using q1, HFIN.out _ q2⟩⟩
        · have h1 : ¬ limit < 1 := fun h => hmore (.inl h)
          have h2 : ¬ (fd.length : Int) + 1 ≤ limit := fun h => hmore (.inr h)
          have HTO := Hid.mk'' (toldL_full (x := (⟨kk, kvv, kcr, kmo, kve, kle⟩ : KVd)) h1 h2)
          clear hmore
          go_wp2
          go_roundg (ks.length - i)
          case measure => omega
          case rel => exact ⟨i + 1, p, c, by rw [HFM.out, HTO.out], by rw [HFM.out]; simp, by congr 1, by omega, by omega, by rw [HFM.out, HTO.out]; exact HK4.out⟩
    · obtain rfl : i = ks.length := by omega
      rw [List.take_length] at HM ⊢
      have HB := HM
      go_wp2
      refine bodyPost_ret (results_tmp2 rfl _ _ _) rfl ?_
      exact ⟨p, c, rfl, HB.out⟩
end Go.Proofs.YtgbobegoknmiaaaGreat
/- The keys of a range that a write sees: sorted, each once. -/
namespace Go.Proofs.YtgbobegoknmiaaaGreat
open Go Go.RowKit Go.Sort Go.Lib

theorem bl_lt : ∀ a b : List UInt8, Op.bytesLess a b = true ↔ a < b
  | [], [] => by simp [Op.bytesLess]
  | [], _ :: _ => by simp [Op.bytesLess]
  | _ :: _, [] => by simp [Op.bytesLess]
  | x :: a, y :: b => by
    rw [List.cons_lt_cons_iff]
    simp [Op.bytesLess, bl_lt a b]
theorem le_bl {a b : List UInt8} : a ≤ b ↔ Op.bytesLess b a = false := by
  rw [← List.not_lt, ← bl_lt]
  simp
theorem asc_iff : ∀ l : List ByteArray, Asc l ↔ l.Pairwise (fun x y => klt x y = true)
  | [] => by simp [Asc]
  | a :: l => by simp only [Asc, List.pairwise_cons, asc_iff l]
theorem asc_ext : ∀ {a b : List ByteArray}, Asc a → Asc b → (∀ k, k ∈ a ↔ k ∈ b) → a = b
  | [], [], _, _, _ => rfl
  | [], y :: b, _, _, h => absurd ((h y).2 (by simp)) (by simp)
  | x :: a, [], _, _, h => absurd ((h x).1 (by simp)) (by simp)
  | x :: a, y :: b, ha, hb, h => by
    have hxy : x = y := by
      rcases List.mem_cons.1 ((h x).1 (by simp)) with e | e
      · exact e
      · rcases List.mem_cons.1 ((h y).2 (by simp)) with e2 | e2
        · exact e2.symm
        · have := klt_asymm (hb.1 x e)
          rw [ha.1 y e2] at this
          cases this
    subst hxy
    have : a = b := asc_ext ha.2 hb.2 (fun k => by
      have hk := h k
      simp only [List.mem_cons] at hk
      constructor
      · intro hm
        rcases hk.1 (.inr hm) with e | e
        · subst e; have := ha.1 k hm; rw [klt_irrefl] at this; cases this
        · exact e
      · intro hm
        rcases hk.2 (.inr hm) with e | e
        · subst e; have := hb.1 k hm; rw [klt_irrefl] at this; cases this
        · exact e)
    rw [this]
theorem sorted_ms (zs : List (List UInt8)) : (zs.mergeSort fun x y => decide (x ≤ y)).Pairwise (fun x y => Op.bytesLess y x = false) := by
  have h := List.pairwise_mergeSort (le := fun x y : List UInt8 => decide (x ≤ y)) (fun a b c h1 h2 => by
    simp only [decide_eq_true_eq] at h1 h2 ⊢
    exact List.le_trans h1 h2) (fun a b => by
    simp only [Bool.or_eq_true, decide_eq_true_eq]
    exact List.le_total a b) zs
  exact h.imp (fun {a b} e => le_bl.1 (by simpa using e))
theorem comp_asc {zs : List (List UInt8)} (h : zs.Pairwise (fun x y => Op.bytesLess y x = false)) : Asc ((Lib.compact zs).map ofL) := by
  rw [asc_iff, List.pairwise_map]
  unfold Lib.compact Lib.compactUpTo
  rw [List.pairwise_map, List.pairwise_filter]
  have hr : (List.range zs.length).Pairwise (fun a b => a < b ∧ b < zs.length) := by
    rw [List.pairwise_iff_getElem]
    intro i j hi hj hij
    simp at hi hj ⊢
    omega
  refine hr.imp (fun {i j} ⟨hij, hj⟩ _ hk => ?_)
  have hp := List.pairwise_iff_getElem.1 h
  have e : ∀ t (ht : t < zs.length), zs.toArray[t]! = zs[t] := fun t ht => by simp [getElem!_pos, ht]
  have hne : zs.toArray[j]! ≠ zs.toArray[j - 1]! := by
    unfold keeps at hk
    simp only [decide_eq_true_eq] at hk
    rcases hk with hk | hk
    · have : j = 0 := by simpa using hk
      omega
    · simpa using hk
  show klt (ofL zs.toArray[i]!) (ofL zs.toArray[j]!) = true
  unfold klt
  show Op.bytesLess zs.toArray[i]! zs.toArray[j]! = true
  have h1 : Op.bytesLess zs.toArray[j]! zs.toArray[j - 1]! = false := by
    rw [e j hj, e (j - 1) (by omega)]
    exact hp (j - 1) j (by omega) hj (by omega)
  have h2 : Op.bytesLess zs.toArray[j - 1]! zs.toArray[j]! = true := by
    cases h3 : Op.bytesLess zs.toArray[j - 1]! zs.toArray[j]!
    · exact absurd (bl_tri _ _ h1 h3) hne
    · rfl
  rcases Nat.lt_or_ge i (j - 1) with hi | hi
  · have h4 : Op.bytesLess zs.toArray[j - 1]! zs.toArray[i]! = false := by
      rw [e (j - 1) (by omega), e i (by omega)]
      exact hp i (j - 1) (by omega) (by omega) hi
    cases h5 : Op.bytesLess zs.toArray[i]! zs.toArray[j - 1]!
    · rw [bl_tri _ _ h5 h4]; exact h2
    · exact bl_trans _ _ _ h5 h2
  · obtain rfl : i = j - 1 := by omega
    exact h2
/-- slices.Sort of a row of keys, told whole. -/
theorem sort_rowA (w : World) (base : Nat) (p : Option Addr) (c : Nat) (ss : List ByteArray) (h : w.ownsRow base 9 1 (.slice p ss.length c) ss.length (strs ss)) (hl : ss.length ≤ 1000000) :
    Calls Tryz.prog 90 #[.slice p ss.length c] w fun e w' => e = .returned (.tuple #[]) ∧ ∃ ss', ss'.length = ss.length ∧ (∀ k, k ∈ ss' ↔ k ∈ ss) ∧ (ss'.map toL).Pairwise (fun x y => Op.bytesLess y x = false) ∧ w'.ownsRow base 9 1 (.slice p ss.length c) ss.length (strs ss') ∧ Upd w w' (fun k => some k = (Value.slice p ss.length c).ownBlock) := by
  rcases h.2 with ⟨e, e2⟩ | ⟨g, cap, cur, e, hbase, hb, h1, h2, h3, h4⟩
  · have : ss = [] := List.eq_nil_of_length_eq_zero e2
    subst this
    refine (Tryz.slices_Sort_string_none p c w).mono ?_
    rintro e w' ⟨rfl, rfl⟩
    exact ⟨rfl, [], rfl, fun _ => Iff.rfl, List.Pairwise.nil, by simpa using h, Upd.refl _ _⟩
  · cases e
    have e0 : (ss.map toL).length = ss.length := List.length_map _
    have := Tryz.slices_Sort_string g 0 c (ss.map toL) w (holds_of_block hb (by rw [e0, ← strs_toL]; simpa using h4)) (Array.getElem?_eq_some_iff.1 hb).1 (by rw [e0]; omega)
    rw [e0] at this
    refine this.mono ?_
    rintro e w' ⟨rfl, n, os, rfl⟩
    refine ⟨rfl, ((ss.map toL).mergeSort fun x y => decide (x ≤ y)).map ofL, by simp, mem_ofL (fun x => (List.mergeSort_perm _ _).mem_iff), ?_, ?_, (Upd.ofGrown (grownBy_sorted _)).mono (fun k _ e => e)⟩
    · rw [List.map_map]
      have : ((ss.map toL).mergeSort fun x y => decide (x ≤ y)).map (toL ∘ ofL) = (ss.map toL).mergeSort fun x y => decide (x ≤ y) := List.map_id _
      rw [this]
      exact sorted_ms _
    rw [← strs_ofL]
    have := ownsRow_sorted (w := w) (n := n) (os := os) (ss := ss.map toL) (ts := (ss.map toL).mergeSort fun x y => decide (x ≤ y)) (by simp) hbase hb (by rw [e0]; exact h1) h2 (by simpa using h3)
    rw [e0] at this
    exact this
/-- slices.Compact of a row of keys that was sorted. -/
theorem comp_rowA (w : World) (base : Nat) (p : Option Addr) (c : Nat) (ss : List ByteArray) (h : w.ownsRow base 9 1 (.slice p ss.length c) ss.length (strs ss)) (hl : ss.length ≤ 1000000) (hs : (ss.map toL).Pairwise (fun x y => Op.bytesLess y x = false)) :
    Calls Tryz.prog 91 #[.slice p ss.length c] w fun e w' => ∃ K : List ByteArray, K.length ≤ ss.length ∧ (∀ k, k ∈ K ↔ k ∈ ss) ∧ Asc K ∧ e = .returned (.slice p K.length c) ∧ (∀ j k, K[j]? = some k → ∃ g, p = some ⟨g, 0, none⟩ ∧ base ≤ g ∧ w'.cell? ⟨g, j, none⟩ = some (.string k)) ∧ Upd w w' (fun k => some k = (Value.slice p ss.length c).ownBlock) := by
  rcases h.2 with ⟨e, e2⟩ | ⟨g, cap, cur, e, hbase, hb, h1, h2, h3, h4⟩
  · have : ss = [] := List.eq_nil_of_length_eq_zero e2
    subst this
    refine (Tryz.slices_Compact_string_empty p c w).mono ?_
    rintro e w' ⟨rfl, rfl⟩
    exact ⟨[], Nat.le_refl _, fun _ => Iff.rfl, trivial, rfl, fun j k hj => by simp at hj, Upd.refl _ _⟩
  · cases e
    have e0 : (ss.map toL).length = ss.length := List.length_map _
    have hcl := comp_le (ss.map toL)
    rw [e0] at hcl
    have := Tryz.slices_Compact_string g 0 c (ss.map toL) w (holds_of_block hb (by rw [e0, ← strs_toL]; simpa using h4)) (by rw [e0]; omega) (by rw [e0]; exact h1)
    rw [e0] at this
    refine this.mono ?_
    rintro e w' ⟨rfl, q, rfl⟩
    have hgr : ∀ V : World, V = grow V #[] := fun V => by simp [grow]
    refine ⟨(Lib.compact (ss.map toL)).map ofL, by rw [List.length_map]; exact hcl, mem_ofL (mem_comp _), comp_asc hs, by rw [List.length_map], ?_, ?_⟩
    · intro j k hj
      refine ⟨g, rfl, hbase, ?_⟩
      have hown := ownsRow_sorted (w := w) (n := q) (os := #[]) (ss := ss.map toL) (ts := Lib.compact (ss.map toL) ++ List.replicate (ss.length - (Lib.compact (ss.map toL)).length) []) (by simp; omega) hbase hb (by rw [e0]; exact h1) h2 (by simpa using h3)
      rw [← hgr] at hown
      have hc := hown.cells (g := g) rfl j (.string k) (by
        have hlt := (List.getElem?_eq_some_iff.1 hj).1
        rw [List.length_map] at hlt
        rw [List.map_append, List.getElem?_append_left (by rw [List.length_map]; exact hlt), strs_ofL, List.getElem?_map, hj]
        rfl)
      simpa only [Addr.add_lit, Nat.zero_add] using hc
    · rw [hgr (putRow _ _ _ _ _)]
      exact (Upd.ofGrown (grownBy_sorted _)).mono (fun k _ e => e)
end Go.Proofs.YtgbobegoknmiaaaGreat
