/- lastPut of the past. -/
import Derived.Test.YteeflkkoifgcbabGreatGRH
namespace Go.Proofs.YteeflkkoifgcbabGreat
open Go Go.RowKit

def tlen (ms : List Mk) (r : Int) : Nat := (ms.takeWhile fun m => decide (m.1 ≤ r)).length
theorem tlen_le (ms : List Mk) (r : Int) : tlen ms r ≤ ms.length := (List.takeWhile_prefix _).length_le
theorem tlen_lt {r : Int} : ∀ {ms : List Mk} {k : Nat} {m : Mk}, k < tlen ms r → ms[k]? = some m → m.1 ≤ r
  | [], _, _, _, h => by simp at h
  | x :: ms, k, m, hk, h => by
    unfold tlen at hk
    rw [List.takeWhile_cons] at hk
    by_cases hx : x.1 ≤ r
    · rw [if_pos (decide_eq_true hx)] at hk
      cases k with
      | zero => obtain rfl : x = m := by simpa using h
                exact hx
      | succ k => exact tlen_lt (ms := ms) (k := k) (by simpa [tlen] using hk) (by simpa using h)
    · rw [if_neg (by simp [hx])] at hk
      simp at hk
theorem tlen_ge {r : Int} : ∀ {ms : List Mk} {k : Nat} {m : Mk}, MAsc ms → tlen ms r ≤ k → ms[k]? = some m → r < m.1
  | [], _, _, _, _, h => by simp at h
  | x :: ms, k, m, hs, hk, h => by
    obtain ⟨h1, h2⟩ := List.pairwise_cons.1 hs
    unfold tlen at hk
    rw [List.takeWhile_cons] at hk
    by_cases hx : x.1 ≤ r
    · rw [if_pos (decide_eq_true hx)] at hk
      cases k with
      | zero => simp at hk
      | succ k => exact tlen_ge (ms := ms) (k := k) h2 (by simpa [tlen] using hk) (by simpa using h)
    · cases k with
      | zero => obtain rfl : x = m := by simpa using h
                omega
      | succ k =>
        have := h1 m (List.mem_of_getElem? (i := k) (by simpa using h))
        omega
/-- Marks in a row of cells. -/
def MksAt (w : World) (g : Nat) (ms : List Mk) : Prop := ∀ j m, ms[j]? = some m → w.cell? ⟨g, j * 2, none⟩ = some (.int .i64 m.1) ∧ w.cell? ⟨g, j * 2 + 1, none⟩ = some (.bool m.2)
theorem MksAt.below {w w' : World} {g : Nat} {ms : List Mk} (h : MksAt w g ms) (hb : Below w.heap.size w w') : MksAt w' g ms := fun j it hj => by
  obtain ⟨h1, h2⟩ := h j it hj
  exact ⟨(hb.cell (p := ⟨g, j * 2, none⟩) (World.block_lt_of_cell? _ _ h1)).trans h1, (hb.cell (p := ⟨g, j * 2 + 1, none⟩) (World.block_lt_of_cell? _ _ h2)).trans h2⟩
theorem below_drewQ {B : Nat} {w W : World} (h : Below B w W) : ∀ n, Below B w (W.drewN n)
  | 0 => h
  | n + 1 => (below_drewQ h n).drew
set_option maxRecDepth 100000 in
set_option maxHeartbeats 400000 in
theorem behind_any (a q g c : Nat) (ms : List Mk) (r : Int) (w : World) (ha : w.cell? ⟨a, 0, none⟩ = some (.slice (some ⟨g, 0, none⟩) ms.length c)) (hq : w.cell? ⟨q, 0, none⟩ = some (.int .i64 r)) (i : Nat) (m : Mk) (hm : ms[i]? = some m) (hc : MksAt w g ms) :
    Calls Tryz.prog 55 #[.int .i64 i, ptr a, ptr q] w fun e w' => e = .returned (.bool (decide (r < m.1))) ∧ Below w.heap.size w w' := by
  obtain ⟨c1, -⟩ := hc i m hm
  have hi := (List.getElem?_eq_some_iff.1 hm).1
  have HB : ∀ q, Hid (Below w.heap.size w (w.drewN q)) := fun q => below_drewQ (Below.refl _ _) q
  clear hc hm
  go_enter Tryz.func55, Tryz.ntmps55
  go_wp2
  go_quiet (fail)
  go_wp2
  go_ret
  exact ⟨rfl, (HB _).out⟩
set_option maxRecDepth 100000 in
set_option maxHeartbeats 1000000 in
theorem ssearch_any (a q g c : Nat) (ms : List Mk) (r : Int) (w : World) (ha : w.cell? ⟨a, 0, none⟩ = some (.slice (some ⟨g, 0, none⟩) ms.length c)) (hq : w.cell? ⟨q, 0, none⟩ = some (.int .i64 r)) (hc : MksAt w g ms) (hs : MAsc ms) (hn : ms.length ≤ 1000000) :
    Calls Tryz.prog 54 #[.int .i64 ms.length, .func (.func 55) #[] #[ptr a, ptr q]] w fun e w' => e = .returned (.int .i64 (tlen ms r)) ∧ Below w.heap.size w w' := by
  have HF : Hid (∀ (W : World) (i : Nat) (m : Mk), Below w.heap.size w W → ms[i]? = some m → Calls Tryz.prog 55 #[.int .i64 i, ptr a, ptr q] W fun e w' => e = .returned (.bool (decide (r < m.1))) ∧ Below W.heap.size W w') := fun W i m hb hm =>
    behind_any a q g c ms r W ((hb.cell (p := ⟨a, 0, none⟩) (World.block_lt_of_cell? _ _ ha)).trans ha) ((hb.cell (p := ⟨q, 0, none⟩) (World.block_lt_of_cell? _ _ hq)).trans hq) i m hm (hc.below hb)
  have HS := Hid.mk'' hs
  have hp := tlen_le ms r
  clear hs hc ha hq
  go_enter Tryz.func54, Tryz.ntmps54
  go_wp2
  go_loopw [5, 6] (fun x y W => ∃ i j : Nat, x = .int .i64 i ∧ y = .int .i64 j ∧ i ≤ tlen ms r ∧ tlen ms r ≤ j ∧ j ≤ ms.length ∧ Below w.heap.size w W) (fun x y _ => (intOf y).toNat - (intOf x).toNat)
  case atStart => exact ⟨0, ms.length, rfl, rfl, Nat.zero_le _, hp, Nat.le_refl _, Below.refl _ _⟩
  case round =>
    obtain ⟨i, j, rfl, rfl, h1, h2, h3, hb⟩ := hrel
    by_cases hij : i < j
    · obtain ⟨m, hit⟩ : ∃ m, ms[(i + j) / 2]? = some m := ⟨_, List.getElem?_eq_getElem (by omega)⟩
      have hci := HF.out wr ((i + j) / 2) m hb hit
      have HI : Hid (ms[(i + j) / 2]? = some m) := hit
      clear hit
      by_cases hk : r < m.1
      · rw [decide_eq_true hk] at hci
        have HK := Hid.mk'' hk
        clear hk
        go_wp2_with (go_at_call 55; refine hci.mono ?_; rintro e w' ⟨rfl, hb'⟩)
        go_roundw
        case rel =>
          refine ⟨i, (i + j) / 2, rfl, rfl, h1, ?_, by omega, hb.trans (hb'.mono hb.size)⟩
          refine Nat.le_of_not_lt fun hlt => ?_
          have h1 := tlen_lt hlt HI.out
          have h2 := HK.out
          omega
        case measure => simp [intOf]; omega
      · rw [decide_eq_false hk] at hci
        have HK := Hid.mk'' hk
        clear hk
        go_wp2_with (go_at_call 55; refine hci.mono ?_; rintro e w' ⟨rfl, hb'⟩)
        go_roundw
        case rel =>
          refine ⟨(i + j) / 2 + 1, j, by go_num, rfl, ?_, h2, h3, hb.trans (hb'.mono hb.size)⟩
          refine Nat.le_of_not_lt fun hlt => ?_
          have := tlen_ge (r := r) HS.out (by omega) HI.out
          have := HK.out
          omega
        case measure => simp [intOf]; omega
    · obtain rfl : i = tlen ms r := by omega
      have hb9 := Hid.mk'' hb
      go_wp2
      go_ret
      exact ⟨rfl, hb9.out⟩
end Go.Proofs.YteeflkkoifgcbabGreat
/- A key as it was at any revision. -/
namespace Go.Proofs.YteeflkkoifgcbabGreat
open Go Go.RowKit

theorem filter_take : ∀ {h : Hs} {r : Int}, h.Pairwise (fun p q => p.1 < q.1) → h.filter (fun p => decide (p.1 ≤ r)) = h.take (tlen (h.map markOf) r)
  | [], r, _ => by simp
  | p :: h, r, hp => by
    obtain ⟨h1, h2⟩ := List.pairwise_cons.1 hp
    have ih := filter_take (r := r) h2
    unfold tlen at ih ⊢
    rw [List.map_cons, List.takeWhile_cons, List.filter_cons]
    by_cases hx : p.1 ≤ r
    · have hm : (markOf p).1 ≤ r := hx
      rw [if_pos (decide_eq_true hx), if_pos (decide_eq_true hm), List.length_cons, List.take_succ_cons, ih]
    · have hm : ¬ (markOf p).1 ≤ r := hx
      rw [if_neg (by simp [hx]), if_neg (by simp [hm]), List.length_nil, List.take_zero, List.filter_eq_nil_iff]
      intro q hq
      have := h1 q hq
      simp; omega
theorem atH_zero {h : Hs} {r : Int} (hp : h.Pairwise (fun p q => p.1 < q.1)) (hc : tlen (h.map markOf) r = 0) : atH h r = none := by
  unfold atH
  rw [filter_take hp, hc]
  rfl
theorem atH_pos {h : Hs} {r : Int} (hp : h.Pairwise (fun p q => p.1 < q.1)) {c : Nat} (hc : tlen (h.map markOf) r = c + 1) : ∃ p, h[c]? = some p ∧ (h.map markOf)[c]? = some (markOf p) ∧ atH h r = p.2 := by
  have hl := tlen_le (h.map markOf) r
  rw [List.length_map] at hl
  obtain ⟨p, hpc⟩ : ∃ p, h[c]? = some p := ⟨_, List.getElem?_eq_getElem (by omega)⟩
  refine ⟨p, hpc, by rw [List.getElem?_map, hpc]; rfl, ?_⟩
  unfold atH
  rw [filter_take hp, hc, List.take_add_one, hpc]
  exact thereH_snoc _ _ _
theorem marks_asc {h : Hs} (hp : h.Pairwise (fun p q => p.1 < q.1)) : MAsc (h.map markOf) := by
  unfold MAsc
  rw [List.pairwise_map]
  exact hp
theorem hlen_le {n : Nat} {w : World} {s : Nat} {S : Sto} {g : Sg} {o : Value} (h : St n w s S g o) (key : ByteArray) : (S.kh key).length ≤ n := by
  by_cases hm : key ∈ S.ks
  · have := (h.bd.ms (key, (S.kh key).map markOf) (List.mem_map.2 ⟨key, hm, rfl⟩)).1
    simpa using this
  · have h0 : S.kh key = [] := Classical.byContradiction fun hn => hm ((h.mem key).2 hn)
    rw [h0]; simp
set_option maxRecDepth 100000 in
set_option maxHeartbeats 1000000 in
theorem ssearch_zero (fv : Value) (w : World) : Calls Tryz.prog 54 #[.int .i64 0, fv] w fun e w' => e = .returned (.int .i64 0) ∧ w' = w := by
  go_enter Tryz.func54, Tryz.ntmps54
  go_wp2
  go_loopw [5, 6] (fun x y W => x = .int .i64 0 ∧ y = .int .i64 0 ∧ W = w) (fun _ _ _ => 0)
  case atStart => exact ⟨rfl, rfl, rfl⟩
  case round =>
    obtain ⟨rfl, rfl, rfl⟩ := hrel
    go_wp2
    go_ret
    exact ⟨rfl, rfl⟩
set_option maxRecDepth 100000 in
set_option maxHeartbeats 1000000 in
theorem last_past {n : Nat} {w : World} {s : Nat} {S : Sto} {g : Sg} {o : Value} (h : St n w s S g o) (hn : n ≤ 1000000) (key : ByteArray) (rev : Int) (hne : rev ≠ S.rev) : Calls Tryz.prog 36 #[ptr s, .string key, .int .i64 rev] w fun e w' => e = .returned (.int .i64 (modOf (atH (S.kh key) rev))) ∧ Below w.heap.size w w' := by
  have hb0 : Below w.heap.size w (w.alloc (.cells #[.int .i64 rev] 3)) := (Below.refl _ w).alloc (Nat.le_refl _) _
  have r0 := row_alloc w #[.int .i64 rev] 3
  generalize hV : w.alloc (.cells #[.int .i64 rev] 3) = V at *
  have hVs : V.heap.size = w.heap.size + 1 := by rw [← hV]; simp
  have hbd : ∀ q, Below w.heap.size w (V.drewN q) := fun q => below_drewQ hb0 q
  have hhl := hlen_le h key
  have HMK : Hid (∀ W, Below w.heap.size w W → Calls Tryz.prog 37 #[ptr g.x, .string key] W fun e w' => ∃ v, e = .returned v ∧ MarksPost W w' v ((S.kh key).map markOf)) := fun W hb => by
    have := marks_xd (h.below hb).ix (h.below hb).bd hn key
    rw [(lookD_datS h key).1] at this
    exact this
  have HC : Hid (∀ W, Below w.heap.size w W → W.cell? ⟨s, 0, none⟩ = some (.int .i64 S.rev) ∧ W.cell? ⟨s, 2, none⟩ = some (ptr g.x)) := fun W hb => ⟨(h.below hb).cells.1, (h.below hb).cells.2.2.1⟩
  have hasc := (h.hok key).asc
  have HKV : Hid (∀ r v, (r, some v) ∈ S.kh key → v.mod = r) := fun r v hm => ((h.hok key).kv r v hm).2.1
  obtain ⟨c0, c2⟩ := HC.out V hb0
  have k0 : V.cell? ⟨w.heap.size, 0, none⟩ = some (.int .i64 rev) := cell_of_row _ _ _ _ _ _ r0
  have hneb : (rev == (S.rev : Int)) = false := by rw [beq_eq_false_iff_ne]; exact hne
  generalize S.kh key = hs at *
  have HA := Hid.mk'' hasc
  have HBD := Hid.mk'' hbd
  have HR0 := Hid.mk'' r0
  clear h hasc hne hbd r0
  go_enter Tryz.func36, Tryz.ntmps36
  go_wp2
  go_quiet (fail)
  have hmk := HMK.out _ (HBD.out nq)
  have c2q := (HC.out _ (HBD.out nq)).2
  go_upto_region 4 with (go_at_call 37; refine hmk.mono ?_; rintro e w3 ⟨v, rfl, hP⟩; obtain ⟨⟨p, c, rfl, -⟩, hM, hb3⟩ := hP)
  obtain ⟨w4, hw4⟩ : ∃ w4, w4 = w3.alloc (.cells #[.slice p hs.length c] 87) := ⟨_, rfl⟩
  rw [← hw4]
  obtain ⟨a, ha⟩ : ∃ a, a = w3.heap.size := ⟨_, rfl⟩
  rw [← ha]
  obtain ⟨q, hq⟩ : ∃ q, q = w.heap.size := ⟨_, rfl⟩
  rw [← hq]
  have hB3 : Below w.heap.size w w3 := (HBD.out nq).trans (hb3.mono (HBD.out nq).size)
  have b34 : Below w3.heap.size w3 w4 := by rw [hw4]; exact (Below.refl _ _).alloc (Nat.le_refl _) _
  have hB4 : Below w.heap.size w w4 := hB3.trans (b34.mono hB3.size)
  have ka : w4.cell? ⟨a, 0, none⟩ = some (.slice p hs.length c) := by rw [hw4, ha]; exact cell_of_row _ _ _ _ _ _ (row_alloc w3 _ _)
  have kq : w4.cell? ⟨q, 0, none⟩ = some (.int .i64 rev) := by
    have h1 : (V.drewN nq).heap[w.heap.size]? = V.heap[w.heap.size]? := (below_drewQ (Below.refl V.heap.size V) nq).block w.heap.size (by omega)
    have h2 := (hb3.block w.heap.size (by have := (below_drewQ (Below.refl V.heap.size V) nq).size; omega)).trans (h1.trans HR0.out)
    have h3 := (b34.block w.heap.size (Array.getElem?_eq_some_iff.1 h2).1).trans h2
    rw [hq]
    exact cell_of_row _ _ _ _ _ _ h3
  have HB4 := Hid.mk'' hB4
  have HQL : Hid (q = w.heap.size) := hq
  have hlen2 : (hs.map markOf).length = hs.length := List.length_map _
  have HMS : Hid (Mks w4 (.slice p (hs.map markOf).length c) (hs.map markOf)) := ownsRow_upd hM (Upd.ofBelow (S := fun _ => False) b34) (fun _ _ h => h)
  clear hw4 ha hq hM hb3 hB3 b34 hB4 hmk c2q HMK HC c0 c2 k0 hneb HR0 hV hb0 hVs
  by_cases hnil : hs = []
  · subst hnil
    have hsr := ssearch_zero (.func (.func 55) #[] #[.pointer (some ⟨a, 0, none⟩), .pointer (some ⟨q, 0, none⟩)]) w4
    go_wp2_with (go_at_call 54; refine hsr.mono ?_; rintro e w' ⟨rfl, hw'⟩; obtain rfl := hw'.symm)
    go_ret
    exact ⟨rfl, HB4.out⟩
  · obtain ⟨gk, ck, hv, -, -⟩ := owns_form1 HMS.out (by rw [hlen2]; exact List.length_pos_iff.2 hnil)
    have hpk : p = some ⟨gk, 0, none⟩ := by cases hv; rfl
    subst hpk
    have hat : MksAt w4 gk (hs.map markOf) := fun j m hj => HMS.out.cell hj
    have hsr := ssearch_any a q gk c (hs.map markOf) rev w4 (by rw [hlen2]; exact ka) kq hat (marks_asc HA.out) (by omega)
    rw [hlen2] at hsr
    have HAT := Hid.mk'' hat
    clear hat hv
    cases hc : tlen (hs.map markOf) rev with
    | zero =>
      have HE := Hid.mk'' (atH_zero HA.out hc)
      rw [hc] at hsr
      clear hc
      go_wp2_with (go_at_call 54; refine hsr.mono ?_; rintro e w5 ⟨rfl, hb5⟩)
      go_ret
      exact ⟨by rw [HE.out]; rfl, HB4.out.trans (hb5.mono HB4.out.size)⟩
    | succ cn =>
      obtain ⟨pe, hpe, hme, hate⟩ := atH_pos HA.out hc
      have hcl := tlen_le (hs.map markOf) rev
      rw [hc] at hsr hcl
      rw [hlen2] at hcl
      have HPE : Hid (pe ∈ hs) := List.mem_of_getElem? hpe
      have HE := Hid.mk'' hate
      have HME := Hid.mk'' hme
      have hx : IntKind.i64.wrap (((cn + 1 : Nat) : Int) - 1) = (cn : Int) := by rw [IntKind.wrap_i64]; omega
      clear hc hpe hme hate
      go_upto_region 5 with (go_at_call 54; refine hsr.mono ?_; rintro e w5 ⟨rfl, hb5⟩)
      obtain ⟨x1, x2⟩ := (HAT.out.below hb5) cn (markOf pe) HME.out
      have ka5 := (hb5.cell (p := ⟨a, 0, none⟩) (World.block_lt_of_cell? _ _ ka)).trans ka
      have HB5 : Hid (Below w.heap.size w w5) := HB4.out.trans (hb5.mono HB4.out.size)
      obtain ⟨pr, po⟩ := pe
      dsimp only [markOf] at x1 x2
      clear hsr hb5 ka kq HMS HAT HME
      cases po with
      | none =>
        dsimp only [Option.isNone_none] at x2
        go_wp2
        go_ret
        exact ⟨by rw [HE.out]; rfl, HB5.out⟩
      | some v =>
        dsimp only [Option.isNone_some] at x2
        go_wp2
        go_ret
        refine ⟨?_, HB5.out⟩
        rw [HE.out]
        show Ending.returned (.int .i64 pr) = .returned (.int .i64 v.mod)
        rw [HKV.out pr v HPE.out]
theorem plast_any {n : Nat} {w : World} {s : Nat} {S : Sto} {g : Sg} {o : Value} (h : St n w s S g o) (hn : n ≤ 1000000) (key : ByteArray) (rev : Int) : Calls Tryz.prog 36 #[ptr s, .string key, .int .i64 rev] w fun e w' => e = .returned (.int .i64 (modOf (atH (S.kh key) rev))) ∧ Below w.heap.size w w' := by
  by_cases e : rev = S.rev
  · subst e
    have ha : atH (S.kh key) S.rev = thereH (S.kh key) := atH_all (fun p hp => ((h.hok key).pos p hp).2)
    rw [ha]
    exact last_now h key
  · exact last_past h hn key rev e
theorem at_rev {n : Nat} {w : World} {s : Nat} {S : Sto} {g : Sg} {o : Value} (h : St n w s S g o) (hn : n ≤ 1000000) (key : ByteArray) (rev : Int) :
    Calls Tryz.prog 30 #[ptr s, .string key, .int .i64 rev] w fun e w' => e = .returned (.tuple #[encKV ((atH (S.kh key) rev).getD noKV), .bool (atH (S.kh key) rev).isSome]) ∧ Below w.heap.size w w' :=
  at_any h key rev (fun _ hb => plast_any (h.below hb) hn key rev)
end Go.Proofs.YteeflkkoifgcbabGreat
