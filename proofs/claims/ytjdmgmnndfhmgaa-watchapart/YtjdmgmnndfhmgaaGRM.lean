/- A key as it was at any revision. -/
import Derived.Test.YtjdmgmnndfhmgaaGRL
import Derived.Test.YtjdmgmnndfhmgaaGRC
namespace Go.Proofs.Ytjdmgmnndfhmgaa
open Go Go.RowKit

theorem filter_take : ∀ {h : Hs} {r : Int}, h.Pairwise (fun p q => p.1 < q.1) → h.filter (fun p => decide (p.1 ≤ r)) = h.take (tlen (h.map markOf) r)
  | [], r, _ => by simp
  | p :: h, r, hp => by
    obtain ⟨h1, h2⟩ := List.pairwise_cons.1 hp
    have ih := filter_take (r := r) h2
    unfold tlen at ih ⊢
    rw [List.map_cons, List.takeWhile_cons, List.filter_cons]
    by_cases hx : p.1 ≤ r
    · have hm : (markOf p).1 ≤ r := hx
      rw [if_pos (decide_eq_true hx), if_pos (decide_eq_true hm), List.length_cons, List.take_succ_cons, ih]
    · have hm : ¬ (markOf p).1 ≤ r := hx
      rw [if_neg (by simp [hx]), if_neg (by simp [hm]), List.length_nil, List.take_zero, List.filter_eq_nil_iff]
      intro q hq
      have := h1 q hq
      simp; omega
theorem atH_zero {h : Hs} {r : Int} (hp : h.Pairwise (fun p q => p.1 < q.1)) (hc : tlen (h.map markOf) r = 0) : atH h r = none := by
  unfold atH
  rw [filter_take hp, hc]
  rfl
theorem atH_pos {h : Hs} {r : Int} (hp : h.Pairwise (fun p q => p.1 < q.1)) {c : Nat} (hc : tlen (h.map markOf) r = c + 1) : ∃ p, h[c]? = some p ∧ (h.map markOf)[c]? = some (markOf p) ∧ atH h r = p.2 := by
  have hl := tlen_le (h.map markOf) r
  rw [List.length_map] at hl
  obtain ⟨p, hpc⟩ : ∃ p, h[c]? = some p := ⟨_, List.getElem?_eq_getElem (by omega)⟩
  refine ⟨p, hpc, by rw [List.getElem?_map, hpc]; rfl, ?_⟩
  unfold atH
  rw [filter_take hp, hc, List.take_add_one, hpc]
  exact thereH_snoc _ _ _
theorem marks_asc {h : Hs} (hp : h.Pairwise (fun p q => p.1 < q.1)) : MAsc (h.map markOf) := by
  unfold MAsc
  rw [List.pairwise_map]
  exact hp
theorem hlen_le {n : Nat} {w : World} {s : Nat} {S : Sto} {g : Sg} {o : Value} (h : St n w s S g o) (key : ByteArray) : (S.kh key).length ≤ n := by
  by_cases hm : key ∈ S.ks
  · have := (h.bd.ms (key, (S.kh key).map markOf) (List.mem_map.2 ⟨key, hm, rfl⟩)).1
    simpa using this
  · have h0 : S.kh key = [] := Classical.byContradiction fun hn => hm ((h.mem key).2 hn)
    rw [h0]; simp
set_option maxRecDepth 100000 in
set_option maxHeartbeats 1000000 in
theorem ssearch_zero (fv : Value) (w : World) : Calls Try.prog 48 #[.int .i64 0, fv] w fun e w' => e = .returned (.int .i64 0) ∧ w' = w := by
  go_enter Try.func48, Try.ntmps48
  go_wp2
  go_loopw [5, 6] (fun x y W => x = .int .i64 0 ∧ y = .int .i64 0 ∧ W = w) (fun _ _ _ => 0)
  case atStart => exact ⟨rfl, rfl, rfl⟩
  case round =>
    obtain ⟨rfl, rfl, rfl⟩ := hrel
    go_wp2
    go_ret
    exact ⟨rfl, rfl⟩
set_option maxRecDepth 100000 in
set_option maxHeartbeats 1000000 in
theorem last_past {n : Nat} {w : World} {s : Nat} {S : Sto} {g : Sg} {o : Value} (h : St n w s S g o) (hn : n ≤ 1000000) (key : ByteArray) (rev : Int) (hne : rev ≠ S.rev) : Calls Try.prog 43 #[ptr s, .string key, .int .i64 rev] w fun e w' => e = .returned (.int .i64 (modOf (atH (S.kh key) rev))) ∧ Below w.heap.size w w' := by
  have hb0 : Below w.heap.size w (w.alloc (.cells #[.int .i64 rev] 3)) := (Below.refl _ w).alloc (Nat.le_refl _) _
  have r0 := row_alloc w #[.int .i64 rev] 3
  generalize hV : w.alloc (.cells #[.int .i64 rev] 3) = V at *
  have hVs : V.heap.size = w.heap.size + 1 := by rw [← hV]; simp
  have hbd : ∀ q, Below w.heap.size w (V.drewN q) := fun q => below_drewQ hb0 q
  have hhl := hlen_le h key
  have HMK : Hid (∀ W, Below w.heap.size w W → Calls Try.prog 47 #[ptr g.x, .string key] W fun e w' => ∃ v, e = .returned v ∧ MarksPost W w' v ((S.kh key).map markOf)) := fun W hb => by
    have := marks_xd (h.below hb).ix (h.below hb).bd hn key
    rw [(lookD_datS h key).1] at this
    exact this
  have HC : Hid (∀ W, Below w.heap.size w W → W.cell? ⟨s, 0, none⟩ = some (.int .i64 S.rev) ∧ W.cell? ⟨s, 2, none⟩ = some (ptr g.x)) := fun W hb => ⟨(h.below hb).cells.1, (h.below hb).cells.2.2.1⟩
  have hasc := (h.hok key).asc
  have HKV : Hid (∀ r v, (r, some v) ∈ S.kh key → v.mod = r) := fun r v hm => ((h.hok key).kv r v hm).2.1
  obtain ⟨c0, c2⟩ := HC.out V hb0
  have k0 : V.cell? ⟨w.heap.size, 0, none⟩ = some (.int .i64 rev) := cell_of_row _ _ _ _ _ _ r0
  have hneb : (rev == (S.rev : Int)) = false := by rw [beq_eq_false_iff_ne]; exact hne
  generalize S.kh key = hs at *
  have HA := Hid.mk'' hasc
  have HBD := Hid.mk'' hbd
  have HR0 := Hid.mk'' r0
  clear h hasc hne hbd r0
  go_enter Try.func43, Try.ntmps43
  go_wp2
  go_quiet (fail)
  have hmk := HMK.out _ (HBD.out nq)
  have c2q := (HC.out _ (HBD.out nq)).2
  go_upto_region 4 with (go_at_call 47; refine hmk.mono ?_; rintro e w3 ⟨v, rfl, hP⟩; obtain ⟨⟨p, c, rfl, -⟩, hM, hb3⟩ := hP)
  obtain ⟨w4, hw4⟩ : ∃ w4, w4 = w3.alloc (.cells #[.slice p hs.length c] 110) := ⟨_, rfl⟩
  rw [← hw4]
  obtain ⟨a, ha⟩ : ∃ a, a = w3.heap.size := ⟨_, rfl⟩
  rw [← ha]
  obtain ⟨q, hq⟩ : ∃ q, q = w.heap.size := ⟨_, rfl⟩
  rw [← hq]
  have hB3 : Below w.heap.size w w3 := (HBD.out nq).trans (hb3.mono (HBD.out nq).size)
  have b34 : Below w3.heap.size w3 w4 := by rw [hw4]; exact (Below.refl _ _).alloc (Nat.le_refl _) _
  have hB4 : Below w.heap.size w w4 := hB3.trans (b34.mono hB3.size)
  have ka : w4.cell? ⟨a, 0, none⟩ = some (.slice p hs.length c) := by rw [hw4, ha]; exact cell_of_row _ _ _ _ _ _ (row_alloc w3 _ _)
  have kq : w4.cell? ⟨q, 0, none⟩ = some (.int .i64 rev) := by
    have h1 : (V.drewN nq).heap[w.heap.size]? = V.heap[w.heap.size]? := (below_drewQ (Below.refl V.heap.size V) nq).block w.heap.size (by omega)
    have h2 := (hb3.block w.heap.size (by have := (below_drewQ (Below.refl V.heap.size V) nq).size; omega)).trans (h1.trans HR0.out)
    have h3 := (b34.block w.heap.size (Array.getElem?_eq_some_iff.1 h2).1).trans h2
    rw [hq]
    exact cell_of_row _ _ _ _ _ _ h3
  have HB4 := Hid.mk'' hB4
  have HQL : Hid (q = w.heap.size) := hq
  have hlen2 : (hs.map markOf).length = hs.length := List.length_map _
  have HMS : Hid (Mks w4 (.slice p (hs.map markOf).length c) (hs.map markOf)) := ownsRow_upd hM (Upd.ofBelow (S := fun _ => False) b34) (fun _ _ h => h)
  clear hw4 ha hq hM hb3 hB3 b34 hB4 hmk c2q HMK HC c0 c2 k0 hneb HR0 hV hb0 hVs
  by_cases hnil : hs = []
  · subst hnil
    have hsr := ssearch_zero (.func (.func 49) #[] #[.pointer (some ⟨a, 0, none⟩), .pointer (some ⟨q, 0, none⟩)]) w4
    go_wp2_with (go_at_call 48; refine hsr.mono ?_; rintro e w' ⟨rfl, hw'⟩; obtain rfl := hw'.symm)
    go_ret
    exact ⟨rfl, HB4.out⟩
  · obtain ⟨gk, ck, hv, -, -⟩ := owns_form1 HMS.out (by rw [hlen2]; exact List.length_pos_iff.2 hnil)
    have hpk : p = some ⟨gk, 0, none⟩ := by cases hv; rfl
    subst hpk
    have hat : MksAt w4 gk (hs.map markOf) := fun j m hj => HMS.out.cell hj
    have hsr := ssearch_any a q gk c (hs.map markOf) rev w4 (by rw [hlen2]; exact ka) kq hat (marks_asc HA.out) (by omega)
    rw [hlen2] at hsr
    have HAT := Hid.mk'' hat
    clear hat hv
    cases hc : tlen (hs.map markOf) rev with
    | zero =>
      have HE := Hid.mk'' (atH_zero HA.out hc)
      rw [hc] at hsr
      clear hc
      go_wp2_with (go_at_call 48; refine hsr.mono ?_; rintro e w5 ⟨rfl, hb5⟩)
      go_ret
      exact ⟨by rw [HE.out]; rfl, HB4.out.trans (hb5.mono HB4.out.size)⟩
    | succ cn =>
      obtain ⟨pe, hpe, hme, hate⟩ := atH_pos HA.out hc
      have hcl := tlen_le (hs.map markOf) rev
      rw [hc] at hsr hcl
      rw [hlen2] at hcl
      have HPE : Hid (pe ∈ hs) := List.mem_of_getElem? hpe
      have HE := Hid.mk'' hate
      have HME := Hid.mk'' hme
      have hx : IntKind.i64.wrap (((cn + 1 : Nat) : Int) - 1) = (cn : Int) := by rw [IntKind.wrap_i64]; omega
      clear hc hpe hme hate
      go_upto_region 5 with (go_at_call 48; refine hsr.mono ?_; rintro e w5 ⟨rfl, hb5⟩)
      obtain ⟨x1, x2⟩ := (HAT.out.below hb5) cn (markOf pe) HME.out
      have ka5 := (hb5.cell (p := ⟨a, 0, none⟩) (World.block_lt_of_cell? _ _ ka)).trans ka
      have HB5 : Hid (Below w.heap.size w w5) := HB4.out.trans (hb5.mono HB4.out.size)
      obtain ⟨pr, po⟩ := pe
      dsimp only [markOf] at x1 x2
      clear hsr hb5 ka kq HMS HAT HME
      cases po with
      | none =>
        dsimp only [Option.isNone_none] at x2
        go_wp2
        go_ret
        exact ⟨by rw [HE.out]; rfl, HB5.out⟩
      | some v =>
        dsimp only [Option.isNone_some] at x2
        go_wp2
        go_ret
        refine ⟨?_, HB5.out⟩
        rw [HE.out]
        show Ending.returned (.int .i64 pr) = .returned (.int .i64 v.mod)
        rw [HKV.out pr v HPE.out]
theorem plast_any {n : Nat} {w : World} {s : Nat} {S : Sto} {g : Sg} {o : Value} (h : St n w s S g o) (hn : n ≤ 1000000) (key : ByteArray) (rev : Int) : Calls Try.prog 43 #[ptr s, .string key, .int .i64 rev] w fun e w' => e = .returned (.int .i64 (modOf (atH (S.kh key) rev))) ∧ Below w.heap.size w w' := by
  by_cases e : rev = S.rev
  · subst e
    have ha : atH (S.kh key) S.rev = thereH (S.kh key) := atH_all (fun p hp => ((h.hok key).pos p hp).2)
    rw [ha]
    exact last_now h key
  · exact last_past h hn key rev e
theorem at_rev {n : Nat} {w : World} {s : Nat} {S : Sto} {g : Sg} {o : Value} (h : St n w s S g o) (hn : n ≤ 1000000) (key : ByteArray) (rev : Int) :
    Calls Try.prog 34 #[ptr s, .string key, .int .i64 rev] w fun e w' => e = .returned (.tuple #[encKV ((atH (S.kh key) rev).getD noKV), .bool (atH (S.kh key) rev).isSome]) ∧ Below w.heap.size w w' :=
  at_any h key rev (fun _ hb => plast_any (h.below hb) hn key rev)
end Go.Proofs.Ytjdmgmnndfhmgaa
/- A change as Since tells it. -/
namespace Go.Proofs.Ytjdmgmnndfhmgaa
open Go Go.RowKit

theorem chF_mem {n : Nat} {w : World} {s : Nat} {S : Sto} {g : Sg} {o : Value} (h : St n w s S g o) {key : ByteArray} {rev : Int} {c : Option KVd} (hc : (rev, c) ∈ S.kh key) : chF S (rev, key) = some (encC key c) := by
  unfold chF
  rw [find_mem (h.hok key).asc hc]
  rfl
set_option maxRecDepth 100000 in
set_option maxHeartbeats 400000 in
theorem event_any {n : Nat} {w : World} {s : Nat} {S : Sto} {g : Sg} {o : Value} (h : St n w s S g o) (key : ByteArray) (rev : Int) (c : Option KVd) (hc : (rev, c) ∈ S.kh key) :
    Calls Try.prog 45 #[ptr s, .agg #[.int .i64 rev, .string key]] w fun e w' => e = .returned (encEv rev key c) ∧ Below w.heap.size w w' := by
  obtain ⟨V0, hV0⟩ : ∃ V0, V0 = w.alloc (.cells #[.int .i64 rev, .string key] 96) := ⟨_, rfl⟩
  obtain ⟨V, hV⟩ : ∃ V, V = V0.alloc (.cells #[.int .i64 0, .bool false, .string ⟨#[]⟩, .string ⟨#[]⟩, .int .i64 0, .int .i64 0, .int .i64 0, .int .i64 0] 37) := ⟨_, rfl⟩
  have hb0 : Below w.heap.size w V0 := by rw [hV0]; exact (Below.refl _ w).alloc (Nat.le_refl _) _
  have hs0 : V0.heap.size = w.heap.size + 1 := by rw [hV0]; simp
  have hb1 : Below w.heap.size w V := by rw [hV]; exact hb0.alloc (by omega) _
  have hs1 : V.heap.size = w.heap.size + 2 := by rw [hV]; simp [hs0]
  have r0 : V.heap[w.heap.size]? = some (.cells #[.int .i64 rev, .string key] 96 (0, 0)) := by
    rw [hV]; refine (heap_alloc_old V0 _ (by omega)).trans ?_; rw [hV0]; exact row_alloc w _ _
  have r1 : V.heap[w.heap.size + 1]? = some (.cells #[.int .i64 0, .bool false, .string ⟨#[]⟩, .string ⟨#[]⟩, .int .i64 0, .int .i64 0, .int .i64 0, .int .i64 0] 37 (0, 0)) := by
    rw [hV, ← hs0]; exact row_alloc V0 _ _
  have hsl : s < w.heap.size := (Array.getElem?_eq_some_iff.1 h.blk).1
  have HL : Hid (∀ W, Below w.heap.size w W → (Instr.lookup 49 (.map (some g.bc)) (.agg #[.int .i64 rev, .string key]) false).run Try.prog W = .ok (encC key c) W ∧ W.cell? ⟨s, 3, none⟩ = some (.map (some g.bc))) := fun W hb => by
    have := (h.below hb).ch.look law60 Try.underlying49 (zero71 _) (rev, key) false
    rw [chF_mem h hc] at this
    exact ⟨this, (h.below hb).cells.2.2.2.1⟩
  obtain ⟨ti, xi, kv, hni, hkt, hta⟩ : ∃ ti xi kv, encC key c = .iface ti xi ∧ Hid (c.getD noKV = kv) ∧ ∀ W, (Instr.typeAssert (.iface ti xi) 76 80 true).run Try.prog W = .ok (.tuple #[encKV kv, .bool c.isSome]) W := by
    cases c with
    | none => exact ⟨7979, _, noKV, rfl, rfl, fun W => ta_no _ W⟩
    | some kv => exact ⟨80, _, kv, rfl, rfl, fun W => ta_yes _ W⟩
  rw [hni] at HL
  obtain ⟨kk, kvv, kcr, kmo, kve, kle⟩ := kv
  dsimp only [encKV] at hta
  have hbd : Below w.heap.size w V.drew := hb1.drew
  obtain ⟨l1, c1⟩ := HL.out _ hbd
  have hbe : Below w.heap.size w (V.alloc (.cells #[.string ⟨#[]⟩, .string ⟨#[]⟩, .int .i64 0, .int .i64 0, .int .i64 0, .int .i64 0] 80)).drew := (hb1.alloc (show w.heap.size ≤ V.heap.size by omega) _).drew
  obtain ⟨l2, c2⟩ := HL.out _ hbe
  have a0 : V.drew.cell? ⟨w.heap.size, 0, none⟩ = some (.int .i64 rev) := cell_of_row _ _ _ _ _ _ r0
  have a1 : V.drew.cell? ⟨w.heap.size, 1, none⟩ = some (.string key) := cell_of_row _ _ _ _ _ _ r0
  have r2 := (heap_alloc_old V (.cells #[.string ⟨#[]⟩, .string ⟨#[]⟩, .int .i64 0, .int .i64 0, .int .i64 0, .int .i64 0] 80) (show w.heap.size < V.heap.size by omega)).trans r0
  have b0 : (V.alloc (.cells #[.string ⟨#[]⟩, .string ⟨#[]⟩, .int .i64 0, .int .i64 0, .int .i64 0, .int .i64 0] 80)).drew.cell? ⟨w.heap.size, 0, none⟩ = some (.int .i64 rev) := cell_of_row _ _ _ _ _ _ r2
  have b1 : (V.alloc (.cells #[.string ⟨#[]⟩, .string ⟨#[]⟩, .int .i64 0, .int .i64 0, .int .i64 0, .int .i64 0] 80)).drew.cell? ⟨w.heap.size, 1, none⟩ = some (.string key) := cell_of_row _ _ _ _ _ _ r2
  have HR0 := Hid.mk'' r0
  have HR1 := Hid.mk'' r1
  have HB1 := Hid.mk'' hb1
  clear h hc hb0 HL hni r0 r1 r2 hb1 hbd hbe
  go_enter Try.func45, Try.ntmps45
  go_upto_region 1 with fail
  rw [← hV0, ← hV]
  clear hV0 hV hs0
  go_region
  all_goals
    obtain ⟨w2, hw2⟩ : ∃ w2, w2 = (V.alloc (.cells #[.string kk, .string kvv, .int .i64 kcr, .int .i64 kmo, .int .i64 kve, .int .i64 kle] 80)).drew := ⟨_, rfl⟩
    rw [← hw2]
    have q0 : w2.heap[w.heap.size]? = some (.cells #[.int .i64 rev, .string key] 96 (0, 0)) := by rw [hw2]; exact (heap_alloc_old V _ (by omega)).trans HR0.out
    have q1 : w2.heap[w.heap.size + 1]? = some (.cells #[.int .i64 0, .bool false, .string ⟨#[]⟩, .string ⟨#[]⟩, .int .i64 0, .int .i64 0, .int .i64 0, .int .i64 0] 37 (0, 0)) := by rw [hw2]; exact (heap_alloc_old V _ (by omega)).trans HR1.out
    have q2 : w2.heap[w.heap.size + 2]? = some (.cells #[.string kk, .string kvv, .int .i64 kcr, .int .i64 kmo, .int .i64 kve, .int .i64 kle] 80 (0, 0)) := by rw [hw2, ← hs1]; exact row_alloc V _ _
    have HB2 : Hid (Below w.heap.size w w2) := by rw [hw2]; exact (HB1.out.alloc (by omega) _).drew
    have x0 : w2.cell? ⟨w.heap.size, 0, none⟩ = some (.int .i64 rev) := cell_of_row _ _ _ _ _ _ q0
    have x1 : w2.cell? ⟨w.heap.size, 1, none⟩ = some (.string key) := cell_of_row _ _ _ _ _ _ q0
    obtain ⟨⟨k0, k1, k2, k3, k4, k5, k6, k7⟩, f0, f1, f2, f3, f4, f5, f6, f7⟩ := box8 q1
    obtain ⟨⟨y0, y1, y2, y3, y4, y5⟩, -⟩ := box6 q2
    have HQ1 := Hid.mk'' q1
    clear hw2 q0 q1 q2 HR0 HR1 HB1 l1 c1 l2 c2 a0 a1 b0 b1 hta hs1
    cases c with
    | none =>
      simp only [Option.isSome_none]
      go_wp2
      refine bodyPost_ret (results_c1 rfl _ _ (w.heap.size + 1) 37 (evC rev true ⟨key, ByteArray.empty, 0, rev, 0, 0⟩) (0, 0) _ rfl (set8 HQ1.out _ _ _ _ _ _ _ _) Try.underlying37 rfl size85) rfl ?_
      exact ⟨rfl, below8 HB2.out (Nat.le_succ _) _ _ _ _ _ _ _ _⟩
    | some kv =>
      simp only [Option.isSome_some]
      go_wp2
      refine bodyPost_ret (results_c1 rfl _ _ (w.heap.size + 1) 37 (evC rev false ⟨kk, kvv, kcr, kmo, kve, kle⟩) (0, 0) _ rfl (set8 HQ1.out _ _ _ _ _ _ _ _) Try.underlying37 rfl size85) rfl ?_
      exact ⟨by have e := hkt.out; subst e; rfl, below8 HB2.out (Nat.le_succ _) _ _ _ _ _ _ _ _⟩
end Go.Proofs.Ytjdmgmnndfhmgaa
/- The changes from a revision on. -/
namespace Go.Proofs.Ytjdmgmnndfhmgaa
open Go Go.RowKit

/-- What was done to a key at a revision. -/
def chgAt (h : Hs) (r : Int) : Option KVd := ((h.find? fun q => decide (q.1 = r)).map (·.2)).getD none
theorem chgAt_mem {h : Hs} {r : Int} {c : Option KVd} (ha : h.Pairwise (fun p q => p.1 < q.1)) (hc : (r, c) ∈ h) : chgAt h r = c := by
  unfold chgAt
  rw [find_mem ha hc]
  rfl
def evAt (S : Sto) (r : Int) : List Evd := (S.lg r).map fun k => (r, k, chgAt (S.kh k) r)
def evN (S : Sto) (rev : Int) (j : Nat) : List Evd := (List.range j).flatMap fun (i : Nat) => evAt S (rev + i)
theorem evN_succ (S : Sto) (rev : Int) (j : Nat) : evN S rev (j + 1) = evN S rev j ++ evAt S (rev + j) := by
  unfold evN
  rw [List.range_succ, List.flatMap_append]
  simp
theorem evN_le (S : Sto) (rev : Int) {i j : Nat} (h : i ≤ j) : (evN S rev i).length ≤ (evN S rev j).length := by
  induction j with
  | zero => obtain rfl : i = 0 := by omega
            exact Nat.le_refl _
  | succ j ih =>
    rcases Nat.lt_or_ge i (j + 1) with hlt | hge
    · rw [evN_succ, List.length_append]
      have := ih (by omega)
      omega
    · obtain rfl : i = j + 1 := by omega
      exact Nat.le_refl _
/-- The log has each revision that is not compacted. -/
def LgOk (S : Sto) (g : Sg) : Prop := ∀ r : Int, (S.past : Int) < r → r ≤ S.rev → (∃ v, g.lv r = some v) ∧ ∀ k ∈ S.lg r, ∃ c, (r, c) ∈ S.kh k
theorem since_arg (w : World) (s : Nat) (rev : Int) (hr : rev < 1) : Calls Try.prog 39 #[ptr s, .int .i64 rev] w fun e w' => e = .returned (.tuple #[.slice none 0 0, .int .i64 1]) ∧ w' = w := by
  go_enter Try.func39, Try.ntmps39
  go_wp2
  refine bodyPost_ret (results_tmp2 rfl _ _ _) rfl ?_
  exact ⟨rfl, rfl⟩
section
variable {n : Nat} {w : World} {s : Nat} {S : Sto} {g : Sg} {o : Value} (h : St n w s S g o)
include h
theorem since_past (rev : Int) (hr : ¬ rev < 1) (hp : rev ≤ S.past) : Calls Try.prog 39 #[ptr s, .int .i64 rev] w fun e w' => e = .returned (.tuple #[.slice none 0 0, .int .i64 16]) ∧ w' = w := by
  obtain ⟨-, c1, -⟩ := h.cells
  clear h
  go_enter Try.func39, Try.ntmps39
  go_wp2
  refine bodyPost_ret (results_tmp2 rfl _ _ _) rfl ?_
  exact ⟨rfl, rfl⟩
set_option maxRecDepth 100000 in
set_option maxHeartbeats 2000000 in
theorem since_any (rev : Int) (hr : ¬ rev < 1) (hp : ¬ rev ≤ S.past) (hrm : rev ≤ 1000000000) (hS : S.rev ≤ 1000000000) (hl : LgOk S g) (hlen : (evN S rev ((S.rev : Int) + 1 - rev).toNat).length ≤ 1000000) :
    Calls Try.prog 39 #[ptr s, .int .i64 rev] w fun e w' => ∃ p c, e = .returned (.tuple #[.slice p (evN S rev ((S.rev : Int) + 1 - rev).toNat).length c, .int .i64 0]) ∧ ER w w' (.slice p (evN S rev ((S.rev : Int) + 1 - rev).toNat).length c) (evN S rev ((S.rev : Int) + 1 - rev).toNat) := by
  obtain ⟨m, hm⟩ : ∃ m, m = ((S.rev : Int) + 1 - rev).toNat := ⟨_, rfl⟩
  rw [← hm] at hlen ⊢
  have hml : ∀ j : Nat, j < m ↔ rev + j ≤ S.rev := fun j => by omega
  have hmb : (m : Int) ≤ 1000000001 := by omega
  obtain ⟨-, c1, -⟩ := h.cells
  have H := Hid.mk'' h
  have HL := Hid.mk'' hl
  have HML := Hid.mk'' hml
  have HSL : Hid (s < w.heap.size) := (Array.getElem?_eq_some_iff.1 h.blk).1
  clear h hl hml hm
  obtain ⟨t9, hti, hz0, hz1, hz2⟩ := info_parts info85
  go_enter Try.func39, Try.ntmps39
  go_wp2
  go_loopg [6, 7] (m + 1) (fun kx s6 s7 wr => ∃ (j : Nat) (p : Option Addr) (c : Nat), s6 = .slice p (evN S rev j).length c ∧ s7 = .int .i64 (rev + j) ∧ kx + j = m + 1 ∧ j ≤ m ∧ Hid (ER w wr (.slice p (evN S rev j).length c) (evN S rev j)))
  case atStart => exact ⟨0, none, 0, rfl, by simp, rfl, Nat.zero_le _, World.ownsRow_nil _ _ _ _, Below.refl _ _⟩
  case round =>
    obtain ⟨j, p, c, rfl, rfl, hkx, hj, HM⟩ := hrel
    have d0 := (HM.out.2.cell (p := ⟨s, 0, none⟩) HSL.out).trans H.out.cells.1
    by_cases hlt : j < m
    · have hle := (HML.out j).1 hlt
      have hpr : (S.past : Int) < rev + j := by omega
      obtain ⟨⟨v, hv⟩, hks⟩ := HL.out (rev + j) hpr hle
      have hst := H.out.below (HM.out.2.mono (Nat.le_refl _))
      obtain ⟨-, hrow⟩ := H.out.rows _ v hv
      obtain ⟨vp, vc, rfl⟩ := owns_formB0 hrow
      have hlk : (Instr.lookup 50 (.map (some g.bl)) (.int .i64 (rev + j)) false).run Try.prog wr = .ok (.slice vp (S.lg (rev + j)).length vc) wr := by
        have := hst.lg.look law61 Try.underlying50 (zero66 _) (rev + j) false
        rw [hv] at this
        exact this
      obtain ⟨-, -, -, -, d4, -⟩ := hst.cells
      have hsu := evN_succ S rev j
      have hle2 := evN_le S rev (show j + 1 ≤ m by omega)
      rw [hsu, List.length_append] at hle2
      have hal : (evAt S (rev + j)).length = (S.lg (rev + j)).length := by unfold evAt; rw [List.length_map]
      obtain ⟨K, hK⟩ : ∃ K, K = S.lg (rev + j) := ⟨_, rfl⟩
      obtain ⟨A, hA⟩ : ∃ A, A = evAt S (rev + j) := ⟨_, rfl⟩
      obtain ⟨E, hE⟩ : ∃ E, E = evN S rev j := ⟨_, rfl⟩
      obtain ⟨r, hrr⟩ : ∃ r, r = rev + (j : Int) := ⟨_, rfl⟩
      have HAk : Hid (∀ i k, K[i]? = some k → ∃ c, (r, c) ∈ S.kh k ∧ A[i]? = some (r, k, c)) := fun i k hi => by
        rw [hK] at hi
        rw [hrr]
        obtain ⟨c, hc⟩ := hks k (List.mem_of_getElem? hi)
        refine ⟨c, hc, ?_⟩
        rw [hA]
        unfold evAt
        rw [List.getElem?_map, hi, Option.map_some, chgAt_mem (H.out.hok k).asc hc]
      rw [← hK] at hlk hrow hal
      rw [← hA, ← hE] at hsu hle2
      rw [← hA] at hal
      rw [← hE] at HM ⊢
      rw [← hrr] at hlk hle ⊢
      have HROW := Hid.mk'' hrow
      have HSU := Hid.mk'' hsu
      have HRR := Hid.mk'' hrr
      have hrb : 1 ≤ r ∧ r ≤ 2000000000 := by omega
      clear hks hst hrow hv hK hA hE hsu hrr hpr
      have hAm : A.length ≤ 1000000 := by omega
      go_upto_region 10 with fail
      go_loopg [6, 36] (K.length + 1) (fun kx s6 s36 wq => ∃ (i : Nat) (p : Option Addr) (c : Nat), s6 = .slice p (E ++ A.take i).length c ∧ s36 = .int .i64 i ∧ kx + i = K.length + 1 ∧ i ≤ K.length ∧ Hid (ER w wq (.slice p (E ++ A.take i).length c) (E ++ A.take i)))
      case atStart => exact ⟨0, p, c, by simp, rfl, rfl, Nat.zero_le _, by rw [List.take_zero, List.append_nil]; exact HM.out⟩
      case round =>
        obtain ⟨i, p', c', rfl, rfl, hkx2, hi, HM2⟩ := hrel
        by_cases hlt2 : i < K.length
        · obtain ⟨k, hkk⟩ : ∃ k, K[i]? = some k := ⟨_, List.getElem?_eq_getElem hlt2⟩
          obtain ⟨cc, hmem, hAi⟩ := HAk.out i k hkk
          obtain ⟨gg, cg, hvv, hcell⟩ := row_cell HROW.out hkk
          have hgl : gg < w.heap.size := (HROW.out.lt gg (by rw [hvv]; rfl)).2
          have kcell := (HM2.out.2.cell (p := ⟨gg, i, none⟩) hgl).trans hcell
          have hvp : vp = some ⟨gg, 0, none⟩ := by cases hvv; rfl
          subst hvp
          have hcall := event_any (H.out.below HM2.out.2) k r cc hmem
          have htk : A.take (i + 1) = A.take i ++ [(r, k, cc)] := by rw [List.take_add_one, hAi]; rfl
          have hlt3 : (A.take i).length = i := by rw [List.length_take]; omega
          obtain ⟨B, hB⟩ : ∃ B, B = E ++ A.take i := ⟨_, rfl⟩
          have hBl : B.length = E.length + i := by rw [hB, List.length_append, hlt3]
          have hBs : E ++ A.take (i + 1) = B ++ [(r, k, cc)] := by rw [htk, hB, List.append_assoc]
          obtain ⟨x, hx⟩ : ∃ x, x = evKV r k cc := ⟨_, rfl⟩
          obtain ⟨dl, hdl⟩ : ∃ dl, dl = cc.isNone := ⟨_, rfl⟩
          have hel : evL (r, k, cc) = (evC r dl x).toList := by rw [hx, hdl]; rfl
          unfold encEv at hcall
          rw [← hx, ← hdl] at hcall
          rw [← hB] at HM2 ⊢
          obtain ⟨kk, kvv, kcr, kmo, kve, kle⟩ := x
          dsimp only [evC] at hcall hel
          have HX : Hid (∀ w3, Below wr.heap.size wr w3 → Src Try.prog 8 28 (.slice (some ⟨w3.heap.size, 0, none⟩) 1 1) 1 (evL (r, k, cc)) (w3.alloc (.cells #[.int .i64 r, .bool dl, .string kk, .string kvv, .int .i64 kcr, .int .i64 kmo, .int .i64 kve, .int .i64 kle] 37)) ∧ (w3.alloc (.cells #[.int .i64 r, .bool dl, .string kk, .string kvv, .int .i64 kcr, .int .i64 kmo, .int .i64 kve, .int .i64 kle] 37)).ownsRow w.heap.size 37 8 (.slice p' B.length c') B.length (evsC B) ∧ w.heap.size ≤ w3.heap.size ∧ Hid (∀ w', Upd (w3.alloc (.cells #[.int .i64 r, .bool dl, .string kk, .string kvv, .int .i64 kcr, .int .i64 kmo, .int .i64 kve, .int .i64 kle] 37)) w' (fun k => some k = (Value.slice p' B.length c').ownBlock) → Below w.heap.size w w')) := fun w3 hb3 => by
            have hba : Below w3.heap.size w3 (w3.alloc (.cells #[.int .i64 r, .bool dl, .string kk, .string kvv, .int .i64 kcr, .int .i64 kmo, .int .i64 kve, .int .i64 kle] 37)) := (Below.refl _ w3).alloc (Nat.le_refl _) _
            have hwz : w.heap.size ≤ wr.heap.size := HM2.out.2.size
            have hb4 : Below wr.heap.size wr (w3.alloc (.cells #[.int .i64 r, .bool dl, .string kk, .string kvv, .int .i64 kcr, .int .i64 kmo, .int .i64 kve, .int .i64 kle] 37)) := hb3.trans (hba.mono hb3.size)
            have hbw := HM2.out.2.trans (hb4.mono hwz)
            refine ⟨Src.ofSlice _ Try.underlying28 ⟨w3.heap.size, 0, none⟩ 1 1 _ (by rw [hel]; rfl) (fun j u hj => ?_) (fun u hu => ?_), ownsRow_upd HM2.out.1 (Upd.ofBelow (S := fun _ => False) hb4) (fun _ _ h => h), Nat.le_trans hwz hb3.size, fun w' hu => hbw.trans (hu.below hbw.size (fun k hk e => by have := (HM2.out.1.lt k e.symm).1; omega))⟩
            · rw [hel] at hj
              rw [Addr.add_lit, Nat.zero_add, cell_of_row _ _ _ _ _ _ (row_alloc w3 _ 37)]
              simpa using hj
            · rw [hel] at hu
              simp at hu
              rcases hu with rfl | rfl | rfl | rfl | rfl | rfl | rfl | rfl <;> rfl
          have HBS := Hid.mk'' hBs
          have hB3 : B.length ≤ 1000000 := by omega
          clear hBs htk hel hx hdl hB hAi hmem hcell hvv hkk hgl hBl hlt3
          go_wp2_with (first | (go_at_call 45; refine hcall.mono ?_; rintro e w3 ⟨rfl, hb3⟩; obtain ⟨hsrc, hown, hwz, HFIN⟩ := HX.out w3 hb3) | (at_builtin; refine wpList_appS _ rfl (.tmp 40) (.tmp 46) 28 28 rfl w.heap.size 37 t9 _ 8 Try.underlying28 hti hz0 hz1 rfl (by rw [hz2]; decide) _ B.length (evsC B) rfl hown _ rfl 1 (evL (r, k, cc)) hsrc (by omega) (by simp; omega) ?_; intro v' w' q1 q2 q3 q4; obtain ⟨np, nc, hnv⟩ := owns_formB0 q1; subst hnv; clear q3 q4))
          go_roundg (K.length - i)
          case measure => omega
          case rel => exact ⟨i + 1, np, nc, by rw [HBS.out]; simp, by congr 1, by omega, by omega, by rw [HBS.out]; exact ⟨by simpa [evsC] using q1, HFIN.out _ q2⟩⟩
        · obtain rfl : i = K.length := by omega
          have htl : A.take K.length = A := by rw [← hal, List.take_length]
          rw [htl] at HM2 ⊢
          go_wp2
          go_roundg (m - j)
          case measure => omega
          case rel => exact ⟨j + 1, p', c', by rw [HSU.out], by have := HRR.out; congr 1; omega, by omega, by omega, by rw [HSU.out]; exact HM2.out⟩
    · have hle : ¬ rev + j ≤ S.rev := fun e => hlt ((HML.out j).2 e)
      obtain rfl : j = m := by omega
      go_wp2
      refine bodyPost_ret (results_tmp2 rfl _ _ _) rfl ?_
      exact ⟨p, c, rfl, HM.out⟩
end
end Go.Proofs.Ytjdmgmnndfhmgaa
/- The log behind a Done; the text behind all keys. -/
namespace Go.Proofs.Ytjdmgmnndfhmgaa
open Go Go.RowKit

theorem LgOk.done {S : Sto} {W : Wri} {g g' : Sg} {h : Wg} (H : LgOk S g) (hnd : W.keys.Nodup) (hlv : g'.lv = doneLv S W g h) : LgOk (doneS S W) g' := by
  by_cases hk : W.keys = []
  · have e1 : doneS S W = S := if_pos hk
    have e2 : g'.lv = g.lv := hlv.trans (if_pos hk)
    rw [e1]
    intro r h1 h2
    rw [e2]
    exact H r h1 h2
  · have e1 : doneS S W = takeS S W W.keys.length := if_neg hk
    have e2 : g'.lv = setF g.lv ((S.rev : Int) + 1) h.v := hlv.trans (if_neg hk)
    obtain ⟨t1, t2, t3⟩ := takeS_rev S W W.keys.length
    rw [e1]
    intro r h1 h2
    rw [t2] at h1
    rw [t1] at h2
    rw [e2, t3]
    have hin : ∀ k, k ∈ W.keys → (takeS S W W.keys.length).kh k = S.kh k ++ [((S.rev : Int) + 1, chG W k)] := fun k hm => by
      unfold takeS
      rw [List.take_length]
      exact layAll_in _ _ hnd hm
    have hout : ∀ k, k ∉ W.keys → (takeS S W W.keys.length).kh k = S.kh k := fun k hm => by
      unfold takeS
      rw [List.take_length]
      exact layAll_not _ _ hm
    by_cases hr : r = (S.rev : Int) + 1
    · subst hr
      refine ⟨⟨h.v, setF_same _ _ _⟩, fun k hm => ?_⟩
      rw [nextS_lg] at hm
      rw [hin k hm]
      exact ⟨chG W k, List.mem_append_right _ (List.mem_singleton.2 rfl)⟩
    · have hr2 : r ≤ S.rev := by
        have : r ≤ ((S.rev + 1 : Nat) : Int) := h2
        omega
      obtain ⟨⟨v, hv⟩, hks⟩ := H r h1 hr2
      refine ⟨⟨v, by rw [setF_other _ _ hr]; exact hv⟩, fun k hm => ?_⟩
      have hm2 : k ∈ S.lg r := by
        have e : (nextS S W.keys).lg r = S.lg r := by simp [nextS, hr]
        rwa [e] at hm
      obtain ⟨c, hc⟩ := hks k hm2
      by_cases hkm : k ∈ W.keys
      · rw [hin k hkm]; exact ⟨c, List.mem_append_left _ hc⟩
      · rw [hout k hkm]; exact ⟨c, hc⟩
/-- Bytes behind all keys. -/
def topN (n : Nat) : ByteArray := ⟨(List.replicate n 255).toArray⟩
theorem topN_succ (n : Nat) : topN n ++ ⟨#[255]⟩ = topN (n + 1) := by
  apply bytes_ext
  simp [topN, ByteArray.data_append, List.replicate_succ']
theorem topN_size (n : Nat) : (topN n).size = n := by show (List.replicate n (255 : UInt8)).toArray.size = n; simp
end Go.Proofs.Ytjdmgmnndfhmgaa
