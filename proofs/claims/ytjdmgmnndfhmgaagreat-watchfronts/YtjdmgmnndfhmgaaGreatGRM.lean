/- A key as it was at any revision. -/
import Derived.Test.YtjdmgmnndfhmgaaGreatGRL
namespace Go.Proofs.YtjdmgmnndfhmgaaGreat
open Go Go.RowKit

theorem filter_take : ∀ {h : Hs} {r : Int}, h.Pairwise (fun p q => p.1 < q.1) → h.filter (fun p => decide (p.1 ≤ r)) = h.take (tlen (h.map markOf) r)
  | [], r, _ => by simp
  | p :: h, r, hp => by
    obtain ⟨h1, h2⟩ := List.pairwise_cons.1 hp
    have ih := filter_take (r := r) h2
    unfold tlen at ih ⊢
    rw [List.map_cons, List.takeWhile_cons, List.filter_cons]
    by_cases hx : p.1 ≤ r
    · have hm : (markOf p).1 ≤ r := hx
      rw [if_pos (decide_eq_true hx), if_pos (decide_eq_true hm), List.length_cons, List.take_succ_cons, ih]
    · have hm : ¬ (markOf p).1 ≤ r := hx
      rw [if_neg (by simp [hx]), if_neg (by simp [hm]), List.length_nil, List.take_zero, List.filter_eq_nil_iff]
      intro q hq
      have := h1 q hq
      simp; omega
theorem atH_zero {h : Hs} {r : Int} (hp : h.Pairwise (fun p q => p.1 < q.1)) (hc : tlen (h.map markOf) r = 0) : atH h r = none := by
  unfold atH
  rw [filter_take hp, hc]
  rfl
theorem atH_pos {h : Hs} {r : Int} (hp : h.Pairwise (fun p q => p.1 < q.1)) {c : Nat} (hc : tlen (h.map markOf) r = c + 1) : ∃ p, h[c]? = some p ∧ (h.map markOf)[c]? = some (markOf p) ∧ atH h r = p.2 := by
  have hl := tlen_le (h.map markOf) r
  rw [List.length_map] at hl
  obtain ⟨p, hpc⟩ : ∃ p, h[c]? = some p := ⟨_, List.getElem?_eq_getElem (by omega)⟩
  refine ⟨p, hpc, by rw [List.getElem?_map, hpc]; rfl, ?_⟩
  unfold atH
  rw [filter_take hp, hc, List.take_add_one, hpc]
  exact thereH_snoc _ _ _
theorem marks_asc {h : Hs} (hp : h.Pairwise (fun p q => p.1 < q.1)) : MAsc (h.map markOf) := by
  unfold MAsc
  rw [List.pairwise_map]
  exact hp
theorem hlen_le {n : Nat} {w : World} {s : Nat} {S : Sto} {g : Sg} {o : Value} (h : St n w s S g o) (key : ByteArray) : (S.kh key).length ≤ n := by
  by_cases hm : key ∈ S.ks
  · have := (h.bd.ms (key, (S.kh key).map markOf) (List.mem_map.2 ⟨key, hm, rfl⟩)).1
    simpa using this
  · have h0 : S.kh key = [] := Classical.byContradiction fun hn => hm ((h.mem key).2 hn)
    rw [h0]; simp
set_option maxRecDepth 100000 in
set_option maxHeartbeats 1000000 in
theorem ssearch_zero (fv : Value) (w : World) : Calls Tryz.prog 93 #[.int .i64 0, fv] w fun e w' => e = .returned (.int .i64 0) ∧ w' = w := by
  go_enter Tryz.func93, Tryz.ntmps93
  go_wp2
  go_loopw [5, 6] (fun x y W => x = .int .i64 0 ∧ y = .int .i64 0 ∧ W = w) (fun _ _ _ => 0)
  case atStart => exact ⟨rfl, rfl, rfl⟩
  case round =>
    obtain ⟨rfl, rfl, rfl⟩ := hrel
    go_wp2
    go_ret
    exact ⟨rfl, rfl⟩
set_option maxRecDepth 100000 in
set_option maxHeartbeats 1000000 in
theorem last_past {n : Nat} {w : World} {s : Nat} {S : Sto} {g : Sg} {o : Value} (h : St n w s S g o) (hn : n ≤ 1000000) (key : ByteArray) (rev : Int) (hne : rev ≠ S.rev) : Calls Tryz.prog 71 #[ptr s, .string key, .int .i64 rev] w fun e w' => e = .returned (.int .i64 (modOf (atH (S.kh key) rev))) ∧ Below w.heap.size w w' := by
  have hb0 : Below w.heap.size w (w.alloc (.cells #[.int .i64 rev] 3)) := (Below.refl _ w).alloc (Nat.le_refl _) _
  have r0 := row_alloc w #[.int .i64 rev] 3
  generalize hV : w.alloc (.cells #[.int .i64 rev] 3) = V at *
  have hVs : V.heap.size = w.heap.size + 1 := by rw [← hV]; simp
  have hbd : ∀ q, Below w.heap.size w (V.drewN q) := fun q => below_drewQ hb0 q
  have hhl := hlen_le h key
  have HMK : Hid (∀ W, Below w.heap.size w W → Calls Tryz.prog 72 #[ptr g.x, .string key] W fun e w' => ∃ v, e = .returned v ∧ MarksPost W w' v ((S.kh key).map markOf)) := fun W hb => by
    have := marks_xd (h.below hb).ix (h.below hb).bd hn key
    rw [(lookD_datS h key).1] at this
    exact this
  have HC : Hid (∀ W, Below w.heap.size w W → W.cell? ⟨s, 0, none⟩ = some (.int .i64 S.rev) ∧ W.cell? ⟨s, 2, none⟩ = some (ptr g.x)) := fun W hb => ⟨(h.below hb).cells.1, (h.below hb).cells.2.2.1⟩
  have hasc := (h.hok key).asc
  have HKV : Hid (∀ r v, (r, some v) ∈ S.kh key → v.mod = r) := fun r v hm => ((h.hok key).kv r v hm).2.1
  obtain ⟨c0, c2⟩ := HC.out V hb0
  have k0 : V.cell? ⟨w.heap.size, 0, none⟩ = some (.int .i64 rev) := cell_of_row _ _ _ _ _ _ r0
  have hneb : (rev == (S.rev : Int)) = false := by rw [beq_eq_false_iff_ne]; exact hne
  generalize S.kh key = hs at *
  have HA := Hid.mk'' hasc
  have HBD := Hid.mk'' hbd
  have HR0 := Hid.mk'' r0
  clear h hasc hne hbd r0
  go_enter Tryz.func71, Tryz.ntmps71
  go_wp2
  go_quiet (fail)
  have hmk := HMK.out _ (HBD.out nq)
  have c2q := (HC.out _ (HBD.out nq)).2
  go_upto_region 4 with (go_at_call 72; refine hmk.mono ?_; rintro e w3 ⟨v, rfl, hP⟩; obtain ⟨⟨p, c, rfl, -⟩, hM, hb3⟩ := hP)
  obtain ⟨w4, hw4⟩ : ∃ w4, w4 = w3.alloc (.cells #[.slice p hs.length c] 141) := ⟨_, rfl⟩
  rw [← hw4]
  obtain ⟨a, ha⟩ : ∃ a, a = w3.heap.size := ⟨_, rfl⟩
  rw [← ha]
  obtain ⟨q, hq⟩ : ∃ q, q = w.heap.size := ⟨_, rfl⟩
  rw [← hq]
  have hB3 : Below w.heap.size w w3 := (HBD.out nq).trans (hb3.mono (HBD.out nq).size)
  have b34 : Below w3.heap.size w3 w4 := by rw [hw4]; exact (Below.refl _ _).alloc (Nat.le_refl _) _
  have hB4 : Below w.heap.size w w4 := hB3.trans (b34.mono hB3.size)
  have ka : w4.cell? ⟨a, 0, none⟩ = some (.slice p hs.length c) := by rw [hw4, ha]; exact cell_of_row _ _ _ _ _ _ (row_alloc w3 _ _)
  have kq : w4.cell? ⟨q, 0, none⟩ = some (.int .i64 rev) := by
    have h1 : (V.drewN nq).heap[w.heap.size]? = V.heap[w.heap.size]? := (below_drewQ (Below.refl V.heap.size V) nq).block w.heap.size (by omega)
    have h2 := (hb3.block w.heap.size (by have := (below_drewQ (Below.refl V.heap.size V) nq).size; omega)).trans (h1.trans HR0.out)
    have h3 := (b34.block w.heap.size (Array.getElem?_eq_some_iff.1 h2).1).trans h2
    rw [hq]
    exact cell_of_row _ _ _ _ _ _ h3
  have HB4 := Hid.mk'' hB4
  have HQL : Hid (q = w.heap.size) := hq
  have hlen2 : (hs.map markOf).length = hs.length := List.length_map _
  have HMS : Hid (Mks w4 (.slice p (hs.map markOf).length c) (hs.map markOf)) := ownsRow_upd hM (Upd.ofBelow (S := fun _ => False) b34) (fun _ _ h => h)
  clear hw4 ha hq hM hb3 hB3 b34 hB4 hmk c2q HMK HC c0 c2 k0 hneb HR0 hV hb0 hVs
  by_cases hnil : hs = []
  · subst hnil
    have hsr := ssearch_zero (.func (.func 94) #[] #[.pointer (some ⟨a, 0, none⟩), .pointer (some ⟨q, 0, none⟩)]) w4
    go_wp2_with (go_at_call 93; refine hsr.mono ?_; rintro e w' ⟨rfl, hw'⟩; obtain rfl := hw'.symm)
    go_ret
    exact ⟨rfl, HB4.out⟩
  · obtain ⟨gk, ck, hv, -, -⟩ := owns_form1 HMS.out (by rw [hlen2]; exact List.length_pos_iff.2 hnil)
    have hpk : p = some ⟨gk, 0, none⟩ := by cases hv; rfl
    subst hpk
    have hat : MksAt w4 gk (hs.map markOf) := fun j m hj => HMS.out.cell hj
    have hsr := ssearch_any a q gk c (hs.map markOf) rev w4 (by rw [hlen2]; exact ka) kq hat (marks_asc HA.out) (by omega)
    rw [hlen2] at hsr
    have HAT := Hid.mk'' hat
    clear hat hv
    cases hc : tlen (hs.map markOf) rev with
    | zero =>
      have HE := Hid.mk'' (atH_zero HA.out hc)
      rw [hc] at hsr
      clear hc
      go_wp2_with (go_at_call 93; refine hsr.mono ?_; rintro e w5 ⟨rfl, hb5⟩)
      go_ret
      exact ⟨by rw [HE.out]; rfl, HB4.out.trans (hb5.mono HB4.out.size)⟩
    | succ cn =>
      obtain ⟨pe, hpe, hme, hate⟩ := atH_pos HA.out hc
      have hcl := tlen_le (hs.map markOf) rev
      rw [hc] at hsr hcl
      rw [hlen2] at hcl
      have HPE : Hid (pe ∈ hs) := List.mem_of_getElem? hpe
      have HE := Hid.mk'' hate
      have HME := Hid.mk'' hme
      have hx : IntKind.i64.wrap (((cn + 1 : Nat) : Int) - 1) = (cn : Int) := by rw [IntKind.wrap_i64]; omega
      clear hc hpe hme hate
      go_upto_region 5 with (go_at_call 93; refine hsr.mono ?_; rintro e w5 ⟨rfl, hb5⟩)
      obtain ⟨x1, x2⟩ := (HAT.out.below hb5) cn (markOf pe) HME.out
      have ka5 := (hb5.cell (p := ⟨a, 0, none⟩) (World.block_lt_of_cell? _ _ ka)).trans ka
      have HB5 : Hid (Below w.heap.size w w5) := HB4.out.trans (hb5.mono HB4.out.size)
      obtain ⟨pr, po⟩ := pe
      dsimp only [markOf] at x1 x2
      clear hsr hb5 ka kq HMS HAT HME
      cases po with
      | none =>
        dsimp only [Option.isNone_none] at x2
        go_wp2
        go_ret
        exact ⟨by rw [HE.out]; rfl, HB5.out⟩
      | some v =>
        dsimp only [Option.isNone_some] at x2
        go_wp2
        go_ret
        refine ⟨?_, HB5.out⟩
        rw [HE.out]
        show Ending.returned (.int .i64 pr) = .returned (.int .i64 v.mod)
        rw [HKV.out pr v HPE.out]
theorem plast_any {n : Nat} {w : World} {s : Nat} {S : Sto} {g : Sg} {o : Value} (h : St n w s S g o) (hn : n ≤ 1000000) (key : ByteArray) (rev : Int) : Calls Tryz.prog 71 #[ptr s, .string key, .int .i64 rev] w fun e w' => e = .returned (.int .i64 (modOf (atH (S.kh key) rev))) ∧ Below w.heap.size w w' := by
  by_cases e : rev = S.rev
  · subst e
    have ha : atH (S.kh key) S.rev = thereH (S.kh key) := atH_all (fun p hp => ((h.hok key).pos p hp).2)
    rw [ha]
    exact last_now h key
  · exact last_past h hn key rev e
theorem at_rev {n : Nat} {w : World} {s : Nat} {S : Sto} {g : Sg} {o : Value} (h : St n w s S g o) (hn : n ≤ 1000000) (key : ByteArray) (rev : Int) :
    Calls Tryz.prog 61 #[ptr s, .string key, .int .i64 rev] w fun e w' => e = .returned (.tuple #[encKV ((atH (S.kh key) rev).getD noKV), .bool (atH (S.kh key) rev).isSome]) ∧ Below w.heap.size w w' :=
  at_any h key rev (fun _ hb => plast_any (h.below hb) hn key rev)
end Go.Proofs.YtjdmgmnndfhmgaaGreat
/- What a store tells of keys, by a look at each. -/
namespace Go.Proofs.YtjdmgmnndfhmgaaGreat
open Go Go.RowKit

def kvC (k : KVd) : List Value := [.string k.key, .string k.value, .int .i64 k.create, .int .i64 k.mod, .int .i64 k.version, .int .i64 k.lease]
def kvsC (l : List KVd) : List Value := l.flatMap kvC
theorem kvsC_len (l : List KVd) : (kvsC l).length = l.length * 6 := by
  unfold kvsC
  rw [List.length_flatMap]
  induction l with
  | nil => rfl
  | cons a l ih => simp only [List.map_cons, List.sum_cons, List.length_cons, ih]; simp [kvC]; omega
def toldL (limit : Int) (l : List KVd) : List KVd := if limit < 1 then l else l.take limit.toNat
theorem toldL_more {limit : Int} {l : List KVd} {x : KVd} (h : limit < 1 ∨ (l.length : Int) + 1 ≤ limit) : toldL limit (l ++ [x]) = toldL limit l ++ [x] := by
  unfold toldL
  by_cases h1 : limit < 1
  · rw [if_pos h1, if_pos h1]
  · rw [if_neg h1, if_neg h1, List.take_of_length_le (by simp; omega), List.take_of_length_le (by omega)]
theorem toldL_full {limit : Int} {l : List KVd} {x : KVd} (h : ¬ limit < 1) (h2 : ¬ (l.length : Int) + 1 ≤ limit) : toldL limit (l ++ [x]) = toldL limit l := by
  unfold toldL
  rw [if_neg h, if_neg h, List.take_append_of_le_length (by omega)]
theorem toldL_len (limit : Int) (l : List KVd) : (toldL limit l).length ≤ l.length := by
  unfold toldL
  split
  · omega
  · rw [List.length_take]; omega
theorem info56 : (Tryz.prog.info? 61).map (fun i => (i.zero, i.size, i.bytes)) = some (some (.agg #[.string ⟨#[]⟩, .string ⟨#[]⟩, .int .i64 0, .int .i64 0, .int .i64 0, .int .i64 0]), 6, 64) := by kernel_rfl
/-- A row of keys that was told. -/
def KR (w wr : World) (v : Value) (l : List KVd) : Prop := wr.ownsRow w.heap.size 61 6 v l.length (kvsC l) ∧ Below w.heap.size w wr
theorem fm_take {f : ByteArray → Option KVd} {ks : List ByteArray} {i : Nat} {k : ByteArray} (hk : ks[i]? = some k) : (ks.take (i + 1)).filterMap f = (ks.take i).filterMap f ++ (f k).toList := by
  rw [List.take_add_one, hk, List.filterMap_append]
  cases h : f k <;> simp [h]
end Go.Proofs.YtjdmgmnndfhmgaaGreat
/- Range of a store. -/
namespace Go.Proofs.YtjdmgmnndfhmgaaGreat
open Go Go.RowKit

/-- What Range answers. -/
def rangeE (S : Sto) (rev : Int) : Int := if rev < 0 then 1 else if (S.rev : Int) < rev then 17 else if 0 < rev ∧ rev < S.past then 16 else 0
def revOf (S : Sto) (rev : Int) : Int := if rev = 0 then S.rev else rev
def rangeV (S : Sto) (lo hi : ByteArray) (rev : Int) : List KVd := (rangeK S lo hi).filterMap fun k => atH (S.kh k) (revOf S rev)
end Go.Proofs.YtjdmgmnndfhmgaaGreat
/- A change as Since tells it. -/
namespace Go.Proofs.YtjdmgmnndfhmgaaGreat
open Go Go.RowKit

/-- What was done to a key at a revision, as it is told. -/
def evKV (rev : Int) (key : ByteArray) : Option KVd → KVd
  | some kv => kv
  | none => ⟨key, ByteArray.empty, 0, rev, 0, 0⟩
def evC (rev : Int) (del : Bool) (k : KVd) : Array Value := #[.int .i64 rev, .bool del, .string k.key, .string k.value, .int .i64 k.create, .int .i64 k.mod, .int .i64 k.version, .int .i64 k.lease]
def encEv (rev : Int) (key : ByteArray) (c : Option KVd) : Value := .agg (evC rev c.isNone (evKV rev key c))
theorem chF_mem {n : Nat} {w : World} {s : Nat} {S : Sto} {g : Sg} {o : Value} (h : St n w s S g o) {key : ByteArray} {rev : Int} {c : Option KVd} (hc : (rev, c) ∈ S.kh key) : chF S (rev, key) = some (encC key c) := by
  unfold chF
  rw [find_mem (h.hok key).asc hc]
  rfl
theorem results_c1 {P : Program} {fn : Func} {u : Tmp} {ty : TypeId} (h : fn.results = #[.cell u ty]) (tmps : Array Value) (w : World) (g : Nat) (t : TypeId) (cs : Array Value) (fr : Nat × Nat) (d : TypeDesc)
    (hp : tmps.getD u undef = .pointer (some ⟨g, 0, none⟩)) (hg : w.heap[g]? = some (.cells cs t fr))
    (hu : P.underlying ty = some d) (hd : (match d with | .struct _ | .array _ _ => true | _ => false) = true) (hi : (P.info? ty).map (·.size) = some cs.size) :
    (results fn tmps).run P w = .ok (.agg cs) w := by
  have hp' : tmps[u]?.getD undef = .pointer (some ⟨g, 0, none⟩) := by simpa using hp
  simp [results, h, hp', asAddr, run_loadVar_row w g t ty cs fr d hg hu hd hi]
theorem size85 : (Tryz.prog.info? 63).map (·.size) = some 8 := by kernel_rfl
section
variable {W : World} {gb t : Nat} {a0 a1 a2 a3 a4 a5 a6 a7 : Value} (h : W.heap[gb]? = some (.cells #[a0, a1, a2, a3, a4, a5, a6, a7] t (0, 0)))
include h
theorem box8 : (W.cell? ⟨gb, 0, none⟩ = some a0 ∧ W.cell? ⟨gb, 1, none⟩ = some a1 ∧ W.cell? ⟨gb, 2, none⟩ = some a2 ∧ W.cell? ⟨gb, 3, none⟩ = some a3 ∧ W.cell? ⟨gb, 4, none⟩ = some a4 ∧ W.cell? ⟨gb, 5, none⟩ = some a5 ∧ W.cell? ⟨gb, 6, none⟩ = some a6 ∧ W.cell? ⟨gb, 7, none⟩ = some a7) ∧
    W.frozen? ⟨gb, 0, none⟩ = false ∧ W.frozen? ⟨gb, 1, none⟩ = false ∧ W.frozen? ⟨gb, 2, none⟩ = false ∧ W.frozen? ⟨gb, 3, none⟩ = false ∧ W.frozen? ⟨gb, 4, none⟩ = false ∧ W.frozen? ⟨gb, 5, none⟩ = false ∧ W.frozen? ⟨gb, 6, none⟩ = false ∧ W.frozen? ⟨gb, 7, none⟩ = false :=
  ⟨⟨cell_of_row _ _ _ _ _ _ h, cell_of_row _ _ _ _ _ _ h, cell_of_row _ _ _ _ _ _ h, cell_of_row _ _ _ _ _ _ h, cell_of_row _ _ _ _ _ _ h, cell_of_row _ _ _ _ _ _ h, cell_of_row _ _ _ _ _ _ h, cell_of_row _ _ _ _ _ _ h⟩, frozen_of_row _ _ _ _ _ h, frozen_of_row _ _ _ _ _ h, frozen_of_row _ _ _ _ _ h, frozen_of_row _ _ _ _ _ h, frozen_of_row _ _ _ _ _ h, frozen_of_row _ _ _ _ _ h, frozen_of_row _ _ _ _ _ h, frozen_of_row _ _ _ _ _ h⟩
theorem set8 (v0 v1 v2 v3 v4 v5 v6 v7 : Value) : ((((((((W.setCell ⟨gb, 0, none⟩ v0).setCell ⟨gb, 1, none⟩ v1).setCell ⟨gb, 2, none⟩ v2).setCell ⟨gb, 3, none⟩ v3).setCell ⟨gb, 4, none⟩ v4).setCell ⟨gb, 5, none⟩ v5).setCell ⟨gb, 6, none⟩ v6).setCell ⟨gb, 7, none⟩ v7).heap[gb]? = some (.cells #[v0, v1, v2, v3, v4, v5, v6, v7] t (0, 0)) := by
  have e0 : (W.setCell ⟨gb, 0, none⟩ v0).heap[gb]? = some (.cells #[v0, a1, a2, a3, a4, a5, a6, a7] t (0, 0)) := heap_setCell_row h v0
  have e1 : ((W.setCell ⟨gb, 0, none⟩ v0).setCell ⟨gb, 1, none⟩ v1).heap[gb]? = some (.cells #[v0, v1, a2, a3, a4, a5, a6, a7] t (0, 0)) := heap_setCell_row e0 v1
  have e2 : (((W.setCell ⟨gb, 0, none⟩ v0).setCell ⟨gb, 1, none⟩ v1).setCell ⟨gb, 2, none⟩ v2).heap[gb]? = some (.cells #[v0, v1, v2, a3, a4, a5, a6, a7] t (0, 0)) := heap_setCell_row e1 v2
  have e3 : ((((W.setCell ⟨gb, 0, none⟩ v0).setCell ⟨gb, 1, none⟩ v1).setCell ⟨gb, 2, none⟩ v2).setCell ⟨gb, 3, none⟩ v3).heap[gb]? = some (.cells #[v0, v1, v2, v3, a4, a5, a6, a7] t (0, 0)) := heap_setCell_row e2 v3
  have e4 : (((((W.setCell ⟨gb, 0, none⟩ v0).setCell ⟨gb, 1, none⟩ v1).setCell ⟨gb, 2, none⟩ v2).setCell ⟨gb, 3, none⟩ v3).setCell ⟨gb, 4, none⟩ v4).heap[gb]? = some (.cells #[v0, v1, v2, v3, v4, a5, a6, a7] t (0, 0)) := heap_setCell_row e3 v4
  have e5 : ((((((W.setCell ⟨gb, 0, none⟩ v0).setCell ⟨gb, 1, none⟩ v1).setCell ⟨gb, 2, none⟩ v2).setCell ⟨gb, 3, none⟩ v3).setCell ⟨gb, 4, none⟩ v4).setCell ⟨gb, 5, none⟩ v5).heap[gb]? = some (.cells #[v0, v1, v2, v3, v4, v5, a6, a7] t (0, 0)) := heap_setCell_row e4 v5
  have e6 : (((((((W.setCell ⟨gb, 0, none⟩ v0).setCell ⟨gb, 1, none⟩ v1).setCell ⟨gb, 2, none⟩ v2).setCell ⟨gb, 3, none⟩ v3).setCell ⟨gb, 4, none⟩ v4).setCell ⟨gb, 5, none⟩ v5).setCell ⟨gb, 6, none⟩ v6).heap[gb]? = some (.cells #[v0, v1, v2, v3, v4, v5, v6, a7] t (0, 0)) := heap_setCell_row e5 v6
  have e7 : ((((((((W.setCell ⟨gb, 0, none⟩ v0).setCell ⟨gb, 1, none⟩ v1).setCell ⟨gb, 2, none⟩ v2).setCell ⟨gb, 3, none⟩ v3).setCell ⟨gb, 4, none⟩ v4).setCell ⟨gb, 5, none⟩ v5).setCell ⟨gb, 6, none⟩ v6).setCell ⟨gb, 7, none⟩ v7).heap[gb]? = some (.cells #[v0, v1, v2, v3, v4, v5, v6, v7] t (0, 0)) := heap_setCell_row e6 v7
  exact e7
end
theorem below8 {B : Nat} {w W : World} (h : Below B w W) {gb : Nat} (hg : B ≤ gb) (v0 v1 v2 v3 v4 v5 v6 v7 : Value) : Below B w ((((((((W.setCell ⟨gb, 0, none⟩ v0).setCell ⟨gb, 1, none⟩ v1).setCell ⟨gb, 2, none⟩ v2).setCell ⟨gb, 3, none⟩ v3).setCell ⟨gb, 4, none⟩ v4).setCell ⟨gb, 5, none⟩ v5).setCell ⟨gb, 6, none⟩ v6).setCell ⟨gb, 7, none⟩ v7) :=
  (((((((h.setCell hg _).setCell hg _).setCell hg _).setCell hg _).setCell hg _).setCell hg _).setCell hg _).setCell hg _
set_option maxRecDepth 100000 in
set_option maxHeartbeats 400000 in
theorem event_any {n : Nat} {w : World} {s : Nat} {S : Sto} {g : Sg} {o : Value} (h : St n w s S g o) (key : ByteArray) (rev : Int) (c : Option KVd) (hc : (rev, c) ∈ S.kh key) :
    Calls Tryz.prog 58 #[ptr s, .agg #[.int .i64 rev, .string key]] w fun e w' => e = .returned (encEv rev key c) ∧ Below w.heap.size w w' := by
  obtain ⟨V0, hV0⟩ : ∃ V0, V0 = w.alloc (.cells #[.int .i64 rev, .string key] 122) := ⟨_, rfl⟩
  obtain ⟨V, hV⟩ : ∃ V, V = V0.alloc (.cells #[.int .i64 0, .bool false, .string ⟨#[]⟩, .string ⟨#[]⟩, .int .i64 0, .int .i64 0, .int .i64 0, .int .i64 0] 63) := ⟨_, rfl⟩
  have hb0 : Below w.heap.size w V0 := by rw [hV0]; exact (Below.refl _ w).alloc (Nat.le_refl _) _
  have hs0 : V0.heap.size = w.heap.size + 1 := by rw [hV0]; simp
  have hb1 : Below w.heap.size w V := by rw [hV]; exact hb0.alloc (by omega) _
  have hs1 : V.heap.size = w.heap.size + 2 := by rw [hV]; simp [hs0]
  have r0 : V.heap[w.heap.size]? = some (.cells #[.int .i64 rev, .string key] 122 (0, 0)) := by
    rw [hV]; (first | refine (heap_alloc_old V0 _ (by omega)).trans ?_ | refine (heap_alloc_old V0 _ _ (by omega)).trans ?_); rw [hV0]; exact row_alloc w _ _
  have r1 : V.heap[w.heap.size + 1]? = some (.cells #[.int .i64 0, .bool false, .string ⟨#[]⟩, .string ⟨#[]⟩, .int .i64 0, .int .i64 0, .int .i64 0, .int .i64 0] 63 (0, 0)) := by
    rw [hV, ← hs0]; exact row_alloc V0 _ _
  have hsl : s < w.heap.size := (Array.getElem?_eq_some_iff.1 h.blk).1
  have HL : Hid (∀ W, Below w.heap.size w W → (Instr.lookup 70 (.map (some g.bc)) (.agg #[.int .i64 rev, .string key]) false).run Tryz.prog W = .ok (encC key c) W ∧ W.cell? ⟨s, 3, none⟩ = some (.map (some g.bc))) := fun W hb => by
    have := (h.below hb).ch.look law60 Tryz.underlying70 (zero71 _) (rev, key) false
    rw [chF_mem h hc] at this
    exact ⟨this, (h.below hb).cells.2.2.2.1⟩
  obtain ⟨ti, xi, kv, hni, hkt, hta⟩ : ∃ ti xi kv, encC key c = .iface ti xi ∧ Hid (c.getD noKV = kv) ∧ ∀ W, (Instr.typeAssert (.iface ti xi) 85 96 true).run Tryz.prog W = .ok (.tuple #[encKV kv, .bool c.isSome]) W := by
    cases c with
    | none => exact ⟨88, _, noKV, rfl, rfl, fun W => ta_no _ W⟩
    | some kv => exact ⟨96, _, kv, rfl, rfl, fun W => ta_yes _ W⟩
  rw [hni] at HL
  obtain ⟨kk, kvv, kcr, kmo, kve, kle⟩ := kv
  dsimp only [encKV] at hta
  have hbd : Below w.heap.size w V.drew := hb1.drew
  obtain ⟨l1, c1⟩ := HL.out _ hbd
  have hbe : Below w.heap.size w (V.alloc (.cells #[.string ⟨#[]⟩, .string ⟨#[]⟩, .int .i64 0, .int .i64 0, .int .i64 0, .int .i64 0] 96)).drew := (hb1.alloc (show w.heap.size ≤ V.heap.size by omega) _).drew
  obtain ⟨l2, c2⟩ := HL.out _ hbe
  have a0 : V.drew.cell? ⟨w.heap.size, 0, none⟩ = some (.int .i64 rev) := cell_of_row _ _ _ _ _ _ r0
  have a1 : V.drew.cell? ⟨w.heap.size, 1, none⟩ = some (.string key) := cell_of_row _ _ _ _ _ _ r0
  have r2 := (show (V.alloc (.cells #[.string ⟨#[]⟩, .string ⟨#[]⟩, .int .i64 0, .int .i64 0, .int .i64 0, .int .i64 0] 96)).heap[w.heap.size]? = V.heap[w.heap.size]? from by first | exact heap_alloc_old _ _ (by omega) | exact heap_alloc_old _ _ _ (by omega)).trans r0
  have b0 : (V.alloc (.cells #[.string ⟨#[]⟩, .string ⟨#[]⟩, .int .i64 0, .int .i64 0, .int .i64 0, .int .i64 0] 96)).drew.cell? ⟨w.heap.size, 0, none⟩ = some (.int .i64 rev) := cell_of_row _ _ _ _ _ _ r2
  have b1 : (V.alloc (.cells #[.string ⟨#[]⟩, .string ⟨#[]⟩, .int .i64 0, .int .i64 0, .int .i64 0, .int .i64 0] 96)).drew.cell? ⟨w.heap.size, 1, none⟩ = some (.string key) := cell_of_row _ _ _ _ _ _ r2
  have HR0 := Hid.mk'' r0
  have HR1 := Hid.mk'' r1
  have HB1 := Hid.mk'' hb1
  clear h hc hb0 HL hni r0 r1 r2 hb1 hbd hbe
  go_enter Tryz.func58, Tryz.ntmps58
  go_upto_region 1 with fail
  rw [← hV0, ← hV]
  clear hV0 hV hs0
  go_region
  all_goals
    obtain ⟨w2, hw2⟩ : ∃ w2, w2 = (V.alloc (.cells #[.string kk, .string kvv, .int .i64 kcr, .int .i64 kmo, .int .i64 kve, .int .i64 kle] 96)).drew := ⟨_, rfl⟩
    rw [← hw2]
    have q0 : w2.heap[w.heap.size]? = some (.cells #[.int .i64 rev, .string key] 122 (0, 0)) := by rw [hw2]; first | exact (heap_alloc_old V _ (by omega)).trans HR0.out | exact (heap_alloc_old V _ _ (by omega)).trans HR0.out
    have q1 : w2.heap[w.heap.size + 1]? = some (.cells #[.int .i64 0, .bool false, .string ⟨#[]⟩, .string ⟨#[]⟩, .int .i64 0, .int .i64 0, .int .i64 0, .int .i64 0] 63 (0, 0)) := by rw [hw2]; first | exact (heap_alloc_old V _ (by omega)).trans HR1.out | exact (heap_alloc_old V _ _ (by omega)).trans HR1.out
    have q2 : w2.heap[w.heap.size + 2]? = some (.cells #[.string kk, .string kvv, .int .i64 kcr, .int .i64 kmo, .int .i64 kve, .int .i64 kle] 96 (0, 0)) := by rw [hw2, ← hs1]; exact row_alloc V _ _
    have HB2 : Hid (Below w.heap.size w w2) := by rw [hw2]; exact (HB1.out.alloc (by omega) _).drew
    have x0 : w2.cell? ⟨w.heap.size, 0, none⟩ = some (.int .i64 rev) := cell_of_row _ _ _ _ _ _ q0
    have x1 : w2.cell? ⟨w.heap.size, 1, none⟩ = some (.string key) := cell_of_row _ _ _ _ _ _ q0
    obtain ⟨⟨k0, k1, k2, k3, k4, k5, k6, k7⟩, f0, f1, f2, f3, f4, f5, f6, f7⟩ := box8 q1
    obtain ⟨⟨y0, y1, y2, y3, y4, y5⟩, -⟩ := box6 q2
    have HQ1 := Hid.mk'' q1
    clear hw2 q0 q1 q2 HR0 HR1 HB1 l1 c1 l2 c2 a0 a1 b0 b1 hta hs1
    cases c with
    | none =>
      simp only [Option.isSome_none]
      go_wp2
      refine bodyPost_ret (results_c1 rfl _ _ (w.heap.size + 1) 63 (evC rev true ⟨key, ByteArray.empty, 0, rev, 0, 0⟩) (0, 0) _ rfl (set8 HQ1.out _ _ _ _ _ _ _ _) Tryz.underlying63 rfl size85) rfl ?_
      exact ⟨rfl, below8 HB2.out (Nat.le_succ _) _ _ _ _ _ _ _ _⟩
    | some kv =>
      simp only [Option.isSome_some]
      go_wp2
      refine bodyPost_ret (results_c1 rfl _ _ (w.heap.size + 1) 63 (evC rev false ⟨kk, kvv, kcr, kmo, kve, kle⟩) (0, 0) _ rfl (set8 HQ1.out _ _ _ _ _ _ _ _) Tryz.underlying63 rfl size85) rfl ?_
      exact ⟨by have e := hkt.out; subst e; rfl, below8 HB2.out (Nat.le_succ _) _ _ _ _ _ _ _ _⟩
end Go.Proofs.YtjdmgmnndfhmgaaGreat
