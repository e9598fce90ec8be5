/- The document's index in memory; what blocks are whose. · The document's Marks and Keys. · The document's Put: its memory. -/
import Derived.Test.YtilginghgigiiaaU2
import Derived.Test.YtilginghgigiiaaJ7
namespace Go.Proofs.Ytilginghgigiiaa
open Go Go.RowKit

/-- The kinds of blocks that the program's index has. -/
def Kind (w : World) (k : Nat) (ts : List Nat) : Prop := ∃ c t f, w.heap[k]? = some (.cells c t f) ∧ t ∈ ts
abbrev own7 : List Nat := [59, 82, 66, 57, 35]
theorem Kind.of_row {w : World} {B e s n : Nat} {v : Value} {xs : List Value} (h : w.ownsRow B e s v n xs) {k : Nat} (hk : v.ownBlock = some k) {ts : List Nat} (he : e ∈ ts) : Kind w k ts := by
  obtain ⟨_, c, f, hh⟩ := ownBlock_ge h hk
  exact ⟨c, e, f, hh, he⟩
theorem Nod.kind {w : World} {b : Nat} {iv kv : Value} {its : List Itm} {ks : List Nat} (h : Nod w b iv kv its ks) : ∀ k ∈ nf b iv kv, Kind w k own7 := fun k hk => by
  simp only [nf, List.mem_cons, List.mem_append, Option.mem_toList] at hk
  rcases hk with rfl | hk | hk
  · exact ⟨_, _, _, h.blk, by simp⟩
  · exact Kind.of_row h.items hk (by simp)
  · exact Kind.of_row h.kids hk (by simp)
theorem Tre.kind {w : World} : ∀ {h b : Nat} {its L : List Itm} {F : List Nat}, Tre w h b its L F → ∀ k ∈ F, Kind w k own7
  | 0, _, _, _, _, ⟨iv, kv, hN, _, hF⟩, k, hk => hN.kind k (by rw [← hF]; exact hk)
  | h + 1, _, _, _, _, ⟨iv, kv, ks, hN, hl, hks, hL, hF⟩, k, hk => by
    rw [hF, List.mem_append] at hk
    rcases hk with hk | hk
    · exact hN.kind k hk
    · obtain ⟨a, ha, hk⟩ := List.mem_flatMap.1 hk
      exact (hks a ha).1.kind k hk
theorem Xd.kind {w : World} {x : Nat} {D : Dat} {F : List Nat} (h : Xd w x D F) : ∀ k ∈ F, Kind w k own7 := fun k hk => by
  obtain ⟨R, h1, _⟩ := h
  obtain ⟨rp, Ft, hx, hR, hF⟩ := h1.ex
  rw [hF] at hk
  rcases List.mem_cons.1 hk with rfl | hk
  · exact ⟨_, _, _, hx, by simp⟩
  · rcases List.mem_append.1 hk with hk | hk
    · rcases hR with ⟨_, _, rfl⟩ | ⟨h, b, its, _, ht, _⟩
      · cases hk
      · exact ht.kind k hk
    · obtain ⟨r, hr, hk⟩ := List.mem_flatMap.1 hk
      simp only [ownM, Option.mem_toList] at hk
      exact Kind.of_row (h1.mks r hr).1 hk (by simp)
theorem Kind.not {w : World} {k : Nat} {ts us : List Nat} (h : Kind w k ts) (h' : Kind w k us) (hd : ∀ t ∈ ts, t ∉ us) : False := by
  obtain ⟨c, t, f, h1, h2⟩ := h
  obtain ⟨c', t', f', h3, h4⟩ := h'
  rw [h1] at h3
  cases h3
  exact hd t h2 h4

/-- Marks of the document's index. -/
abbrev RMk (w : World) (B : Nat) (v : Value) (ms : List Mk) : Prop := w.ownsRow B 37 2 v ms.length (mksC ms)
/-- The document's index. -/
structure Rx (w : World) (B y : Nat) (R : List IM) (rv : Value) : Prop where
  blk : w.heap[y]? = some (.cells #[rv] 29 (0, 0))
  row : w.ownsRow B 69 2 rv R.length (itsC (R.map IM.it))
  mks : ∀ r ∈ R, RMk w B r.it.mv r.ms
  yB : B ≤ y
abbrev ref3 : List Nat := [29, 69, 37]
theorem Rx.upd {w w' : World} {S : Nat → Prop} (hu : Upd w w' S) {B y : Nat} {R : List IM} {rv : Value} (h : Rx w B y R rv) (hS : ∀ k, Kind w k ref3 → ¬ S k) : Rx w' B y R rv :=
  ⟨(hu.block y (Array.getElem?_eq_some_iff.1 h.blk).1 (hS y ⟨_, _, _, h.blk, by simp⟩)).trans h.blk, ownsRow_upd h.row hu (fun k hk => hS k (Kind.of_row h.row hk (by simp))), fun r hr => ownsRow_upd (h.mks r hr) hu (fun k hk => hS k (Kind.of_row (h.mks r hr) hk (by simp))), h.yB⟩
theorem Rx.below {w w' : World} (hb : Below w.heap.size w w') {B y : Nat} {R : List IM} {rv : Value} (h : Rx w B y R rv) : Rx w' B y R rv := h.upd (S := fun _ => False) (Upd.ofBelow hb) (fun _ _ h => h)
/-- The program's calls do not reach it. -/
theorem Rx.step {w w' : World} {x : Nat} {D : Dat} {F F' : List Nat} (hx : Xd w x D F) (hs : Step w w' F F') {B y : Nat} {R : List IM} {rv : Value} (h : Rx w B y R rv) : Rx w' B y R rv :=
  h.upd hs.upd (fun k hk hm => (hx.kind k hm).not hk (by simp))
theorem Rx.c0 {w : World} {B y : Nat} {R : List IM} {rv : Value} (h : Rx w B y R rv) : w.cell? ⟨y, 0, none⟩ = some rv := by simp [World.cell?, h.blk]
theorem Rx.free {w : World} {B y : Nat} {R : List IM} {rv : Value} (h : Rx w B y R rv) : w.frozen? ⟨y, 0, none⟩ = false := by simp [World.frozen?, h.blk]
theorem Rx.lt {w : World} {B y : Nat} {R : List IM} {rv : Value} (h : Rx w B y R rv) : y < w.heap.size := (Array.getElem?_eq_some_iff.1 h.blk).1
/-- A row of it. -/
theorem Rx.at_ {w : World} {B y : Nat} {R : List IM} {rv : Value} (h : Rx w B y R rv) {j : Nat} {r : IM} (hj : R[j]? = some r) : ∃ g c, rv = .slice (some ⟨g, 0, none⟩) R.length c ∧ B ≤ g ∧ g < w.heap.size ∧ w.cell? ⟨g, j * 2, none⟩ = some (.string r.it.key) ∧ w.cell? ⟨g, j * 2 + 1, none⟩ = some r.it.mv ∧ (∀ i, w.frozen? ⟨g, i, none⟩ = false) := by
  obtain ⟨g, c, hv, hc, hg⟩ := owns_formB h.row (by have := (List.getElem?_eq_some_iff.1 hj).1; omega)
  obtain ⟨h1, h2⟩ := itsC_get (R.map IM.it) j r.it (by simp [hj])
  have a1 := h.row.cells (g := g) (by rw [hv]; rfl) _ _ h1
  have a2 := h.row.cells (g := g) (by rw [hv]; rfl) _ _ h2
  simp only [Addr.add_lit, Nat.zero_add] at a1 a2
  refine ⟨g, c, hv, hg, World.block_lt_of_cell? _ _ a1, a1, a2, fun i => ?_⟩
  rcases h.row.2 with ⟨e, _⟩ | ⟨g', cap, cur, e, _, hh, _⟩
  · rw [hv] at e; cases e
  · rw [hv] at e; cases e; simp [World.frozen?, hh]
theorem Rx.form {w : World} {B y : Nat} {R : List IM} {rv : Value} (h : Rx w B y R rv) : ∃ p c, rv = .slice p R.length c := owns_formB0 h.row

set_option maxRecDepth 100000 in
set_option maxHeartbeats 2000000 in
/-- at. -/
theorem rat_any {w : World} {B y : Nat} {R : List IM} {rv : Value} (h : Rx w B y R rv) (hn : R.length ≤ 1000000) (key : ByteArray) : Calls Try.prog 27 #[ptr y, .string key] w fun e w' => e = .returned (.int .i64 (plc (R.map IM.it) key)) ∧ w' = w := by
  have hp := plc_le (R.map IM.it) key
  rw [List.length_map] at hp
  obtain ⟨p, c, hv⟩ := h.form
  have c0 := h.c0
  have HA : Hid (∀ j r, R[j]? = some r → ∃ g, p = some ⟨g, 0, none⟩ ∧ w.cell? ⟨g, j * 2, none⟩ = some (.string r.it.key)) := fun j r hj => by
    obtain ⟨g, c', hv', _, _, h1, _⟩ := h.at_ hj
    rw [hv] at hv'
    cases hv'
    exact ⟨g, rfl, h1⟩
  have HL : Hid (∀ j r, R[j]? = some r → j < plc (R.map IM.it) key → Op.bytesLess r.it.key.toList key.toList = true) := fun j r hj hlt => by
    rw [bl_data]; exact plc_lt hlt (by simp [hj])
  have HN : Hid (∀ r, R[plc (R.map IM.it) key]? = some r → Op.bytesLess r.it.key.toList key.toList = false) := fun r hj => by
    rw [bl_data]; exact plc_not (its := R.map IM.it) (by rw [List.getElem?_map, hj]; rfl)
  clear h
  subst hv
  generalize plc (R.map IM.it) key = k at *
  go_enter Try.func27, Try.ntmps27
  go_wp2
  go_loop [5] (fun a => ∃ j : Nat, j ≤ k ∧ a = .int .i64 j) (fun a => k - (intOf a).toNat)
  case atStart => exact ⟨0, Nat.zero_le _, rfl⟩
  case round =>
    obtain ⟨j, hj, rfl⟩ := hrel
    by_cases hlt : j < k
    · obtain ⟨r, hr⟩ : ∃ r, R[j]? = some r := ⟨_, List.getElem?_eq_getElem (by omega)⟩
      obtain ⟨g, rfl, hc⟩ := HA.out j r hr
      have hb := HL.out j r hr hlt
      have hjl : j < R.length := by omega
      clear hr
      go_wp2
      go_round
      case rel => exact ⟨j + 1, by omega, by congr 1⟩
      case measure => simp [intOf]; omega
    · obtain rfl : j = k := by omega
      by_cases hl : j < R.length
      · obtain ⟨r, hr⟩ : ∃ r, R[j]? = some r := ⟨_, List.getElem?_eq_getElem (by omega)⟩
        obtain ⟨g, rfl, hc⟩ := HA.out j r hr
        have hb := HN.out r hr
        clear hr
        go_wp2
        go_ret
        exact ⟨rfl, rfl⟩
      · go_wp2
        go_ret
        exact ⟨rfl, rfl⟩
/-- What stands at a key's place. -/
theorem look_plc {R : List IM} (ha : Asc (keysR R)) (key : ByteArray) : (∃ r, R[plc (R.map IM.it) key]? = some r ∧ r.it.key = key ∧ lookD (dat R) key = some r.ms) ∨ ((∀ r, R[plc (R.map IM.it) key]? = some r → r.it.key ≠ key) ∧ lookD (dat R) key = none) := by
  by_cases hk : key ∈ keysR R
  · left
    have ha' : Asc (keysI (R.map IM.it)) := by rw [keysI_map]; exact ha
    obtain ⟨s, hs, hsk⟩ := at_plc ha' (by rw [keysI_map]; exact hk)
    rw [List.getElem?_map] at hs
    obtain ⟨r, hr, rfl⟩ := Option.map_eq_some_iff.1 hs
    refine ⟨r, hr, hsk, ?_⟩
    obtain ⟨hp, _⟩ := getElem_part hr
    have hd : dat R = dat (R.take (plc (R.map IM.it) key)) ++ (key, r.ms) :: dat (R.drop (plc (R.map IM.it) key + 1)) := by
      conv => lhs; rw [hp]
      simp [dat, hsk]
    rw [hd]
    refine lookD_at ?_
    rw [← hd, dat_keys]
    exact ha
  · right
    refine ⟨fun r hr e => hk (List.mem_map.2 ⟨r, List.mem_of_getElem? hr, e⟩), lookD_none (by rw [dat_keys]; exact hk)⟩
end Go.Proofs.Ytilginghgigiiaa
namespace Go.Proofs.Ytilginghgigiiaa
open Go Go.RowKit

theorem info37 : (Try.prog.info? 37).map (fun i => (i.zero, i.size, i.bytes)) = some (some (.agg #[.int .i64 0, .bool false]), 2, 16) := by kernel_rfl
theorem info69 : (Try.prog.info? 69).map (fun i => (i.zero, i.size, i.bytes)) = some (some (.agg #[.string ⟨#[]⟩, .slice none 0 0]), 2, 40) := by kernel_rfl
theorem owns_empty {w : World} {g t : Nat} {B : Nat} {s : Nat} (h : w.heap[g]? = some (.cells #[] t (0, 0))) (hB : B ≤ g) : w.ownsRow B t s (.slice (some ⟨g, 0, none⟩) 0 0) 0 [] :=
  ⟨by simp, .inr ⟨g, 0, #[], rfl, hB, h, Nat.le_refl _, by unfold maxLen; omega, by simp, by simp⟩⟩
theorem ne_hi {hi : ByteArray} (h : ¬ hi = ByteArray.empty) : hi.toList.isEmpty = false := by
  cases hq : hi.toList.isEmpty
  · rfl
  · exfalso
    apply h
    apply bytes_ext
    rw [← toList_data]
    simpa using hq
/-- What the document's Marks answers. -/
def RMPost (w w' : World) (v : Value) (ms : List Mk) : Prop := (∃ p c, v = .slice p ms.length c) ∧ RMk w' w.heap.size v ms ∧ Below w.heap.size w w'
set_option maxRecDepth 100000 in
set_option maxHeartbeats 2000000 in
theorem rmarks_any {w : World} {B y : Nat} {R : List IM} {rv : Value} (h : Rx w B y R rv) (ha : Asc (keysR R)) (hn : R.length ≤ 1000000) (hms : ∀ r ∈ R, r.ms.length ≤ 1000000) (key : ByteArray) :
    Calls Try.prog 15 #[ptr y, .string key] w fun e w' => ∃ v, e = .returned v ∧ RMPost w w' v ((lookD (dat R) key).getD []) := by
  have hat := rat_any h hn key
  have c0 := h.c0
  obtain ⟨p, c, hv⟩ := h.form
  obtain ⟨ti, hti, hz0, hz1, hz2⟩ := info_parts info37
  rcases look_plc ha key with ⟨r, hr, hrk, hl⟩ | ⟨hno, hl⟩
  · rw [hl]
    obtain ⟨g, c', hv', hg, hgl, h1, h2, _⟩ := h.at_ hr
    rw [hv] at hv'
    cases hv'
    have hpl := (List.getElem?_eq_some_iff.1 hr).1
    have hM := h.mks r (List.mem_of_getElem? hr)
    have hml := hms r (List.mem_of_getElem? hr)
    have hb0 : Below w.heap.size w (w.alloc (.cells #[] 37)) := (Below.refl _ w).alloc (Nat.le_refl _) _
    have HS : Hid (Src Try.prog 2 41 r.it.mv r.ms.length (mksC r.ms) (w.alloc (.cells #[] 37))) := Src_owns Try.underlying41 (ownsRow_upd hM (Upd.ofBelow (S := fun _ => False) hb0) (fun _ _ h => h)) (mksC_mem _)
    have HO : Hid ((w.alloc (.cells #[] 37)).ownsRow w.heap.size 37 2 (.slice (some ⟨w.heap.size, 0, none⟩) 0 0) 0 []) := owns_empty (row_alloc w _ _) (Nat.le_refl _)
    obtain ⟨mp, mc, hmv⟩ := owns_formB0 hM
    have hge : w.heap.size ≤ (w.alloc (.cells #[] 37)).heap.size := by simp
    have hbeq := beq_data r.it.key key
    rw [hrk] at h1
    have ca1 : ∀ o, (w.alloc o).cell? ⟨y, 0, none⟩ = some rv := fun o => (h.below ((Below.refl _ w).alloc (Nat.le_refl _) o)).c0
    have ca2 : ∀ o, (w.alloc o).cell? ⟨g, plc (R.map IM.it) key * 2 + 1, none⟩ = some r.it.mv := fun o => (((Below.refl _ w).alloc (Nat.le_refl _) o).cell (p := ⟨g, plc (R.map IM.it) key * 2 + 1, none⟩) hgl).trans h2
    rw [hv] at ca1 c0
    rw [hmv] at ca2 h2 HS
    generalize plc (R.map IM.it) key = k at *
    clear h hM hr hl hbeq hrk
    subst hv
    go_enter Try.func15, Try.ntmps15
    go_wp2_with (first | (go_at_call 27; refine hat.mono ?_; rintro e w1 ⟨rfl, rfl⟩) | (at_builtin; refine wpList_appS _ rfl (.tmp 28) (.tmp 36) 41 41 rfl w1.heap.size 37 ti _ 2 Try.underlying41 hti hz0 hz1 rfl (by rw [hz2]; decide) _ 0 [] rfl HO.out _ rfl r.ms.length (mksC r.ms) HS.out (by omega) hge ?_; intro v' w' p1 p2 p3 p4; obtain ⟨np, nc, hnv⟩ := owns_formB0 p1; subst hnv))
    go_ret
    refine ⟨_, rfl, ⟨np, nc, by simp⟩, ?_, ?_⟩
    · simpa using p1
    · exact hb0.trans (p2.below (by simp) (fun k' hk' e => by have e' : some k' = some w1.heap.size := e; have := Option.some.inj e'; omega))
  · rw [hl]
    have hb := Below.refl w.heap.size w
    rw [hv] at c0
    have HEND : Hid (∃ v, Ending.returned (.slice none 0 0) = .returned v ∧ RMPost w w v ((none : Option (List Mk)).getD [])) := ⟨_, rfl, ⟨none, 0, rfl⟩, World.ownsRow_nil _ _ _ _, hb⟩
    by_cases hpl : plc (R.map IM.it) key < R.length
    · obtain ⟨r, hr⟩ : ∃ r, R[plc (R.map IM.it) key]? = some r := ⟨_, List.getElem?_eq_getElem hpl⟩
      obtain ⟨g, c', hv', hg, hgl, h1, h2, _⟩ := h.at_ hr
      rw [hv] at hv'
      cases hv'
      have hne := hno r hr
      have hbeq : (r.it.key.toList == key.toList) = false := by rw [beq_data]; exact decide_eq_false hne
      generalize plc (R.map IM.it) key = k at *
      clear h hr hl hno
      subst hv
      go_enter Try.func15, Try.ntmps15
      go_wp2_with (go_at_call 27; refine hat.mono ?_; rintro e w1 ⟨rfl, rfl⟩)
      go_ret
      exact HEND.out
    · generalize plc (R.map IM.it) key = k at *
      clear h hl hno
      subst hv
      go_enter Try.func15, Try.ntmps15
      go_wp2_with (go_at_call 27; refine hat.mono ?_; rintro e w1 ⟨rfl, rfl⟩)
      go_ret
      exact HEND.out
set_option maxRecDepth 100000 in
set_option maxHeartbeats 2000000 in
theorem rkeys_any {w : World} {B y : Nat} {R : List IM} {rv : Value} (h : Rx w B y R rv) (hn : R.length ≤ 1000000) (lo hi : ByteArray) :
    Calls Try.prog 17 #[ptr y, .string lo, .string hi] w fun e w' => ∃ v, e = .returned v ∧ KeysPost w w' v (keysD lo hi (dat R)) := by
  obtain ⟨ti, hti, hz0, hz1, hz2⟩ := info_parts info9
  obtain ⟨p, c, hv⟩ := h.form
  have HA : Hid (∀ W, Below w.heap.size w W → W.cell? ⟨y, 0, none⟩ = some rv ∧ ∀ j r, R[j]? = some r → ∃ g, p = some ⟨g, 0, none⟩ ∧ W.cell? ⟨g, j * 2, none⟩ = some (.string r.it.key)) := fun W hb => ⟨(h.below hb).c0, fun j r hj => by
    obtain ⟨g, c', hv', _, _, h1, _⟩ := (h.below hb).at_ hj
    rw [hv] at hv'
    cases hv'
    exact ⟨g, rfl, h1⟩⟩
  clear h
  subst hv
  go_enter Try.func17, Try.ntmps17
  go_wp2
  go_loopg [7, 8] (R.length + 1) (fun kx s7 s8 wr => ∃ (j : Nat) (q : Option Addr) (qc : Nat) (ks : List ByteArray), s7 = .slice q ks.length qc ∧ s8 = .int .i64 j ∧ kx + j = R.length + 1 ∧ j ≤ R.length ∧ ks.length ≤ j ∧ Hid (ks = keysD lo hi (dat (R.take j))) ∧ Hid (wr.ownsRow w.heap.size 9 1 (.slice q ks.length qc) ks.length (strs ks)) ∧ Hid (Below w.heap.size w wr))
  case atStart => exact ⟨0, none, 0, [], rfl, rfl, rfl, Nat.zero_le _, Nat.le_refl _, by show _ = _; simp [dat, keysD], World.ownsRow_nil _ _ _ _, Below.refl _ _⟩
  case round =>
    obtain ⟨j, q, qc, ks, rfl, rfl, hkx, hj, hkl, HKS, HRO, HB⟩ := hrel
    obtain ⟨c0, hat⟩ := HA.out _ HB.out
    by_cases hlt : j < R.length
    · obtain ⟨r, hr⟩ : ∃ r, R[j]? = some r := ⟨_, List.getElem?_eq_getElem hlt⟩
      obtain ⟨g, rfl, hc⟩ := hat j r hr
      have hnext : keysD lo hi (dat (R.take (j + 1))) = keysD lo hi (dat (R.take j)) ++ if (!klt r.it.key lo && inHi hi r.it.key) = true then [r.it.key] else [] := by
        rw [List.take_add_one, hr]
        simp only [dat, keysD, Option.toList_some, List.map_append, List.filter_append, List.map_cons, List.map_nil, List.filter_cons, List.filter_nil]
      have b1 := bl_data r.it.key lo
      have b2 := bl_data r.it.key hi
      generalize r.it.key = key at *
      clear hr
      have hq4 : (klt key lo = true ∧ (!klt key lo && inHi hi key) = false) ∨ (klt key lo = false ∧ hi = ByteArray.empty ∧ (!klt key lo && inHi hi key) = true) ∨ (klt key lo = false ∧ ¬ hi = ByteArray.empty ∧ klt key hi = true ∧ (!klt key lo && inHi hi key) = true) ∨ (klt key lo = false ∧ ¬ hi = ByteArray.empty ∧ klt key hi = false ∧ (!klt key lo && inHi hi key) = false) := by
        unfold inHi
        cases h1 : klt key lo
        · by_cases h2 : hi = ByteArray.empty
          · exact .inr (.inl ⟨rfl, h2, by simp [h2]⟩)
          · cases h3 : klt key hi
            · exact .inr (.inr (.inr ⟨rfl, h2, rfl, by simp [h2]⟩))
            · exact .inr (.inr (.inl ⟨rfl, h2, rfl, by simp⟩))
        · exact .inl ⟨rfl, by simp⟩
      have HYES : Hid ((!klt key lo && inHi hi key) = true → ks ++ [key] = keysD lo hi (dat (R.take (j + 1)))) := fun h => by rw [hnext, if_pos h, HKS.out]
      have HNO : Hid ((!klt key lo && inHi hi key) = false → ks = keysD lo hi (dat (R.take (j + 1)))) := fun h => by rw [hnext, if_neg (by rw [h]; decide), List.append_nil]; exact HKS.out
      have hba : Below wr.heap.size wr (wr.alloc (.cells #[.string key] 9)) := (Below.refl _ wr).alloc (Nat.le_refl _) _
      have HB2 := HB.out.size
      have HOW : Hid ((wr.alloc (.cells #[.string key] 9)).ownsRow w.heap.size 9 1 (.slice q ks.length qc) ks.length (strs ks)) := ownsRow_upd HRO.out (Upd.ofBelow (S := fun _ => False) hba) (fun _ _ h => h)
      have HSR : Hid (Src Try.prog 1 43 (.slice (some ⟨wr.heap.size, 0, none⟩) 1 1) 1 (strs [key]) (wr.alloc (.cells #[.string key] 9))) := Src.ofSlice _ Try.underlying43 ⟨wr.heap.size, 0, none⟩ 1 1 _ rfl (fun j u hj => by
        rw [Addr.add_lit, Nat.zero_add, cell_of_row _ _ _ _ _ _ (row_alloc wr #[.string key] 9)]; simpa using hj) (fun u hu => by simp at hu; subst hu; rfl)
      have HFB : Hid (∀ w', Upd (wr.alloc (.cells #[.string key] 9)) w' (fun k => some k = (Value.slice q ks.length qc).ownBlock) → Below w.heap.size w w') := fun w' hu => (HB.out.trans (hba.mono HB2)).trans (hu.below (by simp; omega) (fun k hk e => by have := (ownBlock_ge HRO.out e.symm).1; omega))
      clear hnext HKS hat HA
      rcases hq4 with ⟨q1, q5⟩ | ⟨q1, rfl, q5⟩ | ⟨q1, q2, q3, q5⟩ | ⟨q1, q2, q3, q5⟩
      · rw [q1] at b1
        have HN := Hid.mk'' (HNO.out q5)
        clear q5 HYES HNO
        go_wp2
        go_roundg (R.length - j)
        case measure => omega
        case rel => exact ⟨j + 1, q, qc, ks, rfl, by congr 1, by omega, by omega, by omega, HN, HRO, HB⟩
      · rw [q1] at b1
        have HN := Hid.mk'' (HYES.out q5)
        have q6 : ByteArray.empty.toList.isEmpty = true := by rw [toList_data]; rfl
        clear q5 HYES HNO
        go_wp2_with (at_builtin; refine wpList_appS _ rfl (.tmp 44) (.tmp 53) 43 43 rfl w.heap.size 9 ti _ 1 Try.underlying43 hti hz0 hz1 rfl (by rw [hz2]; decide) _ ks.length (strs ks) rfl HOW.out _ rfl 1 (strs [key]) HSR.out (by omega) (by simp; omega) ?_; intro v' w' p1 p2 p3 p4; obtain ⟨np, nc, hnv⟩ := owns_formB0 p1; subst hnv)
        go_roundg (R.length - j)
        case measure => omega
        case rel => exact ⟨j + 1, np, nc, ks ++ [key], by simp, by congr 1, by omega, by omega, by simp; omega, HN, Hid.mk'' (by simpa [strs] using p1), HFB.out _ p2⟩
      · rw [q1] at b1
        rw [q3] at b2
        have HN := Hid.mk'' (HYES.out q5)
        have q6 := ne_hi q2
        clear q5 HYES HNO
        go_wp2_with (at_builtin; refine wpList_appS _ rfl (.tmp 44) (.tmp 53) 43 43 rfl w.heap.size 9 ti _ 1 Try.underlying43 hti hz0 hz1 rfl (by rw [hz2]; decide) _ ks.length (strs ks) rfl HOW.out _ rfl 1 (strs [key]) HSR.out (by omega) (by simp; omega) ?_; intro v' w' p1 p2 p3 p4; obtain ⟨np, nc, hnv⟩ := owns_formB0 p1; subst hnv)
        go_roundg (R.length - j)
        case measure => omega
        case rel => exact ⟨j + 1, np, nc, ks ++ [key], by simp, by congr 1, by omega, by omega, by simp; omega, HN, Hid.mk'' (by simpa [strs] using p1), HFB.out _ p2⟩
      · rw [q1] at b1
        rw [q3] at b2
        have HN := Hid.mk'' (HNO.out q5)
        have q6 := ne_hi q2
        clear q5 HYES HNO
        go_wp2
        go_roundg (R.length - j)
        case measure => omega
        case rel => exact ⟨j + 1, q, qc, ks, rfl, by congr 1, by omega, by omega, by omega, HN, HRO, HB⟩
    · obtain rfl : j = R.length := by omega
      have hk2 := HKS.out
      rw [List.take_length] at hk2
      have HE : Hid (∃ v, Ending.returned (.slice q ks.length qc) = .returned v ∧ KeysPost w wr v (keysD lo hi (dat R))) := by
        refine ⟨_, rfl, ?_, HB.out⟩
        rw [← hk2]
        exact HRO.out
      clear hat HKS hk2 HRO HA
      go_wp2
      go_ret
      exact HE.out
end Go.Proofs.Ytilginghgigiiaa
namespace Go.Proofs.Ytilginghgigiiaa
open Go Go.RowKit

theorem kind_ne {w : World} {a b : Nat} {c c' : Array Value} {t t' : Nat} {f f' : Nat × Nat} (h : w.heap[a]? = some (.cells c t f)) (h' : w.heap[b]? = some (.cells c' t' f')) (ht : t ≠ t') : a ≠ b := fun e => by
  subst e
  rw [h] at h'
  cases h'
  exact ht rfl
/-- The marks of one row are set. -/
theorem Rx.setL {W V : World} {B y g c k : Nat} {R : List IM} {r : IM} {v' : Value} {ms' : List Mk} (h : Rx W B y R (.slice (some ⟨g, 0, none⟩) R.length c)) (hr : R[k]? = some r) (hb : Below W.heap.size W V) (hM : RMk V B v' ms') :
    Rx (V.setCell ⟨g, k * 2 + 1, none⟩ v') B y (R.set k ⟨⟨r.it.key, v'⟩, ms'⟩) (.slice (some ⟨g, 0, none⟩) R.length c) := by
  have hV := h.below hb
  obtain ⟨cap, cur, hg0, hcc, hB, hcm, hcs, ht⟩ : ∃ cap cur, V.heap[g]? = some (.cells cur 69 (0, 0)) ∧ cap = c ∧ B ≤ g ∧ (R.length ≤ c ∧ c ≤ maxLen) ∧ cur.size = c * 2 ∧ cur.toList.take (R.length * 2) = itsC (R.map IM.it) := by
    rcases hV.row.2 with ⟨e, _⟩ | ⟨g', cap, cur, e, hB, hg, h1, h2, h3, h4⟩
    · cases e
    · cases e; exact ⟨_, cur, hg, rfl, hB, ⟨h1, h2⟩, h3, h4⟩
  subst hcc
  have hyg : y ≠ g := kind_ne hV.blk hg0 (by decide)
  have hgne : ∀ {v : Value} {ms : List Mk}, RMk V B v ms → ∀ j, v.ownBlock = some j → j ≠ g := fun hm j hj => by
    obtain ⟨_, cc, ff, hh⟩ := ownBlock_ge hm hj
    exact kind_ne hh hg0 (by decide)
  refine ⟨(heap_setCell_other _ _ _ _ _ hyg).trans hV.blk, ?_, fun s hs => ?_, h.yB⟩
  · refine ⟨by rw [itsC_len]; simp, .inr ⟨g, cap, _, by simp, hB, heap_setCell_row hg0 v', by simpa using hcm.1, hcm.2, by simp [hcs], ?_⟩⟩
    rw [List.length_set, Array.set!_eq_setIfInBounds, Array.toList_setIfInBounds, List.take_set, ht, List.map_set]
    exact itsC_set (R.map IM.it) k r.it v' (by simp [hr])
  · rcases List.mem_or_eq_of_mem_set hs with hs | rfl
    · exact ownsRow_agree (hV.mks s hs) (fun j hj => heap_setCell_other _ _ _ _ _ (hgne (hV.mks s hs) j hj))
    · exact ownsRow_agree hM (fun j hj => heap_setCell_other _ _ _ _ _ (hgne hM j hj))
/-- The rows are set anew. -/
theorem Rx.setR {W V : World} {B y : Nat} {R R' : List IM} {rv rv' : Value} (h : Rx W B y R rv) (hb : Below W.heap.size W V) (ho : V.ownsRow B 69 2 rv' R'.length (itsC (R'.map IM.it))) (hm : ∀ r ∈ R', RMk V B r.it.mv r.ms) : Rx (V.setCell ⟨y, 0, none⟩ rv') B y R' rv' := by
  have hV := h.below hb
  have hne : ∀ j, Kind V j [69, 37] → j ≠ y := fun j ⟨c, t, f, h1, h2⟩ => kind_ne h1 hV.blk (by rintro rfl; simp at h2)
  refine ⟨?_, ownsRow_agree ho (fun j hj => heap_setCell_other _ _ _ _ _ (hne j (Kind.of_row ho hj (by simp)))), fun r hr => ownsRow_agree (hm r hr) (fun j hj => heap_setCell_other _ _ _ _ _ (hne j (Kind.of_row (hm r hr) hj (by simp)))), h.yB⟩
  have := heap_setCell_row (j := 0) hV.blk rv'
  simpa using this
theorem itsC_isSl {R : List IM} {w : World} {B : Nat} (h : ∀ r ∈ R, RMk w B r.it.mv r.ms) : ∀ u ∈ itsC (R.map IM.it), u.oneCell' = true := itsC_mem (fun it hit => by
  obtain ⟨r, hr, rfl⟩ := List.mem_map.1 hit
  obtain ⟨p, c, hv⟩ := owns_formB0 (h r hr)
  exact ⟨p, _, c, hv⟩)
/-- A front, and what is behind it, as sources of an append. -/
theorem Rx.front {w : World} {B y : Nat} {R : List IM} {g c : Nat} (h : Rx w B y R (.slice (some ⟨g, 0, none⟩) R.length c)) {k : Nat} (hk : k ≤ R.length) : Src Try.prog 2 27 (.slice (some ⟨g, 0, none⟩) k c) k (itsC ((R.take k).map IM.it)) w := by
  refine Src.ofSlice w Try.underlying27 ⟨g, 0, none⟩ k c _ (by rw [itsC_len]; simp; omega) (fun j u hj => ?_) (itsC_isSl (w := w) (B := B) fun r hr => h.mks r (List.mem_of_mem_take hr))
  rw [List.map_take, ← itsC_take, List.getElem?_take] at hj
  split at hj
  · exact h.row.cells (g := g) rfl j u hj
  · cases hj
theorem Rx.back {w : World} {B y : Nat} {R : List IM} {g c : Nat} (h : Rx w B y R (.slice (some ⟨g, 0, none⟩) R.length c)) (k c' : Nat) : Src Try.prog 2 27 (.slice (some ⟨g, k * 2, none⟩) (R.length - k) c') (R.length - k) (itsC ((R.drop k).map IM.it)) w := by
  refine Src.ofSlice w Try.underlying27 ⟨g, k * 2, none⟩ (R.length - k) c' _ (by rw [itsC_len]; simp) (fun j u hj => ?_) (itsC_isSl (w := w) (B := B) fun r hr => h.mks r (List.mem_of_mem_drop hr))
  rw [List.map_drop, ← itsC_drop, List.getElem?_drop] at hj
  have := h.row.cells (g := g) rfl _ u hj
  simpa only [Addr.add_lit, Nat.zero_add] using this
/-- A new row, without marks yet, in its place. -/
def insN (R : List IM) (k : Nat) (key : ByteArray) : List IM := R.take k ++ ⟨⟨key, .slice none 0 0⟩, []⟩ :: R.drop k
theorem insN_at {R : List IM} {k : Nat} {key : ByteArray} (hk : k ≤ R.length) : (insN R k key)[k]? = some ⟨⟨key, .slice none 0 0⟩, []⟩ := by
  unfold insN
  rw [List.getElem?_append_right (by rw [List.length_take]; omega), List.length_take, Nat.min_eq_left hk]
  simp
theorem insN_set {R : List IM} {k : Nat} {key : ByteArray} (hk : k ≤ R.length) (r : IM) : (insN R k key).set k r = R.take k ++ r :: R.drop k := by
  unfold insN
  rw [List.set_append_right _ _ (by rw [List.length_take]; omega), List.length_take, Nat.min_eq_left hk]
  simp
theorem take_plc (R : List IM) (key : ByteArray) : R.take (plc (R.map IM.it) key) = R.takeWhile (fun s => klt s.it.key key) ∧ R.drop (plc (R.map IM.it) key) = R.dropWhile (fun s => klt s.it.key key) := by
  have e : plc (R.map IM.it) key = (R.takeWhile (fun s => klt s.it.key key)).length := by
    unfold plc
    rw [(map_takeWhile' IM.it (fun x : Itm => klt x.key key) R).1, List.length_map]
  rw [e]
  exact take_while_len (fun s : IM => klt s.it.key key) R
/-- What Put leaves of the rows. -/
theorem rput_new {R : List IM} {key : ByteArray} {v : Value} {rev : Int} {del : Bool} (ha : Asc (keysR R)) (hl : lookD (dat R) key = none) (he : putE (dat R) key rev del = 0) : dat (R.take (plc (R.map IM.it) key) ++ ⟨⟨key, v⟩, [(rev, del)]⟩ :: R.drop (plc (R.map IM.it) key)) = putD (dat R) key rev del := by
  obtain ⟨h1, h2⟩ := take_plc R key
  unfold putD
  rw [if_pos he, hl, h1, h2]
  have hno : key ∉ keysR R := by rw [← dat_keys]; exact lookD_not (by rw [dat_keys]; exact ha) hl
  exact insR_dat R ⟨⟨key, v⟩, [(rev, del)]⟩ hno
theorem rput_old {R : List IM} {key : ByteArray} {v : Value} {rev : Int} {del : Bool} (ha : Asc (keysR R)) {r : IM} (hr : R[plc (R.map IM.it) key]? = some r) (hk : r.it.key = key) (hl : lookD (dat R) key = some r.ms) (he : putE (dat R) key rev del = 0) : dat (R.set (plc (R.map IM.it) key) ⟨⟨key, v⟩, r.ms ++ [(rev, del)]⟩) = putD (dat R) key rev del := by
  obtain ⟨hp1, hp2⟩ := getElem_part hr
  unfold putD
  rw [if_pos he, hl, hp2]
  have hd : dat R = dat (R.take (plc (R.map IM.it) key)) ++ (key, r.ms) :: dat (R.drop (plc (R.map IM.it) key + 1)) := by
    conv => lhs; rw [hp1]
    simp [dat, hk]
  rw [hd, setD_at (by rw [← hd, dat_keys]; exact ha)]
  simp [dat]
end Go.Proofs.Ytilginghgigiiaa
