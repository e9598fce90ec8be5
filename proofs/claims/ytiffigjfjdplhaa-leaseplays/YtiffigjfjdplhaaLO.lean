/- A book's Over: a range over its map, sorted. -/
import Derived.Test.YtiffigjfjdplhaaLC2
import Derived.Test.YtiffigjfjdplhaaIT
import Derived.Maps.RangeWalk
import Derived.Sort.OwnSortedInts
namespace Go.Proofs.Ytiffigjfjdplhaa
open Go Go.RowKit
theorem Hid.mk'' {p : Prop} (h : p) : Hid p := h
abbrev ints (l : List Int) : List Value := l.map (Value.int .i64)
theorem owns_form {w : World} {base e s n : Nat} {v : Value} {xs : List Value} (h : w.ownsRow base e s v n xs) : ∃ p c, v = .slice p n c := by
  rcases h.2 with ⟨rfl, rfl⟩ | ⟨g, cap, cur, rfl, _⟩
  · exact ⟨_, _, rfl⟩
  · exact ⟨_, _, rfl⟩
theorem info3 : (Try.prog.info? 3).map (fun i => (i.zero, i.size, i.bytes)) = some (some (.int .i64 0), 1, 8) := by kernel_rfl
theorem info_of {i : Nat} {z : Option Value} {s b : Nat} (h : (Try.prog.info? i).map (fun i => (i.zero, i.size, i.bytes)) = some (z, s, b)) : ∃ t, Try.prog.info? i = some t ∧ t.zero = z ∧ t.size = s ∧ t.bytes = b := by
  cases e : Try.prog.info? i with
  | none => rw [e] at h; cases h
  | some t => rw [e] at h; simp at h; exact ⟨t, rfl, h.1, h.2.1, h.2.2⟩
/-- slices.Sort of a row of numbers. -/
theorem sort_row (w : World) (base : Nat) (p : Option Addr) (c : Nat) (ss : List Int) (h : w.ownsRow base 3 1 (.slice p ss.length c) ss.length (ints ss)) (hl : ss.length ≤ 1000000) :
    Calls Try.prog 24 #[.slice p ss.length c] w fun e w' => e = .returned (.tuple #[]) ∧ w'.ownsRow base 3 1 (.slice p ss.length c) ss.length (ints (ss.mergeSort (fun x y => decide (x ≤ y)))) ∧ Upd w w' (fun k => some k = (Value.slice p ss.length c).ownBlock) := by
  rcases h.2 with ⟨e, e2⟩ | ⟨g, cap, cur, e, hbase, hb, h1, h2, h3, h4⟩
  · have : ss = [] := List.eq_nil_of_length_eq_zero e2
    subst this
    refine (AnyM.slices_Sort_int_none Try.sort24 p c w).mono ?_
    rintro e w' ⟨rfl, rfl⟩
    exact ⟨rfl, by simpa using h, Upd.refl _ _⟩
  · cases e
    refine (AnyM.slices_Sort_int Try.sort24 g 0 c ss w (holds_of_blockI hb (by simpa using h4)) (Array.getElem?_eq_some_iff.1 hb).1 (by omega)).mono ?_
    rintro e w' ⟨rfl, n, os, rfl⟩
    exact ⟨rfl, ownsRow_sortedI (by simp) hbase hb h1 h2 (by simpa using h3), (Upd.ofGrown (grownBy_sortedI _)).mono (fun k _ e => e)⟩
theorem ranges_upd {P : Program} {w w' : World} {S : Nat → Prop} {k : TypeId} {R : Value → Option (DataW Unit × List MemPlace)} {b r n : Nat} {D : DataW Unit} {left : Lit → Bool} {cnt : Nat} (h : w.ranges P k R b r n D left cnt) (hu : Upd w w' S) (hb : ¬ S b) (hr : ¬ S r) : w'.ranges P k R b r n D left cnt := by
  have l1 := h.owns.lt
  have l2 := h.lt
  obtain ⟨es, clock, since, seen, c0, a1, a2, a3, a4, a5, a6⟩ := h
  exact ⟨es, clock, since, seen, c0, (hu.block b l1 hb).trans a1, a2, a3, a4, (hu.block r l2 hr).trans a5, a6⟩
/-- What the range has collected so far. -/
def Coll (L : List Ls) (now : Int) (left : Lit → Bool) (ss : List Int) : Prop := ss.Nodup ∧ ∀ x, x ∈ ss ↔ ∃ l ∈ L, l.id = x ∧ l.til ≤ now ∧ left (.int .i64 x) = false
theorem Coll.start (L : List Ls) (now : Int) : Coll L now (Maps.has (mapD L)) [] := by
  refine ⟨List.nodup_nil, fun x => ⟨(fun h => by cases h), fun ⟨l, hl, e, _, h⟩ => ?_⟩⟩
  rw [has_ents] at h
  have := look_isSome.2 ⟨l, hl, e⟩
  rw [h] at this
  cases this
theorem same_int (a b : Int) : (Lit.int .i64 a).sameKey (.int .i64 b) = (a == b) := by
  simp only [Lit.sameKey]
  by_cases h : a = b <;> simp [h]
theorem Coll.take {L : List Ls} {now : Int} {left : Lit → Bool} {ss : List Int} (h : Coll L now left ss) {c : Ls} (hc : c ∈ L) (hl : left (.int .i64 c.id) = true) (ht : c.til ≤ now) : Coll L now (fun z => left z && !z.sameKey (.int .i64 c.id)) (ss ++ [c.id]) := by
  have hn : c.id ∉ ss := fun hx => by
    obtain ⟨l, _, _, _, hf⟩ := (h.2 c.id).1 hx
    rw [hl] at hf; cases hf
  refine ⟨List.nodup_append.2 ⟨h.1, by simp, fun a ha b hb => by simp at hb; subst hb; exact fun e => hn (e ▸ ha)⟩, fun x => ?_⟩
  by_cases hx : x = c.id
  · subst hx
    simp only [List.mem_append, List.mem_singleton, or_true, true_iff]
    exact ⟨c, hc, rfl, ht, by rw [same_int]; simp⟩
  · simp only [List.mem_append, List.mem_singleton, hx, or_false]
    rw [h.2 x]
    have : (Lit.int .i64 x).sameKey (.int .i64 c.id) = false := by rw [same_int]; simpa using hx
    simp [this]
theorem Coll.skip {L : List Ls} {now : Int} {left : Lit → Bool} {ss : List Int} (h : Coll L now left ss) (hu : upL L) {c : Ls} (hc : c ∈ L) (ht : ¬ c.til ≤ now) : Coll L now (fun z => left z && !z.sameKey (.int .i64 c.id)) ss := by
  refine ⟨h.1, fun x => ?_⟩
  rw [h.2 x]
  by_cases hx : x = c.id
  · subst hx
    constructor
    · rintro ⟨l, hl, e, ht', _⟩
      rw [up_inj hu hl hc e] at ht'
      exact absurd ht' ht
    · rintro ⟨l, hl, e, ht', _⟩
      rw [up_inj hu hl hc e] at ht'
      exact absurd ht' ht
  · have : (Lit.int .i64 x).sameKey (.int .i64 c.id) = false := by rw [same_int]; simpa using hx
    simp [this]
theorem mem_over {L : List Ls} {now x : Int} : x ∈ overL L now ↔ ∃ l ∈ L, l.id = x ∧ l.til ≤ now := by
  simp only [overL, List.mem_map, List.mem_filter, decide_eq_true_eq]
  constructor
  · rintro ⟨l, ⟨h1, h2⟩, h3⟩; exact ⟨l, h1, h3, h2⟩
  · rintro ⟨l, h1, h3, h2⟩; exact ⟨l, ⟨h1, h2⟩, h3⟩
theorem up_over {L : List Ls} (h : upL L) (now : Int) : (overL L now).Pairwise (· < ·) := List.pairwise_map.2 (List.Pairwise.filter _ h)
theorem Coll.perm {L : List Ls} {now : Int} {left : Lit → Bool} {ss : List Int} (h : Coll L now left ss) (hu : upL L) (hl : ∀ kl, left kl = false) : ss.Perm (overL L now) := by
  refine (List.perm_ext_iff_of_nodup h.1 ((up_over hu now).imp (fun e => by omega))).2 fun x => ?_
  rw [h.2 x, mem_over]
  simp [hl]
theorem sort_of_perm {l l' : List Int} (h : l.Perm l') (hs : l'.Pairwise (· < ·)) : l.mergeSort (fun x y => decide (x ≤ y)) = l' := by
  have tr : ∀ a b c : Int, decide (a ≤ b) = true → decide (b ≤ c) = true → decide (a ≤ c) = true := fun a b c h1 h2 => by simp only [decide_eq_true_eq] at *; omega
  have to : ∀ a b : Int, (decide (a ≤ b) || decide (b ≤ a)) = true := fun a b => by simp only [Bool.or_eq_true, decide_eq_true_eq]; omega
  refine List.Perm.eq_of_pairwise (le := fun a b : Int => decide (a ≤ b) = true) (fun a b _ _ h1 h2 => ?_) (List.pairwise_mergeSort tr to l) (hs.imp (fun e => by simp only [decide_eq_true_eq]; omega)) ((List.mergeSort_perm l _).trans h)
  simp only [decide_eq_true_eq] at h1 h2
  omega
theorem at_look {L : List Ls} {x : Int} {c : Ls} (h : ∀ zd, (mapD L).atKey (.int .i64 x) zd = lsD c) : lookL x L = some c := by
  have h1 := h .nil
  rw [at_ents] at h1
  cases e : lookL x L with
  | none => rw [e] at h1; cases h1
  | some f => rw [e] at h1; rw [lsD_inj h1]
theorem src_one (w : World) (x : Int) : Src Try.prog 1 39 (.slice (some ⟨w.heap.size, 0, none⟩) 1 1) 1 (ints [x]) (w.alloc (.cells #[.int .i64 x] 3)) := by
  refine Src.ofSlice _ Try.underlying39 ⟨w.heap.size, 0, none⟩ 1 1 _ rfl (fun j u hj => ?_) (fun u hu => ?_)
  · match j, hj with
    | 0, hj =>
      cases hj
      rw [Addr.add_lit]
      simp
  · simp at hu; subst hu; rfl
/-- The row that a range fills. -/
structure OR (w wr : World) (v : Value) (ss : List Int) : Prop where
  row : wr.ownsRow w.heap.size 3 1 v ss.length (ints ss)
  bel : Below w.heap.size w wr
theorem OR.upd {w wr w' : World} {v : Value} {ss : List Int} {S : Nat → Prop} (h : OR w wr v ss) (hu : Upd wr w' S) (hv : ∀ k, v.ownBlock = some k → ¬ S k) (hS : ∀ k, k < w.heap.size → ¬ S k) : OR w w' v ss :=
  ⟨ownsRow_upd h.row hu hv, h.bel.trans (hu.below h.bel.size hS)⟩
set_option maxRecDepth 20000 in
set_option maxHeartbeats 1000000 in
theorem over_any (B d b : Nat) (L : List Ls) (now : Int) (w : World) (h : Bk B w d b L) :
    Calls Try.prog 16 #[ptr d, .int .i64 now] w fun e w' => ∃ p c, e = .returned (.slice p (overL L now).length c) ∧ w'.ownsRow w.heap.size 3 1 (.slice p (overL L now).length c) (overL L now).length (ints (overL L now)) ∧ Below w.heap.size w w' := by
  have c0 := h.c0
  have hown := h.own
  have hup := h.up
  have hbl := h.ltb
  have few := h.few
  obtain ⟨t3, hti, hz0, hz1, hz2⟩ := info_of info3
  have HU := Hid.mk'' hup
  have HOK := Hid.mk'' h.ok
  clear h hup
  go_enter Try.func16, Try.ntmps16
  go_wp2_with (first
    | (at_range; refine wpList_range_own _ rfl _ 51 rfl 3 45 keyed3 Try.underlying51 RL b L.length (mapD L) rfl hown ?_; intro w0 hrg0 hg0 hs0)
    | go_in)
  go_frame
  go_loopw [5] (fun s5 wr => ∃ (left : Lit → Bool) (cnt : Nat) (ss : List Int) (p : Option Addr) (c : Nat), s5 = .slice p ss.length c ∧ Hid (wr.ranges Try.prog 3 RL b w.heap.size L.length (mapD L) left cnt) ∧ Hid (Coll L now left ss) ∧ ss.length + cnt ≤ L.length ∧ Hid (OR w wr (.slice p ss.length c) ss)) (fun _ wr => wr.rangeLeft b w.heap.size)
  case atStart =>
    refine ⟨_, _, [], none, 0, rfl, hrg0, Coll.start L now, by rw [size_mapD]; simp, ⟨World.ownsRow_nil _ _ _ _, ⟨hg0.os, hg0.tape, hg0.output, hg0.size, fun k hk => hg0.block k hk (by simp)⟩⟩⟩
  case round =>
    obtain ⟨left, cnt, ss, p, c, rfl, HR, HC, hcnt, HO⟩ := hrel
    clear hrg0 hg0 hs0
    go_wp2_with (first
      | (at_next; refine wpList_next_ranges _ rfl _ rfl 3 keyed3 RL (Value.int .i64) lsV (fun key kl hk => by obtain ⟨x, rfl, _⟩ := Maps.keyOf_int_inv Try.underlying3 hk; exact ⟨x, rfl⟩) (fun v y hv => by obtain ⟨l, rfl, _⟩ := RL_inv hv; exact ⟨l, rfl⟩) b w.heap.size L.length _ _ _ rfl HR.out ?_ ?_)
      | go_in)
    · intro hc0 hl0
      have hcall := sort_row wr w.heap.size p c ss HO.out.row (by omega)
      have hp := HC.out.perm HU.out hl0
      rw [sort_of_perm hp (up_over HU.out now)] at hcall
      have hsl := hp.length_eq
      have HSL := Hid.mk'' hsl
      clear hsl hp
      go_wp2_with (go_at_call 24; refine hcall.mono ?_; rintro e w' ⟨rfl, hrow, hu⟩)
      go_ret
      have hbel := HO.out.bel
      refine ⟨p, c, by rw [HSL.out]; rfl, by rw [← HSL.out]; exact hrow, hbel.trans (hu.below hbel.size (fun k hk e => ?_))⟩
      have := (HO.out.row.lt k e.symm).1
      omega
    · intro x l kl yd yp w2 cnt2 hkey hlk hv hat hrg2 hlt hg2 hs2 hen
      obtain ⟨x', ex, rfl, _⟩ := Maps.keyOf_int_inv Try.underlying3 hkey
      obtain rfl : x = x' := by cases ex; rfl
      obtain ⟨l', el, ey⟩ := RL_inv hv
      obtain rfl : yd = lsD l := by
        have : RL (lsV l) = some (lsD l, []) := rfl
        rw [hv] at this
        cases this; rfl
      have hlook := at_look hat
      obtain ⟨hid, _⟩ := look_parts hlook
      have hmem := List.mem_of_find?_eq_some hlook
      obtain ⟨o1, o2, o3, o4, o5, o6⟩ := HOK.out l hmem
      subst hid
      have hrne : some w.heap.size ≠ (Value.slice p ss.length c).ownBlock := row_ne_iter HO.out.row HR.out
      have HO2 : Hid (OR w w2 (.slice p ss.length c) ss) := HO.out.upd (Upd.ofGrown hg2) (fun k hk e => hrne (by rw [hk]; exact e.symm)) (fun k hk e => by simp at e; omega)
      have hsz2 : w.heap.size ≤ w2.heap.size := HO2.out.bel.size
      have HRG := Hid.mk'' hrg2
      have HLT := Hid.mk'' hlt
      have HLK := Hid.mk'' hlk
      have HM := Hid.mk'' hmem
      simp only [lsV] at hen
      clear hrg2 hlt hlk hmem hat hv hkey ex el ey hg2 hs2 hlook
      by_cases hle : l.til ≤ now
      · have hsrc : Src Try.prog 1 39 (.slice (some ⟨w2.heap.size + 1, 0, none⟩) 1 1) 1 (ints [l.id]) ((w2.alloc (.cells #[.int .i64 l.id, .int .i64 l.ttl, .int .i64 l.til] 45)).alloc (.cells #[.int .i64 l.id] 3)) := by
          have := src_one (w2.alloc (.cells #[.int .i64 l.id, .int .i64 l.ttl, .int .i64 l.til] 45)) l.id
          simpa using this
        have hb2 : Below w2.heap.size w2 ((w2.alloc (.cells #[.int .i64 l.id, .int .i64 l.ttl, .int .i64 l.til] 45)).alloc (.cells #[.int .i64 l.id] 3)) := ((Below.refl _ _).alloc (Nat.le_refl _) _).alloc (by simp) _
        have HO3 : OR w ((w2.alloc (.cells #[.int .i64 l.id, .int .i64 l.ttl, .int .i64 l.til] 45)).alloc (.cells #[.int .i64 l.id] 3)) (.slice p ss.length c) ss := HO2.out.upd (Upd.ofBelow (S := fun _ => False) hb2) (fun _ _ h => h) (fun _ _ h => h)
        have hrow3 := HO3.row
        have HO3' := Hid.mk'' HO3
        clear HO3
        go_wp2_with (at_builtin; refine wpList_appS _ rfl (.tmp 22) (.tmp 24) 39 39 rfl w.heap.size 3 t3 _ 1 Try.underlying39 hti hz0 hz1 rfl (by rw [hz2]; decide) _ ss.length (ints ss) rfl hrow3 _ rfl 1 (ints [l.id]) hsrc (by omega) (by simp; omega) ?_; intro v' w' q1 q2 q3 q4; obtain ⟨np, nc, hnv⟩ := owns_form q1; subst hnv; clear q4)
        have hbr : b ≠ w.heap.size := by omega
        have hnb : ¬ some b = (Value.slice p ss.length c).ownBlock := fun e => by have := (HO.out.row.lt b e.symm).1; omega
        have HRN : w'.ranges Try.prog 3 RL b w.heap.size L.length (mapD L) (fun z => left z && !z.sameKey (.int .i64 l.id)) cnt2 := ranges_upd (ranges_upd HRG.out (Upd.ofBelow (S := fun _ => False) hb2) (fun h => h) (fun h => h)) q2 hnb hrne
        have HON : OR w w' (.slice np (ss.length + 1) nc) (ss ++ [l.id]) := by
          refine ⟨by simpa using q1, HO3'.out.bel.trans (q2.below HO3'.out.bel.size (fun k hk e => ?_))⟩
          have := (HO3'.out.row.lt k e.symm).1
          omega
        go_roundw
        case rel =>
          refine ⟨_, cnt2, ss ++ [l.id], np, nc, by simp, HRN, HC.out.take HM.out HLK.out hle, ?_, Hid.mk'' (by simpa using HON)⟩
          have := HLT.out
          simp
          omega
        case measure =>
          rw [HRN.left_eq, HR.out.left_eq]
          exact HLT.out
      · have hb2 : Below w2.heap.size w2 (w2.alloc (.cells #[.int .i64 l.id, .int .i64 l.ttl, .int .i64 l.til] 45)) := (Below.refl _ _).alloc (Nat.le_refl _) _
        have HRN : Hid ((w2.alloc (.cells #[.int .i64 l.id, .int .i64 l.ttl, .int .i64 l.til] 45)).ranges Try.prog 3 RL b w.heap.size L.length (mapD L) (fun z => left z && !z.sameKey (.int .i64 l.id)) cnt2) := ranges_upd HRG.out (Upd.ofBelow (S := fun _ => False) hb2) (fun h => h) (fun h => h)
        have HON : Hid (OR w (w2.alloc (.cells #[.int .i64 l.id, .int .i64 l.ttl, .int .i64 l.til] 45)) (.slice p ss.length c) ss) := HO2.out.upd (Upd.ofBelow (S := fun _ => False) hb2) (fun _ _ h => h) (fun _ _ h => h)
        go_wp2
        go_roundw
        case rel =>
          refine ⟨_, cnt2, ss, p, c, rfl, HRN.out, HC.out.skip HU.out HM.out hle, ?_, HON.out⟩
          have := HLT.out
          omega
        case measure =>
          rw [HRN.out.left_eq, HR.out.left_eq]
          exact HLT.out
end Go.Proofs.Ytiffigjfjdplhaa
