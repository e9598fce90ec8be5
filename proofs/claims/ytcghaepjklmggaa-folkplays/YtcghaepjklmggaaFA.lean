/- A table's All: its rows by clients, anew. -/
import Derived.Test.YtcghaepjklmggaaFN
import Derived.Test.YtcghaepjklmggaaIT
import Derived.Sort.OwnSortedInts
namespace Go.Proofs.Ytcghaepjklmggaa
open Go Go.RowKit
variable {Z Z' : Nat → Prop} {B : Nat} {d b : Nat} {A : List Ro} {f : Int → Value}
abbrev ints (l : List Int) : List Value := l.map (Value.int .i64)
theorem owns_form {w : World} {base e s n : Nat} {v : Value} {xs : List Value} (h : w.ownsRow base e s v n xs) : ∃ p c, v = .slice p n c := by
  rcases h.2 with ⟨rfl, rfl⟩ | ⟨g, cap, cur, rfl, _⟩
  · exact ⟨_, _, rfl⟩
  · exact ⟨_, _, rfl⟩
theorem info_of {i : Nat} {z : Option Value} {s b : Nat} (h : (Try.prog.info? i).map (fun i => (i.zero, i.size, i.bytes)) = some (z, s, b)) : ∃ t, Try.prog.info? i = some t ∧ t.zero = z ∧ t.size = s ∧ t.bytes = b := by
  cases e : Try.prog.info? i with
  | none => rw [e] at h; cases h
  | some t => rw [e] at h; simp at h; exact ⟨t, rfl, h.1, h.2.1, h.2.2⟩
theorem sort_of_perm {l l' : List Int} (h : l.Perm l') (hs : l'.Pairwise (· < ·)) : l.mergeSort (fun x y => decide (x ≤ y)) = l' := by
  have tr : ∀ a b c : Int, decide (a ≤ b) = true → decide (b ≤ c) = true → decide (a ≤ c) = true := fun a b c h1 h2 => by simp only [decide_eq_true_eq] at *; omega
  have tt : ∀ a b : Int, (decide (a ≤ b) || decide (b ≤ a)) = true := fun a b => by simp only [Bool.or_eq_true, decide_eq_true_eq]; omega
  refine List.Perm.eq_of_pairwise (le := fun a b : Int => decide (a ≤ b) = true) (fun a b _ _ h1 h2 => ?_) (List.pairwise_mergeSort tr tt l) (hs.imp (fun e => by simp only [decide_eq_true_eq]; omega)) ((List.mergeSort_perm l _).trans h)
  simp only [decide_eq_true_eq] at h1 h2
  omega
theorem own_lower {W : World} {base base' : Nat} {e : TypeId} {size : Nat} {v : Value} {k : Nat} {xs : List Value} (h : W.ownsRow base e size v k xs) (hb : base' ≤ base) : W.ownsRow base' e size v k xs := by
  refine ⟨h.1, ?_⟩
  rcases h.2 with hn | ⟨g, cap, cur, hv, hbg, rest⟩
  · exact .inl hn
  · exact .inr ⟨g, cap, cur, hv, by omega, rest⟩
/-- A number of a row of numbers. -/
theorem row_int {w : World} {base : Nat} {p : Option Addr} {n c : Nat} {xs : List Int} (h : w.ownsRow base 3 1 (.slice p n c) n (ints xs)) {i : Nat} {x : Int} (hi : xs[i]? = some x) : ∃ g, p = some ⟨g, 0, none⟩ ∧ w.cell? ⟨g, i, none⟩ = some (.int .i64 x) ∧ g < w.heap.size ∧ i < n ∧ n ≤ c := by
  have hn : xs.length = n := by simpa [ints] using h.1
  have hil : i < xs.length := (List.getElem?_eq_some_iff.1 hi).1
  rcases h.2 with ⟨_, h0⟩ | ⟨g, cap, cur, e, hbg, hh, h1, h2, h3, h4⟩
  · omega
  · cases e
    refine ⟨g, rfl, ?_, (Array.getElem?_eq_some_iff.1 hh).1, by omega, h1⟩
    have := h.cells (g := g) rfl i (.int .i64 x) (by rw [ints, List.getElem?_map, hi]; rfl)
    rwa [Addr.add_lit, Nat.zero_add] at this
def roL (g : Int → Value) (l : Ro) : List Value := [.int .i64 l.id, .int .i64 l.sq, .int .i64 l.rp.err, .int .i64 l.rp.rev, .bool l.rp.thn, g l.id, .int .i64 l.rp.tim]
def roC (g : Int → Value) (L : List Ro) : List Value := L.flatMap (roL g)
theorem roC_append (g : Int → Value) (A B : List Ro) : roC g (A ++ B) = roC g A ++ roC g B := by simp [roC]
theorem roC_one (g : Int → Value) (l : Ro) : roC g [l] = roL g l := by simp [roC]
theorem roC_set {g : Int → Value} {k : Int} {v : Value} {L : List Ro} (h : ∀ r ∈ L, r.id ≠ k) : roC (setF g k v) L = roC g L := by
  unfold roC
  induction L with
  | nil => rfl
  | cons a L ih =>
    rw [List.flatMap_cons, List.flatMap_cons, ih (fun r hr => h r (by simp [hr]))]
    congr 1
    simp [roL, setF, h a (by simp)]
theorem intKeys_mapD (L : List Ro) (f : Int → Value) : intKeys (mapD L f) = L.map Ro.id := by
  show (L.map (ent f)).map _ = _
  rw [List.map_map]
  rfl
theorem info43 : (Try.prog.info? 43).map (fun i => (i.zero, i.size, i.bytes)) = some (some (.agg #[.int .i64 0, .int .i64 0, .int .i64 0, .int .i64 0, .bool false, .slice none 0 0, .int .i64 0]), 7, 72) := by kernel_rfl
theorem src_ro (w : World) (l : Ro) (p : Option Addr) (n c : Nat) : Src Try.prog 7 40 (.slice (some ⟨w.heap.size, 0, none⟩) 1 1) 1 [.int .i64 l.id, .int .i64 l.sq, .int .i64 l.rp.err, .int .i64 l.rp.rev, .bool l.rp.thn, .slice p n c, .int .i64 l.rp.tim]
    (w.alloc (.cells #[.int .i64 l.id, .int .i64 l.sq, .int .i64 l.rp.err, .int .i64 l.rp.rev, .bool l.rp.thn, .slice p n c, .int .i64 l.rp.tim] 43)) := by
  refine Src.ofSlice _ Try.underlying40 ⟨w.heap.size, 0, none⟩ 1 1 _ rfl (fun j u hj => ?_) (fun u hu => ?_)
  · rw [Addr.add_lit]
    match j, hj with
    | 0, hj => cases hj; simp
    | 1, hj => cases hj; simp
    | 2, hj => cases hj; simp
    | 3, hj => cases hj; simp
    | 4, hj => cases hj; simp
    | 5, hj => cases hj; simp
    | 6, hj => cases hj; simp
  · simp at hu
    rcases hu with rfl | rfl | rfl | rfl | rfl | rfl | rfl <;> rfl
/-- The row that All fills. -/
structure AR (w wr : World) (v : Value) (A : List Ro) (g : Int → Value) : Prop where
  row : wr.ownsRow w.heap.size 43 7 v A.length (roC g A)
  res : ∀ r ∈ A, RSs (fun k => w.heap.size ≤ k ∧ v.ownBlock ≠ some k) wr (g r.id) r.rs
  bel : Below w.heap.size w wr
theorem AR.below {w wr w' : World} {v : Value} {A : List Ro} {g : Int → Value} (h : AR w wr v A g) (hb : Below wr.heap.size wr w') : AR w w' v A g :=
  ⟨ownsRow_upd h.row (Upd.ofBelow (S := fun _ => False) hb) (fun _ _ h => h), fun r hr => (h.res r hr).below hb, h.bel.trans (hb.mono h.bel.size)⟩
theorem AR.app {w wr w' : World} {v v' : Value} {A : List Ro} {g : Int → Value} {l : Ro} {u : Value} (h : AR w wr v A g) (hid : ∀ r ∈ A, r.id ≠ l.id) (hn : w'.ownsRow w.heap.size 43 7 v' (A.length + 1) (roC g A ++ roL (setF g l.id u) l)) (hu : Upd wr w' (fun k => some k = v.ownBlock)) (hv : v'.ownBlock = v.ownBlock ∨ v'.ownBlock = some wr.heap.size)
    (hr : RSs (fun k => w.heap.size ≤ k ∧ v.ownBlock ≠ some k) wr u l.rs) : AR w w' v' (A ++ [l]) (setF g l.id u) := by
  have key : ∀ (x : Value) (rs : List Rs), RSs (fun k => w.heap.size ≤ k ∧ v.ownBlock ≠ some k) wr x rs → RSs (fun k => w.heap.size ≤ k ∧ v'.ownBlock ≠ some k) w' x rs := by
    intro x rs hx
    have h1 : RSs (fun k => (w.heap.size ≤ k ∧ v.ownBlock ≠ some k) ∧ k < wr.heap.size) wr x rs := by
      obtain ⟨p, c, rfl, hh⟩ := hx
      refine ⟨p, c, rfl, fun i r hi => ?_⟩
      obtain ⟨gg, o, e, hz, hl, hk⟩ := hh i r hi
      refine ⟨gg, o, e, ⟨hz, hl⟩, hl, hk.c0, ?_, hk.ln⟩
      obtain ⟨uu, q1, q2⟩ := hk.c1
      refine ⟨uu, q1, ?_⟩
      obtain ⟨p2, c2, rfl, hh2⟩ := q2
      refine ⟨p2, c2, rfl, fun j kv hj => ?_⟩
      obtain ⟨g2, o2, e2, hz2, hl2, hk2⟩ := hh2 j kv hj
      exact ⟨g2, o2, e2, ⟨hz2, hl2⟩, hl2, hk2⟩
    refine (h1.upd hu (fun k hk e => hk.1.2 e.symm)).mono (fun k hk => ⟨hk.1.1, fun e => ?_⟩)
    rcases hv with e' | e'
    · exact hk.1.2 (e'.symm.trans e)
    · rw [e'] at e
      have := Option.some.inj e
      have := hk.2
      omega
  refine ⟨?_, fun r hr' => ?_, h.bel.trans (hu.below h.bel.size (fun k hk e => ?_))⟩
  · rw [List.length_append, roC_append, roC_one, roC_set hid]
    exact hn
  · rcases List.mem_append.1 hr' with hr' | hr'
    · have : setF g l.id u r.id = g r.id := by simp [setF, hid r hr']
      rw [this]
      exact key _ _ (h.res r hr')
    · obtain rfl := List.mem_singleton.1 hr'
      have : setF g r.id u r.id = u := by simp [setF]
      rw [this]
      exact key _ _ hr
  · have := (h.row.lt k e.symm).1
    omega
set_option maxRecDepth 20000 in
set_option maxHeartbeats 1000000 in
theorem all_any (w : World) (h : Tb Z B w d b A f) :
    Calls Try.prog 13 #[ptr d] w fun e w' => ∃ p c g, e = .returned (.slice p A.length c) ∧ w'.ownsRow w.heap.size 43 7 (.slice p A.length c) A.length (roC g A) ∧ (∀ r ∈ A, RSs (fun k => w.heap.size ≤ k) w' (g r.id) r.rs) ∧ Below w.heap.size w w' := by
  have c0 := h.c0
  have hK := (callsIn_wide (n := 5)).1 (Try.maps_Keys_19 (some b) w)
  have hS := (callsIn_wide (n := 5)).1 (Try.slices_Sorted_keys_18_19 b A.length (mapD A f) RL w h.own (by rw [size_mapD]; have := h.few; unfold maxLen; omega) (by rw [size_mapD]; have := h.few; omega))
  have few := h.few
  have hdl := h.ltd
  obtain ⟨t3, hti, hz0, hz1, hz2⟩ := info_of info43
  have H := Hid.mk'' h
  clear h
  go_enter Try.func13, Try.ntmps13
  go_wp2_with (first
    | (go_at_call 19; refine hK.mono ?_; rintro e w1 ⟨rfl, rfl⟩)
    | (go_at_call 18; refine hS.mono ?_; rintro e w1 ⟨v, ss, rfl, hp, hrow, _, bel1⟩; obtain ⟨vp, vc, hv⟩ := owns_form hrow; subst hv))
  have hsm : ss.mergeSort (fun x y => decide (x ≤ y)) = A.map Ro.id := by
    rw [intKeys_mapD] at hp
    exact sort_of_perm hp (List.pairwise_map.2 H.out.up)
  have hsl : ss.length = A.length := by rw [hp.length_eq, intKeys_mapD, List.length_map]
  rw [hsm] at hrow
  rw [hsl] at hrow ⊢
  have HROW := Hid.mk'' hrow
  have belw : Below w.heap.size w w1 := ((Below.refl _ w).alloc (Nat.le_refl _) _).trans (bel1.mono (by simp))
  have h1 := H.out.below belw
  have HB := Hid.mk'' h1
  have HBW := Hid.mk'' belw
  have hdl1 : d < w1.heap.size := h1.ltd
  have c1 := h1.c0
  clear hrow hsm hsl hp bel1 hS hK belw h1 c0 hdl
  go_loopg [3, 13] (A.length + 1) (fun kx s3 s13 wq => ∃ (i : Nat) (p : Option Addr) (c : Nat) (g : Int → Value), s3 = .slice p (A.take i).length c ∧ s13 = .int .i64 i ∧ kx + i = A.length + 1 ∧ i ≤ A.length ∧ Hid (AR w1 wq (.slice p (A.take i).length c) (A.take i) g))
  case atStart => exact ⟨0, none, 0, fun _ => .slice none 0 0, rfl, rfl, rfl, Nat.zero_le _, ⟨World.ownsRow_nil _ _ _ _, fun r hr => (by cases hr), Below.refl _ _⟩⟩
  case round =>
    obtain ⟨i, p, c, g, rfl, rfl, hkx, hi, HM⟩ := hrel
    by_cases hlt : i < A.length
    · obtain ⟨l, hl⟩ : ∃ l, A[i]? = some l := ⟨_, List.getElem?_eq_getElem hlt⟩
      obtain ⟨gb, hg, hcell, hgl, _, hvc⟩ := row_int HROW.out (i := i) (x := l.id) (by rw [List.getElem?_map, hl]; rfl)
      subst hg
      have kcell := (HM.out.bel.cell (p := ⟨gb, i, none⟩) hgl).trans hcell
      have bcell := (HM.out.bel.cell (p := ⟨d, 0, none⟩) hdl1).trans c1
      have hmem := List.mem_of_getElem? hl
      have hok := HB.out.ok l hmem
      have hTr := HB.out.below HM.out.bel
      have hlk := look_run hTr.own (k := l.id) ⟨by have := hok.a; omega, hok.b⟩ false
      rw [look_mem HB.out.up hmem] at hlk
      simp only [getV, encRo, rowV, Bool.false_eq_true, if_false] at hlk
      have hcall := own_row l.id l.sq l.rp l.rs (f l.id) wr (hTr.res l hmem) (by have := hok.d; omega)
      have hfl := hTr.res l hmem
      obtain ⟨fp, fc, hfe, _⟩ := hfl
      rw [hfe] at hcall hlk
      have htk : A.take (i + 1) = A.take i ++ [l] := by rw [List.take_add_one, hl]; rfl
      have hlt3 : (A.take i).length = i := by rw [List.length_take]; omega
      have hne : ∀ r ∈ A.take i, r.id ≠ l.id := fun r hr e => by
        have hup : upL (A.take (i + 1)) := List.Pairwise.sublist (List.take_sublist _ _) HB.out.up
        rw [htk] at hup
        have := (List.pairwise_append.1 hup).2.2 r hr l (by simp)
        omega
      have HNE := Hid.mk'' hne
      have HTK := Hid.mk'' htk
      rw [hlt3] at HM ⊢
      have HT3 := Hid.mk'' hlt3
      have hsz : w1.heap.size ≤ wr.heap.size := HM.out.bel.size
      have HAP : Hid (∀ w5 (p5 : Option Addr) (c5 : Nat), RSs (fun k => wr.heap.size ≤ k) w5 (.slice p5 l.rs.length c5) l.rs → Below wr.heap.size wr w5 →
          AR w1 (w5.alloc (.cells #[.int .i64 l.id, .int .i64 l.sq, .int .i64 l.rp.err, .int .i64 l.rp.rev, .bool l.rp.thn, .slice p5 l.rs.length c5, .int .i64 l.rp.tim] 43)) (.slice p i c) (A.take i) g ∧
          RSs (fun k => w1.heap.size ≤ k ∧ (Value.slice p i c).ownBlock ≠ some k) (w5.alloc (.cells #[.int .i64 l.id, .int .i64 l.sq, .int .i64 l.rp.err, .int .i64 l.rp.rev, .bool l.rp.thn, .slice p5 l.rs.length c5, .int .i64 l.rp.tim] 43)) (.slice p5 l.rs.length c5) l.rs) := fun w5 p5 c5 h5 b5 => by
        have hb : Below w5.heap.size w5 (w5.alloc (.cells #[.int .i64 l.id, .int .i64 l.sq, .int .i64 l.rp.err, .int .i64 l.rp.rev, .bool l.rp.thn, .slice p5 l.rs.length c5, .int .i64 l.rp.tim] 43)) := (Below.refl _ _).alloc (Nat.le_refl _) _
        refine ⟨(HM.out.below b5).below hb, (h5.below hb).mono (fun k hk => ⟨Nat.le_trans hsz hk, fun e => ?_⟩)⟩
        have := (HM.out.row.lt k e).2
        have hk' : wr.heap.size ≤ k := hk
        omega
      clear hne htk hlt3 hcell hmem hl hok hTr hfe
      go_wp2_with (first
        | (go_at_call 20; refine hcall.mono ?_; rintro e w5 ⟨v5, rfl, hv5, bel5⟩
           have hv6 := hv5
           obtain ⟨p5, c5, hve, _⟩ := hv5
           subst hve
           obtain ⟨HA0, hR⟩ := HAP.out w5 p5 c5 hv6 bel5
           have hrow5 := HA0.row
           rw [HT3.out] at hrow5
           have hsrc := src_ro w5 l p5 l.rs.length c5
           have HA5 := Hid.mk'' HA0
           have HR5 := Hid.mk'' hR
           have hs5 : w1.heap.size ≤ w5.heap.size := Nat.le_trans hsz bel5.size
           clear HA0 hR hv6 bel5 hcall)
        | (at_builtin; refine wpList_appS _ rfl (.tmp 17) (.tmp 25) 40 40 rfl w1.heap.size 43 t3 _ 7 Try.underlying40 hti hz0 hz1 rfl (by rw [hz2]; decide) _ i (roC g (A.take i)) rfl hrow5 _ rfl 1 _ hsrc (by omega) (by simp; omega) ?_; intro v' w' q1 q2 q3 q4; obtain ⟨np, nc, hnv⟩ := owns_form q1; subst hnv; clear q4))
      go_roundg (A.length - i)
      case measure => omega
      case rel =>
        have e1 : (A.take (i + 1)).length = i + 1 := by rw [HTK.out, List.length_append, HT3.out]; rfl
        refine ⟨i + 1, np, nc, setF g l.id (.slice p5 l.rs.length c5), by rw [e1], by congr 1, by omega, by omega, ?_⟩
        rw [e1]
        refine Hid.mk'' ?_
        rw [HTK.out]
        refine HA5.out.app HNE.out ?_ q2 q3 HR5.out
        rw [HT3.out]
        have er : roL (setF g l.id (.slice p5 l.rs.length c5)) l = [.int .i64 l.id, .int .i64 l.sq, .int .i64 l.rp.err, .int .i64 l.rp.rev, .bool l.rp.thn, .slice p5 l.rs.length c5, .int .i64 l.rp.tim] := by simp [roL, setF]
        rw [er]
        exact q1
    · obtain rfl : i = A.length := by omega
      rw [List.take_length] at HM ⊢
      go_wp2
      go_ret
      exact ⟨p, c, g, rfl, own_lower HM.out.row HBW.out.size, fun r hr => (HM.out.res r hr).mono (fun k hk => Nat.le_trans HBW.out.size hk.1), HBW.out.trans (HM.out.bel.mono HBW.out.size)⟩
end Go.Proofs.Ytcghaepjklmggaa
