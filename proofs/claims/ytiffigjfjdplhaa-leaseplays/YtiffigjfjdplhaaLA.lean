/- A book's All: its leases by ids. -/
import Derived.Test.YtiffigjfjdplhaaLO
import Derived.Deep.LoopGhost
import Derived.Deep.CutRange
namespace Go.Proofs.Ytiffigjfjdplhaa
open Go Go.RowKit
def lsL (l : Ls) : List Value := [.int .i64 l.id, .int .i64 l.ttl, .int .i64 l.til]
def lsC (L : List Ls) : List Value := L.flatMap lsL
theorem lsC_append (A B : List Ls) : lsC (A ++ B) = lsC A ++ lsC B := by simp [lsC]
theorem lsC_one (l : Ls) : lsC [l] = lsL l := by simp [lsC]
theorem lsC_len : ∀ L : List Ls, (lsC L).length = L.length * 3
  | [] => rfl
  | l :: L => by
    have := lsC_len L
    simp only [lsC, List.flatMap_cons, List.length_append, List.length_cons] at this ⊢
    rw [this]
    simp [lsL]
    omega
theorem intKeys_mapD (L : List Ls) : intKeys (mapD L) = L.map Ls.id := by
  show (L.map ent).map _ = _
  rw [List.map_map]
  rfl
theorem info45 : (Try.prog.info? 45).map (fun i => (i.zero, i.size, i.bytes)) = some (some (.agg #[.int .i64 0, .int .i64 0, .int .i64 0]), 3, 24) := by kernel_rfl
theorem src_ls (w : World) (l : Ls) : Src Try.prog 3 41 (.slice (some ⟨w.heap.size, 0, none⟩) 1 1) 1 (lsC [l]) (w.alloc (.cells #[.int .i64 l.id, .int .i64 l.ttl, .int .i64 l.til] 45)) := by
  rw [lsC_one]
  refine Src.ofSlice _ Try.underlying41 ⟨w.heap.size, 0, none⟩ 1 1 _ rfl (fun j u hj => ?_) (fun u hu => ?_)
  · rw [Addr.add_lit]
    match j, hj with
    | 0, hj => cases hj; simp
    | 1, hj => cases hj; simp
    | 2, hj => cases hj; simp
  · simp [lsL] at hu
    rcases hu with rfl | rfl | rfl <;> rfl
theorem own_lower {W : World} {base base' : Nat} {e : TypeId} {size : Nat} {v : Value} {k : Nat} {xs : List Value} (h : W.ownsRow base e size v k xs) (hb : base' ≤ base) : W.ownsRow base' e size v k xs := by
  refine ⟨h.1, ?_⟩
  rcases h.2 with hn | ⟨g, cap, cur, hv, hbg, rest⟩
  · exact .inl hn
  · exact .inr ⟨g, cap, cur, hv, by omega, rest⟩
/-- A number of a row of numbers. -/
theorem row_int {w : World} {base : Nat} {p : Option Addr} {n c : Nat} {xs : List Int} (h : w.ownsRow base 3 1 (.slice p n c) n (ints xs)) {i : Nat} {x : Int} (hi : xs[i]? = some x) : ∃ g, p = some ⟨g, 0, none⟩ ∧ w.cell? ⟨g, i, none⟩ = some (.int .i64 x) ∧ g < w.heap.size ∧ i < n ∧ n ≤ c := by
  have hn : xs.length = n := by simpa [ints] using h.1
  have hil : i < xs.length := (List.getElem?_eq_some_iff.1 hi).1
  rcases h.2 with ⟨_, h0⟩ | ⟨g, cap, cur, e, hbg, hh, h1, h2, h3, h4⟩
  · omega
  · cases e
    refine ⟨g, rfl, ?_, (Array.getElem?_eq_some_iff.1 hh).1, by omega, h1⟩
    have := h.cells (g := g) rfl i (.int .i64 x) (by rw [ints, List.getElem?_map, hi]; rfl)
    rwa [Addr.add_lit, Nat.zero_add] at this
/-- The row that All fills. -/
structure AR (w wr : World) (v : Value) (A : List Ls) : Prop where
  row : wr.ownsRow w.heap.size 45 3 v A.length (lsC A)
  bel : Below w.heap.size w wr
theorem AR.below {w wr w' : World} {v : Value} {A : List Ls} (h : AR w wr v A) (hb : Below wr.heap.size wr w') : AR w w' v A :=
  ⟨ownsRow_upd h.row (Upd.ofBelow (S := fun _ => False) hb) (fun _ _ h => h), h.bel.trans (hb.mono h.bel.size)⟩
set_option maxRecDepth 20000 in
set_option maxHeartbeats 1000000 in
theorem all_any (B d b : Nat) (L : List Ls) (w : World) (h : Bk B w d b L) :
    Calls Try.prog 18 #[ptr d] w fun e w' => ∃ p c, e = .returned (.slice p L.length c) ∧ w'.ownsRow w.heap.size 45 3 (.slice p L.length c) L.length (lsC L) ∧ Below w.heap.size w w' := by
  have c0 := h.c0
  have hK := (callsIn_wide (n := 5)).1 (Try.maps_Keys_26 (some b) w)
  have hS := (callsIn_wide (n := 5)).1 (Try.slices_Sorted_keys_25_26 b L.length (mapD L) RL w h.own (by rw [size_mapD]; have := h.few; unfold maxLen; omega) (by rw [size_mapD]; have := h.few; omega))
  have few := h.few
  have hdl := h.ltd
  obtain ⟨t3, hti, hz0, hz1, hz2⟩ := info_of info45
  have H := Hid.mk'' h
  clear h
  go_enter Try.func18, Try.ntmps18
  go_wp2_with (first
    | (go_at_call 26; refine hK.mono ?_; rintro e w1 ⟨rfl, rfl⟩)
    | (go_at_call 25; refine hS.mono ?_; rintro e w1 ⟨v, ss, rfl, hp, hrow, _, bel1⟩; obtain ⟨vp, vc, hv⟩ := owns_form hrow; subst hv))
  have hsm : ss.mergeSort (fun x y => decide (x ≤ y)) = L.map Ls.id := by
    rw [intKeys_mapD] at hp
    exact sort_of_perm hp (List.pairwise_map.2 H.out.up)
  have hsl : ss.length = L.length := by rw [hp.length_eq, intKeys_mapD, List.length_map]
  rw [hsm] at hrow
  rw [hsl] at hrow ⊢
  have HROW := Hid.mk'' hrow
  have belw : Below w.heap.size w w1 := ((Below.refl _ w).alloc (Nat.le_refl _) _).trans (bel1.mono (by simp))
  have h1 := H.out.below belw
  have HB := Hid.mk'' h1
  have HBW := Hid.mk'' belw
  have hdl1 : d < w1.heap.size := h1.ltd
  have c1 := h1.c0
  clear hrow hsm hsl hp bel1 hS hK belw h1 c0 hdl
  go_loopg [3, 13] (L.length + 1) (fun kx s3 s13 wq => ∃ (i : Nat) (p : Option Addr) (c : Nat), s3 = .slice p (L.take i).length c ∧ s13 = .int .i64 i ∧ kx + i = L.length + 1 ∧ i ≤ L.length ∧ Hid (AR w1 wq (.slice p (L.take i).length c) (L.take i)))
  case atStart => exact ⟨0, none, 0, rfl, rfl, rfl, Nat.zero_le _, ⟨World.ownsRow_nil _ _ _ _, Below.refl _ _⟩⟩
  case round =>
    obtain ⟨i, p, c, rfl, rfl, hkx, hi, HM⟩ := hrel
    by_cases hlt : i < L.length
    · obtain ⟨l, hl⟩ : ∃ l, L[i]? = some l := ⟨_, List.getElem?_eq_getElem hlt⟩
      obtain ⟨g, hg, hcell, hgl, _, hvc⟩ := row_int HROW.out (i := i) (x := l.id) (by rw [List.getElem?_map, hl]; rfl)
      subst hg
      have kcell := (HM.out.bel.cell (p := ⟨g, i, none⟩) hgl).trans hcell
      have bcell := (HM.out.bel.cell (p := ⟨d, 0, none⟩) hdl1).trans c1
      have hmem := List.mem_of_getElem? hl
      obtain ⟨o1, o2, o3, o4, o5, o6⟩ := HB.out.ok l hmem
      have hlk := look_run (HB.out.below HM.out.bel).own (k := l.id) ⟨by omega, by omega⟩ false
      rw [look_mem HB.out.up hmem] at hlk
      simp only [getV, lsV, Option.getD_some, Bool.false_eq_true, if_false] at hlk
      have htk : L.take (i + 1) = L.take i ++ [l] := by rw [List.take_add_one, hl]; rfl
      have hlt3 : (L.take i).length = i := by rw [List.length_take]; omega
      have HTK := Hid.mk'' htk
      rw [hlt3] at HM ⊢
      have hsrc := src_ls wr l
      have hb2 : Below wr.heap.size wr (wr.alloc (.cells #[.int .i64 l.id, .int .i64 l.ttl, .int .i64 l.til] 45)) := (Below.refl _ _).alloc (Nat.le_refl _) _
      have HM3 := HM.out.below hb2
      have hrow3 := HM3.row
      rw [hlt3] at hrow3
      have hsz : w1.heap.size ≤ wr.heap.size := HM.out.bel.size
      have HM3' := Hid.mk'' HM3
      have HT3 := Hid.mk'' hlt3
      clear HM3 htk hlt3 hcell hmem hl hb2
      go_wp2_with (at_builtin; refine wpList_appS _ rfl (.tmp 17) (.tmp 24) 41 41 rfl w1.heap.size 45 t3 _ 3 Try.underlying41 hti hz0 hz1 rfl (by rw [hz2]; decide) _ i (lsC (L.take i)) rfl hrow3 _ rfl 1 (lsC [l]) hsrc (by omega) (by simp; omega) ?_; intro v' w' q1 q2 q3 q4; obtain ⟨np, nc, hnv⟩ := owns_form q1; subst hnv; clear q3 q4)
      go_roundg (L.length - i)
      case measure => omega
      case rel =>
        have e1 : (L.take (i + 1)).length = i + 1 := by rw [HTK.out, List.length_append, HT3.out]; rfl
        refine ⟨i + 1, np, nc, by rw [e1], by congr 1, by omega, by omega, ?_⟩
        rw [e1]
        refine Hid.mk'' ⟨by rw [e1, HTK.out, lsC_append]; exact q1, HM3'.out.bel.trans (q2.below HM3'.out.bel.size (fun k hk e => ?_))⟩
        have := (hrow3.lt k e.symm).1
        omega
    · obtain rfl : i = L.length := by omega
      rw [List.take_length] at HM ⊢
      go_wp2
      go_ret
      exact ⟨p, c, rfl, own_lower HM.out.row HBW.out.size, HBW.out.trans (HM.out.bel.mono HBW.out.size)⟩
end Go.Proofs.Ytiffigjfjdplhaa
