/- The walk of PenJoins: whatever the pieces, it returns true and turns nothing that was there. -/
import Derived.Test.YtjcdjignfjkgaaaDoorPieces
import Derived.Deep.RegionWith
namespace Go.Proofs.YtjcdjignfjkgaaaDoor
open Go Go.RowKit
theorem wr_new (w : World) (B : Nat) (hB : B ≤ w.heap.size) : Wr B (w.alloc (.cells #[.slice none 0 0] 58)) w.heap.size (.slice none 0 0) [] :=
  ⟨by simp, by simp, World.ownsRow_nil _ _ _ _, (fun e => by cases e), hB⟩
theorem str_append (a b : List Int) : strOfNums a ++ strOfNums b = strOfNums (a ++ b) := by
  unfold strOfNums
  rw [ByteArray.mk_append_mk, List.map_append]
theorem str_add (w : World) (a b : List Int) (ha : a.length ≤ 1000000) (hb : b.length ≤ 1000000) : (Op.stringOp .add (strOfNums a) (strOfNums b)).run Tryd.prog w = .ok (.string (strOfNums (a ++ b))) w := by
  rw [run_string_add_sum w _ _ (by rw [strOfNums_size, strOfNums_size]; omega), str_append]
theorem bel_alloc (w : World) (o : Obj) : Below w.heap.size w (w.alloc o) := (Below.refl _ _).alloc (Nat.le_refl _) o
/-- A row of v's own is new since w0, or there is none. -/
def NewIn (n : Nat) (v : Value) : Prop := ∀ k, v.ownBlock = some k → n ≤ k
theorem newIn_of {n : Nat} {v v' : Value} (h0 : NewIn n v) {w : World} (hn : n ≤ w.heap.size) (h : v'.ownBlock = v.ownBlock ∨ ∃ g, w.heap.size ≤ g ∧ v'.ownBlock = some g) : NewIn n v' := by
  intro k hk
  rcases h with h | ⟨g, hg, h⟩
  · exact h0 k (by rw [← h]; exact hk)
  · rw [h] at hk; have := Option.some.inj hk; omega
set_option maxRecDepth 100000 in
set_option maxHeartbeats 2000000 in
theorem joins_walk (v0 v1 : Value) (ps qs : List Pc) (w : World) (hT : HasTab w) (h0 : SeesP w v0 ps) (hl0 : ps.length ≤ maxLen) (h1 : SeesP w v1 qs) (hl1 : qs.length ≤ maxLen) :
    Calls Tryd.prog 7 #[v0, v1] w fun e w' => e = .returned (.bool true) ∧ Below w.heap.size w w' := by
  cases hf0 : fewB ps with
  | false =>
    go_enter Tryd.func7, Tryd.ntmps7
    go_wp2_with (first | (go_at_call 9; refine (known_any _ hT).mono ?_; rintro e w1 ⟨rfl, hb1⟩) | (go_at_call 10; refine (few_any _ ps _ (h0.below hb1) hl0).mono ?_; rw [hf0]; rintro e w2 ⟨rfl, rfl⟩))
    go_ret
    exact ⟨rfl, hb1⟩
  | true =>
    cases hf1 : fewB qs with
    | false =>
      go_enter Tryd.func7, Tryd.ntmps7
      go_wp2_with (first | (go_at_call 9; refine (known_any _ hT).mono ?_; rintro e w1 ⟨rfl, hb1⟩) | (go_at_call 10; with_reducible refine (few_any v0 ps _ (h0.below hb1) hl0).mono ?_; rw [hf0]; rintro e w2 ⟨rfl, rfl⟩) | (go_at_call 10; with_reducible refine (few_any v1 qs _ (h1.below hb1) hl1).mono ?_; rw [hf1]; rintro e w2 ⟨rfl, rfl⟩))
      go_ret
      exact ⟨rfl, hb1⟩
    | true =>
      have HF0 := Hid.mk' hf0
      have HF1 := Hid.mk' hf1
      go_enter Tryd.func7, Tryd.ntmps7
      go_wp2_with (first | (go_at_call 9; refine (known_any _ hT).mono ?_; rintro e w1 ⟨rfl, hb1⟩) | (go_at_call 10; with_reducible refine (few_any v0 ps _ (h0.below hb1) hl0).mono ?_; rw [hf0]; rintro e w2 ⟨rfl, rfl⟩) | (go_at_call 10; with_reducible refine (few_any v1 qs _ (h1.below hb1) hl1).mono ?_; rw [hf1]; rintro e w2 ⟨rfl, rfl⟩) | (go_at_call 11; refine (wNew _).mono ?_; rintro e w2 ⟨rfl, rfl⟩))
      have hx0 : Wr w1.heap.size (((w1.alloc (.cells #[.slice none 0 0] 58)).alloc (.cells #[.slice none 0 0] 58)).alloc (.cells #[.slice none 0 0] 58)) w1.heap.size (.slice none 0 0) [] := ((wr_new w1 _ (Nat.le_refl _)).below (bel_alloc _ _)).below (bel_alloc _ _)
      have hy0 : Wr w1.heap.size (((w1.alloc (.cells #[.slice none 0 0] 58)).alloc (.cells #[.slice none 0 0] 58)).alloc (.cells #[.slice none 0 0] 58)) (w1.heap.size + 1) (.slice none 0 0) [] := by
        have := (wr_new (w1.alloc (.cells #[.slice none 0 0] 58)) w1.heap.size (by simp)).below (bel_alloc _ (.cells #[.slice none 0 0] 58))
        simpa using this
      have hz0 : Wr w1.heap.size (((w1.alloc (.cells #[.slice none 0 0] 58)).alloc (.cells #[.slice none 0 0] 58)).alloc (.cells #[.slice none 0 0] 58)) (w1.heap.size + 1 + 1) (.slice none 0 0) [] := by
        have := wr_new ((w1.alloc (.cells #[.slice none 0 0] 58)).alloc (.cells #[.slice none 0 0] 58)) w1.heap.size (by simp; omega)
        simpa using this
      have hbw : Below w.heap.size w (((w1.alloc (.cells #[.slice none 0 0] 58)).alloc (.cells #[.slice none 0 0] 58)).alloc (.cells #[.slice none 0 0] 58)) := ((hb1.alloc hb1.size _).alloc (by have := hb1.size; simp; omega) _).alloc (by have := hb1.size; simp; omega) _
      have hsz : (((w1.alloc (.cells #[.slice none 0 0] 58)).alloc (.cells #[.slice none 0 0] 58)).alloc (.cells #[.slice none 0 0] 58)).heap.size = w1.heap.size + 3 := by simp
      have hnil : NewIn (w1.heap.size + 3) (.slice none 0 0) := fun k hk => by cases hk
      generalize (((w1.alloc (.cells #[.slice none 0 0] 58)).alloc (.cells #[.slice none 0 0] 58)).alloc (.cells #[.slice none 0 0] 58)) = w3 at hx0 hy0 hz0 hbw hsz ⊢
      have hs1 := hb1.size
      refine (write_any _ _ _ v0 [] ps w _ hx0 (by simp) (by omega) h0 hbw hs1 hf0).mono ?_
      rintro e w4 ⟨rfl, vx, hx1, hux, hox⟩
      have hs4 := hux.size
      have hxn := newIn_of hnil (by omega) hox
      have hy1 := hy0.upd hux (by simp [Value.ownBlock]) (fun k hk => by cases hk)
      have hz1 := hz0.upd hux (by simp [Value.ownBlock]; omega) (fun k hk => by cases hk)
      have hbw4 := hbw.trans ((hux.belowWr hx0 (by omega)).mono hs1)
      rw [List.nil_append] at hx1
      clear hux hox hx0 hy0 hz0 hbw
      go_wp2_with fail
      refine (write_any _ _ _ v1 [] qs w _ hy1 (by simp) (by omega) h1 hbw4 hs1 hf1).mono ?_
      rintro e w5 ⟨rfl, vy, hy2, huy, hoy⟩
      have hs5 := huy.size
      have hyn := newIn_of hnil (by omega) hoy
      have hxy : ∀ k, vx.ownBlock = some k → vy.ownBlock ≠ some k := fun k hk e => by
        have h1 := (hx1.own.lt k hk).2
        rcases hoy with h | ⟨g, hg, h⟩
        · rw [h] at e; cases e
        · rw [h] at e; have := Option.some.inj e; omega
      have hx2 := hx1.upd huy (by simp [Value.ownBlock]) (fun k hk h => by rcases h with h | h; have := hxn k hk; omega; cases h)
      have hz2 := hz1.upd huy (by simp [Value.ownBlock]) (fun k hk => by cases hk)
      have hbw5 := hbw4.trans ((huy.belowWr hy1 (by omega)).mono hs1)
      rw [List.nil_append] at hy2
      clear huy hoy hx1 hy1 hz1 hbw4
      go_wp2_with fail
      refine (write_any _ _ _ v0 [] ps w _ hz2 (by simp) (by omega) h0 hbw5 hs1 hf0).mono ?_
      rintro e w6 ⟨rfl, vz, hz3, huz, hoz⟩
      have hs6 := huz.size
      have hzn := newIn_of hnil (by omega) hoz
      have hxz : ∀ k, vx.ownBlock = some k → vz.ownBlock ≠ some k := fun k hk e => by
        have h1 := (hx2.own.lt k hk).2
        rcases hoz with h | ⟨g, hg, h⟩
        · rw [h] at e; cases e
        · rw [h] at e; have := Option.some.inj e; omega
      have hyz : ∀ k, vy.ownBlock = some k → vz.ownBlock ≠ some k := fun k hk e => by
        have h1 := (hy2.own.lt k hk).2
        rcases hoz with h | ⟨g, hg, h⟩
        · rw [h] at e; cases e
        · rw [h] at e; have := Option.some.inj e; omega
      have hx3 := hx2.upd huz (by simp [Value.ownBlock]; omega) (fun k hk h => by rcases h with h | h; have := hxn k hk; omega; cases h)
      have hy3 := hy2.upd huz (by simp [Value.ownBlock]) (fun k hk h => by rcases h with h | h; have := hyn k hk; omega; cases h)
      have hbw6 := hbw5.trans ((huz.belowWr hz2 (by omega)).mono hs1)
      rw [List.nil_append] at hz3
      clear huz hoz hx2 hy2 hz2 hbw5
      have hel : (encB ps).length ≤ 504 * 40 := by
        obtain ⟨f1, f2⟩ := fewB_sizes hf0
        exact Nat.le_trans (encB_len _ f1) (by omega)
      have hel1 : (encB qs).length ≤ 504 * 40 := by
        obtain ⟨f1, f2⟩ := fewB_sizes hf1
        exact Nat.le_trans (encB_len _ f1) (by omega)
      go_wp2_with fail
      refine (write_any _ _ _ v1 (encB ps) qs w _ hz3 (by omega) (by omega) h1 hbw6 hs1 hf1).mono ?_
      rintro e w7 ⟨rfl, vz', hz4, huz, hoz⟩
      have hs7 := huz.size
      have hx4 := hx3.upd huz (by intro h; rcases h with h | h; omega; have := hzn _ h.symm; omega) (fun k hk h => by rcases h with h | h; have := hxn k hk; omega; exact hxz k hk h.symm)
      have hy4 := hy3.upd huz (by intro h; rcases h with h | h; omega; have := hzn _ h.symm; omega) (fun k hk h => by rcases h with h | h; have := hyn k hk; omega; exact hyz k hk h.symm)
      have hbw7 := hbw6.trans ((huz.belowWr hz3 (by omega)).mono hs1)
      have HX := Hid.mk' hx4
      have HY := Hid.mk' hy4
      have HZ := Hid.mk' hz4
      have HB := Hid.mk' hbw7
      have hzl : (encB ps ++ encB qs).length ≤ 1000000 := by simp; omega
      have hadd := fun w => str_add w (encB ps) (encB qs) (by omega) (by omega)
      clear huz hoz hx3 hy3 hz3 hbw6 hx4 hy4 hz4 hbw7 hxz hyz hxy hxn hyn hzn hnil hf0 hf1 h0 h1 hsz hs4 hs5 hs6 hs7
      go_wp2_with fail
      go_region_with (first | (go_at_call 20; with_reducible refine (wDone w1.heap.size w1.heap.size vx (encB ps) w7.drew (HX.out.below ((Below.refl _ _).drew)) (by omega)).mono ?_; rintro e w8 ⟨ux, rfl, o1, b1⟩; have s1 := sees_own o1; have c1 := conv_sees s1) | (go_at_call 20; with_reducible refine (wDone w1.heap.size (w1.heap.size + 1) vy (encB qs) w8 ((HY.out.below ((Below.refl _ _).drew)).below b1) (by omega)).mono ?_; rintro e w9 ⟨uy, rfl, o2, b2⟩; have s2 := sees_own o2; have c2 := conv_sees s2; have s1' := s1.below b2; have c1' := conv_sees s1') | (go_at_call 20; with_reducible refine (wDone w1.heap.size (w1.heap.size + 1 + 1) vz' (encB ps ++ encB qs) w9 (((HZ.out.below ((Below.refl _ _).drew)).below b1).below b2) hzl).mono ?_; rintro e w10 ⟨uz, rfl, o3, b3⟩; have c3 := conv_sees (sees_own o3); have c2' := conv_sees (s2.below b3); have c1'' := conv_sees (s1'.below b3)))
      all_goals
        go_wp2
        go_ret
        have z1 := HB.out.size
        have z2 : w7.heap.size ≤ w8.heap.size := b1.size
        have z3 := b2.size
        exact ⟨rfl, ((HB.out.drew.trans (b1.mono z1)).trans (b2.mono (by omega))).trans (b3.mono (by omega))⟩
end Go.Proofs.YtjcdjignfjkgaaaDoor
