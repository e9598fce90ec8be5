/- The example: known. -/
import Derived.Test.YtecnlfalpfbobaaGreatDoorWQA
namespace Go.Proofs.YtecnlfalpfbobaaGreatDoor
open Go Go.RowKit
set_option maxRecDepth 100000 in
set_option maxHeartbeats 1000000 in
theorem known_any (w : World) (hT : HasTab w) : Calls Tryz.prog 9 #[] w fun e w' => e = .returned (.bool true) ∧ Below w.heap.size w w' := by
  have HT := Hid.mk' hT
  clear hT
  go_enter Tryz.func9, Tryz.ntmps9
  go_wp2_with fail
  refine (new_dk w.heap.size 1048576 _ (by decide) (Nat.le_refl _)).mono ?_
  rintro e w1 ⟨d, hd, rfl, hdk, hb1⟩
  have hop := open_any _ d _ _ w1 hdk (readable_q0 _ (by decide) (by decide)) (HT.out.below hb1)
  have HD := Hid.mk' hd
  have HDK := Hid.mk' hdk
  have HB1 := Hid.mk' hb1
  clear hdk hb1 hd
  go_wp2_with fail
  refine hop.mono ?_
  rintro e w2 ⟨l, s, ev, vv, ev2, xs, rfl, hL, hto, hb2⟩
  have hs0 : pureS s = blankOf [] := hL.says.trans (openS_q0 _)
  have hes : s.es = [] := List.map_eq_nil_iff.1 (congrArg St.es hs0)
  have hhv : s.hv = -1 := congrArg St.hv hs0
  have hxs : xs = [] := by have := hto.same; rw [hes] at this; exact List.map_eq_nil_iff.1 this
  subst hxs
  obtain ⟨vo, vc, rfl⟩ := hto.vot.form
  obtain ⟨ao, ac, rfl, _, _⟩ := hto.row.form
  have hes0 : s.es.length = 0 := by rw [hes]; rfl
  obtain ⟨vl, hvl⟩ : ∃ n, n = s.vs.vs.length := ⟨_, rfl⟩
  obtain ⟨z0, hz0⟩ : ∃ n, n = s.ht := ⟨_, rfl⟩
  obtain ⟨z2, hz2⟩ : ∃ n, n = s.hc := ⟨_, rfl⟩
  obtain ⟨z3, hz3⟩ : ∃ n, n = s.mi := ⟨_, rfl⟩
  obtain ⟨z4, hz4⟩ : ∃ n, n = s.mt := ⟨_, rfl⟩
  unfold stVal
  rw [hhv, ← hvl, ← hz0, ← hz2, ← hz3, ← hz4]
  have HBB : Hid (w.heap.size ≤ w1.heap.size ∧ w1.heap.size ≤ w2.heap.size ∧ w.heap.size ≤ l ∧ l < w2.heap.size) := ⟨HB1.out.size, hb2.size, Nat.le_trans HB1.out.size hL.lnew, hL.sm.cells.lt⟩
  have HLG := Hid.mk' (hL.lg HDK.out hb2 HB1.out.size)
  have HB2 : Hid (Below w.heap.size w w2) := HB1.out.trans (hb2.mono HB1.out.size)
  have HS0 := Hid.mk' hs0
  clear hL hb2 hs0 hto hop hes hhv hes0 hvl hz0 hz2 hz3 hz4
  go_wp2_with fail
  obtain ⟨wA, hwA⟩ : ∃ wA, wA = w2.alloc (.cells #[.int .i64 z0, .int .i64 (-1), .int .i64 z2, .int .i64 z3, .int .i64 z4, .slice vo vl vc, .slice ao 0 ac] 40) := ⟨_, rfl⟩
  have hsA : wA.heap.size = w2.heap.size + 1 := by rw [hwA]; simp
  have hrA : wA.heap[w2.heap.size]? = some (.cells #[.int .i64 z0, .int .i64 (-1), .int .i64 z2, .int .i64 z3, .int .i64 z4, .slice vo vl vc, .slice ao 0 ac] 40 (0, 0)) := by rw [hwA]; exact heap_alloc_new w2 _
  have hbA : Below w2.heap.size w2 wA := by rw [hwA]; exact (Below.refl _ _).alloc (Nat.le_refl _) _
  have hE0 := seesE_new wA [bareE 1 1 0] (by decide) (fun x hx => by rw [List.mem_singleton.1 hx]; exact ⟨bareE_ok _ _ _ _, by decide, by decide⟩) rfl
  rw [hsA] at hE0
  rw [← hwA]
  obtain ⟨wB, hwB⟩ : ∃ wB, wB = wA.alloc (.cells #[.int .i64 1, .int .i64 1, .int .i64 0, .slice none 0 0] 60) := ⟨_, rfl⟩
  have hbB : Below wA.heap.size wA wB := by rw [hwB]; exact (Below.refl _ _).alloc (Nat.le_refl _) _
  have hbAB : Below w2.heap.size w2 wB := hbA.trans (hbB.mono hbA.size)
  have hE : SeesE wB (.slice (some ⟨w2.heap.size + 1, 0, none⟩) 1 1) [bareE 1 1 0] := by rw [hwB]; exact hE0
  rw [← hwB]
  have hlB := HLG.out.below hbAB
  have hapB : Apart w2.heap.size wB l d ⟨none, []⟩ s ev := HLG.out.behind (Nat.le_refl _) (by have := hbB.size; omega)
  have hzB : w.heap.size ≤ wB.heap.size := by have := HBB.out; have := hbAB.size; omega
  have hk1 := known1 _ l d _ s ev _ wB hlB hzB (HT.out.below (HB2.out.trans (hbAB.mono HB2.out.size))) HS0.out hE
  refine hk1.mono ?_
  rintro e w3 ⟨rfl, g3, s3, ev3, hl3, hs3, hu3, ho3, hf3⟩
  have hb3 : Below w.heap.size w w3 := (HB2.out.trans (hbAB.mono HB2.out.size)).trans (hlB.low HBB.out.2.2.1 hzB hu3)
  have hr3 := (hapB.keep hu3).trans ((hbB.block w2.heap.size (by omega)).trans hrA)
  have hap3 := hapB.next hu3.size ho3 hf3
  have HL3 := Hid.mk' hl3
  have HS3 := Hid.mk' hs3
  have HB3 := Hid.mk' hb3
  have HR3 := Hid.mk' hr3
  have HA3 := Hid.mk' hap3
  have HZ := Hid.mk' hwB
  clear hk1 hE hE0 hlB hapB hzB hbAB hbB hbA hrA hsA hwA hwB HZ hl3 hs3 hu3 ho3 hf3 hb3 hr3 hap3 HLG HS0
  go_wp2_with fail
  have hE0 := seesE_new w3 [bareE 1 2 0, bareE 2 2 0] (by decide) (fun x hx => by
    rcases List.mem_cons.1 hx with rfl | hx
    · exact ⟨bareE_ok _ _ _ _, by decide, by decide⟩
    · rw [List.mem_singleton.1 hx]; exact ⟨bareE_ok _ _ _ _, by decide, by decide⟩) rfl
  obtain ⟨wC, hwC⟩ : ∃ wC, wC = w3.alloc (.cells #[.int .i64 1, .int .i64 2, .int .i64 0, .slice none 0 0, .int .i64 2, .int .i64 2, .int .i64 0, .slice none 0 0] 60) := ⟨_, rfl⟩
  have hE : SeesE wC (.slice (some ⟨w3.heap.size, 0, none⟩) 2 2) [bareE 1 2 0, bareE 2 2 0] := by rw [hwC]; exact hE0
  have hbC : Below w3.heap.size w3 wC := by rw [hwC]; exact (Below.refl _ _).alloc (Nat.le_refl _) _
  rw [← hwC]
  have hlC := HL3.out.below hbC
  have hapC : Apart w2.heap.size wC l d g3 s3 ev3 := HA3.out.below hbC.size
  have hzC : w.heap.size ≤ wC.heap.size := Nat.le_trans HB3.out.size hbC.size
  have hbwC : Below w.heap.size w wC := HB3.out.trans (hbC.mono HB3.out.size)
  have hk2 := known2 _ l d _ s3 ev3 _ wC hlC hzC (HT.out.below hbwC) HS3.out hE
  refine hk2.mono ?_
  rintro e w4 ⟨rfl, g4, s4, ev4, hl4, hu4, ho4, hf4⟩
  have hb4 : Below w.heap.size w w4 := hbwC.trans (hlC.low HBB.out.2.2.1 hzC hu4)
  have hr4 := (hapC.keep hu4).trans ((hbC.block w2.heap.size HA3.out.lt).trans HR3.out)
  have hx4 : w2.heap.size < w4.heap.size := Nat.lt_of_lt_of_le hapC.lt hu4.size
  have hop := open_any _ d _ _ w4 hl4.dk kp2_readable (HT.out.below hb4)
  have HB4 := Hid.mk' hb4
  have HR4 := Hid.mk' hr4
  have HX4 := Hid.mk' hx4
  clear hk2 hE hE0 hlC hapC hzC hbwC hbC hwC hl4 hu4 ho4 hf4 hb4 hr4 hx4 HL3 HS3 HB3 HR3 HA3
  go_wp2_with fail
  refine hop.mono ?_
  rintro e w5 ⟨l5, s5, ev5, vv5, ev6, xs5, rfl, hL5, hto5, hb5⟩
  have hs5 : s5.es.map Ev.e = [kE 1 2, kE 2 2] := congrArg St.es (hL5.says.trans kp2_says)
  have hxe := hto5.same.trans hs5
  have hn5 : xs5.length = 2 := by have := congrArg List.length hxe; simpa using this
  obtain ⟨vo5, vc5, rfl⟩ := hto5.vot.form
  obtain ⟨ao5, ac5, rfl, _, _⟩ := hto5.row.form
  rw [hn5]
  have hz5 := hb5.size
  have hR5 := (hb5.block w2.heap.size (by exact HX4.out)).trans HR4.out
  obtain ⟨n0, n1, n2, n3, n4, n5, n6⟩ := row7 hR5
  have p0 := frozen_of_row w5 w2.heap.size 0 _ 40 hR5; have p1 := frozen_of_row w5 w2.heap.size 1 _ 40 hR5; have p2 := frozen_of_row w5 w2.heap.size 2 _ 40 hR5; have p3 := frozen_of_row w5 w2.heap.size 3 _ 40 hR5; have p4 := frozen_of_row w5 w2.heap.size 4 _ 40 hR5; have p5 := frozen_of_row w5 w2.heap.size 5 _ 40 hR5; have p6 := frozen_of_row w5 w2.heap.size 6 _ 40 hR5
  have hsee : SeesE w5 (.slice ao5 xs5.length ac5) xs5 := hto5.seesE (fun x hx => by
    have h1 : x.e ∈ s5.es.map Ev.e := List.mem_map_of_mem hx
    rw [hs5] at h1
    rcases List.mem_cons.1 h1 with h | h
    · rw [h]; exact ⟨by decide, by decide⟩
    · rw [List.mem_singleton.1 h]; exact ⟨by decide, by decide⟩)
  obtain ⟨g9, o9, rfl, hi9, ht9, hk9, hv9⟩ := hsee.at_ 0 (by omega)
  clear hi9 hk9 hv9
  have he9 : xs5[0].e.t = 2 := by
    have h1 : (xs5.map Ev.e)[0]? = some (kE 1 2) := by rw [hxe]; rfl
    rw [List.getElem?_map, List.getElem?_eq_getElem (by omega)] at h1
    have h2 : xs5[0].e = kE 1 2 := by simpa using h1
    rw [h2]; rfl
  rw [he9, Nat.zero_mul, Nat.add_zero] at ht9
  have hg9 : g9 ≠ w2.heap.size := fun e => by have h1 := (hto5.row.lt (k := g9) rfl).1; have := HX4.out; omega
  obtain ⟨vl5, hvl⟩ : ∃ n, n = s5.vs.vs.length := ⟨_, rfl⟩
  obtain ⟨y0, hz0⟩ : ∃ n, n = s5.ht := ⟨_, rfl⟩
  obtain ⟨y1, hz1⟩ : ∃ n, n = s5.hv := ⟨_, rfl⟩
  obtain ⟨y2, hz2⟩ : ∃ n, n = s5.hc := ⟨_, rfl⟩
  obtain ⟨y3, hz3⟩ : ∃ n, n = s5.mi := ⟨_, rfl⟩
  obtain ⟨y4, hz4⟩ : ∃ n, n = s5.mt := ⟨_, rfl⟩
  have hUF : Upd w5 _ (fun j => j = w2.heap.size) := (((((((Upd.refl w5 (fun j => j = w2.heap.size)).setCell (p := ⟨w2.heap.size, 0, none⟩) (.inr rfl) (.int .i64 y0)).setCell (p := ⟨w2.heap.size, 1, none⟩) (.inr rfl) (.int .i64 y1)).setCell (p := ⟨w2.heap.size, 2, none⟩) (.inr rfl) (.int .i64 y2)).setCell (p := ⟨w2.heap.size, 3, none⟩) (.inr rfl) (.int .i64 y3)).setCell (p := ⟨w2.heap.size, 4, none⟩) (.inr rfl) (.int .i64 y4)).setCell (p := ⟨w2.heap.size, 5, none⟩) (.inr rfl) (.slice vo5 vl5 vc5)).setCell (p := ⟨w2.heap.size, 6, none⟩) (.inr rfl) (.slice (some ⟨g9, o9, none⟩) 2 ac5)
  have hc9 := (hUF.cell (p := ⟨g9, o9 + 1, none⟩) (hto5.row.lt (k := g9) rfl).2 hg9).trans ht9
  have HUF := Hid.mk' hUF
  have HB5 : Hid (Below w.heap.size w w5) := HB4.out.trans (hb5.mono HB4.out.size)
  have HX2 : Hid (w.heap.size ≤ w2.heap.size ∧ w2.heap.size < w5.heap.size) := ⟨by have := HBB.out; omega, by have := HX4.out; omega⟩
  unfold stVal
  rw [← hvl, ← hz0, ← hz1, ← hz2, ← hz3, ← hz4]
  clear hop hL5 hto5 hb5 hs5 hxe hn5 hz5 hR5 hsee ht9 he9 hg9 hvl hz0 hz1 hz2 hz3 hz4 hUF
  go_wp2_with fail
  go_ret
  exact ⟨rfl, HB5.out.trans (HUF.out.below (by have := HX2.out; omega) (fun k hk e => by have := HX2.out; omega))⟩
end Go.Proofs.YtecnlfalpfbobaaGreatDoor
