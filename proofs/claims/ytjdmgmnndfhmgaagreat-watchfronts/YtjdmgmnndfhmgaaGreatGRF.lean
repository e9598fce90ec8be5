/- Put of one mark more. -/
import Derived.Test.YtjdmgmnndfhmgaaGreatGRE
import Derived.Deep.RegionLaw
namespace Go.Proofs.YtjdmgmnndfhmgaaGreat
open Go Go.RowKit
theorem step_appS {P : Program} (w : World) {ops : Array Oper} {o : Oper} {a : Act} {K : Act → World → Prop} {Q : Exit → Act → World → Prop} {E : Prop} (hgd : o.guard = none) (sl x : Operand) (t tx : TypeId) (ho : o.op = .call { callee := .builtin .append, args := #[sl, x], argTypes := #[t, tx] })
    (base : Nat) (e : TypeId) (i : TypeInfo) (z : Value) (s : Nat) (ht : P.underlying t = some (.slice e)) (hi : P.info? e = some i) (hz : i.zero = some z) (hsize : i.size = s) (hzs : z.cells.size = s) (hby : i.bytes ≤ 1000)
    (v : Value) (n : Nat) (xs : List Value) (hev : a.eval sl = v) (hown : w.ownsRow base e s v n xs) (vx : Value) (hex : a.eval x = vx) (m : Nat) (news : List Value) (hs : Src P s tx vx m news w) (hb : n + m ≤ 1000000000) (hbase : base ≤ w.heap.size)
    (h : ∀ v' w', w'.ownsRow base e s v' (n + m) (xs ++ news) → Upd w w' (fun k => some k = v.ownBlock) → (v'.ownBlock = v.ownBlock ∨ v'.ownBlock = some w.heap.size) → (v.ownBlock ≠ none ∨ 0 < m → v'.ownBlock ≠ none) → K (a.put o.dst v') w') :
    if Region.wanted o (yielded ops a.tmps) = true then Oper.wp P o a w K Q else E := by
  have hw : Region.wanted o (yielded ops a.tmps) = true := by simp [Region.wanted, hgd]
  rw [if_pos hw]
  exact wp_appS w sl x t tx ho base e i z s ht hi hz hsize hzs hby v n xs hev hown vx hex m news hs hb hbase h
theorem put_done {w W0 V w' : World} {x : Nat} {R : List IM} {F : List Nat} {key : ByteArray} {rev : Int} {del : Bool} {g i mg c : Nat} {X Z : List IM} {ms : List Mk} {v' : Value} (H : Ix w x R F) (hb0 : Below w.heap.size w W0) (hA : At W0 x R F key g i mg c X Z ms) (hbV : Below W0.heap.size W0 V) (hu : Upd V w' (fun k => some k = (Value.slice (some ⟨mg, 0, none⟩) ms.length c).ownBlock))
    (ho : w'.ownsRow 0 144 2 v' (ms.length + 1) (mksC ms ++ mkC (rev, del))) (hob : v'.ownBlock = (Value.slice (some ⟨mg, 0, none⟩) ms.length c).ownBlock ∨ v'.ownBlock = some V.heap.size) (he : putE (dat R) key rev del = 0) (hk : lookD (dat R) key = some ms) : PutPost w (w'.setCell ⟨g, i * 2 + 1, none⟩ v') x R F key rev del := by
  have H0 := H.below hb0
  have hM : Mks w' v' (ms ++ [(rev, del)]) := by
    have : mksC (ms ++ [(rev, del)]) = mksC ms ++ mkC (rev, del) := by simp [mksC]
    unfold Mks
    rw [this, List.length_append]; exact ho
  have hmgF : mg ∈ F := by
    obtain ⟨rp, Ft, _, _, hF⟩ := H0.ex
    rw [hF, hA.parts]; simp [ownM, Value.ownBlock]
  have hsz : W0.heap.size ≤ w'.heap.size := Nat.le_trans hbV.size hu.size
  obtain ⟨F', hI, hn, hsub⟩ := hA.put w' (fun k hk hkm => (hu.block k (Nat.lt_of_lt_of_le (H0.lt k hk) hbV.size) (fun e => hkm (by simpa [Value.ownBlock] using e))).trans (hbV.block k (H0.lt k hk))) hsz v' (ms ++ [(rev, del)]) hM (by simp) (hob.imp id (fun h => ⟨_, h, hbV.size⟩))
  refine ⟨_, F', hI, ?_, ?_, hn, fun k hk => (hsub k hk).imp id (fun h => Nat.le_trans hb0.size h), hI.lt⟩
  · rw [hA.set H0.asc, putD, if_pos he, hk]; rfl
  · have u1 : Upd w V (fun k => k ∈ F) := Upd.ofBelow (hb0.trans (hbV.mono hb0.size))
    have u2 : Upd V w' (fun k => k ∈ F) := hu.mono (fun k _ e => by have : k = mg := by simpa [Value.ownBlock] using e
                                                                    rw [this]; exact hmgF)
    exact (u1.trans u2 (fun _ _ h => h)).setCell (.inr hA.inF) _
section
variable {w : World} {x : Nat} {R : List IM} {F : List Nat} (H : Ix w x R F) (key : ByteArray) (rev : Int) (del : Bool) (hks : key.size ≤ 9223372036854775807)
include H hks
set_option maxRecDepth 100000 in
set_option maxHeartbeats 2000000 in
theorem put_moreF (h0 : 0 < key.size) (h1 : key.size ≤ 100) (hr : 1 ≤ rev) (ms : List Mk) (hk : lookD (dat R) key = some ms) (hml : ms.length ≤ 1000000) (hg : (lastM ms).1 < rev) (hd : del = false) :
    Calls Tryz.prog 76 #[ptr x, .string key, .agg #[.int .i64 rev, .bool del]] w fun e w' => e = .returned (.int .i64 (putE (dat R) key rev del)) ∧ PutPost w w' x R F key rev del := by
  have he : putE (dat R) key rev del = 0 := by simp only [putE, hk]; rw [if_neg (by omega)]; rw [if_neg (by omega), hd]; rfl
  rw [he]
  obtain ⟨W0, hW0⟩ : ∃ W0, W0 = w.alloc (.cells #[.int .i64 rev, .bool del] 144) := ⟨_, rfl⟩
  have hb0 : Below w.heap.size w W0 := by rw [hW0]; exact (Below.refl _ w).alloc (Nat.le_refl _) _
  have hr0 : W0.heap[w.heap.size]? = some (.cells #[.int .i64 rev, .bool del] 144 (0, 0)) := by rw [hW0]; exact row_alloc w _ _
  have H0 := H.below hb0
  obtain ⟨rp, Ft, hx, hRt, hFF⟩ := H0.ex
  have c0 := hx.c0
  have u0 : W0.cell? ⟨w.heap.size, 0, none⟩ = some (.int .i64 rev) := by simp [World.cell?, hr0]
  have HU : Hid (∀ W, Below W0.heap.size W0 W → W.cell? ⟨w.heap.size, 0, none⟩ = some (.int .i64 rev) ∧ W.cell? ⟨w.heap.size, 1, none⟩ = some (.bool del) ∧ Below w.heap.size w W) := fun W hb => by
    have := (hb.block _ (Array.getElem?_eq_some_iff.1 hr0).1).trans hr0
    exact ⟨by simp [World.cell?, this], by simp [World.cell?, this], hb0.trans (hb.mono hb0.size)⟩
  have k1 : ¬ (key = ByteArray.empty) := by intro e; rw [e] at h0; simp at h0
  have k2 : ¬ ((100 : Int) < (key.size : Int)) := by omega
  have k3 : ¬ (rev < 1) := by omega
  have hf := find_yes H0 hk c0
  have HL : Hid (∀ (w1 : World) (g i mg c : Nat), Below W0.heap.size W0 w1 → Mks W0 (.slice (some ⟨mg, 0, none⟩) ms.length c) ms → 0 < ms.length → w1.cell? ⟨g, i * 2 + 1, none⟩ = some (.slice (some ⟨mg, 0, none⟩) ms.length c) → Calls Tryz.prog 104 #[.pointer (some ⟨g, i * 2, none⟩)] w1 fun e w' => e = .returned (.agg #[.int .i64 (lastM ms).1, .bool (lastM ms).2]) ∧ Below w1.heap.size w1 w') := fun w1 g i mg c hb hM hp hc =>
    last_any w1 g i mg c ms (lastM ms) hc (ownsRow_upd hM (Upd.ofBelow (S := fun _ => False) hb) (fun _ _ h => h)) (lastM_get hp) hml
  generalize lastM ms = m at *
  obtain ⟨m1, m2⟩ := m
  dsimp only at HL hg
  subst hd
  have k4 : ¬ (rev ≤ m1) := by omega
  clear hr0 hx
  go_enter Tryz.func76, Tryz.ntmps76
  go_upto_region 1 with (fail)
  rw [← hW0]
  clear hW0
  go_wp2_with (first | (go_at_call 95; refine hf.mono ?_; rintro e w1 ⟨g, i, mg, c, X, Z, rfl, hb1, hA, hM, hp, hc1⟩) | (go_at_call 104; refine (HL.out _ _ _ _ _ hb1 hM.out hp hc1).mono ?_; rintro e w2 ⟨rfl, hb2⟩; have hb3 : Below W0.heap.size W0 (w2.alloc (.cells #[.int .i64 m1, .bool m2] 144)) := (hb1.trans (hb2.mono hb1.size)).alloc (by have := hb1.size; have := hb2.size; omega) _; obtain ⟨a0, a1, hbw⟩ := HU.out _ hb3))
  obtain ⟨W3, hW3⟩ : ∃ W3, W3 = w2.alloc (.cells #[.int .i64 m1, .bool m2] 144) := ⟨_, rfl⟩
  rw [← hW3] at hb3 a0 a1 hbw ⊢
  clear hW3 hf hc1 hb1 hb2 c0 u0 k1 k2 k3 k4 hp
  have hgl : g < W0.heap.size := World.block_lt_of_cell? _ _ hA.out.mv
  have hne := hA.out.ne
  have q0 := (hb3.cell (p := ⟨g, i * 2 + 1, none⟩) hgl).trans hA.out.mv
  have q0' : ∀ o, (W3.alloc o).cell? ⟨g, i * 2 + 1, none⟩ = _ := fun o => ((hb3.alloc hb3.size o).cell (p := ⟨g, i * 2 + 1, none⟩) hgl).trans hA.out.mv
  have HMK : Hid (∀ W, Below W3.heap.size W3 W → Mks W (.slice (some ⟨mg, 0, none⟩) ms.length c) ms) := fun W hb => ownsRow_upd hM.out (Upd.ofBelow (S := fun _ => False) (hb3.trans (hb.mono hb3.size))) (fun _ _ h => h)
  have qf := (hb3.frozen (p := ⟨g, i * 2 + 1, none⟩) hgl).trans hA.out.free
  obtain ⟨ti, hti, hz0, hz1, hz2⟩ := info_parts info35
  have HSR : Hid (∀ W, W.heap[W3.heap.size]? = some (.cells #[.int .i64 rev, .bool false] 144 (0, 0)) → Src Tryz.prog 2 141 (.slice (some ⟨W3.heap.size, 0, none⟩) 1 1) 1 (mkC (rev, false)) W) := fun W hr => Src.ofSlice W Tryz.underlying141 ⟨W3.heap.size, 0, none⟩ 1 1 (mkC (rev, false)) rfl (fun j u hj => by
    rw [Addr.add_lit, Nat.zero_add, cell_of_row _ _ _ _ _ _ hr]; simpa [mkC] using hj) (fun u hu => mksC_mem [(rev, false)] u (by simpa [mksC] using hu))
  have HCL : Hid (∀ V w', Below W3.heap.size W3 V → Upd V w' (fun k => some k = (Value.slice (some ⟨mg, 0, none⟩) ms.length c).ownBlock) → w'.cell? ⟨g, i * 2 + 1, none⟩ = some (.slice (some ⟨mg, 0, none⟩) ms.length c) ∧ w'.frozen? ⟨g, i * 2 + 1, none⟩ = false) := fun V w' hb hu => by
    have hg3 : g < W3.heap.size := Nat.lt_of_lt_of_le hgl hb3.size
    have hn : ¬ (some g = (Value.slice (some ⟨mg, 0, none⟩) ms.length c).ownBlock) := fun e => hne (by simpa [Value.ownBlock] using e)
    exact ⟨(hu.cell (p := ⟨g, i * 2 + 1, none⟩) (Nat.lt_of_lt_of_le hg3 hb.size) hn).trans ((hb.cell (p := ⟨g, i * 2 + 1, none⟩) hg3).trans q0), (hu.frozen (p := ⟨g, i * 2 + 1, none⟩) (Nat.lt_of_lt_of_le hg3 hb.size) hn).trans ((hb.frozen (p := ⟨g, i * 2 + 1, none⟩) hg3).trans qf)⟩
  have HB3 : Hid (∀ W, Below W3.heap.size W3 W → Below W0.heap.size W0 W) := fun W hb => hb3.trans (hb.mono hb3.size)
  clear hgl hne hb3 hbw HL HU
  go_region_law (refine step_appS _ rfl _ _ 141 141 rfl 0 144 ti _ 2 Tryz.underlying141 hti hz0 hz1 rfl (by rw [hz2]; omega) (.slice (some ⟨mg, 0, none⟩) ms.length c) ms.length (mksC ms) (by simp [Act.eval]) (HMK.out _ (by first | exact ((Below.refl _ _).drew.alloc (Nat.le_refl _) _) | exact ((Below.refl _ _).alloc (Nat.le_refl _) _).drew)) (.slice (some ⟨W3.heap.size, 0, none⟩) 1 1) (by simp [Act.eval]) 1 (mkC (rev, false)) (HSR.out _ (by first | exact row_alloc _ _ _ | rfl)) (by omega) (Nat.zero_le _) ?_; intro v' w' q1 q2 q3 q4; obtain ⟨g', c', rfl, _, _⟩ := owns_form1 q1 (by omega); obtain ⟨d0, d1⟩ := HCL.out _ _ (by first | exact ((Below.refl _ _).drew.alloc (Nat.le_refl _) _) | exact ((Below.refl _ _).alloc (Nat.le_refl _) _).drew) q2)
  all_goals
    go_wp2
    go_ret
    exact ⟨rfl, put_done H hb0 hA.out (HB3.out _ (by first | exact ((Below.refl _ _).drew.alloc (Nat.le_refl _) _) | exact ((Below.refl _ _).alloc (Nat.le_refl _) _).drew)) q2 q1 q3 he hk⟩
set_option maxRecDepth 100000 in
set_option maxHeartbeats 2000000 in
theorem put_moreT (h0 : 0 < key.size) (h1 : key.size ≤ 100) (hr : 1 ≤ rev) (ms : List Mk) (hk : lookD (dat R) key = some ms) (hml : ms.length ≤ 1000000) (hg : (lastM ms).1 < rev) (hd : del = true) (hl : (lastM ms).2 = false) :
    Calls Tryz.prog 76 #[ptr x, .string key, .agg #[.int .i64 rev, .bool del]] w fun e w' => e = .returned (.int .i64 (putE (dat R) key rev del)) ∧ PutPost w w' x R F key rev del := by
  have he : putE (dat R) key rev del = 0 := by simp only [putE, hk]; rw [if_neg (by omega)]; rw [if_neg (by omega), hd, hl]; rfl
  rw [he]
  obtain ⟨W0, hW0⟩ : ∃ W0, W0 = w.alloc (.cells #[.int .i64 rev, .bool del] 144) := ⟨_, rfl⟩
  have hb0 : Below w.heap.size w W0 := by rw [hW0]; exact (Below.refl _ w).alloc (Nat.le_refl _) _
  have hr0 : W0.heap[w.heap.size]? = some (.cells #[.int .i64 rev, .bool del] 144 (0, 0)) := by rw [hW0]; exact row_alloc w _ _
  have H0 := H.below hb0
  obtain ⟨rp, Ft, hx, hRt, hFF⟩ := H0.ex
  have c0 := hx.c0
  have u0 : W0.cell? ⟨w.heap.size, 0, none⟩ = some (.int .i64 rev) := by simp [World.cell?, hr0]
  have HU : Hid (∀ W, Below W0.heap.size W0 W → W.cell? ⟨w.heap.size, 0, none⟩ = some (.int .i64 rev) ∧ W.cell? ⟨w.heap.size, 1, none⟩ = some (.bool del) ∧ Below w.heap.size w W) := fun W hb => by
    have := (hb.block _ (Array.getElem?_eq_some_iff.1 hr0).1).trans hr0
    exact ⟨by simp [World.cell?, this], by simp [World.cell?, this], hb0.trans (hb.mono hb0.size)⟩
  have k1 : ¬ (key = ByteArray.empty) := by intro e; rw [e] at h0; simp at h0
  have k2 : ¬ ((100 : Int) < (key.size : Int)) := by omega
  have k3 : ¬ (rev < 1) := by omega
  have hf := find_yes H0 hk c0
  have HL : Hid (∀ (w1 : World) (g i mg c : Nat), Below W0.heap.size W0 w1 → Mks W0 (.slice (some ⟨mg, 0, none⟩) ms.length c) ms → 0 < ms.length → w1.cell? ⟨g, i * 2 + 1, none⟩ = some (.slice (some ⟨mg, 0, none⟩) ms.length c) → Calls Tryz.prog 104 #[.pointer (some ⟨g, i * 2, none⟩)] w1 fun e w' => e = .returned (.agg #[.int .i64 (lastM ms).1, .bool (lastM ms).2]) ∧ Below w1.heap.size w1 w') := fun w1 g i mg c hb hM hp hc =>
    last_any w1 g i mg c ms (lastM ms) hc (ownsRow_upd hM (Upd.ofBelow (S := fun _ => False) hb) (fun _ _ h => h)) (lastM_get hp) hml
  generalize lastM ms = m at *
  obtain ⟨m1, m2⟩ := m
  dsimp only at HL hg hl
  subst hd hl
  have k4 : ¬ (rev ≤ m1) := by omega
  clear hr0 hx
  go_enter Tryz.func76, Tryz.ntmps76
  go_upto_region 1 with (fail)
  rw [← hW0]
  clear hW0
  go_wp2_with (first | (go_at_call 95; refine hf.mono ?_; rintro e w1 ⟨g, i, mg, c, X, Z, rfl, hb1, hA, hM, hp, hc1⟩) | (go_at_call 104; refine (HL.out _ _ _ _ _ hb1 hM.out hp hc1).mono ?_; rintro e w2 ⟨rfl, hb2⟩; have hb3 : Below W0.heap.size W0 (w2.alloc (.cells #[.int .i64 m1, .bool false] 144)) := (hb1.trans (hb2.mono hb1.size)).alloc (by have := hb1.size; have := hb2.size; omega) _; obtain ⟨a0, a1, hbw⟩ := HU.out _ hb3))
  obtain ⟨W3, hW3⟩ : ∃ W3, W3 = w2.alloc (.cells #[.int .i64 m1, .bool false] 144) := ⟨_, rfl⟩
  rw [← hW3] at hb3 a0 a1 hbw ⊢
  clear hW3 hf hc1 hb1 hb2 c0 u0 k1 k2 k3 k4 hp
  have hgl : g < W0.heap.size := World.block_lt_of_cell? _ _ hA.out.mv
  have hne := hA.out.ne
  have q0 := (hb3.cell (p := ⟨g, i * 2 + 1, none⟩) hgl).trans hA.out.mv
  have q0' : ∀ o, (W3.alloc o).cell? ⟨g, i * 2 + 1, none⟩ = _ := fun o => ((hb3.alloc hb3.size o).cell (p := ⟨g, i * 2 + 1, none⟩) hgl).trans hA.out.mv
  have HMK : Hid (∀ W, Below W3.heap.size W3 W → Mks W (.slice (some ⟨mg, 0, none⟩) ms.length c) ms) := fun W hb => ownsRow_upd hM.out (Upd.ofBelow (S := fun _ => False) (hb3.trans (hb.mono hb3.size))) (fun _ _ h => h)
  have qf := (hb3.frozen (p := ⟨g, i * 2 + 1, none⟩) hgl).trans hA.out.free
  obtain ⟨ti, hti, hz0, hz1, hz2⟩ := info_parts info35
  have HSR : Hid (∀ W, W.heap[W3.heap.size]? = some (.cells #[.int .i64 rev, .bool true] 144 (0, 0)) → Src Tryz.prog 2 141 (.slice (some ⟨W3.heap.size, 0, none⟩) 1 1) 1 (mkC (rev, true)) W) := fun W hr => Src.ofSlice W Tryz.underlying141 ⟨W3.heap.size, 0, none⟩ 1 1 (mkC (rev, true)) rfl (fun j u hj => by
    rw [Addr.add_lit, Nat.zero_add, cell_of_row _ _ _ _ _ _ hr]; simpa [mkC] using hj) (fun u hu => mksC_mem [(rev, true)] u (by simpa [mksC] using hu))
  have HCL : Hid (∀ V w', Below W3.heap.size W3 V → Upd V w' (fun k => some k = (Value.slice (some ⟨mg, 0, none⟩) ms.length c).ownBlock) → w'.cell? ⟨g, i * 2 + 1, none⟩ = some (.slice (some ⟨mg, 0, none⟩) ms.length c) ∧ w'.frozen? ⟨g, i * 2 + 1, none⟩ = false) := fun V w' hb hu => by
    have hg3 : g < W3.heap.size := Nat.lt_of_lt_of_le hgl hb3.size
    have hn : ¬ (some g = (Value.slice (some ⟨mg, 0, none⟩) ms.length c).ownBlock) := fun e => hne (by simpa [Value.ownBlock] using e)
    exact ⟨(hu.cell (p := ⟨g, i * 2 + 1, none⟩) (Nat.lt_of_lt_of_le hg3 hb.size) hn).trans ((hb.cell (p := ⟨g, i * 2 + 1, none⟩) hg3).trans q0), (hu.frozen (p := ⟨g, i * 2 + 1, none⟩) (Nat.lt_of_lt_of_le hg3 hb.size) hn).trans ((hb.frozen (p := ⟨g, i * 2 + 1, none⟩) hg3).trans qf)⟩
  have HB3 : Hid (∀ W, Below W3.heap.size W3 W → Below W0.heap.size W0 W) := fun W hb => hb3.trans (hb.mono hb3.size)
  clear hgl hne hb3 hbw HL HU
  go_region_law (refine step_appS _ rfl _ _ 141 141 rfl 0 144 ti _ 2 Tryz.underlying141 hti hz0 hz1 rfl (by rw [hz2]; omega) (.slice (some ⟨mg, 0, none⟩) ms.length c) ms.length (mksC ms) (by simp [Act.eval]) (HMK.out _ (by first | exact ((Below.refl _ _).drew.alloc (Nat.le_refl _) _) | exact ((Below.refl _ _).alloc (Nat.le_refl _) _).drew)) (.slice (some ⟨W3.heap.size, 0, none⟩) 1 1) (by simp [Act.eval]) 1 (mkC (rev, true)) (HSR.out _ (by first | exact row_alloc _ _ _ | rfl)) (by omega) (Nat.zero_le _) ?_; intro v' w' q1 q2 q3 q4; obtain ⟨g', c', rfl, _, _⟩ := owns_form1 q1 (by omega); obtain ⟨d0, d1⟩ := HCL.out _ _ (by first | exact ((Below.refl _ _).drew.alloc (Nat.le_refl _) _) | exact ((Below.refl _ _).alloc (Nat.le_refl _) _).drew) q2)
  all_goals
    go_wp2
    go_ret
    exact ⟨rfl, put_done H hb0 hA.out (HB3.out _ (by first | exact ((Below.refl _ _).drew.alloc (Nat.le_refl _) _) | exact ((Below.refl _ _).alloc (Nat.le_refl _) _).drew)) q2 q1 q3 he hk⟩
end
end Go.Proofs.YtjdmgmnndfhmgaaGreat
/- Put of a new key; Put, whatever it is handed. -/
namespace Go.Proofs.YtjdmgmnndfhmgaaGreat
open Go Go.RowKit

theorem put_add {w V : World} {x : Nat} {R : List IM} {F : List Nat} (H : Ix w x R F) (hb : Below w.heap.size w V) (hR : R.length ≤ 1000000) {key : ByteArray} {rev : Int} (hk : key ∉ keysR R) (he : putE (dat R) key rev false = 0) {mb : Nat} (hmw : w.heap.size ≤ mb) (hr : V.heap[mb]? = some (.cells #[.int .i64 rev, .bool false] 144 (0, 0))) :
    Calls Tryz.prog 105 #[ptr x, .agg #[.string key, .slice (some ⟨mb, 0, none⟩) 1 1]] V fun e w' => e = .returned (.tuple #[]) ∧ PutPost w w' x R F key rev false := by
  have HV := H.below hb
  obtain ⟨rp, Ft, hx, hRt, hF⟩ := HV.ex
  have hnd := HV.nd
  rw [hF] at hnd
  have hnd2 : (x :: Ft).Nodup := by
    have h2 : ((x :: Ft) ++ R.flatMap ownM).Nodup := by simpa using hnd
    exact (List.nodup_append.1 h2).1
  have hM : Mks V (.slice (some ⟨mb, 0, none⟩) 1 1) [(rev, false)] := owns_of_row hr (Nat.le_refl _) (by unfold maxLen; omega) rfl rfl rfl
  refine (iadd_any hx hRt hnd2 (by rw [keysI_map]; exact HV.asc) ⟨key, .slice (some ⟨mb, 0, none⟩) 1 1⟩ ⟨_, _, _, rfl⟩ (by omega) (by omega)).mono ?_
  rintro e w' ⟨rfl, rp', F', hx', hR', hs⟩
  obtain ⟨F2, hI, hS⟩ := H.added hb hF ⟨⟨key, .slice (some ⟨mb, 0, none⟩) 1 1⟩, [(rev, false)]⟩ rfl hmw (Array.getElem?_eq_some_iff.1 hr).1 hM (by simp) hk hx' hR' hs
  refine ⟨rfl, _, F2, hI, ?_, hS⟩
  rw [insR_dat _ _ hk, putD, if_pos he, lookR_none hk]
  rfl
section
variable {w : World} {x : Nat} {R : List IM} {F : List Nat} (H : Ix w x R F) (key : ByteArray) (rev : Int) (del : Bool) (hks : key.size ≤ 9223372036854775807)
include H hks
set_option maxRecDepth 100000 in
set_option maxHeartbeats 2000000 in
theorem put_new (h0 : 0 < key.size) (h1 : key.size ≤ 100) (hr : 1 ≤ rev) (hd : del = false) (hk : key ∉ keysR R) (hR : R.length ≤ 1000000) :
    Calls Tryz.prog 76 #[ptr x, .string key, .agg #[.int .i64 rev, .bool del]] w fun e w' => e = .returned (.int .i64 (putE (dat R) key rev del)) ∧ PutPost w w' x R F key rev del := by
  have he : putE (dat R) key rev del = 0 := by simp only [putE, lookR_none hk, hd]; rw [if_neg (by omega)]; rfl
  rw [he]
  obtain ⟨W0, hW0⟩ : ∃ W0, W0 = w.alloc (.cells #[.int .i64 rev, .bool del] 144) := ⟨_, rfl⟩
  have hb0 : Below w.heap.size w W0 := by rw [hW0]; exact (Below.refl _ w).alloc (Nat.le_refl _) _
  have hr0 : W0.heap[w.heap.size]? = some (.cells #[.int .i64 rev, .bool del] 144 (0, 0)) := by rw [hW0]; exact row_alloc w _ _
  have hz0 : W0.heap.size = w.heap.size + 1 := by rw [hW0]; simp
  have H0 := H.below hb0
  obtain ⟨rp, Ft, hx, _, _⟩ := H0.ex
  have c0 := hx.c0
  have hf := find_no H0 hk c0
  have u0 : W0.cell? ⟨w.heap.size, 0, none⟩ = some (.int .i64 rev) := by simp [World.cell?, hr0]
  have HU : Hid (∀ W, Below W0.heap.size W0 W → W.cell? ⟨w.heap.size, 0, none⟩ = some (.int .i64 rev) ∧ W.cell? ⟨w.heap.size, 1, none⟩ = some (.bool del) ∧ Below w.heap.size w W) := fun W hb => by
    have := (hb.block _ (Array.getElem?_eq_some_iff.1 hr0).1).trans hr0
    exact ⟨by simp [World.cell?, this], by simp [World.cell?, this], hb0.trans (hb.mono hb0.size)⟩
  have k1 : ¬ (key = ByteArray.empty) := by intro e; rw [e] at h0; simp at h0
  have k2 : ¬ ((100 : Int) < (key.size : Int)) := by omega
  have k3 : ¬ (rev < 1) := by omega
  have k4 : ¬ (rev ≤ 0) := by omega
  subst hd
  have HADD : Hid (∀ V mb, Below W0.heap.size W0 V → w.heap.size ≤ mb → V.heap[mb]? = some (.cells #[.int .i64 rev, .bool false] 144 (0, 0)) → Calls Tryz.prog 105 #[ptr x, .agg #[.string key, .slice (some ⟨mb, 0, none⟩) 1 1]] V fun e w' => e = .returned (.tuple #[]) ∧ PutPost w w' x R F key rev false) :=
    fun V mb hb hm hr => put_add H (hb0.trans (hb.mono hb0.size)) hR hk he hm hr
  clear H H0 hx he hr0 hk
  go_enter Tryz.func76, Tryz.ntmps76
  go_upto_region 1 with (fail)
  rw [← hW0]
  clear hW0
  go_wp2_with (first | (go_at_call 95; refine hf.mono ?_; rintro e w1 ⟨rfl, hb1⟩) | (go_at_call 104; refine (last_nil _).mono ?_; rintro e w2 ⟨rfl, hb2⟩; have hb3 : Below W0.heap.size W0 (w2.alloc (.cells #[.int .i64 0, .bool true] 144)) := (hb1.trans (hb2.mono hb1.size)).alloc (by have := hb1.size; have := hb2.size; omega) _; obtain ⟨a0, a1, hbw⟩ := HU.out _ hb3))
  obtain ⟨W3, hW3⟩ : ∃ W3, W3 = w2.alloc (.cells #[.int .i64 0, .bool true] 144) := ⟨_, rfl⟩
  rw [← hW3] at hb3 a0 a1 hbw ⊢
  clear hW3 hf hb1 hb2 c0 u0 k1 k2 k3 k4
  have hz3 := hb3.size
  have HCELL : Hid (∀ w5, Below W3.heap.size W3 w5 → w5.cell? ⟨w.heap.size, 0, none⟩ = some (.int .i64 rev) ∧ w5.cell? ⟨w.heap.size, 1, none⟩ = some (.bool false)) := fun w5 hb => by
    obtain ⟨q0, q1, _⟩ := HU.out w5 (hb3.trans (hb.mono hb3.size))
    exact ⟨q0, q1⟩
  have hC := fun V => sclone key V h0 (by omega)
  go_region_with (first
    | (go_at_call 45; refine (hC _).mono ?_; rintro e w5 ⟨rfl, hb5⟩; obtain ⟨s0, s1⟩ := HCELL.out w5 (by first | exact ((Below.refl _ W3).drew.trans hb5) | exact (((Below.refl _ W3).alloc (Nat.le_refl _) _).drew.trans (hb5.mono (by simp)))); have hz5 : W3.heap.size ≤ w5.heap.size := (by have := hb5.size; simp at this; omega))
    | (go_at_call 105; refine (HADD.out _ _ (by first | exact hb3.trans ((((Below.refl _ W3).drew.trans hb5).alloc hz5 _).mono hz3) | exact hb3.trans ((((Below.refl _ W3).alloc (Nat.le_refl _) _).drew.trans (hb5.mono (by simp))).mono hz3)) (by omega) (by first | exact row_alloc _ _ _ | exact (hb5.block _ (by simp)).trans (row_alloc W3 _ _))).mono ?_; rintro e w6 ⟨rfl, hP⟩))
  all_goals
    go_wp2
    go_ret
    exact ⟨rfl, hP⟩
/-- Put. -/
theorem put_any (hrv : -9223372036854775808 ≤ rev ∧ rev ≤ 9223372036854775807) (hR : R.length ≤ 1000000) (hms : ∀ r ∈ R, r.ms.length ≤ 1000000) :
    Calls Tryz.prog 76 #[ptr x, .string key, .agg #[.int .i64 rev, .bool del]] w fun e w' => e = .returned (.int .i64 (putE (dat R) key rev del)) ∧ PutPost w w' x R F key rev del := by
  by_cases hbad : key.size = 0 ∨ 100 < key.size ∨ rev < 1
  · exact put_bad H key rev del hks hbad
  · have h0 : 0 < key.size := by omega
    have h1 : key.size ≤ 100 := by omega
    have hr : 1 ≤ rev := by omega
    rcases look_or R key H.asc with hk | ⟨ms, hk⟩
    · cases hd : del
      · exact put_new H key rev false hks h0 h1 hr rfl hk hR
      · exact put_no H key rev true hks h0 h1 hr rfl hk
    · have hml : ms.length ≤ 1000000 := by
        have : (key, ms) ∈ dat R := by
          clear hms
          have : ∀ D : Dat, lookD D key = some ms → (key, ms) ∈ D := by
            intro D
            induction D with
            | nil => intro h; cases h
            | cons p D ih =>
              intro h
              unfold lookD at h
              split at h
              · rename_i e; cases h; rw [← e]; simp
              · exact List.mem_cons_of_mem _ (ih h)
          exact this _ hk
        obtain ⟨r, hr', e⟩ := List.mem_map.1 this
        cases e
        exact hms r hr'
      by_cases hg : rev ≤ (lastM ms).1
      · exact put_gap H key rev del hks h0 h1 hr ms hk hml hg
      · cases hd : del
        · exact put_moreF H key rev false hks h0 h1 hr ms hk hml (by omega) rfl
        · cases hl : (lastM ms).2
          · exact put_moreT H key rev true hks h0 h1 hr ms hk hml (by omega) rfl hl
          · exact put_twice H key rev true hks h0 h1 hr ms hk hml (by omega) rfl hl
end
end Go.Proofs.YtjdmgmnndfhmgaaGreat
/- New, Len, Marks. -/
namespace Go.Proofs.YtjdmgmnndfhmgaaGreat
open Go Go.RowKit

set_option maxRecDepth 100000 in
theorem new_any (w : World) : Calls Tryz.prog 35 #[] w fun e w' => e = .returned (ptr w.heap.size) ∧ Ix w' w.heap.size [] [w.heap.size] ∧ Below w.heap.size w w' ∧ w'.heap.size = w.heap.size + 1 := by
  have HI : Hid (Ix (w.alloc (.cells #[.pointer none, .int .i64 0] 125)) w.heap.size [] [w.heap.size]) := ⟨⟨none, [], row_alloc w _ _, .inl ⟨rfl, rfl, rfl⟩, by simp⟩, trivial, by simp, by simp⟩
  go_enter Tryz.func35, Tryz.ntmps35
  go_wp2
  go_ret
  exact ⟨rfl, HI.out, (Below.refl _ _).alloc (Nat.le_refl _) _, by simp⟩
/-- What Marks answers: a row of its own. -/
def MarksPost (w w' : World) (v : Value) (ms : List Mk) : Prop := (∃ p c, v = .slice p ms.length c ∧ (∀ g, v.ownBlock = some g → w.heap.size ≤ g)) ∧ Mks w' v ms ∧ Below w.heap.size w w'
set_option maxRecDepth 100000 in
set_option maxHeartbeats 1000000 in
theorem marks_no {w : World} {x : Nat} {R : List IM} {F : List Nat} (H : Ix w x R F) (key : ByteArray) (hk : key ∉ keysR R) : Calls Tryz.prog 72 #[ptr x, .string key] w fun e w' => e = .returned (.slice none 0 0) ∧ Below w.heap.size w w' := by
  obtain ⟨rp, Ft, hx, _, _⟩ := H.ex
  have c0 := hx.c0
  have hf := find_no H hk c0
  clear H hx
  go_enter Tryz.func72, Tryz.ntmps72
  go_wp2_with (go_at_call 95; refine hf.mono ?_; rintro e w1 ⟨rfl, hb1⟩)
  go_ret
  exact ⟨rfl, hb1⟩
set_option maxRecDepth 100000 in
set_option maxHeartbeats 1000000 in
theorem marks_yes {w : World} {x : Nat} {R : List IM} {F : List Nat} (H : Ix w x R F) (key : ByteArray) (ms : List Mk) (hk : lookD (dat R) key = some ms) (hml : ms.length ≤ 1000000) : Calls Tryz.prog 72 #[ptr x, .string key] w fun e w' => ∃ v, e = .returned v ∧ MarksPost w w' v ms := by
  obtain ⟨rp, Ft, hx, _, _⟩ := H.ex
  have c0 := hx.c0
  have hf := find_yes H hk c0
  have HF : Hid (∀ w1 mg c, Below w.heap.size w w1 → Mks w (.slice (some ⟨mg, 0, none⟩) ms.length c) ms → 0 < ms.length → Calls Tryz.prog 96 #[.slice (some ⟨mg, 0, none⟩) ms.length c] w1 fun e w' => e = .returned (.slice (some ⟨w1.heap.size, 0, none⟩) ms.length ms.length) ∧ MarksPost w w' (.slice (some ⟨w1.heap.size, 0, none⟩) ms.length ms.length) ms) := fun w1 mg c hb hM hp => by
    have hM1 : Mks w1 (.slice (some ⟨mg, 0, none⟩) ms.length c) ms := ownsRow_upd hM (Upd.ofBelow (S := fun _ => False) hb) (fun _ _ h => h)
    refine (freshM mg 0 ms.length c (mksC ms) w1 hml hp (mksC_len ms) (fun j v hj => ?_) (mksC_mem ms)).mono ?_
    · have := hM1.cells (g := mg) rfl _ _ hj
      simpa only [Addr.add_lit] using this
    · rintro e w' ⟨rfl, hr, hz, hb'⟩
      refine ⟨rfl, ⟨_, _, rfl, fun g hg => ?_⟩, owns_of_row hr (Nat.le_refl _) (by unfold maxLen; omega) (by simp [mksC_len]) (List.take_of_length_le (by simp [mksC_len])) (mksC_len ms), hb.trans (hb'.mono hb.size)⟩
      simp [Value.ownBlock] at hg
      rw [← hg]; exact hb.size
  clear H hx
  go_enter Tryz.func72, Tryz.ntmps72
  go_wp2_with (first | (go_at_call 95; refine hf.mono ?_; rintro e w1 ⟨g, i, mg, c, X, Z, rfl, hb1, hA, hM, hp, hc1⟩) | (go_at_call 96; refine (HF.out _ _ _ hb1 hM.out hp).mono ?_; rintro e w2 ⟨rfl, hP⟩))
  go_ret
  exact ⟨_, rfl, hP⟩
end Go.Proofs.YtjdmgmnndfhmgaaGreat
/- from: what a range over it is handed. -/
namespace Go.Proofs.YtjdmgmnndfhmgaaGreat
open Go Go.RowKit Go.Shelf
attribute [local go_sem] Oper.semAt_some

set_option maxRecDepth 100000 in
set_option maxHeartbeats 1000000 in
theorem from_in (n : Nat) (rp : Option Addr) (lo : ByteArray) (w : World) : CallsIn Fence.wide n Tryz.prog 73 #[.pointer rp, .string lo] w fun e w' => e = .returned (.func (.func 97) #[] #[.pointer (some ⟨w.heap.size, 0, none⟩), .pointer (some ⟨w.heap.size + 1, 0, none⟩)]) ∧ w' = (w.alloc (.cells #[.pointer rp] 123)).alloc (.cells #[.string lo] 9) := by
  refine callsIn_of_wp Tryz.func73 rfl trivial ?_ rfl
  simp only [Tryz.ntmps73, List.size_toArray, List.length_cons, List.length_nil, Nat.reduceAdd, Nat.reduceSub, Array.replicate_succ, Array.replicate_zero, List.push_toArray, List.append_toArray, List.nil_append, List.cons_append]
  gi_wp2
  go_ret
  exact ⟨rfl, rfl⟩
def KpS (w0 : World) (F : List Nat) (W W' : World) : Prop := KpT w0 F W W' ∧ W.heap.size ≤ W'.heap.size
theorem KpS.t {w0 : World} {F : List Nat} {A B C : World} (h : KpS w0 F A B) (k : KpS w0 F B C) : KpS w0 F A C := ⟨h.1.trans k.1, Nat.le_trans h.2 k.2⟩
theorem KpS.b {w0 : World} {F : List Nat} {n0 : Nat} (hF : ∀ k ∈ F, k < n0) (W : World) (l : Nat) (o' : Obj) (hl : n0 ≤ l) : KpS w0 F W (W.putObj l o') := by
  have hg := grownBy_putObj' W l o'
  refine ⟨fun p hp => ?_, hg.size⟩
  by_cases hlt : p.block < W.heap.size
  · have := World.cell?_of_block (w := W) (a := p) (hg.block p.block hlt (fun e => by have h1 := hF _ hp; have h2 : p.block = l := (by simpa using e); omega))
    exact ⟨fun _ => this, fun h => by rw [this]; exact h⟩
  · have h0 : W.cell? p = none := by
      cases hc : W.cell? p with
      | none => rfl
      | some v => exact absurd (World.block_lt_of_cell? _ _ hc) hlt
    have hz : (W.putObj l o').heap.size = W.heap.size := by simp [World.putObj]
    have h1 : (W.putObj l o').cell? p = none := by
      cases hc : (W.putObj l o').cell? p with
      | none => rfl
      | some v => have := World.block_lt_of_cell? _ _ hc; omega
    exact ⟨fun _ => by rw [h0, h1], fun h => by rw [h0] at h; cases h⟩
theorem grown_of_below {W W' : World} (h : Below W.heap.size W W') : W.grownBy W' none := ⟨h.os, h.tape, h.output, h.size, fun k hk _ => h.block k hk⟩

set_option maxRecDepth 100000 in
set_option maxHeartbeats 1000000 in
theorem seq_tre {w0 : World} {h b : Nat} {its L : List Itm} {F : List Nat} (ht : Tre w0 h b its L F) (hnd : F.Nodup) (ha : Asc (keysI L)) (h1 : 1 ≤ its.length) (h5 : its.length ≤ 5) (lo : ByteArray) (n B1 B2 : Nat) (w : World) (hb0 : Below w0.heap.size w0 w)
    (hc1 : w.cell? ⟨B1, 0, none⟩ = some (ptr b)) (hc2 : w.cell? ⟨B2, 0, none⟩ = some (.string lo)) :
    SeqStopsK Fence.wide n Tryz.prog 97 #[.pointer (some ⟨B1, 0, none⟩), .pointer (some ⟨B2, 0, none⟩)] (fun x : SlotA w0 h b its.length L F => #[Value.pointer (some (encA x))]) (KpS w0 F) (fun ys => ys.map (fun x => x.it) = filt lo L) (fun pre => pre.map (fun x => x.it) <+: filt lo L) (filt lo L).length w := by
  intro l J Jx W hW hJ hJx hY h0
  have hFl := ht.lt
  have hdd : ∀ k : Nat, (Fence.wide.depth.isSome = true → 1 ≤ k) := fun k h => by cases h
  have hKW : KKT w0 F W := ⟨KpT.of_block fun k hk => ((hW.block k (Nat.lt_of_lt_of_le (hFl k hk) hb0.size)).trans (hb0.block k (hFl k hk))), Nat.le_trans hb0.size hW.size⟩
  have hp := walk_tre l (filt lo L).length lo J Jx (fun pre W W' hj hb => hJ pre W W' none hj (grown_of_below hb) (fun r e => by cases e)) hFl
    (fun m pre x W1 hj hk hlt => YieldAt.mono (YieldAt.anyDepth' rfl m (hY pre x W1 hj hlt)) fun e W' h => h.imp (fun ⟨a, b, c⟩ => ⟨a, b, hk.1.trans c.1, Nat.le_trans hk.2 c.2⟩) id)
    h b its L F ht (fun _ h => h) (fun _ _ _ h hl => ⟨h, hl⟩) hnd ha h1 h5 (n - 1) [] W hKW h0 (by simp)
  have d1 := (hW.cell (p := ⟨B1, 0, none⟩) (World.block_lt_of_cell? _ _ hc1)).trans hc1
  have d2 := (hW.cell (p := ⟨B2, 0, none⟩) (World.block_lt_of_cell? _ _ hc2)).trans hc2
  refine callsIn_of_wp Tryz.func97 rfl trivial ?_ rfl
  simp only [Tryz.ntmps97, List.size_toArray, List.length_cons, List.length_nil, Nat.reduceAdd, Nat.reduceSub, Array.replicate_succ, Array.replicate_zero, List.push_toArray, List.append_toArray, List.nil_append, List.cons_append]
  clear hY hJ hJx h0 hKW
  gi_wp2_with (refine ⟨trivial, hdd _, ?_⟩; gi_at_call 98; refine hp.mono ?_; clear hp; rintro e W1 (⟨rfl, ys, hy, hJ1, _⟩ | ⟨rfl, ys, hy, hx⟩))
  · go_end0
    exact ⟨⟨_, rfl⟩, .inl ⟨ys, hy, by simpa using hJ1⟩⟩
  · go_end0
    exact ⟨⟨_, rfl⟩, .inr ⟨ys, hy, by simpa using hx⟩⟩
set_option maxRecDepth 100000 in
set_option maxHeartbeats 1000000 in
theorem seq_nil (w0 : World) (h b n' : Nat) (F : List Nat) (lo : ByteArray) (n B1 B2 : Nat) (w : World) (hc1 : w.cell? ⟨B1, 0, none⟩ = some (.pointer none)) (hc2 : w.cell? ⟨B2, 0, none⟩ = some (.string lo)) :
    SeqStopsK Fence.wide n Tryz.prog 97 #[.pointer (some ⟨B1, 0, none⟩), .pointer (some ⟨B2, 0, none⟩)] (fun x : SlotA w0 h b n' [] F => #[Value.pointer (some (encA x))]) (KpS w0 F) (fun ys => ys.map (fun x => x.it) = filt lo []) (fun pre => pre.map (fun x => x.it) <+: filt lo []) (filt lo []).length w := by
  intro l J Jx W hW hJ hJx hY h0
  have hdd : ∀ k : Nat, (Fence.wide.depth.isSome = true → 1 ≤ k) := fun k h => by cases h
  have d1 := (hW.cell (p := ⟨B1, 0, none⟩) (World.block_lt_of_cell? _ _ hc1)).trans hc1
  have d2 := (hW.cell (p := ⟨B2, 0, none⟩) (World.block_lt_of_cell? _ _ hc2)).trans hc2
  have hp := walk_nil l lo (n - 1) W
  have HJ := Hid.mk'' h0
  refine callsIn_of_wp Tryz.func97 rfl trivial ?_ rfl
  simp only [Tryz.ntmps97, List.size_toArray, List.length_cons, List.length_nil, Nat.reduceAdd, Nat.reduceSub, Array.replicate_succ, Array.replicate_zero, List.push_toArray, List.append_toArray, List.nil_append, List.cons_append]
  clear hY hJ hJx h0
  gi_wp2_with (refine ⟨trivial, hdd _, ?_⟩; gi_at_call 98; refine hp.mono ?_; clear hp; rintro e W1 ⟨rfl, rfl⟩)
  go_end0
  exact ⟨⟨_, rfl⟩, .inl ⟨[], rfl, HJ.out⟩⟩
/-- A range over an index's root, whatever it is. -/
theorem seq_root {w0 : World} {rp : Option Addr} {L : List Itm} {F : List Nat} (hR : Root w0 rp L F) (hnd : F.Nodup) (ha : Asc (keysI L)) (lo : ByteArray) (n B1 B2 : Nat) (w : World) (hb0 : Below w0.heap.size w0 w)
    (hc1 : w.cell? ⟨B1, 0, none⟩ = some (.pointer rp)) (hc2 : w.cell? ⟨B2, 0, none⟩ = some (.string lo)) :
    ∃ h b n', (L ≠ [] → rp = some ⟨b, 0, none⟩ ∧ 1 ≤ n' ∧ n' ≤ 4) ∧ SeqStopsK Fence.wide n Tryz.prog 97 #[.pointer (some ⟨B1, 0, none⟩), .pointer (some ⟨B2, 0, none⟩)] (fun x : SlotA w0 h b n' L F => #[Value.pointer (some (encA x))]) (KpS w0 F) (fun ys => ys.map (fun x => x.it) = filt lo L) (fun pre => pre.map (fun x => x.it) <+: filt lo L) (filt lo L).length w := by
  rcases hR with ⟨rfl, rfl, rfl⟩ | ⟨h, b, its, rfl, ht, h1, h4⟩
  · exact ⟨0, 0, 0, fun h => absurd rfl h, seq_nil w0 0 0 0 [] lo n B1 B2 w hc1 hc2⟩
  · exact ⟨h, b, its.length, fun _ => ⟨rfl, h1, h4⟩, seq_tre ht hnd ha h1 (by omega) lo n B1 B2 w hb0 hc1 hc2⟩
/-- What the law of a range does to blocks of cells: nothing. -/
theorem grown_cells {W W' : World} {row : Option Nat} {B : Nat} (hg : W.grownBy W' row) (hr : ∀ r, row = some r → B ≤ r ∧ ∃ o : Obj, W.heap[r]? = some o ∧ o.isCells = false) {k : Nat} {c : Array Value} {t : TypeId} {f : Nat × Nat} (hk : W.heap[k]? = some (.cells c t f)) : W'.heap[k]? = some (.cells c t f) := by
  rw [← hk]
  refine hg.block k (Array.getElem?_eq_some_iff.1 hk).1 (fun e => ?_)
  obtain ⟨_, o, ho, hc⟩ := hr k e.symm
  rw [hk] at ho
  cases ho
  cases hc
theorem ownsRow_grown {W W' : World} {row : Option Nat} {B : Nat} (hg : W.grownBy W' row) (hr : ∀ r, row = some r → B ≤ r ∧ ∃ o : Obj, W.heap[r]? = some o ∧ o.isCells = false) {base e s n : Nat} {v : Value} {xs : List Value} (h : W.ownsRow base e s v n xs) : W'.ownsRow base e s v n xs := by
  obtain ⟨h1, h2⟩ := h
  refine ⟨h1, ?_⟩
  rcases h2 with h2 | ⟨g, cap, cur, rfl, hb, hh, r⟩
  · exact .inl h2
  · exact .inr ⟨g, cap, cur, rfl, hb, grown_cells hg hr hh, r⟩
end Go.Proofs.YtjdmgmnndfhmgaaGreat
