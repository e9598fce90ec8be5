/- Put of one mark more. -/
import Derived.Test.YteeflkkoifgcbaaE8
import Derived.Deep.RegionLaw
namespace Go.Proofs.Yteeflkkoifgcbaa
open Go Go.RowKit
theorem step_appS {P : Program} (w : World) {ops : Array Oper} {o : Oper} {a : Act} {K : Act → World → Prop} {Q : Exit → Act → World → Prop} {E : Prop} (hgd : o.guard = none) (sl x : Operand) (t tx : TypeId) (ho : o.op = .call { callee := .builtin .append, args := #[sl, x], argTypes := #[t, tx] })
    (base : Nat) (e : TypeId) (i : TypeInfo) (z : Value) (s : Nat) (ht : P.underlying t = some (.slice e)) (hi : P.info? e = some i) (hz : i.zero = some z) (hsize : i.size = s) (hzs : z.cells.size = s) (hby : i.bytes ≤ 1000)
    (v : Value) (n : Nat) (xs : List Value) (hev : a.eval sl = v) (hown : w.ownsRow base e s v n xs) (vx : Value) (hex : a.eval x = vx) (m : Nat) (news : List Value) (hs : Src P s tx vx m news w) (hb : n + m ≤ 1000000000) (hbase : base ≤ w.heap.size)
    (h : ∀ v' w', w'.ownsRow base e s v' (n + m) (xs ++ news) → Upd w w' (fun k => some k = v.ownBlock) → (v'.ownBlock = v.ownBlock ∨ v'.ownBlock = some w.heap.size) → (v.ownBlock ≠ none ∨ 0 < m → v'.ownBlock ≠ none) → K (a.put o.dst v') w') :
    if Region.wanted o (yielded ops a.tmps) = true then Oper.wp P o a w K Q else E := by
  have hw : Region.wanted o (yielded ops a.tmps) = true := by simp [Region.wanted, hgd]
  rw [if_pos hw]
  exact wp_appS w sl x t tx ho base e i z s ht hi hz hsize hzs hby v n xs hev hown vx hex m news hs hb hbase h
theorem put_done {w W0 V w' : World} {x : Nat} {R : List IM} {F : List Nat} {key : ByteArray} {rev : Int} {del : Bool} {g i mg c : Nat} {X Z : List IM} {ms : List Mk} {v' : Value} (H : Ix w x R F) (hb0 : Below w.heap.size w W0) (hA : At W0 x R F key g i mg c X Z ms) (hbV : Below W0.heap.size W0 V) (hu : Upd V w' (fun k => some k = (Value.slice (some ⟨mg, 0, none⟩) ms.length c).ownBlock))
    (ho : w'.ownsRow 0 107 2 v' (ms.length + 1) (mksC ms ++ mkC (rev, del))) (hob : v'.ownBlock = (Value.slice (some ⟨mg, 0, none⟩) ms.length c).ownBlock ∨ v'.ownBlock = some V.heap.size) (he : putE (dat R) key rev del = 0) (hk : lookD (dat R) key = some ms) : PutPost w (w'.setCell ⟨g, i * 2 + 1, none⟩ v') x R F key rev del := by
  have H0 := H.below hb0
  have hM : Mks w' v' (ms ++ [(rev, del)]) := by
    have : mksC (ms ++ [(rev, del)]) = mksC ms ++ mkC (rev, del) := by simp [mksC]
    unfold Mks
    rw [this, List.length_append]; exact ho
  have hmgF : mg ∈ F := by
    obtain ⟨rp, Ft, _, _, hF⟩ := H0.ex
    rw [hF, hA.parts]; simp [ownM, Value.ownBlock]
  have hsz : W0.heap.size ≤ w'.heap.size := Nat.le_trans hbV.size hu.size
  obtain ⟨F', hI, hn, hsub⟩ := hA.put w' (fun k hk hkm => (hu.block k (Nat.lt_of_lt_of_le (H0.lt k hk) hbV.size) (fun e => hkm (by simpa [Value.ownBlock] using e))).trans (hbV.block k (H0.lt k hk))) hsz v' (ms ++ [(rev, del)]) hM (by simp) (hob.imp id (fun h => ⟨_, h, hbV.size⟩))
  refine ⟨_, F', hI, ?_, ?_, hn, fun k hk => (hsub k hk).imp id (fun h => Nat.le_trans hb0.size h), hI.lt⟩
  · rw [hA.set H0.asc, putD, if_pos he, hk]; rfl
  · have u1 : Upd w V (fun k => k ∈ F) := Upd.ofBelow (hb0.trans (hbV.mono hb0.size))
    have u2 : Upd V w' (fun k => k ∈ F) := hu.mono (fun k _ e => by have : k = mg := by simpa [Value.ownBlock] using e
                                                                    rw [this]; exact hmgF)
    exact (u1.trans u2 (fun _ _ h => h)).setCell (.inr hA.inF) _
section
variable {w : World} {x : Nat} {R : List IM} {F : List Nat} (H : Ix w x R F) (key : ByteArray) (rev : Int) (del : Bool) (hks : key.size ≤ 9223372036854775807)
include H hks
set_option maxRecDepth 100000 in
set_option maxHeartbeats 2000000 in
theorem put_moreF (h0 : 0 < key.size) (h1 : key.size ≤ 100) (hr : 1 ≤ rev) (ms : List Mk) (hk : lookD (dat R) key = some ms) (hml : ms.length ≤ 1000000) (hg : (lastM ms).1 < rev) (hd : del = false) :
    Calls Try.prog 40 #[ptr x, .string key, .agg #[.int .i64 rev, .bool del]] w fun e w' => e = .returned (.int .i64 (putE (dat R) key rev del)) ∧ PutPost w w' x R F key rev del := by
  have he : putE (dat R) key rev del = 0 := by simp only [putE, hk]; rw [if_neg (by omega)]; rw [if_neg (by omega), hd]; rfl
  rw [he]
  obtain ⟨W0, hW0⟩ : ∃ W0, W0 = w.alloc (.cells #[.int .i64 rev, .bool del] 107) := ⟨_, rfl⟩
  have hb0 : Below w.heap.size w W0 := by rw [hW0]; exact (Below.refl _ w).alloc (Nat.le_refl _) _
  have hr0 : W0.heap[w.heap.size]? = some (.cells #[.int .i64 rev, .bool del] 107 (0, 0)) := by rw [hW0]; exact row_alloc w _ _
  have H0 := H.below hb0
  obtain ⟨rp, Ft, hx, hRt, hFF⟩ := H0.ex
  have c0 := hx.c0
  have u0 : W0.cell? ⟨w.heap.size, 0, none⟩ = some (.int .i64 rev) := by simp [World.cell?, hr0]
  have HU : Hid (∀ W, Below W0.heap.size W0 W → W.cell? ⟨w.heap.size, 0, none⟩ = some (.int .i64 rev) ∧ W.cell? ⟨w.heap.size, 1, none⟩ = some (.bool del) ∧ Below w.heap.size w W) := fun W hb => by
    have := (hb.block _ (Array.getElem?_eq_some_iff.1 hr0).1).trans hr0
    exact ⟨by simp [World.cell?, this], by simp [World.cell?, this], hb0.trans (hb.mono hb0.size)⟩
  have k1 : ¬ (key = ByteArray.empty) := by intro e; rw [e] at h0; simp at h0
  have k2 : ¬ ((100 : Int) < (key.size : Int)) := by omega
  have k3 : ¬ (rev < 1) := by omega
  have hf := find_yes H0 hk c0
  have HL : Hid (∀ (w1 : World) (g i mg c : Nat), Below W0.heap.size W0 w1 → Mks W0 (.slice (some ⟨mg, 0, none⟩) ms.length c) ms → 0 < ms.length → w1.cell? ⟨g, i * 2 + 1, none⟩ = some (.slice (some ⟨mg, 0, none⟩) ms.length c) → Calls Try.prog 47 #[.pointer (some ⟨g, i * 2, none⟩)] w1 fun e w' => e = .returned (.agg #[.int .i64 (lastM ms).1, .bool (lastM ms).2]) ∧ Below w1.heap.size w1 w') := fun w1 g i mg c hb hM hp hc =>
    last_any w1 g i mg c ms (lastM ms) hc (ownsRow_upd hM (Upd.ofBelow (S := fun _ => False) hb) (fun _ _ h => h)) (lastM_get hp) hml
  generalize lastM ms = m at *
  obtain ⟨m1, m2⟩ := m
  dsimp only at HL hg
  subst hd
  have k4 : ¬ (rev ≤ m1) := by omega
  clear hr0 hx
  go_enter Try.func40, Try.ntmps40
  go_upto_region 1 with (fail)
  rw [← hW0]
  clear hW0
  go_wp2_with (first | (go_at_call 46; refine hf.mono ?_; rintro e w1 ⟨g, i, mg, c, X, Z, rfl, hb1, hA, hM, hp, hc1⟩) | (go_at_call 47; refine (HL.out _ _ _ _ _ hb1 hM.out hp hc1).mono ?_; rintro e w2 ⟨rfl, hb2⟩; have hb3 : Below W0.heap.size W0 (w2.alloc (.cells #[.int .i64 m1, .bool m2] 107)) := (hb1.trans (hb2.mono hb1.size)).alloc (by have := hb1.size; have := hb2.size; omega) _; obtain ⟨a0, a1, hbw⟩ := HU.out _ hb3))
  obtain ⟨W3, hW3⟩ : ∃ W3, W3 = w2.alloc (.cells #[.int .i64 m1, .bool m2] 107) := ⟨_, rfl⟩
  rw [← hW3] at hb3 a0 a1 hbw ⊢
  clear hW3 hf hc1 hb1 hb2 c0 u0 k1 k2 k3 k4 hp
  have hgl : g < W0.heap.size := World.block_lt_of_cell? _ _ hA.out.mv
  have hne := hA.out.ne
  have q0 := (hb3.cell (p := ⟨g, i * 2 + 1, none⟩) hgl).trans hA.out.mv
  have q0' : ∀ o, (W3.alloc o).cell? ⟨g, i * 2 + 1, none⟩ = _ := fun o => ((hb3.alloc hb3.size o).cell (p := ⟨g, i * 2 + 1, none⟩) hgl).trans hA.out.mv
  have HMK : Hid (∀ W, Below W3.heap.size W3 W → Mks W (.slice (some ⟨mg, 0, none⟩) ms.length c) ms) := fun W hb => ownsRow_upd hM.out (Upd.ofBelow (S := fun _ => False) (hb3.trans (hb.mono hb3.size))) (fun _ _ h => h)
  have qf := (hb3.frozen (p := ⟨g, i * 2 + 1, none⟩) hgl).trans hA.out.free
  obtain ⟨ti, hti, hz0, hz1, hz2⟩ := info_parts info35
  have HSR : Hid (∀ W, W.heap[W3.heap.size]? = some (.cells #[.int .i64 rev, .bool false] 107 (0, 0)) → Src Try.prog 2 102 (.slice (some ⟨W3.heap.size, 0, none⟩) 1 1) 1 (mkC (rev, false)) W) := fun W hr => Src.ofSlice W Try.underlying102 ⟨W3.heap.size, 0, none⟩ 1 1 (mkC (rev, false)) rfl (fun j u hj => by
    rw [Addr.add_lit, Nat.zero_add, cell_of_row _ _ _ _ _ _ hr]; simpa [mkC] using hj) (fun u hu => mksC_mem [(rev, false)] u (by simpa [mksC] using hu))
  have HCL : Hid (∀ V w', Below W3.heap.size W3 V → Upd V w' (fun k => some k = (Value.slice (some ⟨mg, 0, none⟩) ms.length c).ownBlock) → w'.cell? ⟨g, i * 2 + 1, none⟩ = some (.slice (some ⟨mg, 0, none⟩) ms.length c) ∧ w'.frozen? ⟨g, i * 2 + 1, none⟩ = false) := fun V w' hb hu => by
    have hg3 : g < W3.heap.size := Nat.lt_of_lt_of_le hgl hb3.size
    have hn : ¬ (some g = (Value.slice (some ⟨mg, 0, none⟩) ms.length c).ownBlock) := fun e => hne (by simpa [Value.ownBlock] using e)
    exact ⟨(hu.cell (p := ⟨g, i * 2 + 1, none⟩) (Nat.lt_of_lt_of_le hg3 hb.size) hn).trans ((hb.cell (p := ⟨g, i * 2 + 1, none⟩) hg3).trans q0), (hu.frozen (p := ⟨g, i * 2 + 1, none⟩) (Nat.lt_of_lt_of_le hg3 hb.size) hn).trans ((hb.frozen (p := ⟨g, i * 2 + 1, none⟩) hg3).trans qf)⟩
  have HB3 : Hid (∀ W, Below W3.heap.size W3 W → Below W0.heap.size W0 W) := fun W hb => hb3.trans (hb.mono hb3.size)
  clear hgl hne hb3 hbw HL HU
  go_region_law (refine step_appS _ rfl _ _ 102 102 rfl 0 107 ti _ 2 Try.underlying102 hti hz0 hz1 rfl (by rw [hz2]; omega) (.slice (some ⟨mg, 0, none⟩) ms.length c) ms.length (mksC ms) (by simp [Act.eval]) (HMK.out _ (by first | exact ((Below.refl _ _).drew.alloc (Nat.le_refl _) _) | exact ((Below.refl _ _).alloc (Nat.le_refl _) _).drew)) (.slice (some ⟨W3.heap.size, 0, none⟩) 1 1) (by simp [Act.eval]) 1 (mkC (rev, false)) (HSR.out _ (by first | exact row_alloc _ _ _ | rfl)) (by omega) (Nat.zero_le _) ?_; intro v' w' q1 q2 q3 q4; obtain ⟨g', c', rfl, _, _⟩ := owns_form1 q1 (by omega); obtain ⟨d0, d1⟩ := HCL.out _ _ (by first | exact ((Below.refl _ _).drew.alloc (Nat.le_refl _) _) | exact ((Below.refl _ _).alloc (Nat.le_refl _) _).drew) q2)
  all_goals
    go_wp2
    go_ret
    exact ⟨rfl, put_done H hb0 hA.out (HB3.out _ (by first | exact ((Below.refl _ _).drew.alloc (Nat.le_refl _) _) | exact ((Below.refl _ _).alloc (Nat.le_refl _) _).drew)) q2 q1 q3 he hk⟩
set_option maxRecDepth 100000 in
set_option maxHeartbeats 2000000 in
theorem put_moreT (h0 : 0 < key.size) (h1 : key.size ≤ 100) (hr : 1 ≤ rev) (ms : List Mk) (hk : lookD (dat R) key = some ms) (hml : ms.length ≤ 1000000) (hg : (lastM ms).1 < rev) (hd : del = true) (hl : (lastM ms).2 = false) :
    Calls Try.prog 40 #[ptr x, .string key, .agg #[.int .i64 rev, .bool del]] w fun e w' => e = .returned (.int .i64 (putE (dat R) key rev del)) ∧ PutPost w w' x R F key rev del := by
  have he : putE (dat R) key rev del = 0 := by simp only [putE, hk]; rw [if_neg (by omega)]; rw [if_neg (by omega), hd, hl]; rfl
  rw [he]
  obtain ⟨W0, hW0⟩ : ∃ W0, W0 = w.alloc (.cells #[.int .i64 rev, .bool del] 107) := ⟨_, rfl⟩
  have hb0 : Below w.heap.size w W0 := by rw [hW0]; exact (Below.refl _ w).alloc (Nat.le_refl _) _
  have hr0 : W0.heap[w.heap.size]? = some (.cells #[.int .i64 rev, .bool del] 107 (0, 0)) := by rw [hW0]; exact row_alloc w _ _
  have H0 := H.below hb0
  obtain ⟨rp, Ft, hx, hRt, hFF⟩ := H0.ex
  have c0 := hx.c0
  have u0 : W0.cell? ⟨w.heap.size, 0, none⟩ = some (.int .i64 rev) := by simp [World.cell?, hr0]
  have HU : Hid (∀ W, Below W0.heap.size W0 W → W.cell? ⟨w.heap.size, 0, none⟩ = some (.int .i64 rev) ∧ W.cell? ⟨w.heap.size, 1, none⟩ = some (.bool del) ∧ Below w.heap.size w W) := fun W hb => by
    have := (hb.block _ (Array.getElem?_eq_some_iff.1 hr0).1).trans hr0
    exact ⟨by simp [World.cell?, this], by simp [World.cell?, this], hb0.trans (hb.mono hb0.size)⟩
  have k1 : ¬ (key = ByteArray.empty) := by intro e; rw [e] at h0; simp at h0
  have k2 : ¬ ((100 : Int) < (key.size : Int)) := by omega
  have k3 : ¬ (rev < 1) := by omega
  have hf := find_yes H0 hk c0
  have HL : Hid (∀ (w1 : World) (g i mg c : Nat), Below W0.heap.size W0 w1 → Mks W0 (.slice (some ⟨mg, 0, none⟩) ms.length c) ms → 0 < ms.length → w1.cell? ⟨g, i * 2 + 1, none⟩ = some (.slice (some ⟨mg, 0, none⟩) ms.length c) → Calls Try.prog 47 #[.pointer (some ⟨g, i * 2, none⟩)] w1 fun e w' => e = .returned (.agg #[.int .i64 (lastM ms).1, .bool (lastM ms).2]) ∧ Below w1.heap.size w1 w') := fun w1 g i mg c hb hM hp hc =>
    last_any w1 g i mg c ms (lastM ms) hc (ownsRow_upd hM (Upd.ofBelow (S := fun _ => False) hb) (fun _ _ h => h)) (lastM_get hp) hml
  generalize lastM ms = m at *
  obtain ⟨m1, m2⟩ := m
  dsimp only at HL hg hl
  subst hd hl
  have k4 : ¬ (rev ≤ m1) := by omega
  clear hr0 hx
  go_enter Try.func40, Try.ntmps40
  go_upto_region 1 with (fail)
  rw [← hW0]
  clear hW0
  go_wp2_with (first | (go_at_call 46; refine hf.mono ?_; rintro e w1 ⟨g, i, mg, c, X, Z, rfl, hb1, hA, hM, hp, hc1⟩) | (go_at_call 47; refine (HL.out _ _ _ _ _ hb1 hM.out hp hc1).mono ?_; rintro e w2 ⟨rfl, hb2⟩; have hb3 : Below W0.heap.size W0 (w2.alloc (.cells #[.int .i64 m1, .bool false] 107)) := (hb1.trans (hb2.mono hb1.size)).alloc (by have := hb1.size; have := hb2.size; omega) _; obtain ⟨a0, a1, hbw⟩ := HU.out _ hb3))
  obtain ⟨W3, hW3⟩ : ∃ W3, W3 = w2.alloc (.cells #[.int .i64 m1, .bool false] 107) := ⟨_, rfl⟩
  rw [← hW3] at hb3 a0 a1 hbw ⊢
  clear hW3 hf hc1 hb1 hb2 c0 u0 k1 k2 k3 k4 hp
  have hgl : g < W0.heap.size := World.block_lt_of_cell? _ _ hA.out.mv
  have hne := hA.out.ne
  have q0 := (hb3.cell (p := ⟨g, i * 2 + 1, none⟩) hgl).trans hA.out.mv
  have q0' : ∀ o, (W3.alloc o).cell? ⟨g, i * 2 + 1, none⟩ = _ := fun o => ((hb3.alloc hb3.size o).cell (p := ⟨g, i * 2 + 1, none⟩) hgl).trans hA.out.mv
  have HMK : Hid (∀ W, Below W3.heap.size W3 W → Mks W (.slice (some ⟨mg, 0, none⟩) ms.length c) ms) := fun W hb => ownsRow_upd hM.out (Upd.ofBelow (S := fun _ => False) (hb3.trans (hb.mono hb3.size))) (fun _ _ h => h)
  have qf := (hb3.frozen (p := ⟨g, i * 2 + 1, none⟩) hgl).trans hA.out.free
  obtain ⟨ti, hti, hz0, hz1, hz2⟩ := info_parts info35
  have HSR : Hid (∀ W, W.heap[W3.heap.size]? = some (.cells #[.int .i64 rev, .bool true] 107 (0, 0)) → Src Try.prog 2 102 (.slice (some ⟨W3.heap.size, 0, none⟩) 1 1) 1 (mkC (rev, true)) W) := fun W hr => Src.ofSlice W Try.underlying102 ⟨W3.heap.size, 0, none⟩ 1 1 (mkC (rev, true)) rfl (fun j u hj => by
    rw [Addr.add_lit, Nat.zero_add, cell_of_row _ _ _ _ _ _ hr]; simpa [mkC] using hj) (fun u hu => mksC_mem [(rev, true)] u (by simpa [mksC] using hu))
  have HCL : Hid (∀ V w', Below W3.heap.size W3 V → Upd V w' (fun k => some k = (Value.slice (some ⟨mg, 0, none⟩) ms.length c).ownBlock) → w'.cell? ⟨g, i * 2 + 1, none⟩ = some (.slice (some ⟨mg, 0, none⟩) ms.length c) ∧ w'.frozen? ⟨g, i * 2 + 1, none⟩ = false) := fun V w' hb hu => by
    have hg3 : g < W3.heap.size := Nat.lt_of_lt_of_le hgl hb3.size
    have hn : ¬ (some g = (Value.slice (some ⟨mg, 0, none⟩) ms.length c).ownBlock) := fun e => hne (by simpa [Value.ownBlock] using e)
    exact ⟨(hu.cell (p := ⟨g, i * 2 + 1, none⟩) (Nat.lt_of_lt_of_le hg3 hb.size) hn).trans ((hb.cell (p := ⟨g, i * 2 + 1, none⟩) hg3).trans q0), (hu.frozen (p := ⟨g, i * 2 + 1, none⟩) (Nat.lt_of_lt_of_le hg3 hb.size) hn).trans ((hb.frozen (p := ⟨g, i * 2 + 1, none⟩) hg3).trans qf)⟩
  have HB3 : Hid (∀ W, Below W3.heap.size W3 W → Below W0.heap.size W0 W) := fun W hb => hb3.trans (hb.mono hb3.size)
  clear hgl hne hb3 hbw HL HU
  go_region_law (refine step_appS _ rfl _ _ 102 102 rfl 0 107 ti _ 2 Try.underlying102 hti hz0 hz1 rfl (by rw [hz2]; omega) (.slice (some ⟨mg, 0, none⟩) ms.length c) ms.length (mksC ms) (by simp [Act.eval]) (HMK.out _ (by first | exact ((Below.refl _ _).drew.alloc (Nat.le_refl _) _) | exact ((Below.refl _ _).alloc (Nat.le_refl _) _).drew)) (.slice (some ⟨W3.heap.size, 0, none⟩) 1 1) (by simp [Act.eval]) 1 (mkC (rev, true)) (HSR.out _ (by first | exact row_alloc _ _ _ | rfl)) (by omega) (Nat.zero_le _) ?_; intro v' w' q1 q2 q3 q4; obtain ⟨g', c', rfl, _, _⟩ := owns_form1 q1 (by omega); obtain ⟨d0, d1⟩ := HCL.out _ _ (by first | exact ((Below.refl _ _).drew.alloc (Nat.le_refl _) _) | exact ((Below.refl _ _).alloc (Nat.le_refl _) _).drew) q2)
  all_goals
    go_wp2
    go_ret
    exact ⟨rfl, put_done H hb0 hA.out (HB3.out _ (by first | exact ((Below.refl _ _).drew.alloc (Nat.le_refl _) _) | exact ((Below.refl _ _).alloc (Nat.le_refl _) _).drew)) q2 q1 q3 he hk⟩
end
end Go.Proofs.Yteeflkkoifgcbaa
