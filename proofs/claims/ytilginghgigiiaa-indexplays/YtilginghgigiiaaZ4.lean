/- The document's Put, where it is taken: a key that is there. -/
import Derived.Test.YtilginghgigiiaaZ3
namespace Go.Proofs.Ytilginghgigiiaa
open Go Go.RowKit
section
variable {w : World} {B y : Nat} {R : List IM} {rv : Value} (h : Rx w B y R rv) (ha : Asc (keysR R)) (hn : R.length ≤ 1000000) (hms : ∀ r ∈ R, r.ms.length ≤ 1000000) (key : ByteArray) (rev : Int) (hks : key.size ≤ 9223372036854775807)
include h ha hn hms hks
set_option maxRecDepth 100000 in
set_option maxHeartbeats 4000000 in
theorem rput_oldF {r : IM} (hr : R[plc (R.map IM.it) key]? = some r) (hrk : r.it.key = key) (hl : lookD (dat R) key = some r.ms) (hpos : 0 < r.ms.length) (hk0 : ¬ key.size = 0) (hk1 : ¬ 100 < key.size) (hr1 : ¬ rev < 1) (hgap : ¬ rev ≤ (lastM r.ms).1) (hB : B ≤ w.heap.size)  (he : putE (dat R) key rev false = 0) : Calls Try.prog 11 #[ptr y, .string key, .agg #[.int .i64 rev, .bool false]] w fun e w' => e = .returned (.int .i64 0) ∧ RPut w B y rv (putD (dat R) key rev false) w' := by
  have HDAT : Hid (∀ v, dat (R.set (plc (R.map IM.it) key) ⟨⟨key, v⟩, r.ms ++ [(rev, false)]⟩) = putD (dat R) key rev false) := fun v => rput_old ha hr hrk hl he
  have hne : ¬ key = ByteArray.empty := fun e => hk0 (by rw [e]; rfl)
  have q := ne_hi hne
  have hb0 : Below w.heap.size w (w.alloc (.cells #[.int .i64 rev, .bool false] 37)) := (Below.refl _ w).alloc (Nat.le_refl _) _
  obtain ⟨W0, hW0⟩ : ∃ W0, W0 = w.alloc (.cells #[.int .i64 rev, .bool false] 37) := ⟨_, rfl⟩
  have hr0 : W0.heap[w.heap.size]? = some (.cells #[.int .i64 rev, .bool false] 37 (0, 0)) := by rw [hW0]; exact row_alloc w _ _
  rw [← hW0] at hb0
  have hmk := rmarks_any (h.below hb0) ha hn hms key
  rw [hl] at hmk
  have e0 : W0.cell? ⟨w.heap.size, 0, none⟩ = some (.int .i64 rev) := by simp [World.cell?, hr0]
  have HX := Hid.mk'' h
  have hml := hms r (List.mem_of_getElem? hr)
  have hx1 : IntKind.i64.wrap ((r.ms.length : Int) - 1) = ((r.ms.length - 1 : Nat) : Int) := by rw [IntKind.wrap_i64]; omega
  go_enter Try.func11, Try.ntmps11
  go_upto_region 1 with (fail)
  rw [← hW0]
  clear hW0 h
  go_upto_region 4 with (go_at_call 15; refine hmk.mono ?_; rintro e W1 ⟨v1, rfl, ⟨p1, c1, hv1⟩, hM1, hb1⟩; dsimp only [Option.getD_some] at hv1 hM1; subst hv1)
  have hbw1 : Below w.heap.size w W1 := hb0.trans (hb1.mono hb0.size)
  have hr1' : W1.heap[w.heap.size]? = some (.cells #[.int .i64 rev, .bool false] 37 (0, 0)) := (hb1.block _ (Array.getElem?_eq_some_iff.1 hr0).1).trans hr0
  have f0 : W1.cell? ⟨w.heap.size, 0, none⟩ = some (.int .i64 rev) := by simp [World.cell?, hr1']
  have f1 : W1.cell? ⟨w.heap.size, 1, none⟩ = some (.bool false) := by simp [World.cell?, hr1']
  obtain ⟨lg, lc, hlv, _, _⟩ := owns_formB hM1 hpos
  cases hlv
  obtain ⟨l0, l1⟩ := mk_cells hM1 (last_of hpos)
  have hlgl := World.block_lt_of_cell? _ _ l0
  have hgen : ∃ nl : Nat, nl = r.ms.length := ⟨_, rfl⟩
  obtain ⟨nl, hnl⟩ := hgen
  rw [← hnl] at hx1 l0 l1 hpos hml ⊢
  clear hmk hb1 hr0 e0 hb0 hM1 hnl
  go_upto_region 5 with (fail)
  go_quiet (fail)
  obtain ⟨W2, hW2⟩ : ∃ W2, W2 = W1.drewN nq := ⟨_, rfl⟩
  rw [← hW2]
  have hb2 : Below W1.heap.size W1 W2 := by rw [hW2]; exact below_drewN' (Below.refl _ _) nq
  have hbw2 : Below w.heap.size w W2 := hbw1.trans (hb2.mono hbw1.size)
  have hr2 : W2.heap[w.heap.size]? = some (.cells #[.int .i64 rev, .bool false] 37 (0, 0)) := (hb2.block _ (Array.getElem?_eq_some_iff.1 hr1').1).trans hr1'
  have g0 : W2.cell? ⟨w.heap.size, 0, none⟩ = some (.int .i64 rev) := by simp [World.cell?, hr2]
  have g1 : W2.cell? ⟨w.heap.size, 1, none⟩ = some (.bool false) := by simp [World.cell?, hr2]
  have m0 := (hb2.cell (p := ⟨lg, (nl - 1) * 2, none⟩) hlgl).trans l0
  have m1 := (hb2.cell (p := ⟨lg, (nl - 1) * 2 + 1, none⟩) hlgl).trans l1
  clear l0 l1 hlgl
  clear hW2 f0 f1 hr1' hb2
  have hat := rat_any (HX.out.below hbw2) hn key
  obtain ⟨g, c, hv, hgB, hgl0, hgk0, hgm0, hgf0⟩ := HX.out.at_ hr
  have hXW := HX.out.below hbw2
  rw [hv] at hXW
  have HX1 := Hid.mk'' hXW
  have hk : plc (R.map IM.it) key < R.length := (List.getElem?_eq_some_iff.1 hr).1
  have hgl : g < W2.heap.size := Nat.lt_of_lt_of_le hgl0 hbw2.size
  obtain ⟨mp, mc, hmv⟩ := owns_formB0 (HX.out.mks r (List.mem_of_getElem? hr))
  have hg1 : W2.cell? ⟨g, plc (R.map IM.it) key * 2 + 1, none⟩ = some (.slice mp r.ms.length mc) := by rw [← hmv]; exact (hbw2.cell (p := ⟨g, plc (R.map IM.it) key * 2 + 1, none⟩) hgl0).trans hgm0
  have hgf : W2.frozen? ⟨g, plc (R.map IM.it) key * 2 + 1, none⟩ = false := (hbw2.frozen (p := ⟨g, plc (R.map IM.it) key * 2 + 1, none⟩) hgl0).trans (hgf0 _)
  have hM1 : RMk W2 B (.slice mp r.ms.length mc) r.ms := by rw [← hmv]; exact ownsRow_upd (HX.out.mks r (List.mem_of_getElem? hr)) (Upd.ofBelow (S := fun _ => False) hbw2) (fun _ _ h => h)
  have hml := hms r (List.mem_of_getElem? hr)
  have hWB : B ≤ W2.heap.size := Nat.le_trans hB hbw2.size
  have HQ : Hid (∀ w2 v2, Below W2.heap.size W2 w2 → RMk w2 B v2 (r.ms ++ [(rev, false)]) → RPut w B y rv (putD (dat R) key rev false) (w2.setCell ⟨g, plc (R.map IM.it) key * 2 + 1, none⟩ v2)) := fun w2 v2 hb ho => by
    have h1 := HX1.out.setL hr hb ho
    rw [hrk] at h1
    refine ⟨_, _, h1, HDAT.out v2, ?_⟩
    refine ((Upd.ofBelow (hbw2.trans (hb.mono hbw2.size))).setCell (p := ⟨g, plc (R.map IM.it) key * 2 + 1, none⟩) (.inr (.inr ?_)) _)
    rw [hv]; rfl
  have HNE0 : y ≠ g ∧ w.heap.size ≠ g := ⟨fun e => by
    have hb := HX1.out.blk
    rcases HX1.out.row.2 with ⟨e1, _⟩ | ⟨g', cap, cur, e1, _, hh, _⟩
    · cases e1
    · cases e1; exact kind_ne hb hh (by decide) e, by omega⟩
  generalize plc (R.map IM.it) key = k at *
  generalize hb0' : w.heap.size = b0 at *
  have hbx := hr2
  clear HX HDAT hr hl hrk hv hgk0 hgm0 hgf0 hgl0 hmv hXW ha hbw1 hB hb0' he hms
  have HNE : y ≠ g ∧ b0 ≠ g := HNE0
  clear HNE0
  go_upto_region 15 with (go_at_call 27; refine hat.mono ?_; rintro e W ⟨rfl, rfl⟩)
  clear hat m0 m1 g0 g1 hr2
  obtain ⟨ti, hti, hz0, hz1, hz2⟩ := info_parts info37
  have HC : Hid (∀ V, Below W.heap.size W V → V.cell? ⟨y, 0, none⟩ = some (.slice (some ⟨g, 0, none⟩) R.length c) ∧ V.cell? ⟨g, k * 2 + 1, none⟩ = some (.slice mp r.ms.length mc) ∧ V.frozen? ⟨g, k * 2 + 1, none⟩ = false ∧ V.cell? ⟨b0, 0, none⟩ = some (.int .i64 rev) ∧ V.cell? ⟨b0, 1, none⟩ = some (.bool false)) := fun V hb => ⟨(HX1.out.below hb).c0, (hb.cell (p := ⟨g, k * 2 + 1, none⟩) hgl).trans hg1, (hb.frozen (p := ⟨g, k * 2 + 1, none⟩) hgl).trans hgf, by simp [World.cell?, (hb.block b0 (Array.getElem?_eq_some_iff.1 hbx).1).trans hbx], by simp [World.cell?, (hb.block b0 (Array.getElem?_eq_some_iff.1 hbx).1).trans hbx]⟩
  have HSRC : Hid (∀ V, Below W.heap.size W V → Src Try.prog 2 41 (.slice mp r.ms.length mc) r.ms.length (mksC r.ms) V) := fun V hb => Src_owns Try.underlying41 (ownsRow_upd hM1 (Upd.ofBelow (S := fun _ => False) hb) (fun _ _ h => h)) (mksC_mem _)
  have HBK : Hid (∀ (V : World) (b : Nat), V.heap[b]? = some (.cells #[.int .i64 rev, .bool false] 37 (0, 0)) → Src Try.prog 2 41 (.slice (some ⟨b, 0, none⟩) 1 1) 1 (mkC (rev, false)) V) := fun V b hr => Src.ofSlice V Try.underlying41 ⟨b, 0, none⟩ 1 1 _ rfl (fun j u hj => by
    rw [Addr.add_lit, Nat.zero_add, cell_of_row _ _ _ _ _ _ hr]; simpa [mkC] using hj) (fun u hu => by simp [mkC] at hu; rcases hu with rfl | rfl <;> rfl)
  have HFIN : Hid (∀ w2 v2, Below W.heap.size W w2 → w2.ownsRow B 37 2 v2 (r.ms.length + 1) (mksC r.ms ++ mkC (rev, false)) → RPut w B y rv (putD (dat R) key rev false) (w2.setCell ⟨g, k * 2 + 1, none⟩ v2)) := fun w2 v2 hb ho => HQ.out w2 v2 hb (by
    have e : mksC (r.ms ++ [(rev, false)]) = mksC r.ms ++ mkC (rev, false) := by rw [mksC_append]; simp [mksC]
    show World.ownsRow _ _ _ _ _ (r.ms ++ [(rev, false)]).length _
    rw [e, List.length_append, List.length_singleton]
    exact ho)
  have HOWN : Hid (∀ (V : World) (v v1 : Value), Below W.heap.size W V → (Value.ownBlock v1 = Value.ownBlock v ∨ Value.ownBlock v1 = some V.heap.size) → (∀ b, Value.ownBlock v = some b → W.heap.size ≤ b) → ∀ b, Value.ownBlock v1 = some b → W.heap.size ≤ b) := fun V v v1 hb h hv b hb' => by
    rcases h with h | h
    · exact hv b (by rw [← h]; exact hb')
    · rw [hb'] at h; have := Option.some.inj h; have := hb.size; omega
  have HBB : Hid (∀ V w1 v, Below W.heap.size W V → Upd V w1 (fun k => some k = Value.ownBlock v) → (∀ b, Value.ownBlock v = some b → W.heap.size ≤ b) → Below W.heap.size W w1) := fun V w1 v hb hu hv => hb.trans (hu.below hb.size (fun k hk e => by have := hv k e.symm; omega))
  have HOA : Hid (∀ A, W.heap.size ≤ A → ∀ b, Value.ownBlock (.slice (some ⟨A, 0, none⟩) 0 0) = some b → W.heap.size ≤ b) := fun A h b e => by have := Option.some.inj e; dsimp at this; omega
  have HNB : Hid (∀ A b : Nat, b ≠ A → ¬ (some b = Value.ownBlock (.slice (some ⟨A, 0, none⟩) 0 0))) := fun A b h e => h (Option.some.inj e)
  have hyg : y ≠ g := HNE.1
  have hbg : b0 ≠ g := HNE.2
  have HC2 : Hid (∀ V v, Below W.heap.size W V → (V.setCell ⟨g, k * 2 + 1, none⟩ v).cell? ⟨y, 0, none⟩ = some (.slice (some ⟨g, 0, none⟩) R.length c) ∧ (V.setCell ⟨g, k * 2 + 1, none⟩ v).cell? ⟨b0, 0, none⟩ = some (.int .i64 rev) ∧ (V.setCell ⟨g, k * 2 + 1, none⟩ v).cell? ⟨b0, 1, none⟩ = some (.bool false)) := fun V v hb => by
    obtain ⟨a1, _, _, a4, a5⟩ := HC.out V hb
    exact ⟨by rw [World.cell?_setCell_other _ _ _ _ (fun e => hyg (by simp only [Addr.mk.injEq] at e; exact e.1.symm))]; exact a1, by rw [World.cell?_setCell_other _ _ _ _ (fun e => hbg (by simp only [Addr.mk.injEq] at e; exact e.1.symm))]; exact a4, by rw [World.cell?_setCell_other _ _ _ _ (fun e => hbg (by simp only [Addr.mk.injEq] at e; exact e.1.symm))]; exact a5⟩
  obtain ⟨d1, d2, d3, d4, d5⟩ := HC.out _ (Below.refl _ _)
  have da := fun o => HC.out _ ((Below.refl _ W).alloc (Nat.le_refl _) o)
  have db := fun o o' => HC.out _ (((Below.refl _ W).alloc (Nat.le_refl _) o).alloc (by simp) o')
  have da1 := fun o => (da o).1
  have da2 := fun o => (da o).2.1
  have da4 := fun o => (da o).2.2.2.1
  have da5 := fun o => (da o).2.2.2.2
  have db1 := fun o o' => (db o o').1
  have db2 := fun o o' => (db o o').2.1
  have db4 := fun o o' => (db o o').2.2.2.1
  have db5 := fun o o' => (db o o').2.2.2.2
  have hWB' : B ≤ W.heap.size := hWB
  clear HQ hM1 da db hg1 hgf hbx HX1
  have hA1 := row_alloc W #[] 37
  have hA2 : ∀ o, ((W.alloc (.cells #[] 37)).alloc o).heap[W.heap.size]? = some (.cells #[] 37 (0, 0)) := fun o => (Below.heap_alloc _ _ _ (by simp)).trans hA1
  have hA3 : ∀ o, ((W.alloc o).alloc (.cells #[] 37)).heap[W.heap.size + 1]? = some (.cells #[] 37 (0, 0)) := fun o => by have := row_alloc (W.alloc o) #[] 37; rwa [World.size_alloc] at this
  have hB1 := row_alloc W #[.int .i64 rev, .bool false] 37
  have hB2 : ∀ o, ((W.alloc (.cells #[.int .i64 rev, .bool false] 37)).alloc o).heap[W.heap.size]? = some (.cells #[.int .i64 rev, .bool false] 37 (0, 0)) := fun o => (Below.heap_alloc _ _ _ (by simp)).trans hB1
  have hB3 : ∀ o, ((W.alloc o).alloc (.cells #[.int .i64 rev, .bool false] 37)).heap[W.heap.size + 1]? = some (.cells #[.int .i64 rev, .bool false] 37 (0, 0)) := fun o => by have := row_alloc (W.alloc o) #[.int .i64 rev, .bool false] 37; rwa [World.size_alloc] at this
  refine wp_region_held_drew (S := (fun V => V.cell? ⟨y, 0, none⟩ = some (.slice (some ⟨g, 0, none⟩) R.length c) ∧ V.cell? ⟨b0, 0, none⟩ = some (.int .i64 rev) ∧ V.cell? ⟨b0, 1, none⟩ = some (.bool false))) (by kernel_rfl) ⟨d1, d4, d5⟩ (fun hHeld => ?_)
  refine wpAnyH_take (i := 0) (oi := { dst := some 84, op := Go.Op.move (Go.Operand.tmp 0), type := 26, pos := "ref.go:68", after := #[], guard := none }) (v := ?_) rfl (by kernel_rfl) (by kernel_rfl) (by kernel_rfl) (fun _ _ _ h => h) (Or.inl ⟨by rfl, ?_⟩) (by assumption) ?_
  case refine_2 => (intro w0 hSw; (try dsimp only at hSw); go_simp; try with_reducible rfl)
  try simp only [Act.put, List.setIfInBounds_toArray, List.set_cons_zero, List.set_cons_succ]
  refine wpAnyH_take (i := 1) (oi := { dst := some 85, op := Go.Op.nilCheck (Go.Operand.tmp 84), type := 0, pos := "ref.go:68", after := #[{ on := 0, ground := Go.Ground.data }], guard := none }) (v := ?_) rfl (by kernel_rfl) (by kernel_rfl) (by kernel_rfl) (fun _ _ _ h => h) (Or.inl ⟨by rfl, ?_⟩) (by assumption) ?_
  case refine_2 => (intro w0 hSw; (try dsimp only at hSw); go_simp; try with_reducible rfl)
  try simp only [Act.put, List.setIfInBounds_toArray, List.set_cons_zero, List.set_cons_succ]
  refine wpAnyH_take (i := 2) (oi := { dst := some 86, op := Go.Op.fieldAddr 29 (Go.Operand.tmp 85) 0, type := 0, pos := "ref.go:68", after := #[{ on := 1, ground := Go.Ground.data }], guard := none }) (v := ?_) rfl (by kernel_rfl) (by kernel_rfl) (by kernel_rfl) (fun _ _ _ h => h) (Or.inl ⟨by rfl, ?_⟩) (by assumption) ?_
  case refine_2 => (intro w0 hSw; (try dsimp only at hSw); go_simp; try with_reducible rfl)
  try simp only [Act.put, List.setIfInBounds_toArray, List.set_cons_zero, List.set_cons_succ]
  refine wpAnyH_take (i := 3) (oi := { dst := some 87, op := Go.Op.load 27 (Go.Operand.tmp 86), type := 27, pos := "ref.go:68", after := #[{ on := 2, ground := Go.Ground.data }], guard := none }) (v := ?_) rfl (by kernel_rfl) (by kernel_rfl) (by kernel_rfl) (fun _ _ _ h => h) (Or.inl ⟨by rfl, ?_⟩) (by assumption) ?_
  case refine_2 => (intro w0 hSw; (try dsimp only at hSw); go_simp; try with_reducible rfl)
  try simp only [Act.put, List.setIfInBounds_toArray, List.set_cons_zero, List.set_cons_succ]
  refine wpAnyH_take (i := 4) (oi := { dst := some 88, op := Go.Op.move (Go.Operand.tmp 9), type := 3, pos := "ref.go:68", after := #[], guard := none }) (v := ?_) rfl (by kernel_rfl) (by kernel_rfl) (by kernel_rfl) (fun _ _ _ h => h) (Or.inl ⟨by rfl, ?_⟩) (by assumption) ?_
  case refine_2 => (intro w0 hSw; (try dsimp only at hSw); go_simp; try with_reducible rfl)
  try simp only [Act.put, List.setIfInBounds_toArray, List.set_cons_zero, List.set_cons_succ]
  refine wpAnyH_take (i := 6) (oi := { dst := some 90, op := Go.Op.move (Go.Operand.tmp 0), type := 26, pos := "ref.go:68", after := #[], guard := none }) (v := ?_) rfl (by kernel_rfl) (by kernel_rfl) (by kernel_rfl) (fun _ _ _ h => h) (Or.inl ⟨by rfl, ?_⟩) (by assumption) ?_
  case refine_2 => (intro w0 hSw; (try dsimp only at hSw); go_simp; try with_reducible rfl)
  try simp only [Act.put, List.setIfInBounds_toArray, List.set_cons_zero, List.set_cons_succ]
  refine wpAnyH_take (i := 7) (oi := { dst := some 91, op := Go.Op.nilCheck (Go.Operand.tmp 90), type := 0, pos := "ref.go:68", after := #[{ on := 6, ground := Go.Ground.data }], guard := none }) (v := ?_) rfl (by kernel_rfl) (by kernel_rfl) (by kernel_rfl) (fun _ _ _ h => h) (Or.inl ⟨by rfl, ?_⟩) (by assumption) ?_
  case refine_2 => (intro w0 hSw; (try dsimp only at hSw); go_simp; try with_reducible rfl)
  try simp only [Act.put, List.setIfInBounds_toArray, List.set_cons_zero, List.set_cons_succ]
  refine wpAnyH_take (i := 8) (oi := { dst := some 92, op := Go.Op.fieldAddr 29 (Go.Operand.tmp 91) 0, type := 0, pos := "ref.go:68", after := #[{ on := 7, ground := Go.Ground.data }], guard := none }) (v := ?_) rfl (by kernel_rfl) (by kernel_rfl) (by kernel_rfl) (fun _ _ _ h => h) (Or.inl ⟨by rfl, ?_⟩) (by assumption) ?_
  case refine_2 => (intro w0 hSw; (try dsimp only at hSw); go_simp; try with_reducible rfl)
  try simp only [Act.put, List.setIfInBounds_toArray, List.set_cons_zero, List.set_cons_succ]
  refine wpAnyH_take (i := 9) (oi := { dst := some 93, op := Go.Op.load 27 (Go.Operand.tmp 92), type := 27, pos := "ref.go:68", after := #[{ on := 8, ground := Go.Ground.data }], guard := none }) (v := ?_) rfl (by kernel_rfl) (by kernel_rfl) (by kernel_rfl) (fun _ _ _ h => h) (Or.inl ⟨by rfl, ?_⟩) (by assumption) ?_
  case refine_2 => (intro w0 hSw; (try dsimp only at hSw); go_simp; try with_reducible rfl)
  try simp only [Act.put, List.setIfInBounds_toArray, List.set_cons_zero, List.set_cons_succ]
  refine wpAnyH_take (i := 10) (oi := { dst := some 94, op := Go.Op.move (Go.Operand.tmp 9), type := 3, pos := "ref.go:68", after := #[], guard := none }) (v := ?_) rfl (by kernel_rfl) (by kernel_rfl) (by kernel_rfl) (fun _ _ _ h => h) (Or.inl ⟨by rfl, ?_⟩) (by assumption) ?_
  case refine_2 => (intro w0 hSw; (try dsimp only at hSw); go_simp; try with_reducible rfl)
  try simp only [Act.put, List.setIfInBounds_toArray, List.set_cons_zero, List.set_cons_succ]
  refine wpAnyH_take (i := 11) (oi := { dst := some 95, op := Go.Op.indexAddr 27 (Go.Operand.tmp 93) (Go.Operand.tmp 94), type := 0, pos := "ref.go:68", after := #[{ on := 9, ground := Go.Ground.data }, { on := 10, ground := Go.Ground.data }], guard := none }) (v := ?_) rfl (by kernel_rfl) (by kernel_rfl) (by kernel_rfl) (fun _ _ _ h => h) (Or.inl ⟨by rfl, ?_⟩) (by assumption) ?_
  case refine_2 => (intro w0 hSw; (try dsimp only at hSw); go_simp; try with_reducible rfl)
  try simp only [Act.put, List.setIfInBounds_toArray, List.set_cons_zero, List.set_cons_succ]
  refine wpAnyH_take (i := 12) (oi := { dst := some 96, op := Go.Op.fieldAddr 69 (Go.Operand.tmp 95) 1, type := 0, pos := "ref.go:68", after := #[{ on := 11, ground := Go.Ground.data }], guard := none }) (v := ?_) rfl (by kernel_rfl) (by kernel_rfl) (by kernel_rfl) (fun _ _ _ h => h) (Or.inl ⟨by rfl, ?_⟩) (by assumption) ?_
  case refine_2 => (intro w0 hSw; (try dsimp only at hSw); go_simp; try with_reducible rfl)
  try simp only [Act.put, List.setIfInBounds_toArray, List.set_cons_zero, List.set_cons_succ]
  refine wpAnyH_take (i := 15) (oi := { dst := some 99, op := Go.Op.load 37 (Go.Operand.tmp 5), type := 37, pos := "ref.go:68", after := #[], guard := none }) (v := ?_) rfl (by kernel_rfl) (by kernel_rfl) (by kernel_rfl) (fun _ _ _ h => h) (Or.inl ⟨by rfl, ?_⟩) (by assumption) ?_
  case refine_2 => (intro w0 hSw; (try dsimp only at hSw); go_simp; try with_reducible rfl)
  try simp only [Act.put, List.setIfInBounds_toArray, List.set_cons_zero, List.set_cons_succ]
  refine wpAnyH_ready (rs := [5, 13, 16]) (by kernel_rfl) (by simp) ?_
  refine AllReadyH.cons rfl (fun K hK => ?_) ?_
  · go_simp
    refine hK.out _ _ (by first | assumption | exact ⟨by assumption, by assumption, by assumption⟩ | exact ⟨da1 _, da4 _, da5 _⟩ | exact ⟨db1 _ _, db4 _ _, db5 _ _⟩ | exact ⟨ea1 _, ea4 _, ea5 _⟩) (fun hHeld2 => ?_)
    clear hK K hHeld
    have hHeld := hHeld2
    clear hHeld2
    try simp only [Act.put, List.setIfInBounds_toArray, List.set_cons_zero, List.set_cons_succ]
    refine wpAnyH_ready (rs := [13, 16]) (by kernel_rfl) (by simp) ?_
    refine AllReadyH.cons rfl (fun K hK => ?_) ?_
    · go_simp
      refine hK.out _ _ (by first | assumption | exact ⟨by assumption, by assumption, by assumption⟩ | exact ⟨da1 _, da4 _, da5 _⟩ | exact ⟨db1 _ _, db4 _ _, db5 _ _⟩ | exact ⟨ea1 _, ea4 _, ea5 _⟩) (fun hHeld2 => ?_)
      clear hK K hHeld
      have hHeld := hHeld2
      clear hHeld2
      try simp only [Act.put, List.setIfInBounds_toArray, List.set_cons_zero, List.set_cons_succ]
      refine wpAnyH_ready (rs := [14, 16]) (by kernel_rfl) (by simp) ?_
      refine AllReadyH.cons rfl (fun K hK => ?_) ?_
      · refine step_appS _ rfl _ _ 41 41 rfl B 37 ti _ 2 Try.underlying41 hti hz0 hz1 rfl (by rw [hz2]; omega) (.slice (some ⟨W.heap.size, 0, none⟩) 0 0) 0 [] (by simp [Act.eval]; done) (owns_empty (by first | exact hA1 | exact hA2 _ | exact hA3 _) (by omega)) (.slice mp r.ms.length mc) (by simp [Act.eval]; done) r.ms.length (mksC r.ms) (HSRC.out _ (by repeat (first | exact Below.refl _ _ | refine Below.drew ?_ | refine Below.alloc ?_ (by simp) _ | refine Below.alloc ?_ (by simp; omega) _))) (by omega) (by simp; omega) ?_
        intro v1 w1 q1 q2 q3 q4
        rw [Nat.zero_add, List.nil_append] at q1
        have hbv1 := HBB.out _ _ _ (by repeat (first | exact Below.refl _ _ | refine Below.drew ?_ | refine Below.alloc ?_ (by simp) _ | refine Below.alloc ?_ (by simp; omega) _)) q2 (HOA.out _ (by omega))
        have hown1 := HOWN.out _ _ _ (by repeat (first | exact Below.refl _ _ | refine Below.drew ?_ | refine Below.alloc ?_ (by simp) _ | refine Below.alloc ?_ (by simp; omega) _)) q3 (HOA.out _ (by omega))
        obtain ⟨e1, e2, e3, e4, e5⟩ := HC.out _ hbv1
        have ea := fun o => HC.out _ (hbv1.alloc hbv1.size o)
        have ea1 := fun o => (ea o).1
        have ea4 := fun o => (ea o).2.2.2.1
        have ea5 := fun o => (ea o).2.2.2.2
        clear ea
        have hv1s := hbv1.size
        have HQ1 : Hid (∀ V, Below w1.heap.size w1 V → V.ownsRow B 37 2 v1 r.ms.length (mksC r.ms)) := fun V hb => ownsRow_upd q1 (Upd.ofBelow (S := fun _ => False) hb) (fun _ _ h => h)
        have hbr := row_alloc w1 #[.int .i64 rev, .bool false] 37
        obtain ⟨vp1, vc1, rfl⟩ := owns_formB0 q1
        clear q1 q3 q4
        show K _ _
        refine hK.out _ _ (by first | assumption | exact ⟨by assumption, by assumption, by assumption⟩ | exact ⟨da1 _, da4 _, da5 _⟩ | exact ⟨db1 _ _, db4 _ _, db5 _ _⟩ | exact ⟨ea1 _, ea4 _, ea5 _⟩) (fun hHeld2 => ?_)
        clear hK K hHeld
        have hHeld := hHeld2
        clear hHeld2
        try simp only [Act.put, List.setIfInBounds_toArray]
        refine wpAnyH_ready (rs := [16]) (by kernel_rfl) (by simp) ?_
        refine AllReadyH.cons rfl (fun K hK => ?_) AllReadyH.nil
        go_simp
        refine hK.out _ _ (by first | assumption | exact ⟨by assumption, by assumption, by assumption⟩ | exact ⟨da1 _, da4 _, da5 _⟩ | exact ⟨db1 _ _, db4 _ _, db5 _ _⟩ | exact ⟨ea1 _, ea4 _, ea5 _⟩) (fun hHeld2 => ?_)
        clear hK K hHeld
        have hHeld := hHeld2
        clear hHeld2
        try simp only [Act.put, List.setIfInBounds_toArray, List.set_cons_zero, List.set_cons_succ]
        refine wpAnyH_ready (rs := [17]) (by kernel_rfl) (by simp) ?_
        refine AllReadyH.cons rfl (fun K hK => ?_) AllReadyH.nil
        refine step_appS _ rfl _ _ 41 41 rfl B 37 ti _ 2 Try.underlying41 hti hz0 hz1 rfl (by rw [hz2]; omega) (.slice vp1 r.ms.length vc1) r.ms.length (mksC r.ms) (by simp [Act.eval]; done) (HQ1.out _ (by repeat (first | exact Below.refl _ _ | refine Below.drew ?_ | refine Below.alloc ?_ (by simp) _ | refine Below.alloc ?_ (by simp; omega) _))) (.slice (some ⟨w1.heap.size, 0, none⟩) 1 1) (by simp [Act.eval]; done) 1 (mkC (rev, false)) (HBK.out _ _ hbr) (by omega) (by first | omega | (simp; omega)) ?_
        intro v2 w2 p1 p2 p3 p4
        have hbv2 := HBB.out _ _ _ (by first | exact hbv1 | exact hbv1.alloc hbv1.size _) p2 hown1
        obtain ⟨s1, s2, s3, s4, s5⟩ := HC.out _ hbv2
        obtain ⟨np2, nc2, rfl⟩ := owns_formB0 p1
        obtain ⟨t1, t4, t5⟩ := HC2.out _ (.slice np2 (r.ms.length + 1) nc2) hbv2
        show K _ _
        refine hK.out _ _ (by first | assumption | exact ⟨by assumption, by assumption, by assumption⟩ | exact ⟨da1 _, da4 _, da5 _⟩ | exact ⟨db1 _ _, db4 _ _, db5 _ _⟩ | exact ⟨ea1 _, ea4 _, ea5 _⟩) (fun hHeld2 => ?_)
        clear hK K hHeld
        have hHeld := hHeld2
        clear hHeld2
        try simp only [Act.put, List.setIfInBounds_toArray]
        refine wpAnyH_ready (rs := [18]) (by kernel_rfl) (by simp) ?_
        refine AllReadyH.cons rfl (fun K hK => ?_) AllReadyH.nil
        go_simp
        refine hK.out _ _ (by first | assumption | exact ⟨by assumption, by assumption, by assumption⟩ | exact ⟨da1 _, da4 _, da5 _⟩ | exact ⟨db1 _ _, db4 _ _, db5 _ _⟩ | exact ⟨ea1 _, ea4 _, ea5 _⟩) (fun hHeld2 => ?_)
        clear hK K hHeld
        have hHeld := hHeld2
        clear hHeld2
        try simp only [Act.put, List.setIfInBounds_toArray, List.set_cons_zero, List.set_cons_succ]
        refine wpAnyH_ready (rs := [19]) (by kernel_rfl) (by simp) ?_
        refine AllReadyH.cons rfl (fun K hK => ?_) AllReadyH.nil
        go_simp
        refine hK.out _ _ (by first | assumption | exact ⟨by assumption, by assumption, by assumption⟩ | exact ⟨da1 _, da4 _, da5 _⟩ | exact ⟨db1 _ _, db4 _ _, db5 _ _⟩ | exact ⟨ea1 _, ea4 _, ea5 _⟩) (fun hHeld2 => ?_)
        clear hK K hHeld
        have hHeld := hHeld2
        clear hHeld2
        try simp only [Act.put, List.setIfInBounds_toArray, List.set_cons_zero, List.set_cons_succ]
        refine wpAnyH_ready (rs := [20]) (by kernel_rfl) (by simp) ?_
        refine AllReadyH.cons rfl (fun K hK => ?_) AllReadyH.nil
        go_simp
        refine hK.out _ _ (by first | assumption | exact ⟨by assumption, by assumption, by assumption⟩ | exact ⟨da1 _, da4 _, da5 _⟩ | exact ⟨db1 _ _, db4 _ _, db5 _ _⟩ | exact ⟨ea1 _, ea4 _, ea5 _⟩) (fun hHeld2 => ?_)
        clear hK K hHeld
        have hHeld := hHeld2
        clear hHeld2
        try simp only [Act.put, List.setIfInBounds_toArray, List.set_cons_zero, List.set_cons_succ]
        refine wpAnyH_done (by kernel_rfl) ?_ _
        go_wp2
        go_ret
        exact ⟨rfl, HFIN.out _ _ hbv2 p1⟩
      refine AllReadyH.cons rfl (fun K hK => ?_) AllReadyH.nil
      go_simp
      refine hK.out _ _ (by first | assumption | exact ⟨by assumption, by assumption, by assumption⟩ | exact ⟨da1 _, da4 _, da5 _⟩ | exact ⟨db1 _ _, db4 _ _, db5 _ _⟩ | exact ⟨ea1 _, ea4 _, ea5 _⟩) (fun hHeld2 => ?_)
      clear hK K hHeld
      have hHeld := hHeld2
      clear hHeld2
      try simp only [Act.put, List.setIfInBounds_toArray, List.set_cons_zero, List.set_cons_succ]
      refine wpAnyH_ready (rs := [14]) (by kernel_rfl) (by simp) ?_
      refine AllReadyH.cons rfl (fun K hK => ?_) AllReadyH.nil
      refine step_appS _ rfl _ _ 41 41 rfl B 37 ti _ 2 Try.underlying41 hti hz0 hz1 rfl (by rw [hz2]; omega) (.slice (some ⟨W.heap.size, 0, none⟩) 0 0) 0 [] (by simp [Act.eval]; done) (owns_empty (by first | exact hA1 | exact hA2 _ | exact hA3 _) (by omega)) (.slice mp r.ms.length mc) (by simp [Act.eval]; done) r.ms.length (mksC r.ms) (HSRC.out _ (by repeat (first | exact Below.refl _ _ | refine Below.drew ?_ | refine Below.alloc ?_ (by simp) _ | refine Below.alloc ?_ (by simp; omega) _))) (by omega) (by simp; omega) ?_
      intro v1 w1 q1 q2 q3 q4
      rw [Nat.zero_add, List.nil_append] at q1
      have hbv1 := HBB.out _ _ _ (by repeat (first | exact Below.refl _ _ | refine Below.drew ?_ | refine Below.alloc ?_ (by simp) _ | refine Below.alloc ?_ (by simp; omega) _)) q2 (HOA.out _ (by omega))
      have hown1 := HOWN.out _ _ _ (by repeat (first | exact Below.refl _ _ | refine Below.drew ?_ | refine Below.alloc ?_ (by simp) _ | refine Below.alloc ?_ (by simp; omega) _)) q3 (HOA.out _ (by omega))
      obtain ⟨e1, e2, e3, e4, e5⟩ := HC.out _ hbv1
      have ea := fun o => HC.out _ (hbv1.alloc hbv1.size o)
      have ea1 := fun o => (ea o).1
      have ea4 := fun o => (ea o).2.2.2.1
      have ea5 := fun o => (ea o).2.2.2.2
      clear ea
      have hv1s := hbv1.size
      have HQ1 : Hid (∀ V, Below w1.heap.size w1 V → V.ownsRow B 37 2 v1 r.ms.length (mksC r.ms)) := fun V hb => ownsRow_upd q1 (Upd.ofBelow (S := fun _ => False) hb) (fun _ _ h => h)
      have hbr := (q2.block (W.heap.size + 1) (by first | omega | (simp; omega) | simp) (HNB.out _ _ (by omega))).trans (by first | exact hB1 | exact hB2 _ | exact hB3 _)
      obtain ⟨vp1, vc1, rfl⟩ := owns_formB0 q1
      clear q1 q3 q4
      show K _ _
      refine hK.out _ _ (by first | assumption | exact ⟨by assumption, by assumption, by assumption⟩ | exact ⟨da1 _, da4 _, da5 _⟩ | exact ⟨db1 _ _, db4 _ _, db5 _ _⟩ | exact ⟨ea1 _, ea4 _, ea5 _⟩) (fun hHeld2 => ?_)
      clear hK K hHeld
      have hHeld := hHeld2
      clear hHeld2
      try simp only [Act.put, List.setIfInBounds_toArray]
      refine wpAnyH_ready (rs := [17]) (by kernel_rfl) (by simp) ?_
      refine AllReadyH.cons rfl (fun K hK => ?_) AllReadyH.nil
      refine step_appS _ rfl _ _ 41 41 rfl B 37 ti _ 2 Try.underlying41 hti hz0 hz1 rfl (by rw [hz2]; omega) (.slice vp1 r.ms.length vc1) r.ms.length (mksC r.ms) (by simp [Act.eval]; done) (HQ1.out _ (by repeat (first | exact Below.refl _ _ | refine Below.drew ?_ | refine Below.alloc ?_ (by simp) _ | refine Below.alloc ?_ (by simp; omega) _))) (.slice (some ⟨W.heap.size + 1, 0, none⟩) 1 1) (by simp [Act.eval]; done) 1 (mkC (rev, false)) (HBK.out _ _ hbr) (by omega) (by first | omega | (simp; omega)) ?_
      intro v2 w2 p1 p2 p3 p4
      have hbv2 := HBB.out _ _ _ (by first | exact hbv1 | exact hbv1.alloc hbv1.size _) p2 hown1
      obtain ⟨s1, s2, s3, s4, s5⟩ := HC.out _ hbv2
      obtain ⟨np2, nc2, rfl⟩ := owns_formB0 p1
      obtain ⟨t1, t4, t5⟩ := HC2.out _ (.slice np2 (r.ms.length + 1) nc2) hbv2
      show K _ _
      refine hK.out _ _ (by first | assumption | exact ⟨by assumption, by assumption, by assumption⟩ | exact ⟨da1 _, da4 _, da5 _⟩ | exact ⟨db1 _ _, db4 _ _, db5 _ _⟩ | exact ⟨ea1 _, ea4 _, ea5 _⟩) (fun hHeld2 => ?_)
      clear hK K hHeld
      have hHeld := hHeld2
      clear hHeld2
      try simp only [Act.put]
      refine wpAnyH_ready (rs := [18]) (by kernel_rfl) (by simp) ?_
      refine AllReadyH.cons rfl (fun K hK => ?_) AllReadyH.nil
      go_simp
      refine hK.out _ _ (by first | assumption | exact ⟨by assumption, by assumption, by assumption⟩ | exact ⟨da1 _, da4 _, da5 _⟩ | exact ⟨db1 _ _, db4 _ _, db5 _ _⟩ | exact ⟨ea1 _, ea4 _, ea5 _⟩) (fun hHeld2 => ?_)
      clear hK K hHeld
      have hHeld := hHeld2
      clear hHeld2
      try simp only [Act.put, List.setIfInBounds_toArray, List.set_cons_zero, List.set_cons_succ]
      refine wpAnyH_ready (rs := [19]) (by kernel_rfl) (by simp) ?_
      refine AllReadyH.cons rfl (fun K hK => ?_) AllReadyH.nil
      go_simp
      refine hK.out _ _ (by first | assumption | exact ⟨by assumption, by assumption, by assumption⟩ | exact ⟨da1 _, da4 _, da5 _⟩ | exact ⟨db1 _ _, db4 _ _, db5 _ _⟩ | exact ⟨ea1 _, ea4 _, ea5 _⟩) (fun hHeld2 => ?_)
      clear hK K hHeld
      have hHeld := hHeld2
      clear hHeld2
      try simp only [Act.put, List.setIfInBounds_toArray, List.set_cons_zero, List.set_cons_succ]
      refine wpAnyH_ready (rs := [20]) (by kernel_rfl) (by simp) ?_
      refine AllReadyH.cons rfl (fun K hK => ?_) AllReadyH.nil
      go_simp
      refine hK.out _ _ (by first | assumption | exact ⟨by assumption, by assumption, by assumption⟩ | exact ⟨da1 _, da4 _, da5 _⟩ | exact ⟨db1 _ _, db4 _ _, db5 _ _⟩ | exact ⟨ea1 _, ea4 _, ea5 _⟩) (fun hHeld2 => ?_)
      clear hK K hHeld
      have hHeld := hHeld2
      clear hHeld2
      try simp only [Act.put, List.setIfInBounds_toArray, List.set_cons_zero, List.set_cons_succ]
      refine wpAnyH_done (by kernel_rfl) ?_ _
      go_wp2
      go_ret
      exact ⟨rfl, HFIN.out _ _ hbv2 p1⟩
    refine AllReadyH.cons rfl (fun K hK => ?_) AllReadyH.nil
    go_simp
    refine hK.out _ _ (by first | assumption | exact ⟨by assumption, by assumption, by assumption⟩ | exact ⟨da1 _, da4 _, da5 _⟩ | exact ⟨db1 _ _, db4 _ _, db5 _ _⟩ | exact ⟨ea1 _, ea4 _, ea5 _⟩) (fun hHeld2 => ?_)
    clear hK K hHeld
    have hHeld := hHeld2
    clear hHeld2
    try simp only [Act.put, List.setIfInBounds_toArray, List.set_cons_zero, List.set_cons_succ]
    refine wpAnyH_ready (rs := [13]) (by kernel_rfl) (by simp) ?_
    refine AllReadyH.cons rfl (fun K hK => ?_) AllReadyH.nil
    go_simp
    refine hK.out _ _ (by first | assumption | exact ⟨by assumption, by assumption, by assumption⟩ | exact ⟨da1 _, da4 _, da5 _⟩ | exact ⟨db1 _ _, db4 _ _, db5 _ _⟩ | exact ⟨ea1 _, ea4 _, ea5 _⟩) (fun hHeld2 => ?_)
    clear hK K hHeld
    have hHeld := hHeld2
    clear hHeld2
    try simp only [Act.put, List.setIfInBounds_toArray, List.set_cons_zero, List.set_cons_succ]
    refine wpAnyH_ready (rs := [14]) (by kernel_rfl) (by simp) ?_
    refine AllReadyH.cons rfl (fun K hK => ?_) AllReadyH.nil
    refine step_appS _ rfl _ _ 41 41 rfl B 37 ti _ 2 Try.underlying41 hti hz0 hz1 rfl (by rw [hz2]; omega) (.slice (some ⟨W.heap.size, 0, none⟩) 0 0) 0 [] (by simp [Act.eval]; done) (owns_empty (by first | exact hA1 | exact hA2 _ | exact hA3 _) (by omega)) (.slice mp r.ms.length mc) (by simp [Act.eval]; done) r.ms.length (mksC r.ms) (HSRC.out _ (by repeat (first | exact Below.refl _ _ | refine Below.drew ?_ | refine Below.alloc ?_ (by simp) _ | refine Below.alloc ?_ (by simp; omega) _))) (by omega) (by simp; omega) ?_
    intro v1 w1 q1 q2 q3 q4
    rw [Nat.zero_add, List.nil_append] at q1
    have hbv1 := HBB.out _ _ _ (by repeat (first | exact Below.refl _ _ | refine Below.drew ?_ | refine Below.alloc ?_ (by simp) _ | refine Below.alloc ?_ (by simp; omega) _)) q2 (HOA.out _ (by omega))
    have hown1 := HOWN.out _ _ _ (by repeat (first | exact Below.refl _ _ | refine Below.drew ?_ | refine Below.alloc ?_ (by simp) _ | refine Below.alloc ?_ (by simp; omega) _)) q3 (HOA.out _ (by omega))
    obtain ⟨e1, e2, e3, e4, e5⟩ := HC.out _ hbv1
    have ea := fun o => HC.out _ (hbv1.alloc hbv1.size o)
    have ea1 := fun o => (ea o).1
    have ea4 := fun o => (ea o).2.2.2.1
    have ea5 := fun o => (ea o).2.2.2.2
    clear ea
    have hv1s := hbv1.size
    have HQ1 : Hid (∀ V, Below w1.heap.size w1 V → V.ownsRow B 37 2 v1 r.ms.length (mksC r.ms)) := fun V hb => ownsRow_upd q1 (Upd.ofBelow (S := fun _ => False) hb) (fun _ _ h => h)
    have hbr := (q2.block (W.heap.size + 1) (by first | omega | (simp; omega) | simp) (HNB.out _ _ (by omega))).trans (by first | exact hB1 | exact hB2 _ | exact hB3 _)
    obtain ⟨vp1, vc1, rfl⟩ := owns_formB0 q1
    clear q1 q3 q4
    show K _ _
    refine hK.out _ _ (by first | assumption | exact ⟨by assumption, by assumption, by assumption⟩ | exact ⟨da1 _, da4 _, da5 _⟩ | exact ⟨db1 _ _, db4 _ _, db5 _ _⟩ | exact ⟨ea1 _, ea4 _, ea5 _⟩) (fun hHeld2 => ?_)
    clear hK K hHeld
    have hHeld := hHeld2
    clear hHeld2
    try simp only [Act.put, List.setIfInBounds_toArray]
    refine wpAnyH_ready (rs := [17]) (by kernel_rfl) (by simp) ?_
    refine AllReadyH.cons rfl (fun K hK => ?_) AllReadyH.nil
    refine step_appS _ rfl _ _ 41 41 rfl B 37 ti _ 2 Try.underlying41 hti hz0 hz1 rfl (by rw [hz2]; omega) (.slice vp1 r.ms.length vc1) r.ms.length (mksC r.ms) (by simp [Act.eval]; done) (HQ1.out _ (by repeat (first | exact Below.refl _ _ | refine Below.drew ?_ | refine Below.alloc ?_ (by simp) _ | refine Below.alloc ?_ (by simp; omega) _))) (.slice (some ⟨W.heap.size + 1, 0, none⟩) 1 1) (by simp [Act.eval]; done) 1 (mkC (rev, false)) (HBK.out _ _ hbr) (by omega) (by first | omega | (simp; omega)) ?_
    intro v2 w2 p1 p2 p3 p4
    have hbv2 := HBB.out _ _ _ (by first | exact hbv1 | exact hbv1.alloc hbv1.size _) p2 hown1
    obtain ⟨s1, s2, s3, s4, s5⟩ := HC.out _ hbv2
    obtain ⟨np2, nc2, rfl⟩ := owns_formB0 p1
    obtain ⟨t1, t4, t5⟩ := HC2.out _ (.slice np2 (r.ms.length + 1) nc2) hbv2
    show K _ _
    refine hK.out _ _ (by first | assumption | exact ⟨by assumption, by assumption, by assumption⟩ | exact ⟨da1 _, da4 _, da5 _⟩ | exact ⟨db1 _ _, db4 _ _, db5 _ _⟩ | exact ⟨ea1 _, ea4 _, ea5 _⟩) (fun hHeld2 => ?_)
    clear hK K hHeld
    have hHeld := hHeld2
    clear hHeld2
    try simp only [Act.put]
    refine wpAnyH_ready (rs := [18]) (by kernel_rfl) (by simp) ?_
    refine AllReadyH.cons rfl (fun K hK => ?_) AllReadyH.nil
    go_simp
    refine hK.out _ _ (by first | assumption | exact ⟨by assumption, by assumption, by assumption⟩ | exact ⟨da1 _, da4 _, da5 _⟩ | exact ⟨db1 _ _, db4 _ _, db5 _ _⟩ | exact ⟨ea1 _, ea4 _, ea5 _⟩) (fun hHeld2 => ?_)
    clear hK K hHeld
    have hHeld := hHeld2
    clear hHeld2
    try simp only [Act.put, List.setIfInBounds_toArray, List.set_cons_zero, List.set_cons_succ]
    refine wpAnyH_ready (rs := [19]) (by kernel_rfl) (by simp) ?_
    refine AllReadyH.cons rfl (fun K hK => ?_) AllReadyH.nil
    go_simp
    refine hK.out _ _ (by first | assumption | exact ⟨by assumption, by assumption, by assumption⟩ | exact ⟨da1 _, da4 _, da5 _⟩ | exact ⟨db1 _ _, db4 _ _, db5 _ _⟩ | exact ⟨ea1 _, ea4 _, ea5 _⟩) (fun hHeld2 => ?_)
    clear hK K hHeld
    have hHeld := hHeld2
    clear hHeld2
    try simp only [Act.put, List.setIfInBounds_toArray, List.set_cons_zero, List.set_cons_succ]
    refine wpAnyH_ready (rs := [20]) (by kernel_rfl) (by simp) ?_
    refine AllReadyH.cons rfl (fun K hK => ?_) AllReadyH.nil
    go_simp
    refine hK.out _ _ (by first | assumption | exact ⟨by assumption, by assumption, by assumption⟩ | exact ⟨da1 _, da4 _, da5 _⟩ | exact ⟨db1 _ _, db4 _ _, db5 _ _⟩ | exact ⟨ea1 _, ea4 _, ea5 _⟩) (fun hHeld2 => ?_)
    clear hK K hHeld
    have hHeld := hHeld2
    clear hHeld2
    try simp only [Act.put, List.setIfInBounds_toArray, List.set_cons_zero, List.set_cons_succ]
    refine wpAnyH_done (by kernel_rfl) ?_ _
    go_wp2
    go_ret
    exact ⟨rfl, HFIN.out _ _ hbv2 p1⟩
  refine AllReadyH.cons rfl (fun K hK => ?_) ?_
  · go_simp
    refine hK.out _ _ (by first | assumption | exact ⟨by assumption, by assumption, by assumption⟩ | exact ⟨da1 _, da4 _, da5 _⟩ | exact ⟨db1 _ _, db4 _ _, db5 _ _⟩ | exact ⟨ea1 _, ea4 _, ea5 _⟩) (fun hHeld2 => ?_)
    clear hK K hHeld
    have hHeld := hHeld2
    clear hHeld2
    try simp only [Act.put, List.setIfInBounds_toArray, List.set_cons_zero, List.set_cons_succ]
    refine wpAnyH_ready (rs := [5, 16]) (by kernel_rfl) (by simp) ?_
    refine AllReadyH.cons rfl (fun K hK => ?_) ?_
    · go_simp
      refine hK.out _ _ (by first | assumption | exact ⟨by assumption, by assumption, by assumption⟩ | exact ⟨da1 _, da4 _, da5 _⟩ | exact ⟨db1 _ _, db4 _ _, db5 _ _⟩ | exact ⟨ea1 _, ea4 _, ea5 _⟩) (fun hHeld2 => ?_)
      clear hK K hHeld
      have hHeld := hHeld2
      clear hHeld2
      try simp only [Act.put, List.setIfInBounds_toArray, List.set_cons_zero, List.set_cons_succ]
      refine wpAnyH_ready (rs := [14, 16]) (by kernel_rfl) (by simp) ?_
      refine AllReadyH.cons rfl (fun K hK => ?_) ?_
      · refine step_appS _ rfl _ _ 41 41 rfl B 37 ti _ 2 Try.underlying41 hti hz0 hz1 rfl (by rw [hz2]; omega) (.slice (some ⟨W.heap.size, 0, none⟩) 0 0) 0 [] (by simp [Act.eval]; done) (owns_empty (by first | exact hA1 | exact hA2 _ | exact hA3 _) (by omega)) (.slice mp r.ms.length mc) (by simp [Act.eval]; done) r.ms.length (mksC r.ms) (HSRC.out _ (by repeat (first | exact Below.refl _ _ | refine Below.drew ?_ | refine Below.alloc ?_ (by simp) _ | refine Below.alloc ?_ (by simp; omega) _))) (by omega) (by simp; omega) ?_
        intro v1 w1 q1 q2 q3 q4
        rw [Nat.zero_add, List.nil_append] at q1
        have hbv1 := HBB.out _ _ _ (by repeat (first | exact Below.refl _ _ | refine Below.drew ?_ | refine Below.alloc ?_ (by simp) _ | refine Below.alloc ?_ (by simp; omega) _)) q2 (HOA.out _ (by omega))
        have hown1 := HOWN.out _ _ _ (by repeat (first | exact Below.refl _ _ | refine Below.drew ?_ | refine Below.alloc ?_ (by simp) _ | refine Below.alloc ?_ (by simp; omega) _)) q3 (HOA.out _ (by omega))
        obtain ⟨e1, e2, e3, e4, e5⟩ := HC.out _ hbv1
        have ea := fun o => HC.out _ (hbv1.alloc hbv1.size o)
        have ea1 := fun o => (ea o).1
        have ea4 := fun o => (ea o).2.2.2.1
        have ea5 := fun o => (ea o).2.2.2.2
        clear ea
        have hv1s := hbv1.size
        have HQ1 : Hid (∀ V, Below w1.heap.size w1 V → V.ownsRow B 37 2 v1 r.ms.length (mksC r.ms)) := fun V hb => ownsRow_upd q1 (Upd.ofBelow (S := fun _ => False) hb) (fun _ _ h => h)
        have hbr := row_alloc w1 #[.int .i64 rev, .bool false] 37
        obtain ⟨vp1, vc1, rfl⟩ := owns_formB0 q1
        clear q1 q3 q4
        show K _ _
        refine hK.out _ _ (by first | assumption | exact ⟨by assumption, by assumption, by assumption⟩ | exact ⟨da1 _, da4 _, da5 _⟩ | exact ⟨db1 _ _, db4 _ _, db5 _ _⟩ | exact ⟨ea1 _, ea4 _, ea5 _⟩) (fun hHeld2 => ?_)
        clear hK K hHeld
        have hHeld := hHeld2
        clear hHeld2
        try simp only [Act.put, List.setIfInBounds_toArray]
        refine wpAnyH_ready (rs := [16]) (by kernel_rfl) (by simp) ?_
        refine AllReadyH.cons rfl (fun K hK => ?_) AllReadyH.nil
        go_simp
        refine hK.out _ _ (by first | assumption | exact ⟨by assumption, by assumption, by assumption⟩ | exact ⟨da1 _, da4 _, da5 _⟩ | exact ⟨db1 _ _, db4 _ _, db5 _ _⟩ | exact ⟨ea1 _, ea4 _, ea5 _⟩) (fun hHeld2 => ?_)
        clear hK K hHeld
        have hHeld := hHeld2
        clear hHeld2
        try simp only [Act.put, List.setIfInBounds_toArray, List.set_cons_zero, List.set_cons_succ]
        refine wpAnyH_ready (rs := [17]) (by kernel_rfl) (by simp) ?_
        refine AllReadyH.cons rfl (fun K hK => ?_) AllReadyH.nil
        refine step_appS _ rfl _ _ 41 41 rfl B 37 ti _ 2 Try.underlying41 hti hz0 hz1 rfl (by rw [hz2]; omega) (.slice vp1 r.ms.length vc1) r.ms.length (mksC r.ms) (by simp [Act.eval]; done) (HQ1.out _ (by repeat (first | exact Below.refl _ _ | refine Below.drew ?_ | refine Below.alloc ?_ (by simp) _ | refine Below.alloc ?_ (by simp; omega) _))) (.slice (some ⟨w1.heap.size, 0, none⟩) 1 1) (by simp [Act.eval]; done) 1 (mkC (rev, false)) (HBK.out _ _ hbr) (by omega) (by first | omega | (simp; omega)) ?_
        intro v2 w2 p1 p2 p3 p4
        have hbv2 := HBB.out _ _ _ (by first | exact hbv1 | exact hbv1.alloc hbv1.size _) p2 hown1
        obtain ⟨s1, s2, s3, s4, s5⟩ := HC.out _ hbv2
        obtain ⟨np2, nc2, rfl⟩ := owns_formB0 p1
        obtain ⟨t1, t4, t5⟩ := HC2.out _ (.slice np2 (r.ms.length + 1) nc2) hbv2
        show K _ _
        refine hK.out _ _ (by first | assumption | exact ⟨by assumption, by assumption, by assumption⟩ | exact ⟨da1 _, da4 _, da5 _⟩ | exact ⟨db1 _ _, db4 _ _, db5 _ _⟩ | exact ⟨ea1 _, ea4 _, ea5 _⟩) (fun hHeld2 => ?_)
        clear hK K hHeld
        have hHeld := hHeld2
        clear hHeld2
        try simp only [Act.put, List.setIfInBounds_toArray]
        refine wpAnyH_ready (rs := [18]) (by kernel_rfl) (by simp) ?_
        refine AllReadyH.cons rfl (fun K hK => ?_) AllReadyH.nil
        go_simp
        refine hK.out _ _ (by first | assumption | exact ⟨by assumption, by assumption, by assumption⟩ | exact ⟨da1 _, da4 _, da5 _⟩ | exact ⟨db1 _ _, db4 _ _, db5 _ _⟩ | exact ⟨ea1 _, ea4 _, ea5 _⟩) (fun hHeld2 => ?_)
        clear hK K hHeld
        have hHeld := hHeld2
        clear hHeld2
        try simp only [Act.put, List.setIfInBounds_toArray, List.set_cons_zero, List.set_cons_succ]
        refine wpAnyH_ready (rs := [19]) (by kernel_rfl) (by simp) ?_
        refine AllReadyH.cons rfl (fun K hK => ?_) AllReadyH.nil
        go_simp
        refine hK.out _ _ (by first | assumption | exact ⟨by assumption, by assumption, by assumption⟩ | exact ⟨da1 _, da4 _, da5 _⟩ | exact ⟨db1 _ _, db4 _ _, db5 _ _⟩ | exact ⟨ea1 _, ea4 _, ea5 _⟩) (fun hHeld2 => ?_)
        clear hK K hHeld
        have hHeld := hHeld2
        clear hHeld2
        try simp only [Act.put, List.setIfInBounds_toArray, List.set_cons_zero, List.set_cons_succ]
        refine wpAnyH_ready (rs := [20]) (by kernel_rfl) (by simp) ?_
        refine AllReadyH.cons rfl (fun K hK => ?_) AllReadyH.nil
        go_simp
        refine hK.out _ _ (by first | assumption | exact ⟨by assumption, by assumption, by assumption⟩ | exact ⟨da1 _, da4 _, da5 _⟩ | exact ⟨db1 _ _, db4 _ _, db5 _ _⟩ | exact ⟨ea1 _, ea4 _, ea5 _⟩) (fun hHeld2 => ?_)
        clear hK K hHeld
        have hHeld := hHeld2
        clear hHeld2
        try simp only [Act.put, List.setIfInBounds_toArray, List.set_cons_zero, List.set_cons_succ]
        refine wpAnyH_done (by kernel_rfl) ?_ _
        go_wp2
        go_ret
        exact ⟨rfl, HFIN.out _ _ hbv2 p1⟩
      refine AllReadyH.cons rfl (fun K hK => ?_) AllReadyH.nil
      go_simp
      refine hK.out _ _ (by first | assumption | exact ⟨by assumption, by assumption, by assumption⟩ | exact ⟨da1 _, da4 _, da5 _⟩ | exact ⟨db1 _ _, db4 _ _, db5 _ _⟩ | exact ⟨ea1 _, ea4 _, ea5 _⟩) (fun hHeld2 => ?_)
      clear hK K hHeld
      have hHeld := hHeld2
      clear hHeld2
      try simp only [Act.put, List.setIfInBounds_toArray, List.set_cons_zero, List.set_cons_succ]
      refine wpAnyH_ready (rs := [14]) (by kernel_rfl) (by simp) ?_
      refine AllReadyH.cons rfl (fun K hK => ?_) AllReadyH.nil
      refine step_appS _ rfl _ _ 41 41 rfl B 37 ti _ 2 Try.underlying41 hti hz0 hz1 rfl (by rw [hz2]; omega) (.slice (some ⟨W.heap.size, 0, none⟩) 0 0) 0 [] (by simp [Act.eval]; done) (owns_empty (by first | exact hA1 | exact hA2 _ | exact hA3 _) (by omega)) (.slice mp r.ms.length mc) (by simp [Act.eval]; done) r.ms.length (mksC r.ms) (HSRC.out _ (by repeat (first | exact Below.refl _ _ | refine Below.drew ?_ | refine Below.alloc ?_ (by simp) _ | refine Below.alloc ?_ (by simp; omega) _))) (by omega) (by simp; omega) ?_
      intro v1 w1 q1 q2 q3 q4
      rw [Nat.zero_add, List.nil_append] at q1
      have hbv1 := HBB.out _ _ _ (by repeat (first | exact Below.refl _ _ | refine Below.drew ?_ | refine Below.alloc ?_ (by simp) _ | refine Below.alloc ?_ (by simp; omega) _)) q2 (HOA.out _ (by omega))
      have hown1 := HOWN.out _ _ _ (by repeat (first | exact Below.refl _ _ | refine Below.drew ?_ | refine Below.alloc ?_ (by simp) _ | refine Below.alloc ?_ (by simp; omega) _)) q3 (HOA.out _ (by omega))
      obtain ⟨e1, e2, e3, e4, e5⟩ := HC.out _ hbv1
      have ea := fun o => HC.out _ (hbv1.alloc hbv1.size o)
      have ea1 := fun o => (ea o).1
      have ea4 := fun o => (ea o).2.2.2.1
      have ea5 := fun o => (ea o).2.2.2.2
      clear ea
      have hv1s := hbv1.size
      have HQ1 : Hid (∀ V, Below w1.heap.size w1 V → V.ownsRow B 37 2 v1 r.ms.length (mksC r.ms)) := fun V hb => ownsRow_upd q1 (Upd.ofBelow (S := fun _ => False) hb) (fun _ _ h => h)
      have hbr := (q2.block (W.heap.size + 1) (by first | omega | (simp; omega) | simp) (HNB.out _ _ (by omega))).trans (by first | exact hB1 | exact hB2 _ | exact hB3 _)
      obtain ⟨vp1, vc1, rfl⟩ := owns_formB0 q1
      clear q1 q3 q4
      show K _ _
      refine hK.out _ _ (by first | assumption | exact ⟨by assumption, by assumption, by assumption⟩ | exact ⟨da1 _, da4 _, da5 _⟩ | exact ⟨db1 _ _, db4 _ _, db5 _ _⟩ | exact ⟨ea1 _, ea4 _, ea5 _⟩) (fun hHeld2 => ?_)
      clear hK K hHeld
      have hHeld := hHeld2
      clear hHeld2
      try simp only [Act.put, List.setIfInBounds_toArray]
      refine wpAnyH_ready (rs := [17]) (by kernel_rfl) (by simp) ?_
      refine AllReadyH.cons rfl (fun K hK => ?_) AllReadyH.nil
      refine step_appS _ rfl _ _ 41 41 rfl B 37 ti _ 2 Try.underlying41 hti hz0 hz1 rfl (by rw [hz2]; omega) (.slice vp1 r.ms.length vc1) r.ms.length (mksC r.ms) (by simp [Act.eval]; done) (HQ1.out _ (by repeat (first | exact Below.refl _ _ | refine Below.drew ?_ | refine Below.alloc ?_ (by simp) _ | refine Below.alloc ?_ (by simp; omega) _))) (.slice (some ⟨W.heap.size + 1, 0, none⟩) 1 1) (by simp [Act.eval]; done) 1 (mkC (rev, false)) (HBK.out _ _ hbr) (by omega) (by first | omega | (simp; omega)) ?_
      intro v2 w2 p1 p2 p3 p4
      have hbv2 := HBB.out _ _ _ (by first | exact hbv1 | exact hbv1.alloc hbv1.size _) p2 hown1
      obtain ⟨s1, s2, s3, s4, s5⟩ := HC.out _ hbv2
      obtain ⟨np2, nc2, rfl⟩ := owns_formB0 p1
      obtain ⟨t1, t4, t5⟩ := HC2.out _ (.slice np2 (r.ms.length + 1) nc2) hbv2
      show K _ _
      refine hK.out _ _ (by first | assumption | exact ⟨by assumption, by assumption, by assumption⟩ | exact ⟨da1 _, da4 _, da5 _⟩ | exact ⟨db1 _ _, db4 _ _, db5 _ _⟩ | exact ⟨ea1 _, ea4 _, ea5 _⟩) (fun hHeld2 => ?_)
      clear hK K hHeld
      have hHeld := hHeld2
      clear hHeld2
      try simp only [Act.put]
      refine wpAnyH_ready (rs := [18]) (by kernel_rfl) (by simp) ?_
      refine AllReadyH.cons rfl (fun K hK => ?_) AllReadyH.nil
      go_simp
      refine hK.out _ _ (by first | assumption | exact ⟨by assumption, by assumption, by assumption⟩ | exact ⟨da1 _, da4 _, da5 _⟩ | exact ⟨db1 _ _, db4 _ _, db5 _ _⟩ | exact ⟨ea1 _, ea4 _, ea5 _⟩) (fun hHeld2 => ?_)
      clear hK K hHeld
      have hHeld := hHeld2
      clear hHeld2
      try simp only [Act.put, List.setIfInBounds_toArray, List.set_cons_zero, List.set_cons_succ]
      refine wpAnyH_ready (rs := [19]) (by kernel_rfl) (by simp) ?_
      refine AllReadyH.cons rfl (fun K hK => ?_) AllReadyH.nil
      go_simp
      refine hK.out _ _ (by first | assumption | exact ⟨by assumption, by assumption, by assumption⟩ | exact ⟨da1 _, da4 _, da5 _⟩ | exact ⟨db1 _ _, db4 _ _, db5 _ _⟩ | exact ⟨ea1 _, ea4 _, ea5 _⟩) (fun hHeld2 => ?_)
      clear hK K hHeld
      have hHeld := hHeld2
      clear hHeld2
      try simp only [Act.put, List.setIfInBounds_toArray, List.set_cons_zero, List.set_cons_succ]
      refine wpAnyH_ready (rs := [20]) (by kernel_rfl) (by simp) ?_
      refine AllReadyH.cons rfl (fun K hK => ?_) AllReadyH.nil
      go_simp
      refine hK.out _ _ (by first | assumption | exact ⟨by assumption, by assumption, by assumption⟩ | exact ⟨da1 _, da4 _, da5 _⟩ | exact ⟨db1 _ _, db4 _ _, db5 _ _⟩ | exact ⟨ea1 _, ea4 _, ea5 _⟩) (fun hHeld2 => ?_)
      clear hK K hHeld
      have hHeld := hHeld2
      clear hHeld2
      try simp only [Act.put, List.setIfInBounds_toArray, List.set_cons_zero, List.set_cons_succ]
      refine wpAnyH_done (by kernel_rfl) ?_ _
      go_wp2
      go_ret
      exact ⟨rfl, HFIN.out _ _ hbv2 p1⟩
    refine AllReadyH.cons rfl (fun K hK => ?_) AllReadyH.nil
    go_simp
    refine hK.out _ _ (by first | assumption | exact ⟨by assumption, by assumption, by assumption⟩ | exact ⟨da1 _, da4 _, da5 _⟩ | exact ⟨db1 _ _, db4 _ _, db5 _ _⟩ | exact ⟨ea1 _, ea4 _, ea5 _⟩) (fun hHeld2 => ?_)
    clear hK K hHeld
    have hHeld := hHeld2
    clear hHeld2
    try simp only [Act.put, List.setIfInBounds_toArray, List.set_cons_zero, List.set_cons_succ]
    refine wpAnyH_ready (rs := [5]) (by kernel_rfl) (by simp) ?_
    refine AllReadyH.cons rfl (fun K hK => ?_) AllReadyH.nil
    go_simp
    refine hK.out _ _ (by first | assumption | exact ⟨by assumption, by assumption, by assumption⟩ | exact ⟨da1 _, da4 _, da5 _⟩ | exact ⟨db1 _ _, db4 _ _, db5 _ _⟩ | exact ⟨ea1 _, ea4 _, ea5 _⟩) (fun hHeld2 => ?_)
    clear hK K hHeld
    have hHeld := hHeld2
    clear hHeld2
    try simp only [Act.put, List.setIfInBounds_toArray, List.set_cons_zero, List.set_cons_succ]
    refine wpAnyH_ready (rs := [14]) (by kernel_rfl) (by simp) ?_
    refine AllReadyH.cons rfl (fun K hK => ?_) AllReadyH.nil
    refine step_appS _ rfl _ _ 41 41 rfl B 37 ti _ 2 Try.underlying41 hti hz0 hz1 rfl (by rw [hz2]; omega) (.slice (some ⟨W.heap.size + 1, 0, none⟩) 0 0) 0 [] (by simp [Act.eval]; done) (owns_empty (by first | exact hA1 | exact hA2 _ | exact hA3 _) (by omega)) (.slice mp r.ms.length mc) (by simp [Act.eval]; done) r.ms.length (mksC r.ms) (HSRC.out _ (by repeat (first | exact Below.refl _ _ | refine Below.drew ?_ | refine Below.alloc ?_ (by simp) _ | refine Below.alloc ?_ (by simp; omega) _))) (by omega) (by simp; omega) ?_
    intro v1 w1 q1 q2 q3 q4
    rw [Nat.zero_add, List.nil_append] at q1
    have hbv1 := HBB.out _ _ _ (by repeat (first | exact Below.refl _ _ | refine Below.drew ?_ | refine Below.alloc ?_ (by simp) _ | refine Below.alloc ?_ (by simp; omega) _)) q2 (HOA.out _ (by omega))
    have hown1 := HOWN.out _ _ _ (by repeat (first | exact Below.refl _ _ | refine Below.drew ?_ | refine Below.alloc ?_ (by simp) _ | refine Below.alloc ?_ (by simp; omega) _)) q3 (HOA.out _ (by omega))
    obtain ⟨e1, e2, e3, e4, e5⟩ := HC.out _ hbv1
    have ea := fun o => HC.out _ (hbv1.alloc hbv1.size o)
    have ea1 := fun o => (ea o).1
    have ea4 := fun o => (ea o).2.2.2.1
    have ea5 := fun o => (ea o).2.2.2.2
    clear ea
    have hv1s := hbv1.size
    have HQ1 : Hid (∀ V, Below w1.heap.size w1 V → V.ownsRow B 37 2 v1 r.ms.length (mksC r.ms)) := fun V hb => ownsRow_upd q1 (Upd.ofBelow (S := fun _ => False) hb) (fun _ _ h => h)
    have hbr := (q2.block (W.heap.size) (by first | omega | (simp; omega) | simp) (HNB.out _ _ (by omega))).trans (by first | exact hB1 | exact hB2 _ | exact hB3 _)
    obtain ⟨vp1, vc1, rfl⟩ := owns_formB0 q1
    clear q1 q3 q4
    show K _ _
    refine hK.out _ _ (by first | assumption | exact ⟨by assumption, by assumption, by assumption⟩ | exact ⟨da1 _, da4 _, da5 _⟩ | exact ⟨db1 _ _, db4 _ _, db5 _ _⟩ | exact ⟨ea1 _, ea4 _, ea5 _⟩) (fun hHeld2 => ?_)
    clear hK K hHeld
    have hHeld := hHeld2
    clear hHeld2
    try simp only [Act.put, List.setIfInBounds_toArray]
    refine wpAnyH_ready (rs := [17]) (by kernel_rfl) (by simp) ?_
    refine AllReadyH.cons rfl (fun K hK => ?_) AllReadyH.nil
    refine step_appS _ rfl _ _ 41 41 rfl B 37 ti _ 2 Try.underlying41 hti hz0 hz1 rfl (by rw [hz2]; omega) (.slice vp1 r.ms.length vc1) r.ms.length (mksC r.ms) (by simp [Act.eval]; done) (HQ1.out _ (by repeat (first | exact Below.refl _ _ | refine Below.drew ?_ | refine Below.alloc ?_ (by simp) _ | refine Below.alloc ?_ (by simp; omega) _))) (.slice (some ⟨W.heap.size, 0, none⟩) 1 1) (by simp [Act.eval]; done) 1 (mkC (rev, false)) (HBK.out _ _ hbr) (by omega) (by first | omega | (simp; omega)) ?_
    intro v2 w2 p1 p2 p3 p4
    have hbv2 := HBB.out _ _ _ (by first | exact hbv1 | exact hbv1.alloc hbv1.size _) p2 hown1
    obtain ⟨s1, s2, s3, s4, s5⟩ := HC.out _ hbv2
    obtain ⟨np2, nc2, rfl⟩ := owns_formB0 p1
    obtain ⟨t1, t4, t5⟩ := HC2.out _ (.slice np2 (r.ms.length + 1) nc2) hbv2
    show K _ _
    refine hK.out _ _ (by first | assumption | exact ⟨by assumption, by assumption, by assumption⟩ | exact ⟨da1 _, da4 _, da5 _⟩ | exact ⟨db1 _ _, db4 _ _, db5 _ _⟩ | exact ⟨ea1 _, ea4 _, ea5 _⟩) (fun hHeld2 => ?_)
    clear hK K hHeld
    have hHeld := hHeld2
    clear hHeld2
    try simp only [Act.put]
    refine wpAnyH_ready (rs := [18]) (by kernel_rfl) (by simp) ?_
    refine AllReadyH.cons rfl (fun K hK => ?_) AllReadyH.nil
    go_simp
    refine hK.out _ _ (by first | assumption | exact ⟨by assumption, by assumption, by assumption⟩ | exact ⟨da1 _, da4 _, da5 _⟩ | exact ⟨db1 _ _, db4 _ _, db5 _ _⟩ | exact ⟨ea1 _, ea4 _, ea5 _⟩) (fun hHeld2 => ?_)
    clear hK K hHeld
    have hHeld := hHeld2
    clear hHeld2
    try simp only [Act.put, List.setIfInBounds_toArray, List.set_cons_zero, List.set_cons_succ]
    refine wpAnyH_ready (rs := [19]) (by kernel_rfl) (by simp) ?_
    refine AllReadyH.cons rfl (fun K hK => ?_) AllReadyH.nil
    go_simp
    refine hK.out _ _ (by first | assumption | exact ⟨by assumption, by assumption, by assumption⟩ | exact ⟨da1 _, da4 _, da5 _⟩ | exact ⟨db1 _ _, db4 _ _, db5 _ _⟩ | exact ⟨ea1 _, ea4 _, ea5 _⟩) (fun hHeld2 => ?_)
    clear hK K hHeld
    have hHeld := hHeld2
    clear hHeld2
    try simp only [Act.put, List.setIfInBounds_toArray, List.set_cons_zero, List.set_cons_succ]
    refine wpAnyH_ready (rs := [20]) (by kernel_rfl) (by simp) ?_
    refine AllReadyH.cons rfl (fun K hK => ?_) AllReadyH.nil
    go_simp
    refine hK.out _ _ (by first | assumption | exact ⟨by assumption, by assumption, by assumption⟩ | exact ⟨da1 _, da4 _, da5 _⟩ | exact ⟨db1 _ _, db4 _ _, db5 _ _⟩ | exact ⟨ea1 _, ea4 _, ea5 _⟩) (fun hHeld2 => ?_)
    clear hK K hHeld
    have hHeld := hHeld2
    clear hHeld2
    try simp only [Act.put, List.setIfInBounds_toArray, List.set_cons_zero, List.set_cons_succ]
    refine wpAnyH_done (by kernel_rfl) ?_ _
    go_wp2
    go_ret
    exact ⟨rfl, HFIN.out _ _ hbv2 p1⟩
  refine AllReadyH.cons rfl (fun K hK => ?_) AllReadyH.nil
  go_simp
  refine hK.out _ _ (by first | assumption | exact ⟨by assumption, by assumption, by assumption⟩ | exact ⟨da1 _, da4 _, da5 _⟩ | exact ⟨db1 _ _, db4 _ _, db5 _ _⟩ | exact ⟨ea1 _, ea4 _, ea5 _⟩) (fun hHeld2 => ?_)
  clear hK K hHeld
  have hHeld := hHeld2
  clear hHeld2
  try simp only [Act.put, List.setIfInBounds_toArray, List.set_cons_zero, List.set_cons_succ]
  refine wpAnyH_ready (rs := [5, 13]) (by kernel_rfl) (by simp) ?_
  refine AllReadyH.cons rfl (fun K hK => ?_) ?_
  · go_simp
    refine hK.out _ _ (by first | assumption | exact ⟨by assumption, by assumption, by assumption⟩ | exact ⟨da1 _, da4 _, da5 _⟩ | exact ⟨db1 _ _, db4 _ _, db5 _ _⟩ | exact ⟨ea1 _, ea4 _, ea5 _⟩) (fun hHeld2 => ?_)
    clear hK K hHeld
    have hHeld := hHeld2
    clear hHeld2
    try simp only [Act.put, List.setIfInBounds_toArray, List.set_cons_zero, List.set_cons_succ]
    refine wpAnyH_ready (rs := [13]) (by kernel_rfl) (by simp) ?_
    refine AllReadyH.cons rfl (fun K hK => ?_) AllReadyH.nil
    go_simp
    refine hK.out _ _ (by first | assumption | exact ⟨by assumption, by assumption, by assumption⟩ | exact ⟨da1 _, da4 _, da5 _⟩ | exact ⟨db1 _ _, db4 _ _, db5 _ _⟩ | exact ⟨ea1 _, ea4 _, ea5 _⟩) (fun hHeld2 => ?_)
    clear hK K hHeld
    have hHeld := hHeld2
    clear hHeld2
    try simp only [Act.put, List.setIfInBounds_toArray, List.set_cons_zero, List.set_cons_succ]
    refine wpAnyH_ready (rs := [14]) (by kernel_rfl) (by simp) ?_
    refine AllReadyH.cons rfl (fun K hK => ?_) AllReadyH.nil
    refine step_appS _ rfl _ _ 41 41 rfl B 37 ti _ 2 Try.underlying41 hti hz0 hz1 rfl (by rw [hz2]; omega) (.slice (some ⟨W.heap.size + 1, 0, none⟩) 0 0) 0 [] (by simp [Act.eval]; done) (owns_empty (by first | exact hA1 | exact hA2 _ | exact hA3 _) (by omega)) (.slice mp r.ms.length mc) (by simp [Act.eval]; done) r.ms.length (mksC r.ms) (HSRC.out _ (by repeat (first | exact Below.refl _ _ | refine Below.drew ?_ | refine Below.alloc ?_ (by simp) _ | refine Below.alloc ?_ (by simp; omega) _))) (by omega) (by simp; omega) ?_
    intro v1 w1 q1 q2 q3 q4
    rw [Nat.zero_add, List.nil_append] at q1
    have hbv1 := HBB.out _ _ _ (by repeat (first | exact Below.refl _ _ | refine Below.drew ?_ | refine Below.alloc ?_ (by simp) _ | refine Below.alloc ?_ (by simp; omega) _)) q2 (HOA.out _ (by omega))
    have hown1 := HOWN.out _ _ _ (by repeat (first | exact Below.refl _ _ | refine Below.drew ?_ | refine Below.alloc ?_ (by simp) _ | refine Below.alloc ?_ (by simp; omega) _)) q3 (HOA.out _ (by omega))
    obtain ⟨e1, e2, e3, e4, e5⟩ := HC.out _ hbv1
    have ea := fun o => HC.out _ (hbv1.alloc hbv1.size o)
    have ea1 := fun o => (ea o).1
    have ea4 := fun o => (ea o).2.2.2.1
    have ea5 := fun o => (ea o).2.2.2.2
    clear ea
    have hv1s := hbv1.size
    have HQ1 : Hid (∀ V, Below w1.heap.size w1 V → V.ownsRow B 37 2 v1 r.ms.length (mksC r.ms)) := fun V hb => ownsRow_upd q1 (Upd.ofBelow (S := fun _ => False) hb) (fun _ _ h => h)
    have hbr := (q2.block (W.heap.size) (by first | omega | (simp; omega) | simp) (HNB.out _ _ (by omega))).trans (by first | exact hB1 | exact hB2 _ | exact hB3 _)
    obtain ⟨vp1, vc1, rfl⟩ := owns_formB0 q1
    clear q1 q3 q4
    show K _ _
    refine hK.out _ _ (by first | assumption | exact ⟨by assumption, by assumption, by assumption⟩ | exact ⟨da1 _, da4 _, da5 _⟩ | exact ⟨db1 _ _, db4 _ _, db5 _ _⟩ | exact ⟨ea1 _, ea4 _, ea5 _⟩) (fun hHeld2 => ?_)
    clear hK K hHeld
    have hHeld := hHeld2
    clear hHeld2
    try simp only [Act.put, List.setIfInBounds_toArray]
    refine wpAnyH_ready (rs := [17]) (by kernel_rfl) (by simp) ?_
    refine AllReadyH.cons rfl (fun K hK => ?_) AllReadyH.nil
    refine step_appS _ rfl _ _ 41 41 rfl B 37 ti _ 2 Try.underlying41 hti hz0 hz1 rfl (by rw [hz2]; omega) (.slice vp1 r.ms.length vc1) r.ms.length (mksC r.ms) (by simp [Act.eval]; done) (HQ1.out _ (by repeat (first | exact Below.refl _ _ | refine Below.drew ?_ | refine Below.alloc ?_ (by simp) _ | refine Below.alloc ?_ (by simp; omega) _))) (.slice (some ⟨W.heap.size, 0, none⟩) 1 1) (by simp [Act.eval]; done) 1 (mkC (rev, false)) (HBK.out _ _ hbr) (by omega) (by first | omega | (simp; omega)) ?_
    intro v2 w2 p1 p2 p3 p4
    have hbv2 := HBB.out _ _ _ (by first | exact hbv1 | exact hbv1.alloc hbv1.size _) p2 hown1
    obtain ⟨s1, s2, s3, s4, s5⟩ := HC.out _ hbv2
    obtain ⟨np2, nc2, rfl⟩ := owns_formB0 p1
    obtain ⟨t1, t4, t5⟩ := HC2.out _ (.slice np2 (r.ms.length + 1) nc2) hbv2
    show K _ _
    refine hK.out _ _ (by first | assumption | exact ⟨by assumption, by assumption, by assumption⟩ | exact ⟨da1 _, da4 _, da5 _⟩ | exact ⟨db1 _ _, db4 _ _, db5 _ _⟩ | exact ⟨ea1 _, ea4 _, ea5 _⟩) (fun hHeld2 => ?_)
    clear hK K hHeld
    have hHeld := hHeld2
    clear hHeld2
    try simp only [Act.put]
    refine wpAnyH_ready (rs := [18]) (by kernel_rfl) (by simp) ?_
    refine AllReadyH.cons rfl (fun K hK => ?_) AllReadyH.nil
    go_simp
    refine hK.out _ _ (by first | assumption | exact ⟨by assumption, by assumption, by assumption⟩ | exact ⟨da1 _, da4 _, da5 _⟩ | exact ⟨db1 _ _, db4 _ _, db5 _ _⟩ | exact ⟨ea1 _, ea4 _, ea5 _⟩) (fun hHeld2 => ?_)
    clear hK K hHeld
    have hHeld := hHeld2
    clear hHeld2
    try simp only [Act.put, List.setIfInBounds_toArray, List.set_cons_zero, List.set_cons_succ]
    refine wpAnyH_ready (rs := [19]) (by kernel_rfl) (by simp) ?_
    refine AllReadyH.cons rfl (fun K hK => ?_) AllReadyH.nil
    go_simp
    refine hK.out _ _ (by first | assumption | exact ⟨by assumption, by assumption, by assumption⟩ | exact ⟨da1 _, da4 _, da5 _⟩ | exact ⟨db1 _ _, db4 _ _, db5 _ _⟩ | exact ⟨ea1 _, ea4 _, ea5 _⟩) (fun hHeld2 => ?_)
    clear hK K hHeld
    have hHeld := hHeld2
    clear hHeld2
    try simp only [Act.put, List.setIfInBounds_toArray, List.set_cons_zero, List.set_cons_succ]
    refine wpAnyH_ready (rs := [20]) (by kernel_rfl) (by simp) ?_
    refine AllReadyH.cons rfl (fun K hK => ?_) AllReadyH.nil
    go_simp
    refine hK.out _ _ (by first | assumption | exact ⟨by assumption, by assumption, by assumption⟩ | exact ⟨da1 _, da4 _, da5 _⟩ | exact ⟨db1 _ _, db4 _ _, db5 _ _⟩ | exact ⟨ea1 _, ea4 _, ea5 _⟩) (fun hHeld2 => ?_)
    clear hK K hHeld
    have hHeld := hHeld2
    clear hHeld2
    try simp only [Act.put, List.setIfInBounds_toArray, List.set_cons_zero, List.set_cons_succ]
    refine wpAnyH_done (by kernel_rfl) ?_ _
    go_wp2
    go_ret
    exact ⟨rfl, HFIN.out _ _ hbv2 p1⟩
  refine AllReadyH.cons rfl (fun K hK => ?_) AllReadyH.nil
  go_simp
  refine hK.out _ _ (by first | assumption | exact ⟨by assumption, by assumption, by assumption⟩ | exact ⟨da1 _, da4 _, da5 _⟩ | exact ⟨db1 _ _, db4 _ _, db5 _ _⟩ | exact ⟨ea1 _, ea4 _, ea5 _⟩) (fun hHeld2 => ?_)
  clear hK K hHeld
  have hHeld := hHeld2
  clear hHeld2
  try simp only [Act.put, List.setIfInBounds_toArray, List.set_cons_zero, List.set_cons_succ]
  refine wpAnyH_ready (rs := [5]) (by kernel_rfl) (by simp) ?_
  refine AllReadyH.cons rfl (fun K hK => ?_) AllReadyH.nil
  go_simp
  refine hK.out _ _ (by first | assumption | exact ⟨by assumption, by assumption, by assumption⟩ | exact ⟨da1 _, da4 _, da5 _⟩ | exact ⟨db1 _ _, db4 _ _, db5 _ _⟩ | exact ⟨ea1 _, ea4 _, ea5 _⟩) (fun hHeld2 => ?_)
  clear hK K hHeld
  have hHeld := hHeld2
  clear hHeld2
  try simp only [Act.put, List.setIfInBounds_toArray, List.set_cons_zero, List.set_cons_succ]
  refine wpAnyH_ready (rs := [14]) (by kernel_rfl) (by simp) ?_
  refine AllReadyH.cons rfl (fun K hK => ?_) AllReadyH.nil
  refine step_appS _ rfl _ _ 41 41 rfl B 37 ti _ 2 Try.underlying41 hti hz0 hz1 rfl (by rw [hz2]; omega) (.slice (some ⟨W.heap.size + 1, 0, none⟩) 0 0) 0 [] (by simp [Act.eval]; done) (owns_empty (by first | exact hA1 | exact hA2 _ | exact hA3 _) (by omega)) (.slice mp r.ms.length mc) (by simp [Act.eval]; done) r.ms.length (mksC r.ms) (HSRC.out _ (by repeat (first | exact Below.refl _ _ | refine Below.drew ?_ | refine Below.alloc ?_ (by simp) _ | refine Below.alloc ?_ (by simp; omega) _))) (by omega) (by simp; omega) ?_
  intro v1 w1 q1 q2 q3 q4
  rw [Nat.zero_add, List.nil_append] at q1
  have hbv1 := HBB.out _ _ _ (by repeat (first | exact Below.refl _ _ | refine Below.drew ?_ | refine Below.alloc ?_ (by simp) _ | refine Below.alloc ?_ (by simp; omega) _)) q2 (HOA.out _ (by omega))
  have hown1 := HOWN.out _ _ _ (by repeat (first | exact Below.refl _ _ | refine Below.drew ?_ | refine Below.alloc ?_ (by simp) _ | refine Below.alloc ?_ (by simp; omega) _)) q3 (HOA.out _ (by omega))
  obtain ⟨e1, e2, e3, e4, e5⟩ := HC.out _ hbv1
  have ea := fun o => HC.out _ (hbv1.alloc hbv1.size o)
  have ea1 := fun o => (ea o).1
  have ea4 := fun o => (ea o).2.2.2.1
  have ea5 := fun o => (ea o).2.2.2.2
  clear ea
  have hv1s := hbv1.size
  have HQ1 : Hid (∀ V, Below w1.heap.size w1 V → V.ownsRow B 37 2 v1 r.ms.length (mksC r.ms)) := fun V hb => ownsRow_upd q1 (Upd.ofBelow (S := fun _ => False) hb) (fun _ _ h => h)
  have hbr := (q2.block (W.heap.size) (by first | omega | (simp; omega) | simp) (HNB.out _ _ (by omega))).trans (by first | exact hB1 | exact hB2 _ | exact hB3 _)
  obtain ⟨vp1, vc1, rfl⟩ := owns_formB0 q1
  clear q1 q3 q4
  show K _ _
  refine hK.out _ _ (by first | assumption | exact ⟨by assumption, by assumption, by assumption⟩ | exact ⟨da1 _, da4 _, da5 _⟩ | exact ⟨db1 _ _, db4 _ _, db5 _ _⟩ | exact ⟨ea1 _, ea4 _, ea5 _⟩) (fun hHeld2 => ?_)
  clear hK K hHeld
  have hHeld := hHeld2
  clear hHeld2
  try simp only [Act.put, List.setIfInBounds_toArray]
  refine wpAnyH_ready (rs := [17]) (by kernel_rfl) (by simp) ?_
  refine AllReadyH.cons rfl (fun K hK => ?_) AllReadyH.nil
  refine step_appS _ rfl _ _ 41 41 rfl B 37 ti _ 2 Try.underlying41 hti hz0 hz1 rfl (by rw [hz2]; omega) (.slice vp1 r.ms.length vc1) r.ms.length (mksC r.ms) (by simp [Act.eval]; done) (HQ1.out _ (by repeat (first | exact Below.refl _ _ | refine Below.drew ?_ | refine Below.alloc ?_ (by simp) _ | refine Below.alloc ?_ (by simp; omega) _))) (.slice (some ⟨W.heap.size, 0, none⟩) 1 1) (by simp [Act.eval]; done) 1 (mkC (rev, false)) (HBK.out _ _ hbr) (by omega) (by first | omega | (simp; omega)) ?_
  intro v2 w2 p1 p2 p3 p4
  have hbv2 := HBB.out _ _ _ (by first | exact hbv1 | exact hbv1.alloc hbv1.size _) p2 hown1
  obtain ⟨s1, s2, s3, s4, s5⟩ := HC.out _ hbv2
  obtain ⟨np2, nc2, rfl⟩ := owns_formB0 p1
  obtain ⟨t1, t4, t5⟩ := HC2.out _ (.slice np2 (r.ms.length + 1) nc2) hbv2
  show K _ _
  refine hK.out _ _ (by first | assumption | exact ⟨by assumption, by assumption, by assumption⟩ | exact ⟨da1 _, da4 _, da5 _⟩ | exact ⟨db1 _ _, db4 _ _, db5 _ _⟩ | exact ⟨ea1 _, ea4 _, ea5 _⟩) (fun hHeld2 => ?_)
  clear hK K hHeld
  have hHeld := hHeld2
  clear hHeld2
  try simp only [Act.put]
  refine wpAnyH_ready (rs := [18]) (by kernel_rfl) (by simp) ?_
  refine AllReadyH.cons rfl (fun K hK => ?_) AllReadyH.nil
  go_simp
  refine hK.out _ _ (by first | assumption | exact ⟨by assumption, by assumption, by assumption⟩ | exact ⟨da1 _, da4 _, da5 _⟩ | exact ⟨db1 _ _, db4 _ _, db5 _ _⟩ | exact ⟨ea1 _, ea4 _, ea5 _⟩) (fun hHeld2 => ?_)
  clear hK K hHeld
  have hHeld := hHeld2
  clear hHeld2
  try simp only [Act.put, List.setIfInBounds_toArray, List.set_cons_zero, List.set_cons_succ]
  refine wpAnyH_ready (rs := [19]) (by kernel_rfl) (by simp) ?_
  refine AllReadyH.cons rfl (fun K hK => ?_) AllReadyH.nil
  go_simp
  refine hK.out _ _ (by first | assumption | exact ⟨by assumption, by assumption, by assumption⟩ | exact ⟨da1 _, da4 _, da5 _⟩ | exact ⟨db1 _ _, db4 _ _, db5 _ _⟩ | exact ⟨ea1 _, ea4 _, ea5 _⟩) (fun hHeld2 => ?_)
  clear hK K hHeld
  have hHeld := hHeld2
  clear hHeld2
  try simp only [Act.put, List.setIfInBounds_toArray, List.set_cons_zero, List.set_cons_succ]
  refine wpAnyH_ready (rs := [20]) (by kernel_rfl) (by simp) ?_
  refine AllReadyH.cons rfl (fun K hK => ?_) AllReadyH.nil
  go_simp
  refine hK.out _ _ (by first | assumption | exact ⟨by assumption, by assumption, by assumption⟩ | exact ⟨da1 _, da4 _, da5 _⟩ | exact ⟨db1 _ _, db4 _ _, db5 _ _⟩ | exact ⟨ea1 _, ea4 _, ea5 _⟩) (fun hHeld2 => ?_)
  clear hK K hHeld
  have hHeld := hHeld2
  clear hHeld2
  try simp only [Act.put, List.setIfInBounds_toArray, List.set_cons_zero, List.set_cons_succ]
  refine wpAnyH_done (by kernel_rfl) ?_ _
  go_wp2
  go_ret
  exact ⟨rfl, HFIN.out _ _ hbv2 p1⟩
set_option maxRecDepth 100000 in
set_option maxHeartbeats 4000000 in
theorem rput_oldT {r : IM} (hr : R[plc (R.map IM.it) key]? = some r) (hrk : r.it.key = key) (hl : lookD (dat R) key = some r.ms) (hpos : 0 < r.ms.length) (hk0 : ¬ key.size = 0) (hk1 : ¬ 100 < key.size) (hr1 : ¬ rev < 1) (hgap : ¬ rev ≤ (lastM r.ms).1) (hB : B ≤ w.heap.size) (hdl : (lastM r.ms).2 = false) (he : putE (dat R) key rev true = 0) : Calls Try.prog 11 #[ptr y, .string key, .agg #[.int .i64 rev, .bool true]] w fun e w' => e = .returned (.int .i64 0) ∧ RPut w B y rv (putD (dat R) key rev true) w' := by
  have HDAT : Hid (∀ v, dat (R.set (plc (R.map IM.it) key) ⟨⟨key, v⟩, r.ms ++ [(rev, true)]⟩) = putD (dat R) key rev true) := fun v => rput_old ha hr hrk hl he
  have hne : ¬ key = ByteArray.empty := fun e => hk0 (by rw [e]; rfl)
  have q := ne_hi hne
  have hb0 : Below w.heap.size w (w.alloc (.cells #[.int .i64 rev, .bool true] 37)) := (Below.refl _ w).alloc (Nat.le_refl _) _
  obtain ⟨W0, hW0⟩ : ∃ W0, W0 = w.alloc (.cells #[.int .i64 rev, .bool true] 37) := ⟨_, rfl⟩
  have hr0 : W0.heap[w.heap.size]? = some (.cells #[.int .i64 rev, .bool true] 37 (0, 0)) := by rw [hW0]; exact row_alloc w _ _
  rw [← hW0] at hb0
  have hmk := rmarks_any (h.below hb0) ha hn hms key
  rw [hl] at hmk
  have e0 : W0.cell? ⟨w.heap.size, 0, none⟩ = some (.int .i64 rev) := by simp [World.cell?, hr0]
  have HX := Hid.mk'' h
  have hml := hms r (List.mem_of_getElem? hr)
  have hx1 : IntKind.i64.wrap ((r.ms.length : Int) - 1) = ((r.ms.length - 1 : Nat) : Int) := by rw [IntKind.wrap_i64]; omega
  go_enter Try.func11, Try.ntmps11
  go_upto_region 1 with (fail)
  rw [← hW0]
  clear hW0 h
  go_upto_region 4 with (go_at_call 15; refine hmk.mono ?_; rintro e W1 ⟨v1, rfl, ⟨p1, c1, hv1⟩, hM1, hb1⟩; dsimp only [Option.getD_some] at hv1 hM1; subst hv1)
  have hbw1 : Below w.heap.size w W1 := hb0.trans (hb1.mono hb0.size)
  have hr1' : W1.heap[w.heap.size]? = some (.cells #[.int .i64 rev, .bool true] 37 (0, 0)) := (hb1.block _ (Array.getElem?_eq_some_iff.1 hr0).1).trans hr0
  have f0 : W1.cell? ⟨w.heap.size, 0, none⟩ = some (.int .i64 rev) := by simp [World.cell?, hr1']
  have f1 : W1.cell? ⟨w.heap.size, 1, none⟩ = some (.bool true) := by simp [World.cell?, hr1']
  obtain ⟨lg, lc, hlv, _, _⟩ := owns_formB hM1 hpos
  cases hlv
  obtain ⟨l0, l1⟩ := mk_cells hM1 (last_of hpos)
  have hlgl := World.block_lt_of_cell? _ _ l0
  have hgen : ∃ nl : Nat, nl = r.ms.length := ⟨_, rfl⟩
  obtain ⟨nl, hnl⟩ := hgen
  rw [← hnl] at hx1 l0 l1 hpos hml ⊢
  clear hmk hb1 hr0 e0 hb0 hM1 hnl
  go_upto_region 5 with (fail)
  go_quiet (fail)
  obtain ⟨W2, hW2⟩ : ∃ W2, W2 = W1.drewN nq := ⟨_, rfl⟩
  rw [← hW2]
  have hb2 : Below W1.heap.size W1 W2 := by rw [hW2]; exact below_drewN' (Below.refl _ _) nq
  have hbw2 : Below w.heap.size w W2 := hbw1.trans (hb2.mono hbw1.size)
  have hr2 : W2.heap[w.heap.size]? = some (.cells #[.int .i64 rev, .bool true] 37 (0, 0)) := (hb2.block _ (Array.getElem?_eq_some_iff.1 hr1').1).trans hr1'
  have g0 : W2.cell? ⟨w.heap.size, 0, none⟩ = some (.int .i64 rev) := by simp [World.cell?, hr2]
  have g1 : W2.cell? ⟨w.heap.size, 1, none⟩ = some (.bool true) := by simp [World.cell?, hr2]
  have m0 := (hb2.cell (p := ⟨lg, (nl - 1) * 2, none⟩) hlgl).trans l0
  have m1 := (hb2.cell (p := ⟨lg, (nl - 1) * 2 + 1, none⟩) hlgl).trans l1
  clear l0 l1 hlgl
  clear hW2 f0 f1 hr1' hb2
  rw [hdl] at m1
  have hat := rat_any (HX.out.below hbw2) hn key
  obtain ⟨g, c, hv, hgB, hgl0, hgk0, hgm0, hgf0⟩ := HX.out.at_ hr
  have hXW := HX.out.below hbw2
  rw [hv] at hXW
  have HX1 := Hid.mk'' hXW
  have hk : plc (R.map IM.it) key < R.length := (List.getElem?_eq_some_iff.1 hr).1
  have hgl : g < W2.heap.size := Nat.lt_of_lt_of_le hgl0 hbw2.size
  obtain ⟨mp, mc, hmv⟩ := owns_formB0 (HX.out.mks r (List.mem_of_getElem? hr))
  have hg1 : W2.cell? ⟨g, plc (R.map IM.it) key * 2 + 1, none⟩ = some (.slice mp r.ms.length mc) := by rw [← hmv]; exact (hbw2.cell (p := ⟨g, plc (R.map IM.it) key * 2 + 1, none⟩) hgl0).trans hgm0
  have hgf : W2.frozen? ⟨g, plc (R.map IM.it) key * 2 + 1, none⟩ = false := (hbw2.frozen (p := ⟨g, plc (R.map IM.it) key * 2 + 1, none⟩) hgl0).trans (hgf0 _)
  have hM1 : RMk W2 B (.slice mp r.ms.length mc) r.ms := by rw [← hmv]; exact ownsRow_upd (HX.out.mks r (List.mem_of_getElem? hr)) (Upd.ofBelow (S := fun _ => False) hbw2) (fun _ _ h => h)
  have hml := hms r (List.mem_of_getElem? hr)
  have hWB : B ≤ W2.heap.size := Nat.le_trans hB hbw2.size
  have HQ : Hid (∀ w2 v2, Below W2.heap.size W2 w2 → RMk w2 B v2 (r.ms ++ [(rev, true)]) → RPut w B y rv (putD (dat R) key rev true) (w2.setCell ⟨g, plc (R.map IM.it) key * 2 + 1, none⟩ v2)) := fun w2 v2 hb ho => by
    have h1 := HX1.out.setL hr hb ho
    rw [hrk] at h1
    refine ⟨_, _, h1, HDAT.out v2, ?_⟩
    refine ((Upd.ofBelow (hbw2.trans (hb.mono hbw2.size))).setCell (p := ⟨g, plc (R.map IM.it) key * 2 + 1, none⟩) (.inr (.inr ?_)) _)
    rw [hv]; rfl
  have HNE0 : y ≠ g ∧ w.heap.size ≠ g := ⟨fun e => by
    have hb := HX1.out.blk
    rcases HX1.out.row.2 with ⟨e1, _⟩ | ⟨g', cap, cur, e1, _, hh, _⟩
    · cases e1
    · cases e1; exact kind_ne hb hh (by decide) e, by omega⟩
  generalize plc (R.map IM.it) key = k at *
  generalize hb0' : w.heap.size = b0 at *
  have hbx := hr2
  clear HX HDAT hr hl hrk hv hgk0 hgm0 hgf0 hgl0 hmv hXW ha hbw1 hB hb0' he hms
  have HNE : y ≠ g ∧ b0 ≠ g := HNE0
  clear HNE0
  go_upto_region 15 with (go_at_call 27; refine hat.mono ?_; rintro e W ⟨rfl, rfl⟩)
  clear hat m0 m1 g0 g1 hr2
  obtain ⟨ti, hti, hz0, hz1, hz2⟩ := info_parts info37
  have HC : Hid (∀ V, Below W.heap.size W V → V.cell? ⟨y, 0, none⟩ = some (.slice (some ⟨g, 0, none⟩) R.length c) ∧ V.cell? ⟨g, k * 2 + 1, none⟩ = some (.slice mp r.ms.length mc) ∧ V.frozen? ⟨g, k * 2 + 1, none⟩ = false ∧ V.cell? ⟨b0, 0, none⟩ = some (.int .i64 rev) ∧ V.cell? ⟨b0, 1, none⟩ = some (.bool true)) := fun V hb => ⟨(HX1.out.below hb).c0, (hb.cell (p := ⟨g, k * 2 + 1, none⟩) hgl).trans hg1, (hb.frozen (p := ⟨g, k * 2 + 1, none⟩) hgl).trans hgf, by simp [World.cell?, (hb.block b0 (Array.getElem?_eq_some_iff.1 hbx).1).trans hbx], by simp [World.cell?, (hb.block b0 (Array.getElem?_eq_some_iff.1 hbx).1).trans hbx]⟩
  have HSRC : Hid (∀ V, Below W.heap.size W V → Src Try.prog 2 41 (.slice mp r.ms.length mc) r.ms.length (mksC r.ms) V) := fun V hb => Src_owns Try.underlying41 (ownsRow_upd hM1 (Upd.ofBelow (S := fun _ => False) hb) (fun _ _ h => h)) (mksC_mem _)
  have HBK : Hid (∀ (V : World) (b : Nat), V.heap[b]? = some (.cells #[.int .i64 rev, .bool true] 37 (0, 0)) → Src Try.prog 2 41 (.slice (some ⟨b, 0, none⟩) 1 1) 1 (mkC (rev, true)) V) := fun V b hr => Src.ofSlice V Try.underlying41 ⟨b, 0, none⟩ 1 1 _ rfl (fun j u hj => by
    rw [Addr.add_lit, Nat.zero_add, cell_of_row _ _ _ _ _ _ hr]; simpa [mkC] using hj) (fun u hu => by simp [mkC] at hu; rcases hu with rfl | rfl <;> rfl)
  have HFIN : Hid (∀ w2 v2, Below W.heap.size W w2 → w2.ownsRow B 37 2 v2 (r.ms.length + 1) (mksC r.ms ++ mkC (rev, true)) → RPut w B y rv (putD (dat R) key rev true) (w2.setCell ⟨g, k * 2 + 1, none⟩ v2)) := fun w2 v2 hb ho => HQ.out w2 v2 hb (by
    have e : mksC (r.ms ++ [(rev, true)]) = mksC r.ms ++ mkC (rev, true) := by rw [mksC_append]; simp [mksC]
    show World.ownsRow _ _ _ _ _ (r.ms ++ [(rev, true)]).length _
    rw [e, List.length_append, List.length_singleton]
    exact ho)
  have HOWN : Hid (∀ (V : World) (v v1 : Value), Below W.heap.size W V → (Value.ownBlock v1 = Value.ownBlock v ∨ Value.ownBlock v1 = some V.heap.size) → (∀ b, Value.ownBlock v = some b → W.heap.size ≤ b) → ∀ b, Value.ownBlock v1 = some b → W.heap.size ≤ b) := fun V v v1 hb h hv b hb' => by
    rcases h with h | h
    · exact hv b (by rw [← h]; exact hb')
    · rw [hb'] at h; have := Option.some.inj h; have := hb.size; omega
  have HBB : Hid (∀ V w1 v, Below W.heap.size W V → Upd V w1 (fun k => some k = Value.ownBlock v) → (∀ b, Value.ownBlock v = some b → W.heap.size ≤ b) → Below W.heap.size W w1) := fun V w1 v hb hu hv => hb.trans (hu.below hb.size (fun k hk e => by have := hv k e.symm; omega))
  have HOA : Hid (∀ A, W.heap.size ≤ A → ∀ b, Value.ownBlock (.slice (some ⟨A, 0, none⟩) 0 0) = some b → W.heap.size ≤ b) := fun A h b e => by have := Option.some.inj e; dsimp at this; omega
  have HNB : Hid (∀ A b : Nat, b ≠ A → ¬ (some b = Value.ownBlock (.slice (some ⟨A, 0, none⟩) 0 0))) := fun A b h e => h (Option.some.inj e)
  have hyg : y ≠ g := HNE.1
  have hbg : b0 ≠ g := HNE.2
  have HC2 : Hid (∀ V v, Below W.heap.size W V → (V.setCell ⟨g, k * 2 + 1, none⟩ v).cell? ⟨y, 0, none⟩ = some (.slice (some ⟨g, 0, none⟩) R.length c) ∧ (V.setCell ⟨g, k * 2 + 1, none⟩ v).cell? ⟨b0, 0, none⟩ = some (.int .i64 rev) ∧ (V.setCell ⟨g, k * 2 + 1, none⟩ v).cell? ⟨b0, 1, none⟩ = some (.bool true)) := fun V v hb => by
    obtain ⟨a1, _, _, a4, a5⟩ := HC.out V hb
    exact ⟨by rw [World.cell?_setCell_other _ _ _ _ (fun e => hyg (by simp only [Addr.mk.injEq] at e; exact e.1.symm))]; exact a1, by rw [World.cell?_setCell_other _ _ _ _ (fun e => hbg (by simp only [Addr.mk.injEq] at e; exact e.1.symm))]; exact a4, by rw [World.cell?_setCell_other _ _ _ _ (fun e => hbg (by simp only [Addr.mk.injEq] at e; exact e.1.symm))]; exact a5⟩
  obtain ⟨d1, d2, d3, d4, d5⟩ := HC.out _ (Below.refl _ _)
  have da := fun o => HC.out _ ((Below.refl _ W).alloc (Nat.le_refl _) o)
  have db := fun o o' => HC.out _ (((Below.refl _ W).alloc (Nat.le_refl _) o).alloc (by simp) o')
  have da1 := fun o => (da o).1
  have da2 := fun o => (da o).2.1
  have da4 := fun o => (da o).2.2.2.1
  have da5 := fun o => (da o).2.2.2.2
  have db1 := fun o o' => (db o o').1
  have db2 := fun o o' => (db o o').2.1
  have db4 := fun o o' => (db o o').2.2.2.1
  have db5 := fun o o' => (db o o').2.2.2.2
  have hWB' : B ≤ W.heap.size := hWB
  clear HQ hM1 da db hg1 hgf hbx HX1
  have hA1 := row_alloc W #[] 37
  have hA2 : ∀ o, ((W.alloc (.cells #[] 37)).alloc o).heap[W.heap.size]? = some (.cells #[] 37 (0, 0)) := fun o => (Below.heap_alloc _ _ _ (by simp)).trans hA1
  have hA3 : ∀ o, ((W.alloc o).alloc (.cells #[] 37)).heap[W.heap.size + 1]? = some (.cells #[] 37 (0, 0)) := fun o => by have := row_alloc (W.alloc o) #[] 37; rwa [World.size_alloc] at this
  have hB1 := row_alloc W #[.int .i64 rev, .bool true] 37
  have hB2 : ∀ o, ((W.alloc (.cells #[.int .i64 rev, .bool true] 37)).alloc o).heap[W.heap.size]? = some (.cells #[.int .i64 rev, .bool true] 37 (0, 0)) := fun o => (Below.heap_alloc _ _ _ (by simp)).trans hB1
  have hB3 : ∀ o, ((W.alloc o).alloc (.cells #[.int .i64 rev, .bool true] 37)).heap[W.heap.size + 1]? = some (.cells #[.int .i64 rev, .bool true] 37 (0, 0)) := fun o => by have := row_alloc (W.alloc o) #[.int .i64 rev, .bool true] 37; rwa [World.size_alloc] at this
  refine wp_region_held_drew (S := (fun V => V.cell? ⟨y, 0, none⟩ = some (.slice (some ⟨g, 0, none⟩) R.length c) ∧ V.cell? ⟨b0, 0, none⟩ = some (.int .i64 rev) ∧ V.cell? ⟨b0, 1, none⟩ = some (.bool true))) (by kernel_rfl) ⟨d1, d4, d5⟩ (fun hHeld => ?_)
  refine wpAnyH_take (i := 0) (oi := { dst := some 84, op := Go.Op.move (Go.Operand.tmp 0), type := 26, pos := "ref.go:68", after := #[], guard := none }) (v := ?_) rfl (by kernel_rfl) (by kernel_rfl) (by kernel_rfl) (fun _ _ _ h => h) (Or.inl ⟨by rfl, ?_⟩) (by assumption) ?_
  case refine_2 => (intro w0 hSw; (try dsimp only at hSw); go_simp; try with_reducible rfl)
  try simp only [Act.put, List.setIfInBounds_toArray, List.set_cons_zero, List.set_cons_succ]
  refine wpAnyH_take (i := 1) (oi := { dst := some 85, op := Go.Op.nilCheck (Go.Operand.tmp 84), type := 0, pos := "ref.go:68", after := #[{ on := 0, ground := Go.Ground.data }], guard := none }) (v := ?_) rfl (by kernel_rfl) (by kernel_rfl) (by kernel_rfl) (fun _ _ _ h => h) (Or.inl ⟨by rfl, ?_⟩) (by assumption) ?_
  case refine_2 => (intro w0 hSw; (try dsimp only at hSw); go_simp; try with_reducible rfl)
  try simp only [Act.put, List.setIfInBounds_toArray, List.set_cons_zero, List.set_cons_succ]
  refine wpAnyH_take (i := 2) (oi := { dst := some 86, op := Go.Op.fieldAddr 29 (Go.Operand.tmp 85) 0, type := 0, pos := "ref.go:68", after := #[{ on := 1, ground := Go.Ground.data }], guard := none }) (v := ?_) rfl (by kernel_rfl) (by kernel_rfl) (by kernel_rfl) (fun _ _ _ h => h) (Or.inl ⟨by rfl, ?_⟩) (by assumption) ?_
  case refine_2 => (intro w0 hSw; (try dsimp only at hSw); go_simp; try with_reducible rfl)
  try simp only [Act.put, List.setIfInBounds_toArray, List.set_cons_zero, List.set_cons_succ]
  refine wpAnyH_take (i := 3) (oi := { dst := some 87, op := Go.Op.load 27 (Go.Operand.tmp 86), type := 27, pos := "ref.go:68", after := #[{ on := 2, ground := Go.Ground.data }], guard := none }) (v := ?_) rfl (by kernel_rfl) (by kernel_rfl) (by kernel_rfl) (fun _ _ _ h => h) (Or.inl ⟨by rfl, ?_⟩) (by assumption) ?_
  case refine_2 => (intro w0 hSw; (try dsimp only at hSw); go_simp; try with_reducible rfl)
  try simp only [Act.put, List.setIfInBounds_toArray, List.set_cons_zero, List.set_cons_succ]
  refine wpAnyH_take (i := 4) (oi := { dst := some 88, op := Go.Op.move (Go.Operand.tmp 9), type := 3, pos := "ref.go:68", after := #[], guard := none }) (v := ?_) rfl (by kernel_rfl) (by kernel_rfl) (by kernel_rfl) (fun _ _ _ h => h) (Or.inl ⟨by rfl, ?_⟩) (by assumption) ?_
  case refine_2 => (intro w0 hSw; (try dsimp only at hSw); go_simp; try with_reducible rfl)
  try simp only [Act.put, List.setIfInBounds_toArray, List.set_cons_zero, List.set_cons_succ]
  refine wpAnyH_take (i := 6) (oi := { dst := some 90, op := Go.Op.move (Go.Operand.tmp 0), type := 26, pos := "ref.go:68", after := #[], guard := none }) (v := ?_) rfl (by kernel_rfl) (by kernel_rfl) (by kernel_rfl) (fun _ _ _ h => h) (Or.inl ⟨by rfl, ?_⟩) (by assumption) ?_
  case refine_2 => (intro w0 hSw; (try dsimp only at hSw); go_simp; try with_reducible rfl)
  try simp only [Act.put, List.setIfInBounds_toArray, List.set_cons_zero, List.set_cons_succ]
  refine wpAnyH_take (i := 7) (oi := { dst := some 91, op := Go.Op.nilCheck (Go.Operand.tmp 90), type := 0, pos := "ref.go:68", after := #[{ on := 6, ground := Go.Ground.data }], guard := none }) (v := ?_) rfl (by kernel_rfl) (by kernel_rfl) (by kernel_rfl) (fun _ _ _ h => h) (Or.inl ⟨by rfl, ?_⟩) (by assumption) ?_
  case refine_2 => (intro w0 hSw; (try dsimp only at hSw); go_simp; try with_reducible rfl)
  try simp only [Act.put, List.setIfInBounds_toArray, List.set_cons_zero, List.set_cons_succ]
  refine wpAnyH_take (i := 8) (oi := { dst := some 92, op := Go.Op.fieldAddr 29 (Go.Operand.tmp 91) 0, type := 0, pos := "ref.go:68", after := #[{ on := 7, ground := Go.Ground.data }], guard := none }) (v := ?_) rfl (by kernel_rfl) (by kernel_rfl) (by kernel_rfl) (fun _ _ _ h => h) (Or.inl ⟨by rfl, ?_⟩) (by assumption) ?_
  case refine_2 => (intro w0 hSw; (try dsimp only at hSw); go_simp; try with_reducible rfl)
  try simp only [Act.put, List.setIfInBounds_toArray, List.set_cons_zero, List.set_cons_succ]
  refine wpAnyH_take (i := 9) (oi := { dst := some 93, op := Go.Op.load 27 (Go.Operand.tmp 92), type := 27, pos := "ref.go:68", after := #[{ on := 8, ground := Go.Ground.data }], guard := none }) (v := ?_) rfl (by kernel_rfl) (by kernel_rfl) (by kernel_rfl) (fun _ _ _ h => h) (Or.inl ⟨by rfl, ?_⟩) (by assumption) ?_
  case refine_2 => (intro w0 hSw; (try dsimp only at hSw); go_simp; try with_reducible rfl)
  try simp only [Act.put, List.setIfInBounds_toArray, List.set_cons_zero, List.set_cons_succ]
  refine wpAnyH_take (i := 10) (oi := { dst := some 94, op := Go.Op.move (Go.Operand.tmp 9), type := 3, pos := "ref.go:68", after := #[], guard := none }) (v := ?_) rfl (by kernel_rfl) (by kernel_rfl) (by kernel_rfl) (fun _ _ _ h => h) (Or.inl ⟨by rfl, ?_⟩) (by assumption) ?_
  case refine_2 => (intro w0 hSw; (try dsimp only at hSw); go_simp; try with_reducible rfl)
  try simp only [Act.put, List.setIfInBounds_toArray, List.set_cons_zero, List.set_cons_succ]
  refine wpAnyH_take (i := 11) (oi := { dst := some 95, op := Go.Op.indexAddr 27 (Go.Operand.tmp 93) (Go.Operand.tmp 94), type := 0, pos := "ref.go:68", after := #[{ on := 9, ground := Go.Ground.data }, { on := 10, ground := Go.Ground.data }], guard := none }) (v := ?_) rfl (by kernel_rfl) (by kernel_rfl) (by kernel_rfl) (fun _ _ _ h => h) (Or.inl ⟨by rfl, ?_⟩) (by assumption) ?_
  case refine_2 => (intro w0 hSw; (try dsimp only at hSw); go_simp; try with_reducible rfl)
  try simp only [Act.put, List.setIfInBounds_toArray, List.set_cons_zero, List.set_cons_succ]
  refine wpAnyH_take (i := 12) (oi := { dst := some 96, op := Go.Op.fieldAddr 69 (Go.Operand.tmp 95) 1, type := 0, pos := "ref.go:68", after := #[{ on := 11, ground := Go.Ground.data }], guard := none }) (v := ?_) rfl (by kernel_rfl) (by kernel_rfl) (by kernel_rfl) (fun _ _ _ h => h) (Or.inl ⟨by rfl, ?_⟩) (by assumption) ?_
  case refine_2 => (intro w0 hSw; (try dsimp only at hSw); go_simp; try with_reducible rfl)
  try simp only [Act.put, List.setIfInBounds_toArray, List.set_cons_zero, List.set_cons_succ]
  refine wpAnyH_take (i := 15) (oi := { dst := some 99, op := Go.Op.load 37 (Go.Operand.tmp 5), type := 37, pos := "ref.go:68", after := #[], guard := none }) (v := ?_) rfl (by kernel_rfl) (by kernel_rfl) (by kernel_rfl) (fun _ _ _ h => h) (Or.inl ⟨by rfl, ?_⟩) (by assumption) ?_
  case refine_2 => (intro w0 hSw; (try dsimp only at hSw); go_simp; try with_reducible rfl)
  try simp only [Act.put, List.setIfInBounds_toArray, List.set_cons_zero, List.set_cons_succ]
  refine wpAnyH_ready (rs := [5, 13, 16]) (by kernel_rfl) (by simp) ?_
  refine AllReadyH.cons rfl (fun K hK => ?_) ?_
  · go_simp
    refine hK.out _ _ (by first | assumption | exact ⟨by assumption, by assumption, by assumption⟩ | exact ⟨da1 _, da4 _, da5 _⟩ | exact ⟨db1 _ _, db4 _ _, db5 _ _⟩ | exact ⟨ea1 _, ea4 _, ea5 _⟩) (fun hHeld2 => ?_)
    clear hK K hHeld
    have hHeld := hHeld2
    clear hHeld2
    try simp only [Act.put, List.setIfInBounds_toArray, List.set_cons_zero, List.set_cons_succ]
    refine wpAnyH_ready (rs := [13, 16]) (by kernel_rfl) (by simp) ?_
    refine AllReadyH.cons rfl (fun K hK => ?_) ?_
    · go_simp
      refine hK.out _ _ (by first | assumption | exact ⟨by assumption, by assumption, by assumption⟩ | exact ⟨da1 _, da4 _, da5 _⟩ | exact ⟨db1 _ _, db4 _ _, db5 _ _⟩ | exact ⟨ea1 _, ea4 _, ea5 _⟩) (fun hHeld2 => ?_)
      clear hK K hHeld
      have hHeld := hHeld2
      clear hHeld2
      try simp only [Act.put, List.setIfInBounds_toArray, List.set_cons_zero, List.set_cons_succ]
      refine wpAnyH_ready (rs := [14, 16]) (by kernel_rfl) (by simp) ?_
      refine AllReadyH.cons rfl (fun K hK => ?_) ?_
      · refine step_appS _ rfl _ _ 41 41 rfl B 37 ti _ 2 Try.underlying41 hti hz0 hz1 rfl (by rw [hz2]; omega) (.slice (some ⟨W.heap.size, 0, none⟩) 0 0) 0 [] (by simp [Act.eval]; done) (owns_empty (by first | exact hA1 | exact hA2 _ | exact hA3 _) (by omega)) (.slice mp r.ms.length mc) (by simp [Act.eval]; done) r.ms.length (mksC r.ms) (HSRC.out _ (by repeat (first | exact Below.refl _ _ | refine Below.drew ?_ | refine Below.alloc ?_ (by simp) _ | refine Below.alloc ?_ (by simp; omega) _))) (by omega) (by simp; omega) ?_
        intro v1 w1 q1 q2 q3 q4
        rw [Nat.zero_add, List.nil_append] at q1
        have hbv1 := HBB.out _ _ _ (by repeat (first | exact Below.refl _ _ | refine Below.drew ?_ | refine Below.alloc ?_ (by simp) _ | refine Below.alloc ?_ (by simp; omega) _)) q2 (HOA.out _ (by omega))
        have hown1 := HOWN.out _ _ _ (by repeat (first | exact Below.refl _ _ | refine Below.drew ?_ | refine Below.alloc ?_ (by simp) _ | refine Below.alloc ?_ (by simp; omega) _)) q3 (HOA.out _ (by omega))
        obtain ⟨e1, e2, e3, e4, e5⟩ := HC.out _ hbv1
        have ea := fun o => HC.out _ (hbv1.alloc hbv1.size o)
        have ea1 := fun o => (ea o).1
        have ea4 := fun o => (ea o).2.2.2.1
        have ea5 := fun o => (ea o).2.2.2.2
        clear ea
        have hv1s := hbv1.size
        have HQ1 : Hid (∀ V, Below w1.heap.size w1 V → V.ownsRow B 37 2 v1 r.ms.length (mksC r.ms)) := fun V hb => ownsRow_upd q1 (Upd.ofBelow (S := fun _ => False) hb) (fun _ _ h => h)
        have hbr := row_alloc w1 #[.int .i64 rev, .bool true] 37
        obtain ⟨vp1, vc1, rfl⟩ := owns_formB0 q1
        clear q1 q3 q4
        show K _ _
        refine hK.out _ _ (by first | assumption | exact ⟨by assumption, by assumption, by assumption⟩ | exact ⟨da1 _, da4 _, da5 _⟩ | exact ⟨db1 _ _, db4 _ _, db5 _ _⟩ | exact ⟨ea1 _, ea4 _, ea5 _⟩) (fun hHeld2 => ?_)
        clear hK K hHeld
        have hHeld := hHeld2
        clear hHeld2
        try simp only [Act.put, List.setIfInBounds_toArray]
        refine wpAnyH_ready (rs := [16]) (by kernel_rfl) (by simp) ?_
        refine AllReadyH.cons rfl (fun K hK => ?_) AllReadyH.nil
        go_simp
        refine hK.out _ _ (by first | assumption | exact ⟨by assumption, by assumption, by assumption⟩ | exact ⟨da1 _, da4 _, da5 _⟩ | exact ⟨db1 _ _, db4 _ _, db5 _ _⟩ | exact ⟨ea1 _, ea4 _, ea5 _⟩) (fun hHeld2 => ?_)
        clear hK K hHeld
        have hHeld := hHeld2
        clear hHeld2
        try simp only [Act.put, List.setIfInBounds_toArray, List.set_cons_zero, List.set_cons_succ]
        refine wpAnyH_ready (rs := [17]) (by kernel_rfl) (by simp) ?_
        refine AllReadyH.cons rfl (fun K hK => ?_) AllReadyH.nil
        refine step_appS _ rfl _ _ 41 41 rfl B 37 ti _ 2 Try.underlying41 hti hz0 hz1 rfl (by rw [hz2]; omega) (.slice vp1 r.ms.length vc1) r.ms.length (mksC r.ms) (by simp [Act.eval]; done) (HQ1.out _ (by repeat (first | exact Below.refl _ _ | refine Below.drew ?_ | refine Below.alloc ?_ (by simp) _ | refine Below.alloc ?_ (by simp; omega) _))) (.slice (some ⟨w1.heap.size, 0, none⟩) 1 1) (by simp [Act.eval]; done) 1 (mkC (rev, true)) (HBK.out _ _ hbr) (by omega) (by first | omega | (simp; omega)) ?_
        intro v2 w2 p1 p2 p3 p4
        have hbv2 := HBB.out _ _ _ (by first | exact hbv1 | exact hbv1.alloc hbv1.size _) p2 hown1
        obtain ⟨s1, s2, s3, s4, s5⟩ := HC.out _ hbv2
        obtain ⟨np2, nc2, rfl⟩ := owns_formB0 p1
        obtain ⟨t1, t4, t5⟩ := HC2.out _ (.slice np2 (r.ms.length + 1) nc2) hbv2
        show K _ _
        refine hK.out _ _ (by first | assumption | exact ⟨by assumption, by assumption, by assumption⟩ | exact ⟨da1 _, da4 _, da5 _⟩ | exact ⟨db1 _ _, db4 _ _, db5 _ _⟩ | exact ⟨ea1 _, ea4 _, ea5 _⟩) (fun hHeld2 => ?_)
        clear hK K hHeld
        have hHeld := hHeld2
        clear hHeld2
        try simp only [Act.put, List.setIfInBounds_toArray]
        refine wpAnyH_ready (rs := [18]) (by kernel_rfl) (by simp) ?_
        refine AllReadyH.cons rfl (fun K hK => ?_) AllReadyH.nil
        go_simp
        refine hK.out _ _ (by first | assumption | exact ⟨by assumption, by assumption, by assumption⟩ | exact ⟨da1 _, da4 _, da5 _⟩ | exact ⟨db1 _ _, db4 _ _, db5 _ _⟩ | exact ⟨ea1 _, ea4 _, ea5 _⟩) (fun hHeld2 => ?_)
        clear hK K hHeld
        have hHeld := hHeld2
        clear hHeld2
        try simp only [Act.put, List.setIfInBounds_toArray, List.set_cons_zero, List.set_cons_succ]
        refine wpAnyH_ready (rs := [19]) (by kernel_rfl) (by simp) ?_
        refine AllReadyH.cons rfl (fun K hK => ?_) AllReadyH.nil
        go_simp
        refine hK.out _ _ (by first | assumption | exact ⟨by assumption, by assumption, by assumption⟩ | exact ⟨da1 _, da4 _, da5 _⟩ | exact ⟨db1 _ _, db4 _ _, db5 _ _⟩ | exact ⟨ea1 _, ea4 _, ea5 _⟩) (fun hHeld2 => ?_)
        clear hK K hHeld
        have hHeld := hHeld2
        clear hHeld2
        try simp only [Act.put, List.setIfInBounds_toArray, List.set_cons_zero, List.set_cons_succ]
        refine wpAnyH_ready (rs := [20]) (by kernel_rfl) (by simp) ?_
        refine AllReadyH.cons rfl (fun K hK => ?_) AllReadyH.nil
        go_simp
        refine hK.out _ _ (by first | assumption | exact ⟨by assumption, by assumption, by assumption⟩ | exact ⟨da1 _, da4 _, da5 _⟩ | exact ⟨db1 _ _, db4 _ _, db5 _ _⟩ | exact ⟨ea1 _, ea4 _, ea5 _⟩) (fun hHeld2 => ?_)
        clear hK K hHeld
        have hHeld := hHeld2
        clear hHeld2
        try simp only [Act.put, List.setIfInBounds_toArray, List.set_cons_zero, List.set_cons_succ]
        refine wpAnyH_done (by kernel_rfl) ?_ _
        go_wp2
        go_ret
        exact ⟨rfl, HFIN.out _ _ hbv2 p1⟩
      refine AllReadyH.cons rfl (fun K hK => ?_) AllReadyH.nil
      go_simp
      refine hK.out _ _ (by first | assumption | exact ⟨by assumption, by assumption, by assumption⟩ | exact ⟨da1 _, da4 _, da5 _⟩ | exact ⟨db1 _ _, db4 _ _, db5 _ _⟩ | exact ⟨ea1 _, ea4 _, ea5 _⟩) (fun hHeld2 => ?_)
      clear hK K hHeld
      have hHeld := hHeld2
      clear hHeld2
      try simp only [Act.put, List.setIfInBounds_toArray, List.set_cons_zero, List.set_cons_succ]
      refine wpAnyH_ready (rs := [14]) (by kernel_rfl) (by simp) ?_
      refine AllReadyH.cons rfl (fun K hK => ?_) AllReadyH.nil
      refine step_appS _ rfl _ _ 41 41 rfl B 37 ti _ 2 Try.underlying41 hti hz0 hz1 rfl (by rw [hz2]; omega) (.slice (some ⟨W.heap.size, 0, none⟩) 0 0) 0 [] (by simp [Act.eval]; done) (owns_empty (by first | exact hA1 | exact hA2 _ | exact hA3 _) (by omega)) (.slice mp r.ms.length mc) (by simp [Act.eval]; done) r.ms.length (mksC r.ms) (HSRC.out _ (by repeat (first | exact Below.refl _ _ | refine Below.drew ?_ | refine Below.alloc ?_ (by simp) _ | refine Below.alloc ?_ (by simp; omega) _))) (by omega) (by simp; omega) ?_
      intro v1 w1 q1 q2 q3 q4
      rw [Nat.zero_add, List.nil_append] at q1
      have hbv1 := HBB.out _ _ _ (by repeat (first | exact Below.refl _ _ | refine Below.drew ?_ | refine Below.alloc ?_ (by simp) _ | refine Below.alloc ?_ (by simp; omega) _)) q2 (HOA.out _ (by omega))
      have hown1 := HOWN.out _ _ _ (by repeat (first | exact Below.refl _ _ | refine Below.drew ?_ | refine Below.alloc ?_ (by simp) _ | refine Below.alloc ?_ (by simp; omega) _)) q3 (HOA.out _ (by omega))
      obtain ⟨e1, e2, e3, e4, e5⟩ := HC.out _ hbv1
      have ea := fun o => HC.out _ (hbv1.alloc hbv1.size o)
      have ea1 := fun o => (ea o).1
      have ea4 := fun o => (ea o).2.2.2.1
      have ea5 := fun o => (ea o).2.2.2.2
      clear ea
      have hv1s := hbv1.size
      have HQ1 : Hid (∀ V, Below w1.heap.size w1 V → V.ownsRow B 37 2 v1 r.ms.length (mksC r.ms)) := fun V hb => ownsRow_upd q1 (Upd.ofBelow (S := fun _ => False) hb) (fun _ _ h => h)
      have hbr := (q2.block (W.heap.size + 1) (by first | omega | (simp; omega) | simp) (HNB.out _ _ (by omega))).trans (by first | exact hB1 | exact hB2 _ | exact hB3 _)
      obtain ⟨vp1, vc1, rfl⟩ := owns_formB0 q1
      clear q1 q3 q4
      show K _ _
      refine hK.out _ _ (by first | assumption | exact ⟨by assumption, by assumption, by assumption⟩ | exact ⟨da1 _, da4 _, da5 _⟩ | exact ⟨db1 _ _, db4 _ _, db5 _ _⟩ | exact ⟨ea1 _, ea4 _, ea5 _⟩) (fun hHeld2 => ?_)
      clear hK K hHeld
      have hHeld := hHeld2
      clear hHeld2
      try simp only [Act.put, List.setIfInBounds_toArray]
      refine wpAnyH_ready (rs := [17]) (by kernel_rfl) (by simp) ?_
      refine AllReadyH.cons rfl (fun K hK => ?_) AllReadyH.nil
      refine step_appS _ rfl _ _ 41 41 rfl B 37 ti _ 2 Try.underlying41 hti hz0 hz1 rfl (by rw [hz2]; omega) (.slice vp1 r.ms.length vc1) r.ms.length (mksC r.ms) (by simp [Act.eval]; done) (HQ1.out _ (by repeat (first | exact Below.refl _ _ | refine Below.drew ?_ | refine Below.alloc ?_ (by simp) _ | refine Below.alloc ?_ (by simp; omega) _))) (.slice (some ⟨W.heap.size + 1, 0, none⟩) 1 1) (by simp [Act.eval]; done) 1 (mkC (rev, true)) (HBK.out _ _ hbr) (by omega) (by first | omega | (simp; omega)) ?_
      intro v2 w2 p1 p2 p3 p4
      have hbv2 := HBB.out _ _ _ (by first | exact hbv1 | exact hbv1.alloc hbv1.size _) p2 hown1
      obtain ⟨s1, s2, s3, s4, s5⟩ := HC.out _ hbv2
      obtain ⟨np2, nc2, rfl⟩ := owns_formB0 p1
      obtain ⟨t1, t4, t5⟩ := HC2.out _ (.slice np2 (r.ms.length + 1) nc2) hbv2
      show K _ _
      refine hK.out _ _ (by first | assumption | exact ⟨by assumption, by assumption, by assumption⟩ | exact ⟨da1 _, da4 _, da5 _⟩ | exact ⟨db1 _ _, db4 _ _, db5 _ _⟩ | exact ⟨ea1 _, ea4 _, ea5 _⟩) (fun hHeld2 => ?_)
      clear hK K hHeld
      have hHeld := hHeld2
      clear hHeld2
      try simp only [Act.put]
      refine wpAnyH_ready (rs := [18]) (by kernel_rfl) (by simp) ?_
      refine AllReadyH.cons rfl (fun K hK => ?_) AllReadyH.nil
      go_simp
      refine hK.out _ _ (by first | assumption | exact ⟨by assumption, by assumption, by assumption⟩ | exact ⟨da1 _, da4 _, da5 _⟩ | exact ⟨db1 _ _, db4 _ _, db5 _ _⟩ | exact ⟨ea1 _, ea4 _, ea5 _⟩) (fun hHeld2 => ?_)
      clear hK K hHeld
      have hHeld := hHeld2
      clear hHeld2
      try simp only [Act.put, List.setIfInBounds_toArray, List.set_cons_zero, List.set_cons_succ]
      refine wpAnyH_ready (rs := [19]) (by kernel_rfl) (by simp) ?_
      refine AllReadyH.cons rfl (fun K hK => ?_) AllReadyH.nil
      go_simp
      refine hK.out _ _ (by first | assumption | exact ⟨by assumption, by assumption, by assumption⟩ | exact ⟨da1 _, da4 _, da5 _⟩ | exact ⟨db1 _ _, db4 _ _, db5 _ _⟩ | exact ⟨ea1 _, ea4 _, ea5 _⟩) (fun hHeld2 => ?_)
      clear hK K hHeld
      have hHeld := hHeld2
      clear hHeld2
      try simp only [Act.put, List.setIfInBounds_toArray, List.set_cons_zero, List.set_cons_succ]
      refine wpAnyH_ready (rs := [20]) (by kernel_rfl) (by simp) ?_
      refine AllReadyH.cons rfl (fun K hK => ?_) AllReadyH.nil
      go_simp
      refine hK.out _ _ (by first | assumption | exact ⟨by assumption, by assumption, by assumption⟩ | exact ⟨da1 _, da4 _, da5 _⟩ | exact ⟨db1 _ _, db4 _ _, db5 _ _⟩ | exact ⟨ea1 _, ea4 _, ea5 _⟩) (fun hHeld2 => ?_)
      clear hK K hHeld
      have hHeld := hHeld2
      clear hHeld2
      try simp only [Act.put, List.setIfInBounds_toArray, List.set_cons_zero, List.set_cons_succ]
      refine wpAnyH_done (by kernel_rfl) ?_ _
      go_wp2
      go_ret
      exact ⟨rfl, HFIN.out _ _ hbv2 p1⟩
    refine AllReadyH.cons rfl (fun K hK => ?_) AllReadyH.nil
    go_simp
    refine hK.out _ _ (by first | assumption | exact ⟨by assumption, by assumption, by assumption⟩ | exact ⟨da1 _, da4 _, da5 _⟩ | exact ⟨db1 _ _, db4 _ _, db5 _ _⟩ | exact ⟨ea1 _, ea4 _, ea5 _⟩) (fun hHeld2 => ?_)
    clear hK K hHeld
    have hHeld := hHeld2
    clear hHeld2
    try simp only [Act.put, List.setIfInBounds_toArray, List.set_cons_zero, List.set_cons_succ]
    refine wpAnyH_ready (rs := [13]) (by kernel_rfl) (by simp) ?_
    refine AllReadyH.cons rfl (fun K hK => ?_) AllReadyH.nil
    go_simp
    refine hK.out _ _ (by first | assumption | exact ⟨by assumption, by assumption, by assumption⟩ | exact ⟨da1 _, da4 _, da5 _⟩ | exact ⟨db1 _ _, db4 _ _, db5 _ _⟩ | exact ⟨ea1 _, ea4 _, ea5 _⟩) (fun hHeld2 => ?_)
    clear hK K hHeld
    have hHeld := hHeld2
    clear hHeld2
    try simp only [Act.put, List.setIfInBounds_toArray, List.set_cons_zero, List.set_cons_succ]
    refine wpAnyH_ready (rs := [14]) (by kernel_rfl) (by simp) ?_
    refine AllReadyH.cons rfl (fun K hK => ?_) AllReadyH.nil
    refine step_appS _ rfl _ _ 41 41 rfl B 37 ti _ 2 Try.underlying41 hti hz0 hz1 rfl (by rw [hz2]; omega) (.slice (some ⟨W.heap.size, 0, none⟩) 0 0) 0 [] (by simp [Act.eval]; done) (owns_empty (by first | exact hA1 | exact hA2 _ | exact hA3 _) (by omega)) (.slice mp r.ms.length mc) (by simp [Act.eval]; done) r.ms.length (mksC r.ms) (HSRC.out _ (by repeat (first | exact Below.refl _ _ | refine Below.drew ?_ | refine Below.alloc ?_ (by simp) _ | refine Below.alloc ?_ (by simp; omega) _))) (by omega) (by simp; omega) ?_
    intro v1 w1 q1 q2 q3 q4
    rw [Nat.zero_add, List.nil_append] at q1
    have hbv1 := HBB.out _ _ _ (by repeat (first | exact Below.refl _ _ | refine Below.drew ?_ | refine Below.alloc ?_ (by simp) _ | refine Below.alloc ?_ (by simp; omega) _)) q2 (HOA.out _ (by omega))
    have hown1 := HOWN.out _ _ _ (by repeat (first | exact Below.refl _ _ | refine Below.drew ?_ | refine Below.alloc ?_ (by simp) _ | refine Below.alloc ?_ (by simp; omega) _)) q3 (HOA.out _ (by omega))
    obtain ⟨e1, e2, e3, e4, e5⟩ := HC.out _ hbv1
    have ea := fun o => HC.out _ (hbv1.alloc hbv1.size o)
    have ea1 := fun o => (ea o).1
    have ea4 := fun o => (ea o).2.2.2.1
    have ea5 := fun o => (ea o).2.2.2.2
    clear ea
    have hv1s := hbv1.size
    have HQ1 : Hid (∀ V, Below w1.heap.size w1 V → V.ownsRow B 37 2 v1 r.ms.length (mksC r.ms)) := fun V hb => ownsRow_upd q1 (Upd.ofBelow (S := fun _ => False) hb) (fun _ _ h => h)
    have hbr := (q2.block (W.heap.size + 1) (by first | omega | (simp; omega) | simp) (HNB.out _ _ (by omega))).trans (by first | exact hB1 | exact hB2 _ | exact hB3 _)
    obtain ⟨vp1, vc1, rfl⟩ := owns_formB0 q1
    clear q1 q3 q4
    show K _ _
    refine hK.out _ _ (by first | assumption | exact ⟨by assumption, by assumption, by assumption⟩ | exact ⟨da1 _, da4 _, da5 _⟩ | exact ⟨db1 _ _, db4 _ _, db5 _ _⟩ | exact ⟨ea1 _, ea4 _, ea5 _⟩) (fun hHeld2 => ?_)
    clear hK K hHeld
    have hHeld := hHeld2
    clear hHeld2
    try simp only [Act.put, List.setIfInBounds_toArray]
    refine wpAnyH_ready (rs := [17]) (by kernel_rfl) (by simp) ?_
    refine AllReadyH.cons rfl (fun K hK => ?_) AllReadyH.nil
    refine step_appS _ rfl _ _ 41 41 rfl B 37 ti _ 2 Try.underlying41 hti hz0 hz1 rfl (by rw [hz2]; omega) (.slice vp1 r.ms.length vc1) r.ms.length (mksC r.ms) (by simp [Act.eval]; done) (HQ1.out _ (by repeat (first | exact Below.refl _ _ | refine Below.drew ?_ | refine Below.alloc ?_ (by simp) _ | refine Below.alloc ?_ (by simp; omega) _))) (.slice (some ⟨W.heap.size + 1, 0, none⟩) 1 1) (by simp [Act.eval]; done) 1 (mkC (rev, true)) (HBK.out _ _ hbr) (by omega) (by first | omega | (simp; omega)) ?_
    intro v2 w2 p1 p2 p3 p4
    have hbv2 := HBB.out _ _ _ (by first | exact hbv1 | exact hbv1.alloc hbv1.size _) p2 hown1
    obtain ⟨s1, s2, s3, s4, s5⟩ := HC.out _ hbv2
    obtain ⟨np2, nc2, rfl⟩ := owns_formB0 p1
    obtain ⟨t1, t4, t5⟩ := HC2.out _ (.slice np2 (r.ms.length + 1) nc2) hbv2
    show K _ _
    refine hK.out _ _ (by first | assumption | exact ⟨by assumption, by assumption, by assumption⟩ | exact ⟨da1 _, da4 _, da5 _⟩ | exact ⟨db1 _ _, db4 _ _, db5 _ _⟩ | exact ⟨ea1 _, ea4 _, ea5 _⟩) (fun hHeld2 => ?_)
    clear hK K hHeld
    have hHeld := hHeld2
    clear hHeld2
    try simp only [Act.put]
    refine wpAnyH_ready (rs := [18]) (by kernel_rfl) (by simp) ?_
    refine AllReadyH.cons rfl (fun K hK => ?_) AllReadyH.nil
    go_simp
    refine hK.out _ _ (by first | assumption | exact ⟨by assumption, by assumption, by assumption⟩ | exact ⟨da1 _, da4 _, da5 _⟩ | exact ⟨db1 _ _, db4 _ _, db5 _ _⟩ | exact ⟨ea1 _, ea4 _, ea5 _⟩) (fun hHeld2 => ?_)
    clear hK K hHeld
    have hHeld := hHeld2
    clear hHeld2
    try simp only [Act.put, List.setIfInBounds_toArray, List.set_cons_zero, List.set_cons_succ]
    refine wpAnyH_ready (rs := [19]) (by kernel_rfl) (by simp) ?_
    refine AllReadyH.cons rfl (fun K hK => ?_) AllReadyH.nil
    go_simp
    refine hK.out _ _ (by first | assumption | exact ⟨by assumption, by assumption, by assumption⟩ | exact ⟨da1 _, da4 _, da5 _⟩ | exact ⟨db1 _ _, db4 _ _, db5 _ _⟩ | exact ⟨ea1 _, ea4 _, ea5 _⟩) (fun hHeld2 => ?_)
    clear hK K hHeld
    have hHeld := hHeld2
    clear hHeld2
    try simp only [Act.put, List.setIfInBounds_toArray, List.set_cons_zero, List.set_cons_succ]
    refine wpAnyH_ready (rs := [20]) (by kernel_rfl) (by simp) ?_
    refine AllReadyH.cons rfl (fun K hK => ?_) AllReadyH.nil
    go_simp
    refine hK.out _ _ (by first | assumption | exact ⟨by assumption, by assumption, by assumption⟩ | exact ⟨da1 _, da4 _, da5 _⟩ | exact ⟨db1 _ _, db4 _ _, db5 _ _⟩ | exact ⟨ea1 _, ea4 _, ea5 _⟩) (fun hHeld2 => ?_)
    clear hK K hHeld
    have hHeld := hHeld2
    clear hHeld2
    try simp only [Act.put, List.setIfInBounds_toArray, List.set_cons_zero, List.set_cons_succ]
    refine wpAnyH_done (by kernel_rfl) ?_ _
    go_wp2
    go_ret
    exact ⟨rfl, HFIN.out _ _ hbv2 p1⟩
  refine AllReadyH.cons rfl (fun K hK => ?_) ?_
  · go_simp
    refine hK.out _ _ (by first | assumption | exact ⟨by assumption, by assumption, by assumption⟩ | exact ⟨da1 _, da4 _, da5 _⟩ | exact ⟨db1 _ _, db4 _ _, db5 _ _⟩ | exact ⟨ea1 _, ea4 _, ea5 _⟩) (fun hHeld2 => ?_)
    clear hK K hHeld
    have hHeld := hHeld2
    clear hHeld2
    try simp only [Act.put, List.setIfInBounds_toArray, List.set_cons_zero, List.set_cons_succ]
    refine wpAnyH_ready (rs := [5, 16]) (by kernel_rfl) (by simp) ?_
    refine AllReadyH.cons rfl (fun K hK => ?_) ?_
    · go_simp
      refine hK.out _ _ (by first | assumption | exact ⟨by assumption, by assumption, by assumption⟩ | exact ⟨da1 _, da4 _, da5 _⟩ | exact ⟨db1 _ _, db4 _ _, db5 _ _⟩ | exact ⟨ea1 _, ea4 _, ea5 _⟩) (fun hHeld2 => ?_)
      clear hK K hHeld
      have hHeld := hHeld2
      clear hHeld2
      try simp only [Act.put, List.setIfInBounds_toArray, List.set_cons_zero, List.set_cons_succ]
      refine wpAnyH_ready (rs := [14, 16]) (by kernel_rfl) (by simp) ?_
      refine AllReadyH.cons rfl (fun K hK => ?_) ?_
      · refine step_appS _ rfl _ _ 41 41 rfl B 37 ti _ 2 Try.underlying41 hti hz0 hz1 rfl (by rw [hz2]; omega) (.slice (some ⟨W.heap.size, 0, none⟩) 0 0) 0 [] (by simp [Act.eval]; done) (owns_empty (by first | exact hA1 | exact hA2 _ | exact hA3 _) (by omega)) (.slice mp r.ms.length mc) (by simp [Act.eval]; done) r.ms.length (mksC r.ms) (HSRC.out _ (by repeat (first | exact Below.refl _ _ | refine Below.drew ?_ | refine Below.alloc ?_ (by simp) _ | refine Below.alloc ?_ (by simp; omega) _))) (by omega) (by simp; omega) ?_
        intro v1 w1 q1 q2 q3 q4
        rw [Nat.zero_add, List.nil_append] at q1
        have hbv1 := HBB.out _ _ _ (by repeat (first | exact Below.refl _ _ | refine Below.drew ?_ | refine Below.alloc ?_ (by simp) _ | refine Below.alloc ?_ (by simp; omega) _)) q2 (HOA.out _ (by omega))
        have hown1 := HOWN.out _ _ _ (by repeat (first | exact Below.refl _ _ | refine Below.drew ?_ | refine Below.alloc ?_ (by simp) _ | refine Below.alloc ?_ (by simp; omega) _)) q3 (HOA.out _ (by omega))
        obtain ⟨e1, e2, e3, e4, e5⟩ := HC.out _ hbv1
        have ea := fun o => HC.out _ (hbv1.alloc hbv1.size o)
        have ea1 := fun o => (ea o).1
        have ea4 := fun o => (ea o).2.2.2.1
        have ea5 := fun o => (ea o).2.2.2.2
        clear ea
        have hv1s := hbv1.size
        have HQ1 : Hid (∀ V, Below w1.heap.size w1 V → V.ownsRow B 37 2 v1 r.ms.length (mksC r.ms)) := fun V hb => ownsRow_upd q1 (Upd.ofBelow (S := fun _ => False) hb) (fun _ _ h => h)
        have hbr := row_alloc w1 #[.int .i64 rev, .bool true] 37
        obtain ⟨vp1, vc1, rfl⟩ := owns_formB0 q1
        clear q1 q3 q4
        show K _ _
        refine hK.out _ _ (by first | assumption | exact ⟨by assumption, by assumption, by assumption⟩ | exact ⟨da1 _, da4 _, da5 _⟩ | exact ⟨db1 _ _, db4 _ _, db5 _ _⟩ | exact ⟨ea1 _, ea4 _, ea5 _⟩) (fun hHeld2 => ?_)
        clear hK K hHeld
        have hHeld := hHeld2
        clear hHeld2
        try simp only [Act.put, List.setIfInBounds_toArray]
        refine wpAnyH_ready (rs := [16]) (by kernel_rfl) (by simp) ?_
        refine AllReadyH.cons rfl (fun K hK => ?_) AllReadyH.nil
        go_simp
        refine hK.out _ _ (by first | assumption | exact ⟨by assumption, by assumption, by assumption⟩ | exact ⟨da1 _, da4 _, da5 _⟩ | exact ⟨db1 _ _, db4 _ _, db5 _ _⟩ | exact ⟨ea1 _, ea4 _, ea5 _⟩) (fun hHeld2 => ?_)
        clear hK K hHeld
        have hHeld := hHeld2
        clear hHeld2
        try simp only [Act.put, List.setIfInBounds_toArray, List.set_cons_zero, List.set_cons_succ]
        refine wpAnyH_ready (rs := [17]) (by kernel_rfl) (by simp) ?_
        refine AllReadyH.cons rfl (fun K hK => ?_) AllReadyH.nil
        refine step_appS _ rfl _ _ 41 41 rfl B 37 ti _ 2 Try.underlying41 hti hz0 hz1 rfl (by rw [hz2]; omega) (.slice vp1 r.ms.length vc1) r.ms.length (mksC r.ms) (by simp [Act.eval]; done) (HQ1.out _ (by repeat (first | exact Below.refl _ _ | refine Below.drew ?_ | refine Below.alloc ?_ (by simp) _ | refine Below.alloc ?_ (by simp; omega) _))) (.slice (some ⟨w1.heap.size, 0, none⟩) 1 1) (by simp [Act.eval]; done) 1 (mkC (rev, true)) (HBK.out _ _ hbr) (by omega) (by first | omega | (simp; omega)) ?_
        intro v2 w2 p1 p2 p3 p4
        have hbv2 := HBB.out _ _ _ (by first | exact hbv1 | exact hbv1.alloc hbv1.size _) p2 hown1
        obtain ⟨s1, s2, s3, s4, s5⟩ := HC.out _ hbv2
        obtain ⟨np2, nc2, rfl⟩ := owns_formB0 p1
        obtain ⟨t1, t4, t5⟩ := HC2.out _ (.slice np2 (r.ms.length + 1) nc2) hbv2
        show K _ _
        refine hK.out _ _ (by first | assumption | exact ⟨by assumption, by assumption, by assumption⟩ | exact ⟨da1 _, da4 _, da5 _⟩ | exact ⟨db1 _ _, db4 _ _, db5 _ _⟩ | exact ⟨ea1 _, ea4 _, ea5 _⟩) (fun hHeld2 => ?_)
        clear hK K hHeld
        have hHeld := hHeld2
        clear hHeld2
        try simp only [Act.put, List.setIfInBounds_toArray]
        refine wpAnyH_ready (rs := [18]) (by kernel_rfl) (by simp) ?_
        refine AllReadyH.cons rfl (fun K hK => ?_) AllReadyH.nil
        go_simp
        refine hK.out _ _ (by first | assumption | exact ⟨by assumption, by assumption, by assumption⟩ | exact ⟨da1 _, da4 _, da5 _⟩ | exact ⟨db1 _ _, db4 _ _, db5 _ _⟩ | exact ⟨ea1 _, ea4 _, ea5 _⟩) (fun hHeld2 => ?_)
        clear hK K hHeld
        have hHeld := hHeld2
        clear hHeld2
        try simp only [Act.put, List.setIfInBounds_toArray, List.set_cons_zero, List.set_cons_succ]
        refine wpAnyH_ready (rs := [19]) (by kernel_rfl) (by simp) ?_
        refine AllReadyH.cons rfl (fun K hK => ?_) AllReadyH.nil
        go_simp
        refine hK.out _ _ (by first | assumption | exact ⟨by assumption, by assumption, by assumption⟩ | exact ⟨da1 _, da4 _, da5 _⟩ | exact ⟨db1 _ _, db4 _ _, db5 _ _⟩ | exact ⟨ea1 _, ea4 _, ea5 _⟩) (fun hHeld2 => ?_)
        clear hK K hHeld
        have hHeld := hHeld2
        clear hHeld2
        try simp only [Act.put, List.setIfInBounds_toArray, List.set_cons_zero, List.set_cons_succ]
        refine wpAnyH_ready (rs := [20]) (by kernel_rfl) (by simp) ?_
        refine AllReadyH.cons rfl (fun K hK => ?_) AllReadyH.nil
        go_simp
        refine hK.out _ _ (by first | assumption | exact ⟨by assumption, by assumption, by assumption⟩ | exact ⟨da1 _, da4 _, da5 _⟩ | exact ⟨db1 _ _, db4 _ _, db5 _ _⟩ | exact ⟨ea1 _, ea4 _, ea5 _⟩) (fun hHeld2 => ?_)
        clear hK K hHeld
        have hHeld := hHeld2
        clear hHeld2
        try simp only [Act.put, List.setIfInBounds_toArray, List.set_cons_zero, List.set_cons_succ]
        refine wpAnyH_done (by kernel_rfl) ?_ _
        go_wp2
        go_ret
        exact ⟨rfl, HFIN.out _ _ hbv2 p1⟩
      refine AllReadyH.cons rfl (fun K hK => ?_) AllReadyH.nil
      go_simp
      refine hK.out _ _ (by first | assumption | exact ⟨by assumption, by assumption, by assumption⟩ | exact ⟨da1 _, da4 _, da5 _⟩ | exact ⟨db1 _ _, db4 _ _, db5 _ _⟩ | exact ⟨ea1 _, ea4 _, ea5 _⟩) (fun hHeld2 => ?_)
      clear hK K hHeld
      have hHeld := hHeld2
      clear hHeld2
      try simp only [Act.put, List.setIfInBounds_toArray, List.set_cons_zero, List.set_cons_succ]
      refine wpAnyH_ready (rs := [14]) (by kernel_rfl) (by simp) ?_
      refine AllReadyH.cons rfl (fun K hK => ?_) AllReadyH.nil
      refine step_appS _ rfl _ _ 41 41 rfl B 37 ti _ 2 Try.underlying41 hti hz0 hz1 rfl (by rw [hz2]; omega) (.slice (some ⟨W.heap.size, 0, none⟩) 0 0) 0 [] (by simp [Act.eval]; done) (owns_empty (by first | exact hA1 | exact hA2 _ | exact hA3 _) (by omega)) (.slice mp r.ms.length mc) (by simp [Act.eval]; done) r.ms.length (mksC r.ms) (HSRC.out _ (by repeat (first | exact Below.refl _ _ | refine Below.drew ?_ | refine Below.alloc ?_ (by simp) _ | refine Below.alloc ?_ (by simp; omega) _))) (by omega) (by simp; omega) ?_
      intro v1 w1 q1 q2 q3 q4
      rw [Nat.zero_add, List.nil_append] at q1
      have hbv1 := HBB.out _ _ _ (by repeat (first | exact Below.refl _ _ | refine Below.drew ?_ | refine Below.alloc ?_ (by simp) _ | refine Below.alloc ?_ (by simp; omega) _)) q2 (HOA.out _ (by omega))
      have hown1 := HOWN.out _ _ _ (by repeat (first | exact Below.refl _ _ | refine Below.drew ?_ | refine Below.alloc ?_ (by simp) _ | refine Below.alloc ?_ (by simp; omega) _)) q3 (HOA.out _ (by omega))
      obtain ⟨e1, e2, e3, e4, e5⟩ := HC.out _ hbv1
      have ea := fun o => HC.out _ (hbv1.alloc hbv1.size o)
      have ea1 := fun o => (ea o).1
      have ea4 := fun o => (ea o).2.2.2.1
      have ea5 := fun o => (ea o).2.2.2.2
      clear ea
      have hv1s := hbv1.size
      have HQ1 : Hid (∀ V, Below w1.heap.size w1 V → V.ownsRow B 37 2 v1 r.ms.length (mksC r.ms)) := fun V hb => ownsRow_upd q1 (Upd.ofBelow (S := fun _ => False) hb) (fun _ _ h => h)
      have hbr := (q2.block (W.heap.size + 1) (by first | omega | (simp; omega) | simp) (HNB.out _ _ (by omega))).trans (by first | exact hB1 | exact hB2 _ | exact hB3 _)
      obtain ⟨vp1, vc1, rfl⟩ := owns_formB0 q1
      clear q1 q3 q4
      show K _ _
      refine hK.out _ _ (by first | assumption | exact ⟨by assumption, by assumption, by assumption⟩ | exact ⟨da1 _, da4 _, da5 _⟩ | exact ⟨db1 _ _, db4 _ _, db5 _ _⟩ | exact ⟨ea1 _, ea4 _, ea5 _⟩) (fun hHeld2 => ?_)
      clear hK K hHeld
      have hHeld := hHeld2
      clear hHeld2
      try simp only [Act.put, List.setIfInBounds_toArray]
      refine wpAnyH_ready (rs := [17]) (by kernel_rfl) (by simp) ?_
      refine AllReadyH.cons rfl (fun K hK => ?_) AllReadyH.nil
      refine step_appS _ rfl _ _ 41 41 rfl B 37 ti _ 2 Try.underlying41 hti hz0 hz1 rfl (by rw [hz2]; omega) (.slice vp1 r.ms.length vc1) r.ms.length (mksC r.ms) (by simp [Act.eval]; done) (HQ1.out _ (by repeat (first | exact Below.refl _ _ | refine Below.drew ?_ | refine Below.alloc ?_ (by simp) _ | refine Below.alloc ?_ (by simp; omega) _))) (.slice (some ⟨W.heap.size + 1, 0, none⟩) 1 1) (by simp [Act.eval]; done) 1 (mkC (rev, true)) (HBK.out _ _ hbr) (by omega) (by first | omega | (simp; omega)) ?_
      intro v2 w2 p1 p2 p3 p4
      have hbv2 := HBB.out _ _ _ (by first | exact hbv1 | exact hbv1.alloc hbv1.size _) p2 hown1
      obtain ⟨s1, s2, s3, s4, s5⟩ := HC.out _ hbv2
      obtain ⟨np2, nc2, rfl⟩ := owns_formB0 p1
      obtain ⟨t1, t4, t5⟩ := HC2.out _ (.slice np2 (r.ms.length + 1) nc2) hbv2
      show K _ _
      refine hK.out _ _ (by first | assumption | exact ⟨by assumption, by assumption, by assumption⟩ | exact ⟨da1 _, da4 _, da5 _⟩ | exact ⟨db1 _ _, db4 _ _, db5 _ _⟩ | exact ⟨ea1 _, ea4 _, ea5 _⟩) (fun hHeld2 => ?_)
      clear hK K hHeld
      have hHeld := hHeld2
      clear hHeld2
      try simp only [Act.put]
      refine wpAnyH_ready (rs := [18]) (by kernel_rfl) (by simp) ?_
      refine AllReadyH.cons rfl (fun K hK => ?_) AllReadyH.nil
      go_simp
      refine hK.out _ _ (by first | assumption | exact ⟨by assumption, by assumption, by assumption⟩ | exact ⟨da1 _, da4 _, da5 _⟩ | exact ⟨db1 _ _, db4 _ _, db5 _ _⟩ | exact ⟨ea1 _, ea4 _, ea5 _⟩) (fun hHeld2 => ?_)
      clear hK K hHeld
      have hHeld := hHeld2
      clear hHeld2
      try simp only [Act.put, List.setIfInBounds_toArray, List.set_cons_zero, List.set_cons_succ]
      refine wpAnyH_ready (rs := [19]) (by kernel_rfl) (by simp) ?_
      refine AllReadyH.cons rfl (fun K hK => ?_) AllReadyH.nil
      go_simp
      refine hK.out _ _ (by first | assumption | exact ⟨by assumption, by assumption, by assumption⟩ | exact ⟨da1 _, da4 _, da5 _⟩ | exact ⟨db1 _ _, db4 _ _, db5 _ _⟩ | exact ⟨ea1 _, ea4 _, ea5 _⟩) (fun hHeld2 => ?_)
      clear hK K hHeld
      have hHeld := hHeld2
      clear hHeld2
      try simp only [Act.put, List.setIfInBounds_toArray, List.set_cons_zero, List.set_cons_succ]
      refine wpAnyH_ready (rs := [20]) (by kernel_rfl) (by simp) ?_
      refine AllReadyH.cons rfl (fun K hK => ?_) AllReadyH.nil
      go_simp
      refine hK.out _ _ (by first | assumption | exact ⟨by assumption, by assumption, by assumption⟩ | exact ⟨da1 _, da4 _, da5 _⟩ | exact ⟨db1 _ _, db4 _ _, db5 _ _⟩ | exact ⟨ea1 _, ea4 _, ea5 _⟩) (fun hHeld2 => ?_)
      clear hK K hHeld
      have hHeld := hHeld2
      clear hHeld2
      try simp only [Act.put, List.setIfInBounds_toArray, List.set_cons_zero, List.set_cons_succ]
      refine wpAnyH_done (by kernel_rfl) ?_ _
      go_wp2
      go_ret
      exact ⟨rfl, HFIN.out _ _ hbv2 p1⟩
    refine AllReadyH.cons rfl (fun K hK => ?_) AllReadyH.nil
    go_simp
    refine hK.out _ _ (by first | assumption | exact ⟨by assumption, by assumption, by assumption⟩ | exact ⟨da1 _, da4 _, da5 _⟩ | exact ⟨db1 _ _, db4 _ _, db5 _ _⟩ | exact ⟨ea1 _, ea4 _, ea5 _⟩) (fun hHeld2 => ?_)
    clear hK K hHeld
    have hHeld := hHeld2
    clear hHeld2
    try simp only [Act.put, List.setIfInBounds_toArray, List.set_cons_zero, List.set_cons_succ]
    refine wpAnyH_ready (rs := [5]) (by kernel_rfl) (by simp) ?_
    refine AllReadyH.cons rfl (fun K hK => ?_) AllReadyH.nil
    go_simp
    refine hK.out _ _ (by first | assumption | exact ⟨by assumption, by assumption, by assumption⟩ | exact ⟨da1 _, da4 _, da5 _⟩ | exact ⟨db1 _ _, db4 _ _, db5 _ _⟩ | exact ⟨ea1 _, ea4 _, ea5 _⟩) (fun hHeld2 => ?_)
    clear hK K hHeld
    have hHeld := hHeld2
    clear hHeld2
    try simp only [Act.put, List.setIfInBounds_toArray, List.set_cons_zero, List.set_cons_succ]
    refine wpAnyH_ready (rs := [14]) (by kernel_rfl) (by simp) ?_
    refine AllReadyH.cons rfl (fun K hK => ?_) AllReadyH.nil
    refine step_appS _ rfl _ _ 41 41 rfl B 37 ti _ 2 Try.underlying41 hti hz0 hz1 rfl (by rw [hz2]; omega) (.slice (some ⟨W.heap.size + 1, 0, none⟩) 0 0) 0 [] (by simp [Act.eval]; done) (owns_empty (by first | exact hA1 | exact hA2 _ | exact hA3 _) (by omega)) (.slice mp r.ms.length mc) (by simp [Act.eval]; done) r.ms.length (mksC r.ms) (HSRC.out _ (by repeat (first | exact Below.refl _ _ | refine Below.drew ?_ | refine Below.alloc ?_ (by simp) _ | refine Below.alloc ?_ (by simp; omega) _))) (by omega) (by simp; omega) ?_
    intro v1 w1 q1 q2 q3 q4
    rw [Nat.zero_add, List.nil_append] at q1
    have hbv1 := HBB.out _ _ _ (by repeat (first | exact Below.refl _ _ | refine Below.drew ?_ | refine Below.alloc ?_ (by simp) _ | refine Below.alloc ?_ (by simp; omega) _)) q2 (HOA.out _ (by omega))
    have hown1 := HOWN.out _ _ _ (by repeat (first | exact Below.refl _ _ | refine Below.drew ?_ | refine Below.alloc ?_ (by simp) _ | refine Below.alloc ?_ (by simp; omega) _)) q3 (HOA.out _ (by omega))
    obtain ⟨e1, e2, e3, e4, e5⟩ := HC.out _ hbv1
    have ea := fun o => HC.out _ (hbv1.alloc hbv1.size o)
    have ea1 := fun o => (ea o).1
    have ea4 := fun o => (ea o).2.2.2.1
    have ea5 := fun o => (ea o).2.2.2.2
    clear ea
    have hv1s := hbv1.size
    have HQ1 : Hid (∀ V, Below w1.heap.size w1 V → V.ownsRow B 37 2 v1 r.ms.length (mksC r.ms)) := fun V hb => ownsRow_upd q1 (Upd.ofBelow (S := fun _ => False) hb) (fun _ _ h => h)
    have hbr := (q2.block (W.heap.size) (by first | omega | (simp; omega) | simp) (HNB.out _ _ (by omega))).trans (by first | exact hB1 | exact hB2 _ | exact hB3 _)
    obtain ⟨vp1, vc1, rfl⟩ := owns_formB0 q1
    clear q1 q3 q4
    show K _ _
    refine hK.out _ _ (by first | assumption | exact ⟨by assumption, by assumption, by assumption⟩ | exact ⟨da1 _, da4 _, da5 _⟩ | exact ⟨db1 _ _, db4 _ _, db5 _ _⟩ | exact ⟨ea1 _, ea4 _, ea5 _⟩) (fun hHeld2 => ?_)
    clear hK K hHeld
    have hHeld := hHeld2
    clear hHeld2
    try simp only [Act.put, List.setIfInBounds_toArray]
    refine wpAnyH_ready (rs := [17]) (by kernel_rfl) (by simp) ?_
    refine AllReadyH.cons rfl (fun K hK => ?_) AllReadyH.nil
    refine step_appS _ rfl _ _ 41 41 rfl B 37 ti _ 2 Try.underlying41 hti hz0 hz1 rfl (by rw [hz2]; omega) (.slice vp1 r.ms.length vc1) r.ms.length (mksC r.ms) (by simp [Act.eval]; done) (HQ1.out _ (by repeat (first | exact Below.refl _ _ | refine Below.drew ?_ | refine Below.alloc ?_ (by simp) _ | refine Below.alloc ?_ (by simp; omega) _))) (.slice (some ⟨W.heap.size, 0, none⟩) 1 1) (by simp [Act.eval]; done) 1 (mkC (rev, true)) (HBK.out _ _ hbr) (by omega) (by first | omega | (simp; omega)) ?_
    intro v2 w2 p1 p2 p3 p4
    have hbv2 := HBB.out _ _ _ (by first | exact hbv1 | exact hbv1.alloc hbv1.size _) p2 hown1
    obtain ⟨s1, s2, s3, s4, s5⟩ := HC.out _ hbv2
    obtain ⟨np2, nc2, rfl⟩ := owns_formB0 p1
    obtain ⟨t1, t4, t5⟩ := HC2.out _ (.slice np2 (r.ms.length + 1) nc2) hbv2
    show K _ _
    refine hK.out _ _ (by first | assumption | exact ⟨by assumption, by assumption, by assumption⟩ | exact ⟨da1 _, da4 _, da5 _⟩ | exact ⟨db1 _ _, db4 _ _, db5 _ _⟩ | exact ⟨ea1 _, ea4 _, ea5 _⟩) (fun hHeld2 => ?_)
    clear hK K hHeld
    have hHeld := hHeld2
    clear hHeld2
    try simp only [Act.put]
    refine wpAnyH_ready (rs := [18]) (by kernel_rfl) (by simp) ?_
    refine AllReadyH.cons rfl (fun K hK => ?_) AllReadyH.nil
    go_simp
    refine hK.out _ _ (by first | assumption | exact ⟨by assumption, by assumption, by assumption⟩ | exact ⟨da1 _, da4 _, da5 _⟩ | exact ⟨db1 _ _, db4 _ _, db5 _ _⟩ | exact ⟨ea1 _, ea4 _, ea5 _⟩) (fun hHeld2 => ?_)
    clear hK K hHeld
    have hHeld := hHeld2
    clear hHeld2
    try simp only [Act.put, List.setIfInBounds_toArray, List.set_cons_zero, List.set_cons_succ]
    refine wpAnyH_ready (rs := [19]) (by kernel_rfl) (by simp) ?_
    refine AllReadyH.cons rfl (fun K hK => ?_) AllReadyH.nil
    go_simp
    refine hK.out _ _ (by first | assumption | exact ⟨by assumption, by assumption, by assumption⟩ | exact ⟨da1 _, da4 _, da5 _⟩ | exact ⟨db1 _ _, db4 _ _, db5 _ _⟩ | exact ⟨ea1 _, ea4 _, ea5 _⟩) (fun hHeld2 => ?_)
    clear hK K hHeld
    have hHeld := hHeld2
    clear hHeld2
    try simp only [Act.put, List.setIfInBounds_toArray, List.set_cons_zero, List.set_cons_succ]
    refine wpAnyH_ready (rs := [20]) (by kernel_rfl) (by simp) ?_
    refine AllReadyH.cons rfl (fun K hK => ?_) AllReadyH.nil
    go_simp
    refine hK.out _ _ (by first | assumption | exact ⟨by assumption, by assumption, by assumption⟩ | exact ⟨da1 _, da4 _, da5 _⟩ | exact ⟨db1 _ _, db4 _ _, db5 _ _⟩ | exact ⟨ea1 _, ea4 _, ea5 _⟩) (fun hHeld2 => ?_)
    clear hK K hHeld
    have hHeld := hHeld2
    clear hHeld2
    try simp only [Act.put, List.setIfInBounds_toArray, List.set_cons_zero, List.set_cons_succ]
    refine wpAnyH_done (by kernel_rfl) ?_ _
    go_wp2
    go_ret
    exact ⟨rfl, HFIN.out _ _ hbv2 p1⟩
  refine AllReadyH.cons rfl (fun K hK => ?_) AllReadyH.nil
  go_simp
  refine hK.out _ _ (by first | assumption | exact ⟨by assumption, by assumption, by assumption⟩ | exact ⟨da1 _, da4 _, da5 _⟩ | exact ⟨db1 _ _, db4 _ _, db5 _ _⟩ | exact ⟨ea1 _, ea4 _, ea5 _⟩) (fun hHeld2 => ?_)
  clear hK K hHeld
  have hHeld := hHeld2
  clear hHeld2
  try simp only [Act.put, List.setIfInBounds_toArray, List.set_cons_zero, List.set_cons_succ]
  refine wpAnyH_ready (rs := [5, 13]) (by kernel_rfl) (by simp) ?_
  refine AllReadyH.cons rfl (fun K hK => ?_) ?_
  · go_simp
    refine hK.out _ _ (by first | assumption | exact ⟨by assumption, by assumption, by assumption⟩ | exact ⟨da1 _, da4 _, da5 _⟩ | exact ⟨db1 _ _, db4 _ _, db5 _ _⟩ | exact ⟨ea1 _, ea4 _, ea5 _⟩) (fun hHeld2 => ?_)
    clear hK K hHeld
    have hHeld := hHeld2
    clear hHeld2
    try simp only [Act.put, List.setIfInBounds_toArray, List.set_cons_zero, List.set_cons_succ]
    refine wpAnyH_ready (rs := [13]) (by kernel_rfl) (by simp) ?_
    refine AllReadyH.cons rfl (fun K hK => ?_) AllReadyH.nil
    go_simp
    refine hK.out _ _ (by first | assumption | exact ⟨by assumption, by assumption, by assumption⟩ | exact ⟨da1 _, da4 _, da5 _⟩ | exact ⟨db1 _ _, db4 _ _, db5 _ _⟩ | exact ⟨ea1 _, ea4 _, ea5 _⟩) (fun hHeld2 => ?_)
    clear hK K hHeld
    have hHeld := hHeld2
    clear hHeld2
    try simp only [Act.put, List.setIfInBounds_toArray, List.set_cons_zero, List.set_cons_succ]
    refine wpAnyH_ready (rs := [14]) (by kernel_rfl) (by simp) ?_
    refine AllReadyH.cons rfl (fun K hK => ?_) AllReadyH.nil
    refine step_appS _ rfl _ _ 41 41 rfl B 37 ti _ 2 Try.underlying41 hti hz0 hz1 rfl (by rw [hz2]; omega) (.slice (some ⟨W.heap.size + 1, 0, none⟩) 0 0) 0 [] (by simp [Act.eval]; done) (owns_empty (by first | exact hA1 | exact hA2 _ | exact hA3 _) (by omega)) (.slice mp r.ms.length mc) (by simp [Act.eval]; done) r.ms.length (mksC r.ms) (HSRC.out _ (by repeat (first | exact Below.refl _ _ | refine Below.drew ?_ | refine Below.alloc ?_ (by simp) _ | refine Below.alloc ?_ (by simp; omega) _))) (by omega) (by simp; omega) ?_
    intro v1 w1 q1 q2 q3 q4
    rw [Nat.zero_add, List.nil_append] at q1
    have hbv1 := HBB.out _ _ _ (by repeat (first | exact Below.refl _ _ | refine Below.drew ?_ | refine Below.alloc ?_ (by simp) _ | refine Below.alloc ?_ (by simp; omega) _)) q2 (HOA.out _ (by omega))
    have hown1 := HOWN.out _ _ _ (by repeat (first | exact Below.refl _ _ | refine Below.drew ?_ | refine Below.alloc ?_ (by simp) _ | refine Below.alloc ?_ (by simp; omega) _)) q3 (HOA.out _ (by omega))
    obtain ⟨e1, e2, e3, e4, e5⟩ := HC.out _ hbv1
    have ea := fun o => HC.out _ (hbv1.alloc hbv1.size o)
    have ea1 := fun o => (ea o).1
    have ea4 := fun o => (ea o).2.2.2.1
    have ea5 := fun o => (ea o).2.2.2.2
    clear ea
    have hv1s := hbv1.size
    have HQ1 : Hid (∀ V, Below w1.heap.size w1 V → V.ownsRow B 37 2 v1 r.ms.length (mksC r.ms)) := fun V hb => ownsRow_upd q1 (Upd.ofBelow (S := fun _ => False) hb) (fun _ _ h => h)
    have hbr := (q2.block (W.heap.size) (by first | omega | (simp; omega) | simp) (HNB.out _ _ (by omega))).trans (by first | exact hB1 | exact hB2 _ | exact hB3 _)
    obtain ⟨vp1, vc1, rfl⟩ := owns_formB0 q1
    clear q1 q3 q4
    show K _ _
    refine hK.out _ _ (by first | assumption | exact ⟨by assumption, by assumption, by assumption⟩ | exact ⟨da1 _, da4 _, da5 _⟩ | exact ⟨db1 _ _, db4 _ _, db5 _ _⟩ | exact ⟨ea1 _, ea4 _, ea5 _⟩) (fun hHeld2 => ?_)
    clear hK K hHeld
    have hHeld := hHeld2
    clear hHeld2
    try simp only [Act.put, List.setIfInBounds_toArray]
    refine wpAnyH_ready (rs := [17]) (by kernel_rfl) (by simp) ?_
    refine AllReadyH.cons rfl (fun K hK => ?_) AllReadyH.nil
    refine step_appS _ rfl _ _ 41 41 rfl B 37 ti _ 2 Try.underlying41 hti hz0 hz1 rfl (by rw [hz2]; omega) (.slice vp1 r.ms.length vc1) r.ms.length (mksC r.ms) (by simp [Act.eval]; done) (HQ1.out _ (by repeat (first | exact Below.refl _ _ | refine Below.drew ?_ | refine Below.alloc ?_ (by simp) _ | refine Below.alloc ?_ (by simp; omega) _))) (.slice (some ⟨W.heap.size, 0, none⟩) 1 1) (by simp [Act.eval]; done) 1 (mkC (rev, true)) (HBK.out _ _ hbr) (by omega) (by first | omega | (simp; omega)) ?_
    intro v2 w2 p1 p2 p3 p4
    have hbv2 := HBB.out _ _ _ (by first | exact hbv1 | exact hbv1.alloc hbv1.size _) p2 hown1
    obtain ⟨s1, s2, s3, s4, s5⟩ := HC.out _ hbv2
    obtain ⟨np2, nc2, rfl⟩ := owns_formB0 p1
    obtain ⟨t1, t4, t5⟩ := HC2.out _ (.slice np2 (r.ms.length + 1) nc2) hbv2
    show K _ _
    refine hK.out _ _ (by first | assumption | exact ⟨by assumption, by assumption, by assumption⟩ | exact ⟨da1 _, da4 _, da5 _⟩ | exact ⟨db1 _ _, db4 _ _, db5 _ _⟩ | exact ⟨ea1 _, ea4 _, ea5 _⟩) (fun hHeld2 => ?_)
    clear hK K hHeld
    have hHeld := hHeld2
    clear hHeld2
    try simp only [Act.put]
    refine wpAnyH_ready (rs := [18]) (by kernel_rfl) (by simp) ?_
    refine AllReadyH.cons rfl (fun K hK => ?_) AllReadyH.nil
    go_simp
    refine hK.out _ _ (by first | assumption | exact ⟨by assumption, by assumption, by assumption⟩ | exact ⟨da1 _, da4 _, da5 _⟩ | exact ⟨db1 _ _, db4 _ _, db5 _ _⟩ | exact ⟨ea1 _, ea4 _, ea5 _⟩) (fun hHeld2 => ?_)
    clear hK K hHeld
    have hHeld := hHeld2
    clear hHeld2
    try simp only [Act.put, List.setIfInBounds_toArray, List.set_cons_zero, List.set_cons_succ]
    refine wpAnyH_ready (rs := [19]) (by kernel_rfl) (by simp) ?_
    refine AllReadyH.cons rfl (fun K hK => ?_) AllReadyH.nil
    go_simp
    refine hK.out _ _ (by first | assumption | exact ⟨by assumption, by assumption, by assumption⟩ | exact ⟨da1 _, da4 _, da5 _⟩ | exact ⟨db1 _ _, db4 _ _, db5 _ _⟩ | exact ⟨ea1 _, ea4 _, ea5 _⟩) (fun hHeld2 => ?_)
    clear hK K hHeld
    have hHeld := hHeld2
    clear hHeld2
    try simp only [Act.put, List.setIfInBounds_toArray, List.set_cons_zero, List.set_cons_succ]
    refine wpAnyH_ready (rs := [20]) (by kernel_rfl) (by simp) ?_
    refine AllReadyH.cons rfl (fun K hK => ?_) AllReadyH.nil
    go_simp
    refine hK.out _ _ (by first | assumption | exact ⟨by assumption, by assumption, by assumption⟩ | exact ⟨da1 _, da4 _, da5 _⟩ | exact ⟨db1 _ _, db4 _ _, db5 _ _⟩ | exact ⟨ea1 _, ea4 _, ea5 _⟩) (fun hHeld2 => ?_)
    clear hK K hHeld
    have hHeld := hHeld2
    clear hHeld2
    try simp only [Act.put, List.setIfInBounds_toArray, List.set_cons_zero, List.set_cons_succ]
    refine wpAnyH_done (by kernel_rfl) ?_ _
    go_wp2
    go_ret
    exact ⟨rfl, HFIN.out _ _ hbv2 p1⟩
  refine AllReadyH.cons rfl (fun K hK => ?_) AllReadyH.nil
  go_simp
  refine hK.out _ _ (by first | assumption | exact ⟨by assumption, by assumption, by assumption⟩ | exact ⟨da1 _, da4 _, da5 _⟩ | exact ⟨db1 _ _, db4 _ _, db5 _ _⟩ | exact ⟨ea1 _, ea4 _, ea5 _⟩) (fun hHeld2 => ?_)
  clear hK K hHeld
  have hHeld := hHeld2
  clear hHeld2
  try simp only [Act.put, List.setIfInBounds_toArray, List.set_cons_zero, List.set_cons_succ]
  refine wpAnyH_ready (rs := [5]) (by kernel_rfl) (by simp) ?_
  refine AllReadyH.cons rfl (fun K hK => ?_) AllReadyH.nil
  go_simp
  refine hK.out _ _ (by first | assumption | exact ⟨by assumption, by assumption, by assumption⟩ | exact ⟨da1 _, da4 _, da5 _⟩ | exact ⟨db1 _ _, db4 _ _, db5 _ _⟩ | exact ⟨ea1 _, ea4 _, ea5 _⟩) (fun hHeld2 => ?_)
  clear hK K hHeld
  have hHeld := hHeld2
  clear hHeld2
  try simp only [Act.put, List.setIfInBounds_toArray, List.set_cons_zero, List.set_cons_succ]
  refine wpAnyH_ready (rs := [14]) (by kernel_rfl) (by simp) ?_
  refine AllReadyH.cons rfl (fun K hK => ?_) AllReadyH.nil
  refine step_appS _ rfl _ _ 41 41 rfl B 37 ti _ 2 Try.underlying41 hti hz0 hz1 rfl (by rw [hz2]; omega) (.slice (some ⟨W.heap.size + 1, 0, none⟩) 0 0) 0 [] (by simp [Act.eval]; done) (owns_empty (by first | exact hA1 | exact hA2 _ | exact hA3 _) (by omega)) (.slice mp r.ms.length mc) (by simp [Act.eval]; done) r.ms.length (mksC r.ms) (HSRC.out _ (by repeat (first | exact Below.refl _ _ | refine Below.drew ?_ | refine Below.alloc ?_ (by simp) _ | refine Below.alloc ?_ (by simp; omega) _))) (by omega) (by simp; omega) ?_
  intro v1 w1 q1 q2 q3 q4
  rw [Nat.zero_add, List.nil_append] at q1
  have hbv1 := HBB.out _ _ _ (by repeat (first | exact Below.refl _ _ | refine Below.drew ?_ | refine Below.alloc ?_ (by simp) _ | refine Below.alloc ?_ (by simp; omega) _)) q2 (HOA.out _ (by omega))
  have hown1 := HOWN.out _ _ _ (by repeat (first | exact Below.refl _ _ | refine Below.drew ?_ | refine Below.alloc ?_ (by simp) _ | refine Below.alloc ?_ (by simp; omega) _)) q3 (HOA.out _ (by omega))
  obtain ⟨e1, e2, e3, e4, e5⟩ := HC.out _ hbv1
  have ea := fun o => HC.out _ (hbv1.alloc hbv1.size o)
  have ea1 := fun o => (ea o).1
  have ea4 := fun o => (ea o).2.2.2.1
  have ea5 := fun o => (ea o).2.2.2.2
  clear ea
  have hv1s := hbv1.size
  have HQ1 : Hid (∀ V, Below w1.heap.size w1 V → V.ownsRow B 37 2 v1 r.ms.length (mksC r.ms)) := fun V hb => ownsRow_upd q1 (Upd.ofBelow (S := fun _ => False) hb) (fun _ _ h => h)
  have hbr := (q2.block (W.heap.size) (by first | omega | (simp; omega) | simp) (HNB.out _ _ (by omega))).trans (by first | exact hB1 | exact hB2 _ | exact hB3 _)
  obtain ⟨vp1, vc1, rfl⟩ := owns_formB0 q1
  clear q1 q3 q4
  show K _ _
  refine hK.out _ _ (by first | assumption | exact ⟨by assumption, by assumption, by assumption⟩ | exact ⟨da1 _, da4 _, da5 _⟩ | exact ⟨db1 _ _, db4 _ _, db5 _ _⟩ | exact ⟨ea1 _, ea4 _, ea5 _⟩) (fun hHeld2 => ?_)
  clear hK K hHeld
  have hHeld := hHeld2
  clear hHeld2
  try simp only [Act.put, List.setIfInBounds_toArray]
  refine wpAnyH_ready (rs := [17]) (by kernel_rfl) (by simp) ?_
  refine AllReadyH.cons rfl (fun K hK => ?_) AllReadyH.nil
  refine step_appS _ rfl _ _ 41 41 rfl B 37 ti _ 2 Try.underlying41 hti hz0 hz1 rfl (by rw [hz2]; omega) (.slice vp1 r.ms.length vc1) r.ms.length (mksC r.ms) (by simp [Act.eval]; done) (HQ1.out _ (by repeat (first | exact Below.refl _ _ | refine Below.drew ?_ | refine Below.alloc ?_ (by simp) _ | refine Below.alloc ?_ (by simp; omega) _))) (.slice (some ⟨W.heap.size, 0, none⟩) 1 1) (by simp [Act.eval]; done) 1 (mkC (rev, true)) (HBK.out _ _ hbr) (by omega) (by first | omega | (simp; omega)) ?_
  intro v2 w2 p1 p2 p3 p4
  have hbv2 := HBB.out _ _ _ (by first | exact hbv1 | exact hbv1.alloc hbv1.size _) p2 hown1
  obtain ⟨s1, s2, s3, s4, s5⟩ := HC.out _ hbv2
  obtain ⟨np2, nc2, rfl⟩ := owns_formB0 p1
  obtain ⟨t1, t4, t5⟩ := HC2.out _ (.slice np2 (r.ms.length + 1) nc2) hbv2
  show K _ _
  refine hK.out _ _ (by first | assumption | exact ⟨by assumption, by assumption, by assumption⟩ | exact ⟨da1 _, da4 _, da5 _⟩ | exact ⟨db1 _ _, db4 _ _, db5 _ _⟩ | exact ⟨ea1 _, ea4 _, ea5 _⟩) (fun hHeld2 => ?_)
  clear hK K hHeld
  have hHeld := hHeld2
  clear hHeld2
  try simp only [Act.put]
  refine wpAnyH_ready (rs := [18]) (by kernel_rfl) (by simp) ?_
  refine AllReadyH.cons rfl (fun K hK => ?_) AllReadyH.nil
  go_simp
  refine hK.out _ _ (by first | assumption | exact ⟨by assumption, by assumption, by assumption⟩ | exact ⟨da1 _, da4 _, da5 _⟩ | exact ⟨db1 _ _, db4 _ _, db5 _ _⟩ | exact ⟨ea1 _, ea4 _, ea5 _⟩) (fun hHeld2 => ?_)
  clear hK K hHeld
  have hHeld := hHeld2
  clear hHeld2
  try simp only [Act.put, List.setIfInBounds_toArray, List.set_cons_zero, List.set_cons_succ]
  refine wpAnyH_ready (rs := [19]) (by kernel_rfl) (by simp) ?_
  refine AllReadyH.cons rfl (fun K hK => ?_) AllReadyH.nil
  go_simp
  refine hK.out _ _ (by first | assumption | exact ⟨by assumption, by assumption, by assumption⟩ | exact ⟨da1 _, da4 _, da5 _⟩ | exact ⟨db1 _ _, db4 _ _, db5 _ _⟩ | exact ⟨ea1 _, ea4 _, ea5 _⟩) (fun hHeld2 => ?_)
  clear hK K hHeld
  have hHeld := hHeld2
  clear hHeld2
  try simp only [Act.put, List.setIfInBounds_toArray, List.set_cons_zero, List.set_cons_succ]
  refine wpAnyH_ready (rs := [20]) (by kernel_rfl) (by simp) ?_
  refine AllReadyH.cons rfl (fun K hK => ?_) AllReadyH.nil
  go_simp
  refine hK.out _ _ (by first | assumption | exact ⟨by assumption, by assumption, by assumption⟩ | exact ⟨da1 _, da4 _, da5 _⟩ | exact ⟨db1 _ _, db4 _ _, db5 _ _⟩ | exact ⟨ea1 _, ea4 _, ea5 _⟩) (fun hHeld2 => ?_)
  clear hK K hHeld
  have hHeld := hHeld2
  clear hHeld2
  try simp only [Act.put, List.setIfInBounds_toArray, List.set_cons_zero, List.set_cons_succ]
  refine wpAnyH_done (by kernel_rfl) ?_ _
  go_wp2
  go_ret
  exact ⟨rfl, HFIN.out _ _ hbv2 p1⟩
end
end Go.Proofs.Ytilginghgigiiaa
