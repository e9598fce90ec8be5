/- The document's Put, where it is taken: a new key. -/
import Derived.Test.YtilginghgigiiaaZ3
namespace Go.Proofs.Ytilginghgigiiaa
open Go Go.RowKit

theorem Rx.ready {w V w3 : World} {B y k : Nat} {R : List IM} {rv v3 : Value} {key : ByteArray} {rev : Int} {D' : Dat} {x : Array Value} (hbw : Below w.heap.size w V) (h : Rx V B y R rv) (hB : B ≤ w.heap.size) (hb3 : Below V.heap.size V w3) (ho : w3.ownsRow B 69 2 v3 (R.length + 1) (itsC ((insN R k key).map IM.it))) (ho3 : ∀ b, Value.ownBlock v3 = some b → V.heap.size ≤ b) (hp : k ≤ R.length) (hn : R.length ≤ 1000000) (hbx : V.heap[w.heap.size]? = some (.cells x 37 (0, 0)))
    (hD : ∀ v, dat ((insN R k key).set k ⟨⟨key, v⟩, [(rev, false)]⟩) = D') :
    ∃ (R1 : List IM) (r : IM) (g c : Nat) (mp : Option Addr) (mc : Nat), v3 = .slice (some ⟨g, 0, none⟩) R1.length c ∧ k < R1.length ∧ R1.length ≤ 1000001 ∧ r.ms.length ≤ 1000000 ∧ Rx (w3.setCell ⟨y, 0, none⟩ v3) B y R1 (.slice (some ⟨g, 0, none⟩) R1.length c) ∧ g < (w3.setCell ⟨y, 0, none⟩ v3).heap.size ∧ (w3.setCell ⟨y, 0, none⟩ v3).cell? ⟨g, k * 2 + 1, none⟩ = some (.slice mp r.ms.length mc) ∧ (w3.setCell ⟨y, 0, none⟩ v3).frozen? ⟨g, k * 2 + 1, none⟩ = false ∧ RMk (w3.setCell ⟨y, 0, none⟩ v3) B (.slice mp r.ms.length mc) r.ms ∧ (w3.setCell ⟨y, 0, none⟩ v3).heap[w.heap.size]? = some (.cells x 37 (0, 0)) ∧ (y ≠ g ∧ w.heap.size ≠ g) ∧ B ≤ (w3.setCell ⟨y, 0, none⟩ v3).heap.size ∧
      (∀ w2 v2, Below (w3.setCell ⟨y, 0, none⟩ v3).heap.size (w3.setCell ⟨y, 0, none⟩ v3) w2 → RMk w2 B v2 (r.ms ++ [(rev, false)]) → RPut w B y rv D' (w2.setCell ⟨g, k * 2 + 1, none⟩ v2)) := by
  have hlen : (insN R k key).length = R.length + 1 := by unfold insN; simp; omega
  have hr := insN_at (key := key) hp
  have hX : Rx (w3.setCell ⟨y, 0, none⟩ v3) B y (insN R k key) v3 := h.setR hb3 (by rw [hlen]; exact ho) (fun r hr => by
    unfold insN at hr
    rcases List.mem_append.1 hr with hr | hr
    · exact (h.below hb3).mks r (List.mem_of_mem_take hr)
    · rcases List.mem_cons.1 hr with rfl | hr
      · exact ⟨rfl, .inl ⟨rfl, rfl⟩⟩
      · exact (h.below hb3).mks r (List.mem_of_mem_drop hr))
  have hu : Upd w (w3.setCell ⟨y, 0, none⟩ v3) (fun k => k = y ∨ some k = rv.ownBlock) := (Upd.ofBelow (hbw.trans (hb3.mono hbw.size))).setCell (p := ⟨y, 0, none⟩) (.inr (.inl rfl)) v3
  have hby : w.heap.size ≠ y := kind_ne ((hb3.block _ (Array.getElem?_eq_some_iff.1 hbx).1).trans hbx) (h.below hb3).blk (by decide)
  have hbW : (w3.setCell ⟨y, 0, none⟩ v3).heap[w.heap.size]? = some (.cells x 37 (0, 0)) := (heap_setCell_other _ _ _ _ _ hby).trans ((hb3.block _ (Array.getElem?_eq_some_iff.1 hbx).1).trans hbx)
  obtain ⟨W, hW⟩ : ∃ W, W = w3.setCell ⟨y, 0, none⟩ v3 := ⟨_, rfl⟩
  rw [← hW] at hX hu hbW ⊢
  clear hW
  obtain ⟨g, c, hv, hgB, hgl, hgk, hgm, hgf⟩ := hX.at_ hr
  have hM := hX.mks _ (List.mem_of_getElem? hr)
  have hXv := hX
  rw [hv] at hXv
  have hne : y ≠ g ∧ w.heap.size ≠ g := by
    rcases hXv.row.2 with ⟨e, _⟩ | ⟨g', cap, cur, e, _, hh, _⟩
    · cases e
    · cases e; exact ⟨kind_ne hXv.blk hh (by decide), kind_ne hbW hh (by decide)⟩
  refine ⟨insN R k key, ⟨⟨key, .slice none 0 0⟩, []⟩, g, c, none, 0, hv, by omega, by omega, by simp, hXv, hgl, hgm, hgf _, hM, hbW, hne, Nat.le_trans hB hu.size, fun w2 v2 hb ho' => ?_⟩
  have h1 := hXv.setL hr hb ho'
  refine ⟨_, _, h1, hD v2, ?_⟩
  have hu2 := hu.trans (Upd.ofBelow (S := fun _ => False) hb) (fun _ _ h => h.elim)
  exact hu2.setCell (p := ⟨g, k * 2 + 1, none⟩) (.inl (Nat.le_trans hbw.size (ho3 g (by rw [hv]; rfl)))) v2
section
variable {w : World} {B y : Nat} {R : List IM} {rv : Value} (h : Rx w B y R rv) (ha : Asc (keysR R)) (hn : R.length ≤ 1000000) (hms : ∀ r ∈ R, r.ms.length ≤ 1000000) (key : ByteArray) (rev : Int) (hks : key.size ≤ 9223372036854775807)
include h ha hn hms hks
set_option maxRecDepth 100000 in
set_option maxHeartbeats 4000000 in
theorem rput_new0 (hR0 : R.length = 0) (hv : rv = .slice none 0 0) (hl : lookD (dat R) key = none) (hk0 : ¬ key.size = 0) (hk1 : ¬ 100 < key.size) (hr1 : ¬ rev < 1) (hB : B ≤ w.heap.size) (he : putE (dat R) key rev false = 0) : Calls Try.prog 11 #[ptr y, .string key, .agg #[.int .i64 rev, .bool false]] w fun e w' => e = .returned (.int .i64 0) ∧ RPut w B y rv (putD (dat R) key rev false) w' := by
  have HDAT : Hid (∀ v, dat ((insN R (plc (R.map IM.it) key) key).set (plc (R.map IM.it) key) ⟨⟨key, v⟩, [(rev, false)]⟩) = putD (dat R) key rev false) := fun v => by
    have hp := plc_le (R.map IM.it) key
    rw [List.length_map] at hp
    rw [insN_set hp]
    exact rput_new ha hl he
  have hne : ¬ key = ByteArray.empty := fun e => hk0 (by rw [e]; rfl)
  have q := ne_hi hne
  have hb0 : Below w.heap.size w (w.alloc (.cells #[.int .i64 rev, .bool false] 37)) := (Below.refl _ w).alloc (Nat.le_refl _) _
  obtain ⟨W0, hW0⟩ : ∃ W0, W0 = w.alloc (.cells #[.int .i64 rev, .bool false] 37) := ⟨_, rfl⟩
  have hr0 : W0.heap[w.heap.size]? = some (.cells #[.int .i64 rev, .bool false] 37 (0, 0)) := by rw [hW0]; exact row_alloc w _ _
  rw [← hW0] at hb0
  have hmk := rmarks_any (h.below hb0) ha hn hms key
  rw [hl] at hmk
  have e0 : W0.cell? ⟨w.heap.size, 0, none⟩ = some (.int .i64 rev) := by simp [World.cell?, hr0]
  have HX := Hid.mk'' h
  go_enter Try.func11, Try.ntmps11
  go_upto_region 1 with (fail)
  rw [← hW0]
  clear hW0 h
  go_upto_region 4 with (go_at_call 15; refine hmk.mono ?_; rintro e W1 ⟨v1, rfl, ⟨p1, c1, hv1⟩, hM1, hb1⟩; dsimp only [Option.getD_none, List.length_nil] at hv1 hM1; subst hv1)
  have hbw1 : Below w.heap.size w W1 := hb0.trans (hb1.mono hb0.size)
  have hr1' : W1.heap[w.heap.size]? = some (.cells #[.int .i64 rev, .bool false] 37 (0, 0)) := (hb1.block _ (Array.getElem?_eq_some_iff.1 hr0).1).trans hr0
  have f0 : W1.cell? ⟨w.heap.size, 0, none⟩ = some (.int .i64 rev) := by simp [World.cell?, hr1']
  have f1 : W1.cell? ⟨w.heap.size, 1, none⟩ = some (.bool false) := by simp [World.cell?, hr1']
  clear hmk hb1 hr0 e0 hb0 hM1
  go_upto_region 5 with (fail)
  go_quiet (fail)
  obtain ⟨W2, hW2⟩ : ∃ W2, W2 = W1.drewN nq := ⟨_, rfl⟩
  rw [← hW2]
  have hb2 : Below W1.heap.size W1 W2 := by rw [hW2]; exact below_drewN' (Below.refl _ _) nq
  have hbw2 : Below w.heap.size w W2 := hbw1.trans (hb2.mono hbw1.size)
  have hr2 : W2.heap[w.heap.size]? = some (.cells #[.int .i64 rev, .bool false] 37 (0, 0)) := (hb2.block _ (Array.getElem?_eq_some_iff.1 hr1').1).trans hr1'
  have g0 : W2.cell? ⟨w.heap.size, 0, none⟩ = some (.int .i64 rev) := by simp [World.cell?, hr2]
  have g1 : W2.cell? ⟨w.heap.size, 1, none⟩ = some (.bool false) := by simp [World.cell?, hr2]
  clear hW2 f0 f1 hr1' hb2
  have hWB0 : B ≤ W2.heap.size := Nat.le_trans hB hbw2.size
  have hat := rat_any (HX.out.below hbw2) hn key
  have hp := plc_le (R.map IM.it) key
  rw [List.length_map] at hp
  subst hv
  have hXW := HX.out.below hbw2
  have c0 := hXW.c0
  obtain ⟨ti, hti, hz0, hz1, hz2⟩ := info_parts info69
  have HY0 : Hid (∀ V, Below W2.heap.size W2 V → V.cell? ⟨y, 0, none⟩ = some (.slice none 0 0) ∧ V.frozen? ⟨y, 0, none⟩ = false) := fun V hb => ⟨((HX.out.below hbw2).below hb).c0, ((HX.out.below hbw2).below hb).free⟩
  generalize hkk : plc (R.map IM.it) key = k at *
  have HK0 : Hid (k = 0) := (by omega : k = 0)
  have HNIL : Hid (∀ V, Src Try.prog 2 27 (.slice none k 0) k (itsC ((R.take k).map IM.it)) V) := fun V => by
    rw [HK0.out]; exact Src_owns (base := 0) Try.underlying27 ⟨rfl, .inl ⟨rfl, rfl⟩⟩ (fun u hu => by cases hu)
  have HNIL2 : Hid (∀ V, Src Try.prog 2 27 (.slice none 0 0) 0 [] V) := fun V => Src_owns (base := 0) Try.underlying27 ⟨rfl, .inl ⟨rfl, rfl⟩⟩ (fun u hu => by cases hu)
  go_upto_region 12 with (go_at_call 27; refine hat.mono ?_; rintro e V0 ⟨rfl, rfl⟩)
  clear hat
  go_upto_region 13 with (at_builtin; refine wpList_appS _ rfl _ _ 27 27 rfl B 69 ti _ 2 Try.underlying27 hti hz0 hz1 rfl (by rw [hz2]; omega) (.slice none 0 0) 0 [] rfl (⟨rfl, .inl ⟨rfl, rfl⟩⟩) _ rfl k (itsC ((R.take k).map IM.it)) (HNIL.out _) (by omega) (by first | omega | (simp; omega)) ?_; intro v1 w1 q1 q2 q3 q4)
  rw [Nat.zero_add, List.nil_append] at q1
  have hb1 : Below V0.heap.size V0 w1 := q2.below (Nat.le_refl _) (fun j hj e => by cases e)
  have ho1 : ∀ b, Value.ownBlock v1 = some b → V0.heap.size ≤ b := fun b hb => by
    rcases q3 with e | e
    · rw [hb] at e; cases e
    · rw [hb] at e; have := Option.some.inj e; omega
  clear q2 q3 q4
  have hs1 := hb1.size
  have HRW : Hid (∀ o, (w1.alloc o).ownsRow B 69 2 v1 k (itsC ((R.take k).map IM.it))) := fun o => ownsRow_upd q1 (Upd.ofBelow (S := fun _ => False) ((Below.refl _ w1).alloc (Nat.le_refl _) o)) (fun _ _ h => h)
  have HBX : Hid (Src Try.prog 2 27 (.slice (some ⟨w1.heap.size, 0, none⟩) 1 1) 1 (itsC [⟨key, .slice none 0 0⟩]) (w1.alloc (.cells #[.string key, .slice none 0 0] 69))) := Src.ofSlice _ Try.underlying27 ⟨w1.heap.size, 0, none⟩ 1 1 _ rfl (fun j u hj => by
    rw [Addr.add_lit, Nat.zero_add, cell_of_row _ _ _ _ _ _ (row_alloc w1 _ 69)]; simpa [itsC, itC] using hj) (fun u hu => by simp [itsC, itC] at hu; rcases hu with rfl | rfl <;> rfl)
  obtain ⟨vp1, vc1, rfl⟩ := owns_formB0 q1
  clear q1
  go_upto_region 14 with (at_builtin; refine wpList_appS _ rfl _ _ 27 27 rfl B 69 ti _ 2 Try.underlying27 hti hz0 hz1 rfl (by rw [hz2]; omega) (.slice vp1 k vc1) k (itsC ((R.take k).map IM.it)) rfl (HRW.out _) (.slice (some ⟨w1.heap.size, 0, none⟩) 1 1) rfl 1 (itsC [⟨key, .slice none 0 0⟩]) HBX.out (by omega) (by first | omega | (simp; omega)) ?_; intro v2 w2 q1 q2 q3 q4)
  have hba : Below V0.heap.size V0 (w1.alloc (.cells #[.string key, .slice none 0 0] 69)) := hb1.alloc hs1 _
  have hb2 : Below V0.heap.size V0 w2 := hba.trans (q2.below hba.size (fun j hj e => by have := ho1 j e.symm; omega))
  have ho2 : ∀ b, Value.ownBlock v2 = some b → V0.heap.size ≤ b := fun b hb => by
    rcases q3 with e | e
    · exact ho1 b (by rw [← e]; exact hb)
    · rw [hb] at e; have := Option.some.inj e; have := hba.size; omega
  have hs2 := hb2.size
  clear hba q2 q3 q4 ho1 HRW HBX
  obtain ⟨d1, d2⟩ := HY0.out _ hb2
  have HO2 := Hid.mk'' q1
  have HB3 : Hid (∀ w3, Upd w2 w3 (fun j => some j = v2.ownBlock) → Below V0.heap.size V0 w3) := fun w3 hu => hb2.trans (hu.below hs2 (fun j hj e => by have := ho2 j e.symm; omega))
  obtain ⟨vp2, vc2, rfl⟩ := owns_formB0 q1
  clear q1
  go_upto_region 15 with (at_builtin; refine wpList_appS _ rfl _ _ 27 27 rfl B 69 ti _ 2 Try.underlying27 hti hz0 hz1 rfl (by rw [hz2]; omega) (.slice vp2 (k + 1) vc2) (k + 1) (itsC ((R.take k).map IM.it) ++ itsC [⟨key, .slice none 0 0⟩]) rfl HO2.out (.slice none 0 0) rfl 0 [] (HNIL2.out _) (by omega) (by first | omega | (simp; omega)) ?_; intro v3 w3 q1 q2 q3 q4; rw [show k + 1 + 0 = R.length + 1 by omega] at q1; obtain ⟨vp3, vc3, rfl⟩ := owns_formB0 q1; obtain ⟨d3, d4⟩ := HY0.out _ (HB3.out _ q2))
  have hb3 := HB3.out _ q2
  have ho3 : ∀ b, Value.ownBlock (.slice vp3 (R.length + 1) vc3) = some b → V0.heap.size ≤ b := fun b hb => by
    rcases q3 with e | e
    · exact ho2 b (by rw [← e]; exact hb)
    · rw [hb] at e; have := Option.some.inj e; omega
  have hq : w3.ownsRow B 69 2 (.slice vp3 (R.length + 1) vc3) (R.length + 1) (itsC ((insN R k key).map IM.it)) := by
    have e1 : itsC ((insN R k key).map IM.it) = itsC ((R.take k).map IM.it) ++ itsC [⟨key, .slice none 0 0⟩] ++ itsC ((R.drop k).map IM.it) := by
      rw [← itsC_append, ← itsC_append]; simp [insN]
    rw [e1]
    rw [List.drop_eq_nil_of_le (by omega)]
    exact q1
  obtain ⟨R1, r, g, c, mp, mc, hv3, hk, hR, hml, hX1, hgl, hg1, hgf, hM1, hbx, HNE0, hWB, HQ⟩ := Rx.ready hbw2 (HX.out.below hbw2) hB hb3 hq ho3 hp hn hr2 HDAT.out
  clear q1 q2 q3 q4 hq ho3 hb3 d1 d2 d3 d4 HB3 HO2 ho2 hs2 hb2 hs1 hb1 HY0 HDAT hr2 g0 g1 c0 hbw2 hbw1 HX hXW HNIL HNIL2 HK0 ha he hl hn hms hkk hWB0 hB hz0 hz1 hz2 hti
  simp only [hR0, Nat.zero_add] at hv3 hX1 hgl hg1 hgf hM1 hbx hWB HQ
  rw [hv3] at hX1 hgl hg1 hgf hM1 hbx hWB HQ ⊢
  clear hv3
  obtain ⟨W, hW⟩ : ∃ W, W = w3.setCell ⟨y, 0, none⟩ (.slice (some ⟨g, 0, none⟩) R1.length c) := ⟨_, rfl⟩
  rw [← hW] at hX1 hgl hg1 hgf hM1 hbx hWB HQ ⊢
  clear hW
  have HX1 := Hid.mk'' hX1
  have HQ := Hid.mk'' HQ
  clear hX1
  generalize hb0' : w.heap.size = b0 at *
  clear hb0'
  have HNE : y ≠ g ∧ b0 ≠ g := HNE0
  clear HNE0
  obtain ⟨ti, hti, hz0, hz1, hz2⟩ := info_parts info37
  have HC : Hid (∀ V, Below W.heap.size W V → V.cell? ⟨y, 0, none⟩ = some (.slice (some ⟨g, 0, none⟩) R1.length c) ∧ V.cell? ⟨g, k * 2 + 1, none⟩ = some (.slice mp r.ms.length mc) ∧ V.frozen? ⟨g, k * 2 + 1, none⟩ = false ∧ V.cell? ⟨b0, 0, none⟩ = some (.int .i64 rev) ∧ V.cell? ⟨b0, 1, none⟩ = some (.bool false)) := fun V hb => ⟨(HX1.out.below hb).c0, (hb.cell (p := ⟨g, k * 2 + 1, none⟩) hgl).trans hg1, (hb.frozen (p := ⟨g, k * 2 + 1, none⟩) hgl).trans hgf, by simp [World.cell?, (hb.block b0 (Array.getElem?_eq_some_iff.1 hbx).1).trans hbx], by simp [World.cell?, (hb.block b0 (Array.getElem?_eq_some_iff.1 hbx).1).trans hbx]⟩
  have HSRC : Hid (∀ V, Below W.heap.size W V → Src Try.prog 2 41 (.slice mp r.ms.length mc) r.ms.length (mksC r.ms) V) := fun V hb => Src_owns Try.underlying41 (ownsRow_upd hM1 (Upd.ofBelow (S := fun _ => False) hb) (fun _ _ h => h)) (mksC_mem _)
  have HBK : Hid (∀ (V : World) (b : Nat), V.heap[b]? = some (.cells #[.int .i64 rev, .bool false] 37 (0, 0)) → Src Try.prog 2 41 (.slice (some ⟨b, 0, none⟩) 1 1) 1 (mkC (rev, false)) V) := fun V b hr => Src.ofSlice V Try.underlying41 ⟨b, 0, none⟩ 1 1 _ rfl (fun j u hj => by
    rw [Addr.add_lit, Nat.zero_add, cell_of_row _ _ _ _ _ _ hr]; simpa [mkC] using hj) (fun u hu => by simp [mkC] at hu; rcases hu with rfl | rfl <;> rfl)
  have HFIN : Hid (∀ w2 v2, Below W.heap.size W w2 → w2.ownsRow B 37 2 v2 (r.ms.length + 1) (mksC r.ms ++ mkC (rev, false)) → RPut w B y (.slice none 0 0) (putD (dat R) key rev false) (w2.setCell ⟨g, k * 2 + 1, none⟩ v2)) := fun w2 v2 hb ho => HQ.out w2 v2 hb (by
    have e : mksC (r.ms ++ [(rev, false)]) = mksC r.ms ++ mkC (rev, false) := by rw [mksC_append]; simp [mksC]
    show World.ownsRow _ _ _ _ _ (r.ms ++ [(rev, false)]).length _
    rw [e, List.length_append, List.length_singleton]
    exact ho)
  have HOWN : Hid (∀ (V : World) (v v1 : Value), Below W.heap.size W V → (Value.ownBlock v1 = Value.ownBlock v ∨ Value.ownBlock v1 = some V.heap.size) → (∀ b, Value.ownBlock v = some b → W.heap.size ≤ b) → ∀ b, Value.ownBlock v1 = some b → W.heap.size ≤ b) := fun V v v1 hb h hv b hb' => by
    rcases h with h | h
    · exact hv b (by rw [← h]; exact hb')
    · rw [hb'] at h; have := Option.some.inj h; have := hb.size; omega
  have HBB : Hid (∀ V w1 v, Below W.heap.size W V → Upd V w1 (fun k => some k = Value.ownBlock v) → (∀ b, Value.ownBlock v = some b → W.heap.size ≤ b) → Below W.heap.size W w1) := fun V w1 v hb hu hv => hb.trans (hu.below hb.size (fun k hk e => by have := hv k e.symm; omega))
  have HOA : Hid (∀ A, W.heap.size ≤ A → ∀ b, Value.ownBlock (.slice (some ⟨A, 0, none⟩) 0 0) = some b → W.heap.size ≤ b) := fun A h b e => by have := Option.some.inj e; dsimp at this; omega
  have HNB : Hid (∀ A b : Nat, b ≠ A → ¬ (some b = Value.ownBlock (.slice (some ⟨A, 0, none⟩) 0 0))) := fun A b h e => h (Option.some.inj e)
  have hyg : y ≠ g := HNE.1
  have hbg : b0 ≠ g := HNE.2
  have HC2 : Hid (∀ V v, Below W.heap.size W V → (V.setCell ⟨g, k * 2 + 1, none⟩ v).cell? ⟨y, 0, none⟩ = some (.slice (some ⟨g, 0, none⟩) R1.length c) ∧ (V.setCell ⟨g, k * 2 + 1, none⟩ v).cell? ⟨b0, 0, none⟩ = some (.int .i64 rev) ∧ (V.setCell ⟨g, k * 2 + 1, none⟩ v).cell? ⟨b0, 1, none⟩ = some (.bool false)) := fun V v hb => by
    obtain ⟨a1, _, _, a4, a5⟩ := HC.out V hb
    exact ⟨by rw [World.cell?_setCell_other _ _ _ _ (fun e => hyg (by simp only [Addr.mk.injEq] at e; exact e.1.symm))]; exact a1, by rw [World.cell?_setCell_other _ _ _ _ (fun e => hbg (by simp only [Addr.mk.injEq] at e; exact e.1.symm))]; exact a4, by rw [World.cell?_setCell_other _ _ _ _ (fun e => hbg (by simp only [Addr.mk.injEq] at e; exact e.1.symm))]; exact a5⟩
  obtain ⟨d1, d2, d3, d4, d5⟩ := HC.out _ (Below.refl _ _)
  have da := fun o => HC.out _ ((Below.refl _ W).alloc (Nat.le_refl _) o)
  have db := fun o o' => HC.out _ (((Below.refl _ W).alloc (Nat.le_refl _) o).alloc (by simp) o')
  have da1 := fun o => (da o).1
  have da2 := fun o => (da o).2.1
  have da4 := fun o => (da o).2.2.2.1
  have da5 := fun o => (da o).2.2.2.2
  have db1 := fun o o' => (db o o').1
  have db2 := fun o o' => (db o o').2.1
  have db4 := fun o o' => (db o o').2.2.2.1
  have db5 := fun o o' => (db o o').2.2.2.2
  have hWB' : B ≤ W.heap.size := hWB
  clear HQ hM1 da db hg1 hgf hbx HX1
  have hA1 := row_alloc W #[] 37
  have hA2 : ∀ o, ((W.alloc (.cells #[] 37)).alloc o).heap[W.heap.size]? = some (.cells #[] 37 (0, 0)) := fun o => (Below.heap_alloc _ _ _ (by simp)).trans hA1
  have hA3 : ∀ o, ((W.alloc o).alloc (.cells #[] 37)).heap[W.heap.size + 1]? = some (.cells #[] 37 (0, 0)) := fun o => by have := row_alloc (W.alloc o) #[] 37; rwa [World.size_alloc] at this
  have hB1 := row_alloc W #[.int .i64 rev, .bool false] 37
  have hB2 : ∀ o, ((W.alloc (.cells #[.int .i64 rev, .bool false] 37)).alloc o).heap[W.heap.size]? = some (.cells #[.int .i64 rev, .bool false] 37 (0, 0)) := fun o => (Below.heap_alloc _ _ _ (by simp)).trans hB1
  have hB3 : ∀ o, ((W.alloc o).alloc (.cells #[.int .i64 rev, .bool false] 37)).heap[W.heap.size + 1]? = some (.cells #[.int .i64 rev, .bool false] 37 (0, 0)) := fun o => by have := row_alloc (W.alloc o) #[.int .i64 rev, .bool false] 37; rwa [World.size_alloc] at this
  refine wp_region_held_drew (S := (fun V => V.cell? ⟨y, 0, none⟩ = some (.slice (some ⟨g, 0, none⟩) R1.length c) ∧ V.cell? ⟨b0, 0, none⟩ = some (.int .i64 rev) ∧ V.cell? ⟨b0, 1, none⟩ = some (.bool false))) (by kernel_rfl) ⟨d1, d4, d5⟩ (fun hHeld => ?_)
  refine wpAnyH_take (i := 0) (oi := { dst := some 84, op := Go.Op.move (Go.Operand.tmp 0), type := 26, pos := "ref.go:68", after := #[], guard := none }) (v := ?_) rfl (by kernel_rfl) (by kernel_rfl) (by kernel_rfl) (fun _ _ _ h => h) (Or.inl ⟨by rfl, ?_⟩) (by assumption) ?_
  case refine_2 => (intro w0 hSw; (try dsimp only at hSw); go_simp; try with_reducible rfl)
  try simp only [Act.put, List.setIfInBounds_toArray, List.set_cons_zero, List.set_cons_succ]
  refine wpAnyH_take (i := 1) (oi := { dst := some 85, op := Go.Op.nilCheck (Go.Operand.tmp 84), type := 0, pos := "ref.go:68", after := #[{ on := 0, ground := Go.Ground.data }], guard := none }) (v := ?_) rfl (by kernel_rfl) (by kernel_rfl) (by kernel_rfl) (fun _ _ _ h => h) (Or.inl ⟨by rfl, ?_⟩) (by assumption) ?_
  case refine_2 => (intro w0 hSw; (try dsimp only at hSw); go_simp; try with_reducible rfl)
  try simp only [Act.put, List.setIfInBounds_toArray, List.set_cons_zero, List.set_cons_succ]
  refine wpAnyH_take (i := 2) (oi := { dst := some 86, op := Go.Op.fieldAddr 29 (Go.Operand.tmp 85) 0, type := 0, pos := "ref.go:68", after := #[{ on := 1, ground := Go.Ground.data }], guard := none }) (v := ?_) rfl (by kernel_rfl) (by kernel_rfl) (by kernel_rfl) (fun _ _ _ h => h) (Or.inl ⟨by rfl, ?_⟩) (by assumption) ?_
  case refine_2 => (intro w0 hSw; (try dsimp only at hSw); go_simp; try with_reducible rfl)
  try simp only [Act.put, List.setIfInBounds_toArray, List.set_cons_zero, List.set_cons_succ]
  refine wpAnyH_take (i := 3) (oi := { dst := some 87, op := Go.Op.load 27 (Go.Operand.tmp 86), type := 27, pos := "ref.go:68", after := #[{ on := 2, ground := Go.Ground.data }], guard := none }) (v := ?_) rfl (by kernel_rfl) (by kernel_rfl) (by kernel_rfl) (fun _ _ _ h => h) (Or.inl ⟨by rfl, ?_⟩) (by assumption) ?_
  case refine_2 => (intro w0 hSw; (try dsimp only at hSw); go_simp; try with_reducible rfl)
  try simp only [Act.put, List.setIfInBounds_toArray, List.set_cons_zero, List.set_cons_succ]
  refine wpAnyH_take (i := 4) (oi := { dst := some 88, op := Go.Op.move (Go.Operand.tmp 9), type := 3, pos := "ref.go:68", after := #[], guard := none }) (v := ?_) rfl (by kernel_rfl) (by kernel_rfl) (by kernel_rfl) (fun _ _ _ h => h) (Or.inl ⟨by rfl, ?_⟩) (by assumption) ?_
  case refine_2 => (intro w0 hSw; (try dsimp only at hSw); go_simp; try with_reducible rfl)
  try simp only [Act.put, List.setIfInBounds_toArray, List.set_cons_zero, List.set_cons_succ]
  refine wpAnyH_take (i := 6) (oi := { dst := some 90, op := Go.Op.move (Go.Operand.tmp 0), type := 26, pos := "ref.go:68", after := #[], guard := none }) (v := ?_) rfl (by kernel_rfl) (by kernel_rfl) (by kernel_rfl) (fun _ _ _ h => h) (Or.inl ⟨by rfl, ?_⟩) (by assumption) ?_
  case refine_2 => (intro w0 hSw; (try dsimp only at hSw); go_simp; try with_reducible rfl)
  try simp only [Act.put, List.setIfInBounds_toArray, List.set_cons_zero, List.set_cons_succ]
  refine wpAnyH_take (i := 7) (oi := { dst := some 91, op := Go.Op.nilCheck (Go.Operand.tmp 90), type := 0, pos := "ref.go:68", after := #[{ on := 6, ground := Go.Ground.data }], guard := none }) (v := ?_) rfl (by kernel_rfl) (by kernel_rfl) (by kernel_rfl) (fun _ _ _ h => h) (Or.inl ⟨by rfl, ?_⟩) (by assumption) ?_
  case refine_2 => (intro w0 hSw; (try dsimp only at hSw); go_simp; try with_reducible rfl)
  try simp only [Act.put, List.setIfInBounds_toArray, List.set_cons_zero, List.set_cons_succ]
  refine wpAnyH_take (i := 8) (oi := { dst := some 92, op := Go.Op.fieldAddr 29 (Go.Operand.tmp 91) 0, type := 0, pos := "ref.go:68", after := #[{ on := 7, ground := Go.Ground.data }], guard := none }) (v := ?_) rfl (by kernel_rfl) (by kernel_rfl) (by kernel_rfl) (fun _ _ _ h => h) (Or.inl ⟨by rfl, ?_⟩) (by assumption) ?_
  case refine_2 => (intro w0 hSw; (try dsimp only at hSw); go_simp; try with_reducible rfl)
  try simp only [Act.put, List.setIfInBounds_toArray, List.set_cons_zero, List.set_cons_succ]
  refine wpAnyH_take (i := 9) (oi := { dst := some 93, op := Go.Op.load 27 (Go.Operand.tmp 92), type := 27, pos := "ref.go:68", after := #[{ on := 8, ground := Go.Ground.data }], guard := none }) (v := ?_) rfl (by kernel_rfl) (by kernel_rfl) (by kernel_rfl) (fun _ _ _ h => h) (Or.inl ⟨by rfl, ?_⟩) (by assumption) ?_
  case refine_2 => (intro w0 hSw; (try dsimp only at hSw); go_simp; try with_reducible rfl)
  try simp only [Act.put, List.setIfInBounds_toArray, List.set_cons_zero, List.set_cons_succ]
  refine wpAnyH_take (i := 10) (oi := { dst := some 94, op := Go.Op.move (Go.Operand.tmp 9), type := 3, pos := "ref.go:68", after := #[], guard := none }) (v := ?_) rfl (by kernel_rfl) (by kernel_rfl) (by kernel_rfl) (fun _ _ _ h => h) (Or.inl ⟨by rfl, ?_⟩) (by assumption) ?_
  case refine_2 => (intro w0 hSw; (try dsimp only at hSw); go_simp; try with_reducible rfl)
  try simp only [Act.put, List.setIfInBounds_toArray, List.set_cons_zero, List.set_cons_succ]
  refine wpAnyH_take (i := 11) (oi := { dst := some 95, op := Go.Op.indexAddr 27 (Go.Operand.tmp 93) (Go.Operand.tmp 94), type := 0, pos := "ref.go:68", after := #[{ on := 9, ground := Go.Ground.data }, { on := 10, ground := Go.Ground.data }], guard := none }) (v := ?_) rfl (by kernel_rfl) (by kernel_rfl) (by kernel_rfl) (fun _ _ _ h => h) (Or.inl ⟨by rfl, ?_⟩) (by assumption) ?_
  case refine_2 => (intro w0 hSw; (try dsimp only at hSw); go_simp; try with_reducible rfl)
  try simp only [Act.put, List.setIfInBounds_toArray, List.set_cons_zero, List.set_cons_succ]
  refine wpAnyH_take (i := 12) (oi := { dst := some 96, op := Go.Op.fieldAddr 69 (Go.Operand.tmp 95) 1, type := 0, pos := "ref.go:68", after := #[{ on := 11, ground := Go.Ground.data }], guard := none }) (v := ?_) rfl (by kernel_rfl) (by kernel_rfl) (by kernel_rfl) (fun _ _ _ h => h) (Or.inl ⟨by rfl, ?_⟩) (by assumption) ?_
  case refine_2 => (intro w0 hSw; (try dsimp only at hSw); go_simp; try with_reducible rfl)
  try simp only [Act.put, List.setIfInBounds_toArray, List.set_cons_zero, List.set_cons_succ]
  refine wpAnyH_take (i := 15) (oi := { dst := some 99, op := Go.Op.load 37 (Go.Operand.tmp 5), type := 37, pos := "ref.go:68", after := #[], guard := none }) (v := ?_) rfl (by kernel_rfl) (by kernel_rfl) (by kernel_rfl) (fun _ _ _ h => h) (Or.inl ⟨by rfl, ?_⟩) (by assumption) ?_
  case refine_2 => (intro w0 hSw; (try dsimp only at hSw); go_simp; try with_reducible rfl)
  try simp only [Act.put, List.setIfInBounds_toArray, List.set_cons_zero, List.set_cons_succ]
  refine wpAnyH_ready (rs := [5, 13, 16]) (by kernel_rfl) (by simp) ?_
  refine AllReadyH.cons rfl (fun K hK => ?_) ?_
  · go_simp
    refine hK.out _ _ (by first | assumption | exact ⟨by assumption, by assumption, by assumption⟩ | exact ⟨da1 _, da4 _, da5 _⟩ | exact ⟨db1 _ _, db4 _ _, db5 _ _⟩ | exact ⟨ea1 _, ea4 _, ea5 _⟩) (fun hHeld2 => ?_)
    clear hK K hHeld
    have hHeld := hHeld2
    clear hHeld2
    try simp only [Act.put, List.setIfInBounds_toArray, List.set_cons_zero, List.set_cons_succ]
    refine wpAnyH_ready (rs := [13, 16]) (by kernel_rfl) (by simp) ?_
    refine AllReadyH.cons rfl (fun K hK => ?_) ?_
    · go_simp
      refine hK.out _ _ (by first | assumption | exact ⟨by assumption, by assumption, by assumption⟩ | exact ⟨da1 _, da4 _, da5 _⟩ | exact ⟨db1 _ _, db4 _ _, db5 _ _⟩ | exact ⟨ea1 _, ea4 _, ea5 _⟩) (fun hHeld2 => ?_)
      clear hK K hHeld
      have hHeld := hHeld2
      clear hHeld2
      try simp only [Act.put, List.setIfInBounds_toArray, List.set_cons_zero, List.set_cons_succ]
      refine wpAnyH_ready (rs := [14, 16]) (by kernel_rfl) (by simp) ?_
      refine AllReadyH.cons rfl (fun K hK => ?_) ?_
      · refine step_appS _ rfl _ _ 41 41 rfl B 37 ti _ 2 Try.underlying41 hti hz0 hz1 rfl (by rw [hz2]; omega) (.slice (some ⟨W.heap.size, 0, none⟩) 0 0) 0 [] (by simp [Act.eval]; done) (owns_empty (by first | exact hA1 | exact hA2 _ | exact hA3 _) (by omega)) (.slice mp r.ms.length mc) (by simp [Act.eval]; done) r.ms.length (mksC r.ms) (HSRC.out _ (by repeat (first | exact Below.refl _ _ | refine Below.drew ?_ | refine Below.alloc ?_ (by simp) _ | refine Below.alloc ?_ (by simp; omega) _))) (by omega) (by simp; omega) ?_
        intro v1 w1 q1 q2 q3 q4
        rw [Nat.zero_add, List.nil_append] at q1
        have hbv1 := HBB.out _ _ _ (by repeat (first | exact Below.refl _ _ | refine Below.drew ?_ | refine Below.alloc ?_ (by simp) _ | refine Below.alloc ?_ (by simp; omega) _)) q2 (HOA.out _ (by omega))
        have hown1 := HOWN.out _ _ _ (by repeat (first | exact Below.refl _ _ | refine Below.drew ?_ | refine Below.alloc ?_ (by simp) _ | refine Below.alloc ?_ (by simp; omega) _)) q3 (HOA.out _ (by omega))
        obtain ⟨e1, e2, e3, e4, e5⟩ := HC.out _ hbv1
        have ea := fun o => HC.out _ (hbv1.alloc hbv1.size o)
        have ea1 := fun o => (ea o).1
        have ea4 := fun o => (ea o).2.2.2.1
        have ea5 := fun o => (ea o).2.2.2.2
        clear ea
        have hv1s := hbv1.size
        have HQ1 : Hid (∀ V, Below w1.heap.size w1 V → V.ownsRow B 37 2 v1 r.ms.length (mksC r.ms)) := fun V hb => ownsRow_upd q1 (Upd.ofBelow (S := fun _ => False) hb) (fun _ _ h => h)
        have hbr := row_alloc w1 #[.int .i64 rev, .bool false] 37
        obtain ⟨vp1, vc1, rfl⟩ := owns_formB0 q1
        clear q1 q3 q4
        show K _ _
        refine hK.out _ _ (by first | assumption | exact ⟨by assumption, by assumption, by assumption⟩ | exact ⟨da1 _, da4 _, da5 _⟩ | exact ⟨db1 _ _, db4 _ _, db5 _ _⟩ | exact ⟨ea1 _, ea4 _, ea5 _⟩) (fun hHeld2 => ?_)
        clear hK K hHeld
        have hHeld := hHeld2
        clear hHeld2
        try simp only [Act.put, List.setIfInBounds_toArray]
        refine wpAnyH_ready (rs := [16]) (by kernel_rfl) (by simp) ?_
        refine AllReadyH.cons rfl (fun K hK => ?_) AllReadyH.nil
        go_simp
        refine hK.out _ _ (by first | assumption | exact ⟨by assumption, by assumption, by assumption⟩ | exact ⟨da1 _, da4 _, da5 _⟩ | exact ⟨db1 _ _, db4 _ _, db5 _ _⟩ | exact ⟨ea1 _, ea4 _, ea5 _⟩) (fun hHeld2 => ?_)
        clear hK K hHeld
        have hHeld := hHeld2
        clear hHeld2
        try simp only [Act.put, List.setIfInBounds_toArray, List.set_cons_zero, List.set_cons_succ]
        refine wpAnyH_ready (rs := [17]) (by kernel_rfl) (by simp) ?_
        refine AllReadyH.cons rfl (fun K hK => ?_) AllReadyH.nil
        refine step_appS _ rfl _ _ 41 41 rfl B 37 ti _ 2 Try.underlying41 hti hz0 hz1 rfl (by rw [hz2]; omega) (.slice vp1 r.ms.length vc1) r.ms.length (mksC r.ms) (by simp [Act.eval]; done) (HQ1.out _ (by repeat (first | exact Below.refl _ _ | refine Below.drew ?_ | refine Below.alloc ?_ (by simp) _ | refine Below.alloc ?_ (by simp; omega) _))) (.slice (some ⟨w1.heap.size, 0, none⟩) 1 1) (by simp [Act.eval]; done) 1 (mkC (rev, false)) (HBK.out _ _ hbr) (by omega) (by first | omega | (simp; omega)) ?_
        intro v2 w2 p1 p2 p3 p4
        have hbv2 := HBB.out _ _ _ (by first | exact hbv1 | exact hbv1.alloc hbv1.size _) p2 hown1
        obtain ⟨s1, s2, s3, s4, s5⟩ := HC.out _ hbv2
        obtain ⟨np2, nc2, rfl⟩ := owns_formB0 p1
        obtain ⟨t1, t4, t5⟩ := HC2.out _ (.slice np2 (r.ms.length + 1) nc2) hbv2
        show K _ _
        refine hK.out _ _ (by first | assumption | exact ⟨by assumption, by assumption, by assumption⟩ | exact ⟨da1 _, da4 _, da5 _⟩ | exact ⟨db1 _ _, db4 _ _, db5 _ _⟩ | exact ⟨ea1 _, ea4 _, ea5 _⟩) (fun hHeld2 => ?_)
        clear hK K hHeld
        have hHeld := hHeld2
        clear hHeld2
        try simp only [Act.put, List.setIfInBounds_toArray]
        refine wpAnyH_ready (rs := [18]) (by kernel_rfl) (by simp) ?_
        refine AllReadyH.cons rfl (fun K hK => ?_) AllReadyH.nil
        go_simp
        refine hK.out _ _ (by first | assumption | exact ⟨by assumption, by assumption, by assumption⟩ | exact ⟨da1 _, da4 _, da5 _⟩ | exact ⟨db1 _ _, db4 _ _, db5 _ _⟩ | exact ⟨ea1 _, ea4 _, ea5 _⟩) (fun hHeld2 => ?_)
        clear hK K hHeld
        have hHeld := hHeld2
        clear hHeld2
        try simp only [Act.put, List.setIfInBounds_toArray, List.set_cons_zero, List.set_cons_succ]
        refine wpAnyH_ready (rs := [19]) (by kernel_rfl) (by simp) ?_
        refine AllReadyH.cons rfl (fun K hK => ?_) AllReadyH.nil
        go_simp
        refine hK.out _ _ (by first | assumption | exact ⟨by assumption, by assumption, by assumption⟩ | exact ⟨da1 _, da4 _, da5 _⟩ | exact ⟨db1 _ _, db4 _ _, db5 _ _⟩ | exact ⟨ea1 _, ea4 _, ea5 _⟩) (fun hHeld2 => ?_)
        clear hK K hHeld
        have hHeld := hHeld2
        clear hHeld2
        try simp only [Act.put, List.setIfInBounds_toArray, List.set_cons_zero, List.set_cons_succ]
        refine wpAnyH_ready (rs := [20]) (by kernel_rfl) (by simp) ?_
        refine AllReadyH.cons rfl (fun K hK => ?_) AllReadyH.nil
        go_simp
        refine hK.out _ _ (by first | assumption | exact ⟨by assumption, by assumption, by assumption⟩ | exact ⟨da1 _, da4 _, da5 _⟩ | exact ⟨db1 _ _, db4 _ _, db5 _ _⟩ | exact ⟨ea1 _, ea4 _, ea5 _⟩) (fun hHeld2 => ?_)
        clear hK K hHeld
        have hHeld := hHeld2
        clear hHeld2
        try simp only [Act.put, List.setIfInBounds_toArray, List.set_cons_zero, List.set_cons_succ]
        refine wpAnyH_done (by kernel_rfl) ?_ _
        go_wp2
        go_ret
        exact ⟨rfl, HFIN.out _ _ hbv2 p1⟩
      refine AllReadyH.cons rfl (fun K hK => ?_) AllReadyH.nil
      go_simp
      refine hK.out _ _ (by first | assumption | exact ⟨by assumption, by assumption, by assumption⟩ | exact ⟨da1 _, da4 _, da5 _⟩ | exact ⟨db1 _ _, db4 _ _, db5 _ _⟩ | exact ⟨ea1 _, ea4 _, ea5 _⟩) (fun hHeld2 => ?_)
      clear hK K hHeld
      have hHeld := hHeld2
      clear hHeld2
      try simp only [Act.put, List.setIfInBounds_toArray, List.set_cons_zero, List.set_cons_succ]
      refine wpAnyH_ready (rs := [14]) (by kernel_rfl) (by simp) ?_
      refine AllReadyH.cons rfl (fun K hK => ?_) AllReadyH.nil
      refine step_appS _ rfl _ _ 41 41 rfl B 37 ti _ 2 Try.underlying41 hti hz0 hz1 rfl (by rw [hz2]; omega) (.slice (some ⟨W.heap.size, 0, none⟩) 0 0) 0 [] (by simp [Act.eval]; done) (owns_empty (by first | exact hA1 | exact hA2 _ | exact hA3 _) (by omega)) (.slice mp r.ms.length mc) (by simp [Act.eval]; done) r.ms.length (mksC r.ms) (HSRC.out _ (by repeat (first | exact Below.refl _ _ | refine Below.drew ?_ | refine Below.alloc ?_ (by simp) _ | refine Below.alloc ?_ (by simp; omega) _))) (by omega) (by simp; omega) ?_
      intro v1 w1 q1 q2 q3 q4
      rw [Nat.zero_add, List.nil_append] at q1
      have hbv1 := HBB.out _ _ _ (by repeat (first | exact Below.refl _ _ | refine Below.drew ?_ | refine Below.alloc ?_ (by simp) _ | refine Below.alloc ?_ (by simp; omega) _)) q2 (HOA.out _ (by omega))
      have hown1 := HOWN.out _ _ _ (by repeat (first | exact Below.refl _ _ | refine Below.drew ?_ | refine Below.alloc ?_ (by simp) _ | refine Below.alloc ?_ (by simp; omega) _)) q3 (HOA.out _ (by omega))
      obtain ⟨e1, e2, e3, e4, e5⟩ := HC.out _ hbv1
      have ea := fun o => HC.out _ (hbv1.alloc hbv1.size o)
      have ea1 := fun o => (ea o).1
      have ea4 := fun o => (ea o).2.2.2.1
      have ea5 := fun o => (ea o).2.2.2.2
      clear ea
      have hv1s := hbv1.size
      have HQ1 : Hid (∀ V, Below w1.heap.size w1 V → V.ownsRow B 37 2 v1 r.ms.length (mksC r.ms)) := fun V hb => ownsRow_upd q1 (Upd.ofBelow (S := fun _ => False) hb) (fun _ _ h => h)
      have hbr := (q2.block (W.heap.size + 1) (by first | omega | (simp; omega) | simp) (HNB.out _ _ (by omega))).trans (by first | exact hB1 | exact hB2 _ | exact hB3 _)
      obtain ⟨vp1, vc1, rfl⟩ := owns_formB0 q1
      clear q1 q3 q4
      show K _ _
      refine hK.out _ _ (by first | assumption | exact ⟨by assumption, by assumption, by assumption⟩ | exact ⟨da1 _, da4 _, da5 _⟩ | exact ⟨db1 _ _, db4 _ _, db5 _ _⟩ | exact ⟨ea1 _, ea4 _, ea5 _⟩) (fun hHeld2 => ?_)
      clear hK K hHeld
      have hHeld := hHeld2
      clear hHeld2
      try simp only [Act.put, List.setIfInBounds_toArray]
      refine wpAnyH_ready (rs := [17]) (by kernel_rfl) (by simp) ?_
      refine AllReadyH.cons rfl (fun K hK => ?_) AllReadyH.nil
      refine step_appS _ rfl _ _ 41 41 rfl B 37 ti _ 2 Try.underlying41 hti hz0 hz1 rfl (by rw [hz2]; omega) (.slice vp1 r.ms.length vc1) r.ms.length (mksC r.ms) (by simp [Act.eval]; done) (HQ1.out _ (by repeat (first | exact Below.refl _ _ | refine Below.drew ?_ | refine Below.alloc ?_ (by simp) _ | refine Below.alloc ?_ (by simp; omega) _))) (.slice (some ⟨W.heap.size + 1, 0, none⟩) 1 1) (by simp [Act.eval]; done) 1 (mkC (rev, false)) (HBK.out _ _ hbr) (by omega) (by first | omega | (simp; omega)) ?_
      intro v2 w2 p1 p2 p3 p4
      have hbv2 := HBB.out _ _ _ (by first | exact hbv1 | exact hbv1.alloc hbv1.size _) p2 hown1
      obtain ⟨s1, s2, s3, s4, s5⟩ := HC.out _ hbv2
      obtain ⟨np2, nc2, rfl⟩ := owns_formB0 p1
      obtain ⟨t1, t4, t5⟩ := HC2.out _ (.slice np2 (r.ms.length + 1) nc2) hbv2
      show K _ _
      refine hK.out _ _ (by first | assumption | exact ⟨by assumption, by assumption, by assumption⟩ | exact ⟨da1 _, da4 _, da5 _⟩ | exact ⟨db1 _ _, db4 _ _, db5 _ _⟩ | exact ⟨ea1 _, ea4 _, ea5 _⟩) (fun hHeld2 => ?_)
      clear hK K hHeld
      have hHeld := hHeld2
      clear hHeld2
      try simp only [Act.put]
      refine wpAnyH_ready (rs := [18]) (by kernel_rfl) (by simp) ?_
      refine AllReadyH.cons rfl (fun K hK => ?_) AllReadyH.nil
      go_simp
      refine hK.out _ _ (by first | assumption | exact ⟨by assumption, by assumption, by assumption⟩ | exact ⟨da1 _, da4 _, da5 _⟩ | exact ⟨db1 _ _, db4 _ _, db5 _ _⟩ | exact ⟨ea1 _, ea4 _, ea5 _⟩) (fun hHeld2 => ?_)
      clear hK K hHeld
      have hHeld := hHeld2
      clear hHeld2
      try simp only [Act.put, List.setIfInBounds_toArray, List.set_cons_zero, List.set_cons_succ]
      refine wpAnyH_ready (rs := [19]) (by kernel_rfl) (by simp) ?_
      refine AllReadyH.cons rfl (fun K hK => ?_) AllReadyH.nil
      go_simp
      refine hK.out _ _ (by first | assumption | exact ⟨by assumption, by assumption, by assumption⟩ | exact ⟨da1 _, da4 _, da5 _⟩ | exact ⟨db1 _ _, db4 _ _, db5 _ _⟩ | exact ⟨ea1 _, ea4 _, ea5 _⟩) (fun hHeld2 => ?_)
      clear hK K hHeld
      have hHeld := hHeld2
      clear hHeld2
      try simp only [Act.put, List.setIfInBounds_toArray, List.set_cons_zero, List.set_cons_succ]
      refine wpAnyH_ready (rs := [20]) (by kernel_rfl) (by simp) ?_
      refine AllReadyH.cons rfl (fun K hK => ?_) AllReadyH.nil
      go_simp
      refine hK.out _ _ (by first | assumption | exact ⟨by assumption, by assumption, by assumption⟩ | exact ⟨da1 _, da4 _, da5 _⟩ | exact ⟨db1 _ _, db4 _ _, db5 _ _⟩ | exact ⟨ea1 _, ea4 _, ea5 _⟩) (fun hHeld2 => ?_)
      clear hK K hHeld
      have hHeld := hHeld2
      clear hHeld2
      try simp only [Act.put, List.setIfInBounds_toArray, List.set_cons_zero, List.set_cons_succ]
      refine wpAnyH_done (by kernel_rfl) ?_ _
      go_wp2
      go_ret
      exact ⟨rfl, HFIN.out _ _ hbv2 p1⟩
    refine AllReadyH.cons rfl (fun K hK => ?_) AllReadyH.nil
    go_simp
    refine hK.out _ _ (by first | assumption | exact ⟨by assumption, by assumption, by assumption⟩ | exact ⟨da1 _, da4 _, da5 _⟩ | exact ⟨db1 _ _, db4 _ _, db5 _ _⟩ | exact ⟨ea1 _, ea4 _, ea5 _⟩) (fun hHeld2 => ?_)
    clear hK K hHeld
    have hHeld := hHeld2
    clear hHeld2
    try simp only [Act.put, List.setIfInBounds_toArray, List.set_cons_zero, List.set_cons_succ]
    refine wpAnyH_ready (rs := [13]) (by kernel_rfl) (by simp) ?_
    refine AllReadyH.cons rfl (fun K hK => ?_) AllReadyH.nil
    go_simp
    refine hK.out _ _ (by first | assumption | exact ⟨by assumption, by assumption, by assumption⟩ | exact ⟨da1 _, da4 _, da5 _⟩ | exact ⟨db1 _ _, db4 _ _, db5 _ _⟩ | exact ⟨ea1 _, ea4 _, ea5 _⟩) (fun hHeld2 => ?_)
    clear hK K hHeld
    have hHeld := hHeld2
    clear hHeld2
    try simp only [Act.put, List.setIfInBounds_toArray, List.set_cons_zero, List.set_cons_succ]
    refine wpAnyH_ready (rs := [14]) (by kernel_rfl) (by simp) ?_
    refine AllReadyH.cons rfl (fun K hK => ?_) AllReadyH.nil
    refine step_appS _ rfl _ _ 41 41 rfl B 37 ti _ 2 Try.underlying41 hti hz0 hz1 rfl (by rw [hz2]; omega) (.slice (some ⟨W.heap.size, 0, none⟩) 0 0) 0 [] (by simp [Act.eval]; done) (owns_empty (by first | exact hA1 | exact hA2 _ | exact hA3 _) (by omega)) (.slice mp r.ms.length mc) (by simp [Act.eval]; done) r.ms.length (mksC r.ms) (HSRC.out _ (by repeat (first | exact Below.refl _ _ | refine Below.drew ?_ | refine Below.alloc ?_ (by simp) _ | refine Below.alloc ?_ (by simp; omega) _))) (by omega) (by simp; omega) ?_
    intro v1 w1 q1 q2 q3 q4
    rw [Nat.zero_add, List.nil_append] at q1
    have hbv1 := HBB.out _ _ _ (by repeat (first | exact Below.refl _ _ | refine Below.drew ?_ | refine Below.alloc ?_ (by simp) _ | refine Below.alloc ?_ (by simp; omega) _)) q2 (HOA.out _ (by omega))
    have hown1 := HOWN.out _ _ _ (by repeat (first | exact Below.refl _ _ | refine Below.drew ?_ | refine Below.alloc ?_ (by simp) _ | refine Below.alloc ?_ (by simp; omega) _)) q3 (HOA.out _ (by omega))
    obtain ⟨e1, e2, e3, e4, e5⟩ := HC.out _ hbv1
    have ea := fun o => HC.out _ (hbv1.alloc hbv1.size o)
    have ea1 := fun o => (ea o).1
    have ea4 := fun o => (ea o).2.2.2.1
    have ea5 := fun o => (ea o).2.2.2.2
    clear ea
    have hv1s := hbv1.size
    have HQ1 : Hid (∀ V, Below w1.heap.size w1 V → V.ownsRow B 37 2 v1 r.ms.length (mksC r.ms)) := fun V hb => ownsRow_upd q1 (Upd.ofBelow (S := fun _ => False) hb) (fun _ _ h => h)
    have hbr := (q2.block (W.heap.size + 1) (by first | omega | (simp; omega) | simp) (HNB.out _ _ (by omega))).trans (by first | exact hB1 | exact hB2 _ | exact hB3 _)
    obtain ⟨vp1, vc1, rfl⟩ := owns_formB0 q1
    clear q1 q3 q4
    show K _ _
    refine hK.out _ _ (by first | assumption | exact ⟨by assumption, by assumption, by assumption⟩ | exact ⟨da1 _, da4 _, da5 _⟩ | exact ⟨db1 _ _, db4 _ _, db5 _ _⟩ | exact ⟨ea1 _, ea4 _, ea5 _⟩) (fun hHeld2 => ?_)
    clear hK K hHeld
    have hHeld := hHeld2
    clear hHeld2
    try simp only [Act.put, List.setIfInBounds_toArray]
    refine wpAnyH_ready (rs := [17]) (by kernel_rfl) (by simp) ?_
    refine AllReadyH.cons rfl (fun K hK => ?_) AllReadyH.nil
    refine step_appS _ rfl _ _ 41 41 rfl B 37 ti _ 2 Try.underlying41 hti hz0 hz1 rfl (by rw [hz2]; omega) (.slice vp1 r.ms.length vc1) r.ms.length (mksC r.ms) (by simp [Act.eval]; done) (HQ1.out _ (by repeat (first | exact Below.refl _ _ | refine Below.drew ?_ | refine Below.alloc ?_ (by simp) _ | refine Below.alloc ?_ (by simp; omega) _))) (.slice (some ⟨W.heap.size + 1, 0, none⟩) 1 1) (by simp [Act.eval]; done) 1 (mkC (rev, false)) (HBK.out _ _ hbr) (by omega) (by first | omega | (simp; omega)) ?_
    intro v2 w2 p1 p2 p3 p4
    have hbv2 := HBB.out _ _ _ (by first | exact hbv1 | exact hbv1.alloc hbv1.size _) p2 hown1
    obtain ⟨s1, s2, s3, s4, s5⟩ := HC.out _ hbv2
    obtain ⟨np2, nc2, rfl⟩ := owns_formB0 p1
    obtain ⟨t1, t4, t5⟩ := HC2.out _ (.slice np2 (r.ms.length + 1) nc2) hbv2
    show K _ _
    refine hK.out _ _ (by first | assumption | exact ⟨by assumption, by assumption, by assumption⟩ | exact ⟨da1 _, da4 _, da5 _⟩ | exact ⟨db1 _ _, db4 _ _, db5 _ _⟩ | exact ⟨ea1 _, ea4 _, ea5 _⟩) (fun hHeld2 => ?_)
    clear hK K hHeld
    have hHeld := hHeld2
    clear hHeld2
    try simp only [Act.put]
    refine wpAnyH_ready (rs := [18]) (by kernel_rfl) (by simp) ?_
    refine AllReadyH.cons rfl (fun K hK => ?_) AllReadyH.nil
    go_simp
    refine hK.out _ _ (by first | assumption | exact ⟨by assumption, by assumption, by assumption⟩ | exact ⟨da1 _, da4 _, da5 _⟩ | exact ⟨db1 _ _, db4 _ _, db5 _ _⟩ | exact ⟨ea1 _, ea4 _, ea5 _⟩) (fun hHeld2 => ?_)
    clear hK K hHeld
    have hHeld := hHeld2
    clear hHeld2
    try simp only [Act.put, List.setIfInBounds_toArray, List.set_cons_zero, List.set_cons_succ]
    refine wpAnyH_ready (rs := [19]) (by kernel_rfl) (by simp) ?_
    refine AllReadyH.cons rfl (fun K hK => ?_) AllReadyH.nil
    go_simp
    refine hK.out _ _ (by first | assumption | exact ⟨by assumption, by assumption, by assumption⟩ | exact ⟨da1 _, da4 _, da5 _⟩ | exact ⟨db1 _ _, db4 _ _, db5 _ _⟩ | exact ⟨ea1 _, ea4 _, ea5 _⟩) (fun hHeld2 => ?_)
    clear hK K hHeld
    have hHeld := hHeld2
    clear hHeld2
    try simp only [Act.put, List.setIfInBounds_toArray, List.set_cons_zero, List.set_cons_succ]
    refine wpAnyH_ready (rs := [20]) (by kernel_rfl) (by simp) ?_
    refine AllReadyH.cons rfl (fun K hK => ?_) AllReadyH.nil
    go_simp
    refine hK.out _ _ (by first | assumption | exact ⟨by assumption, by assumption, by assumption⟩ | exact ⟨da1 _, da4 _, da5 _⟩ | exact ⟨db1 _ _, db4 _ _, db5 _ _⟩ | exact ⟨ea1 _, ea4 _, ea5 _⟩) (fun hHeld2 => ?_)
    clear hK K hHeld
    have hHeld := hHeld2
    clear hHeld2
    try simp only [Act.put, List.setIfInBounds_toArray, List.set_cons_zero, List.set_cons_succ]
    refine wpAnyH_done (by kernel_rfl) ?_ _
    go_wp2
    go_ret
    exact ⟨rfl, HFIN.out _ _ hbv2 p1⟩
  refine AllReadyH.cons rfl (fun K hK => ?_) ?_
  · go_simp
    refine hK.out _ _ (by first | assumption | exact ⟨by assumption, by assumption, by assumption⟩ | exact ⟨da1 _, da4 _, da5 _⟩ | exact ⟨db1 _ _, db4 _ _, db5 _ _⟩ | exact ⟨ea1 _, ea4 _, ea5 _⟩) (fun hHeld2 => ?_)
    clear hK K hHeld
    have hHeld := hHeld2
    clear hHeld2
    try simp only [Act.put, List.setIfInBounds_toArray, List.set_cons_zero, List.set_cons_succ]
    refine wpAnyH_ready (rs := [5, 16]) (by kernel_rfl) (by simp) ?_
    refine AllReadyH.cons rfl (fun K hK => ?_) ?_
    · go_simp
      refine hK.out _ _ (by first | assumption | exact ⟨by assumption, by assumption, by assumption⟩ | exact ⟨da1 _, da4 _, da5 _⟩ | exact ⟨db1 _ _, db4 _ _, db5 _ _⟩ | exact ⟨ea1 _, ea4 _, ea5 _⟩) (fun hHeld2 => ?_)
      clear hK K hHeld
      have hHeld := hHeld2
      clear hHeld2
      try simp only [Act.put, List.setIfInBounds_toArray, List.set_cons_zero, List.set_cons_succ]
      refine wpAnyH_ready (rs := [14, 16]) (by kernel_rfl) (by simp) ?_
      refine AllReadyH.cons rfl (fun K hK => ?_) ?_
      · refine step_appS _ rfl _ _ 41 41 rfl B 37 ti _ 2 Try.underlying41 hti hz0 hz1 rfl (by rw [hz2]; omega) (.slice (some ⟨W.heap.size, 0, none⟩) 0 0) 0 [] (by simp [Act.eval]; done) (owns_empty (by first | exact hA1 | exact hA2 _ | exact hA3 _) (by omega)) (.slice mp r.ms.length mc) (by simp [Act.eval]; done) r.ms.length (mksC r.ms) (HSRC.out _ (by repeat (first | exact Below.refl _ _ | refine Below.drew ?_ | refine Below.alloc ?_ (by simp) _ | refine Below.alloc ?_ (by simp; omega) _))) (by omega) (by simp; omega) ?_
        intro v1 w1 q1 q2 q3 q4
        rw [Nat.zero_add, List.nil_append] at q1
        have hbv1 := HBB.out _ _ _ (by repeat (first | exact Below.refl _ _ | refine Below.drew ?_ | refine Below.alloc ?_ (by simp) _ | refine Below.alloc ?_ (by simp; omega) _)) q2 (HOA.out _ (by omega))
        have hown1 := HOWN.out _ _ _ (by repeat (first | exact Below.refl _ _ | refine Below.drew ?_ | refine Below.alloc ?_ (by simp) _ | refine Below.alloc ?_ (by simp; omega) _)) q3 (HOA.out _ (by omega))
        obtain ⟨e1, e2, e3, e4, e5⟩ := HC.out _ hbv1
        have ea := fun o => HC.out _ (hbv1.alloc hbv1.size o)
        have ea1 := fun o => (ea o).1
        have ea4 := fun o => (ea o).2.2.2.1
        have ea5 := fun o => (ea o).2.2.2.2
        clear ea
        have hv1s := hbv1.size
        have HQ1 : Hid (∀ V, Below w1.heap.size w1 V → V.ownsRow B 37 2 v1 r.ms.length (mksC r.ms)) := fun V hb => ownsRow_upd q1 (Upd.ofBelow (S := fun _ => False) hb) (fun _ _ h => h)
        have hbr := row_alloc w1 #[.int .i64 rev, .bool false] 37
        obtain ⟨vp1, vc1, rfl⟩ := owns_formB0 q1
        clear q1 q3 q4
        show K _ _
        refine hK.out _ _ (by first | assumption | exact ⟨by assumption, by assumption, by assumption⟩ | exact ⟨da1 _, da4 _, da5 _⟩ | exact ⟨db1 _ _, db4 _ _, db5 _ _⟩ | exact ⟨ea1 _, ea4 _, ea5 _⟩) (fun hHeld2 => ?_)
        clear hK K hHeld
        have hHeld := hHeld2
        clear hHeld2
        try simp only [Act.put, List.setIfInBounds_toArray]
        refine wpAnyH_ready (rs := [16]) (by kernel_rfl) (by simp) ?_
        refine AllReadyH.cons rfl (fun K hK => ?_) AllReadyH.nil
        go_simp
        refine hK.out _ _ (by first | assumption | exact ⟨by assumption, by assumption, by assumption⟩ | exact ⟨da1 _, da4 _, da5 _⟩ | exact ⟨db1 _ _, db4 _ _, db5 _ _⟩ | exact ⟨ea1 _, ea4 _, ea5 _⟩) (fun hHeld2 => ?_)
        clear hK K hHeld
        have hHeld := hHeld2
        clear hHeld2
        try simp only [Act.put, List.setIfInBounds_toArray, List.set_cons_zero, List.set_cons_succ]
        refine wpAnyH_ready (rs := [17]) (by kernel_rfl) (by simp) ?_
        refine AllReadyH.cons rfl (fun K hK => ?_) AllReadyH.nil
        refine step_appS _ rfl _ _ 41 41 rfl B 37 ti _ 2 Try.underlying41 hti hz0 hz1 rfl (by rw [hz2]; omega) (.slice vp1 r.ms.length vc1) r.ms.length (mksC r.ms) (by simp [Act.eval]; done) (HQ1.out _ (by repeat (first | exact Below.refl _ _ | refine Below.drew ?_ | refine Below.alloc ?_ (by simp) _ | refine Below.alloc ?_ (by simp; omega) _))) (.slice (some ⟨w1.heap.size, 0, none⟩) 1 1) (by simp [Act.eval]; done) 1 (mkC (rev, false)) (HBK.out _ _ hbr) (by omega) (by first | omega | (simp; omega)) ?_
        intro v2 w2 p1 p2 p3 p4
        have hbv2 := HBB.out _ _ _ (by first | exact hbv1 | exact hbv1.alloc hbv1.size _) p2 hown1
        obtain ⟨s1, s2, s3, s4, s5⟩ := HC.out _ hbv2
        obtain ⟨np2, nc2, rfl⟩ := owns_formB0 p1
        obtain ⟨t1, t4, t5⟩ := HC2.out _ (.slice np2 (r.ms.length + 1) nc2) hbv2
        show K _ _
        refine hK.out _ _ (by first | assumption | exact ⟨by assumption, by assumption, by assumption⟩ | exact ⟨da1 _, da4 _, da5 _⟩ | exact ⟨db1 _ _, db4 _ _, db5 _ _⟩ | exact ⟨ea1 _, ea4 _, ea5 _⟩) (fun hHeld2 => ?_)
        clear hK K hHeld
        have hHeld := hHeld2
        clear hHeld2
        try simp only [Act.put, List.setIfInBounds_toArray]
        refine wpAnyH_ready (rs := [18]) (by kernel_rfl) (by simp) ?_
        refine AllReadyH.cons rfl (fun K hK => ?_) AllReadyH.nil
        go_simp
        refine hK.out _ _ (by first | assumption | exact ⟨by assumption, by assumption, by assumption⟩ | exact ⟨da1 _, da4 _, da5 _⟩ | exact ⟨db1 _ _, db4 _ _, db5 _ _⟩ | exact ⟨ea1 _, ea4 _, ea5 _⟩) (fun hHeld2 => ?_)
        clear hK K hHeld
        have hHeld := hHeld2
        clear hHeld2
        try simp only [Act.put, List.setIfInBounds_toArray, List.set_cons_zero, List.set_cons_succ]
        refine wpAnyH_ready (rs := [19]) (by kernel_rfl) (by simp) ?_
        refine AllReadyH.cons rfl (fun K hK => ?_) AllReadyH.nil
        go_simp
        refine hK.out _ _ (by first | assumption | exact ⟨by assumption, by assumption, by assumption⟩ | exact ⟨da1 _, da4 _, da5 _⟩ | exact ⟨db1 _ _, db4 _ _, db5 _ _⟩ | exact ⟨ea1 _, ea4 _, ea5 _⟩) (fun hHeld2 => ?_)
        clear hK K hHeld
        have hHeld := hHeld2
        clear hHeld2
        try simp only [Act.put, List.setIfInBounds_toArray, List.set_cons_zero, List.set_cons_succ]
        refine wpAnyH_ready (rs := [20]) (by kernel_rfl) (by simp) ?_
        refine AllReadyH.cons rfl (fun K hK => ?_) AllReadyH.nil
        go_simp
        refine hK.out _ _ (by first | assumption | exact ⟨by assumption, by assumption, by assumption⟩ | exact ⟨da1 _, da4 _, da5 _⟩ | exact ⟨db1 _ _, db4 _ _, db5 _ _⟩ | exact ⟨ea1 _, ea4 _, ea5 _⟩) (fun hHeld2 => ?_)
        clear hK K hHeld
        have hHeld := hHeld2
        clear hHeld2
        try simp only [Act.put, List.setIfInBounds_toArray, List.set_cons_zero, List.set_cons_succ]
        refine wpAnyH_done (by kernel_rfl) ?_ _
        go_wp2
        go_ret
        exact ⟨rfl, HFIN.out _ _ hbv2 p1⟩
      refine AllReadyH.cons rfl (fun K hK => ?_) AllReadyH.nil
      go_simp
      refine hK.out _ _ (by first | assumption | exact ⟨by assumption, by assumption, by assumption⟩ | exact ⟨da1 _, da4 _, da5 _⟩ | exact ⟨db1 _ _, db4 _ _, db5 _ _⟩ | exact ⟨ea1 _, ea4 _, ea5 _⟩) (fun hHeld2 => ?_)
      clear hK K hHeld
      have hHeld := hHeld2
      clear hHeld2
      try simp only [Act.put, List.setIfInBounds_toArray, List.set_cons_zero, List.set_cons_succ]
      refine wpAnyH_ready (rs := [14]) (by kernel_rfl) (by simp) ?_
      refine AllReadyH.cons rfl (fun K hK => ?_) AllReadyH.nil
      refine step_appS _ rfl _ _ 41 41 rfl B 37 ti _ 2 Try.underlying41 hti hz0 hz1 rfl (by rw [hz2]; omega) (.slice (some ⟨W.heap.size, 0, none⟩) 0 0) 0 [] (by simp [Act.eval]; done) (owns_empty (by first | exact hA1 | exact hA2 _ | exact hA3 _) (by omega)) (.slice mp r.ms.length mc) (by simp [Act.eval]; done) r.ms.length (mksC r.ms) (HSRC.out _ (by repeat (first | exact Below.refl _ _ | refine Below.drew ?_ | refine Below.alloc ?_ (by simp) _ | refine Below.alloc ?_ (by simp; omega) _))) (by omega) (by simp; omega) ?_
      intro v1 w1 q1 q2 q3 q4
      rw [Nat.zero_add, List.nil_append] at q1
      have hbv1 := HBB.out _ _ _ (by repeat (first | exact Below.refl _ _ | refine Below.drew ?_ | refine Below.alloc ?_ (by simp) _ | refine Below.alloc ?_ (by simp; omega) _)) q2 (HOA.out _ (by omega))
      have hown1 := HOWN.out _ _ _ (by repeat (first | exact Below.refl _ _ | refine Below.drew ?_ | refine Below.alloc ?_ (by simp) _ | refine Below.alloc ?_ (by simp; omega) _)) q3 (HOA.out _ (by omega))
      obtain ⟨e1, e2, e3, e4, e5⟩ := HC.out _ hbv1
      have ea := fun o => HC.out _ (hbv1.alloc hbv1.size o)
      have ea1 := fun o => (ea o).1
      have ea4 := fun o => (ea o).2.2.2.1
      have ea5 := fun o => (ea o).2.2.2.2
      clear ea
      have hv1s := hbv1.size
      have HQ1 : Hid (∀ V, Below w1.heap.size w1 V → V.ownsRow B 37 2 v1 r.ms.length (mksC r.ms)) := fun V hb => ownsRow_upd q1 (Upd.ofBelow (S := fun _ => False) hb) (fun _ _ h => h)
      have hbr := (q2.block (W.heap.size + 1) (by first | omega | (simp; omega) | simp) (HNB.out _ _ (by omega))).trans (by first | exact hB1 | exact hB2 _ | exact hB3 _)
      obtain ⟨vp1, vc1, rfl⟩ := owns_formB0 q1
      clear q1 q3 q4
      show K _ _
      refine hK.out _ _ (by first | assumption | exact ⟨by assumption, by assumption, by assumption⟩ | exact ⟨da1 _, da4 _, da5 _⟩ | exact ⟨db1 _ _, db4 _ _, db5 _ _⟩ | exact ⟨ea1 _, ea4 _, ea5 _⟩) (fun hHeld2 => ?_)
      clear hK K hHeld
      have hHeld := hHeld2
      clear hHeld2
      try simp only [Act.put, List.setIfInBounds_toArray]
      refine wpAnyH_ready (rs := [17]) (by kernel_rfl) (by simp) ?_
      refine AllReadyH.cons rfl (fun K hK => ?_) AllReadyH.nil
      refine step_appS _ rfl _ _ 41 41 rfl B 37 ti _ 2 Try.underlying41 hti hz0 hz1 rfl (by rw [hz2]; omega) (.slice vp1 r.ms.length vc1) r.ms.length (mksC r.ms) (by simp [Act.eval]; done) (HQ1.out _ (by repeat (first | exact Below.refl _ _ | refine Below.drew ?_ | refine Below.alloc ?_ (by simp) _ | refine Below.alloc ?_ (by simp; omega) _))) (.slice (some ⟨W.heap.size + 1, 0, none⟩) 1 1) (by simp [Act.eval]; done) 1 (mkC (rev, false)) (HBK.out _ _ hbr) (by omega) (by first | omega | (simp; omega)) ?_
      intro v2 w2 p1 p2 p3 p4
      have hbv2 := HBB.out _ _ _ (by first | exact hbv1 | exact hbv1.alloc hbv1.size _) p2 hown1
      obtain ⟨s1, s2, s3, s4, s5⟩ := HC.out _ hbv2
      obtain ⟨np2, nc2, rfl⟩ := owns_formB0 p1
      obtain ⟨t1, t4, t5⟩ := HC2.out _ (.slice np2 (r.ms.length + 1) nc2) hbv2
      show K _ _
      refine hK.out _ _ (by first | assumption | exact ⟨by assumption, by assumption, by assumption⟩ | exact ⟨da1 _, da4 _, da5 _⟩ | exact ⟨db1 _ _, db4 _ _, db5 _ _⟩ | exact ⟨ea1 _, ea4 _, ea5 _⟩) (fun hHeld2 => ?_)
      clear hK K hHeld
      have hHeld := hHeld2
      clear hHeld2
      try simp only [Act.put]
      refine wpAnyH_ready (rs := [18]) (by kernel_rfl) (by simp) ?_
      refine AllReadyH.cons rfl (fun K hK => ?_) AllReadyH.nil
      go_simp
      refine hK.out _ _ (by first | assumption | exact ⟨by assumption, by assumption, by assumption⟩ | exact ⟨da1 _, da4 _, da5 _⟩ | exact ⟨db1 _ _, db4 _ _, db5 _ _⟩ | exact ⟨ea1 _, ea4 _, ea5 _⟩) (fun hHeld2 => ?_)
      clear hK K hHeld
      have hHeld := hHeld2
      clear hHeld2
      try simp only [Act.put, List.setIfInBounds_toArray, List.set_cons_zero, List.set_cons_succ]
      refine wpAnyH_ready (rs := [19]) (by kernel_rfl) (by simp) ?_
      refine AllReadyH.cons rfl (fun K hK => ?_) AllReadyH.nil
      go_simp
      refine hK.out _ _ (by first | assumption | exact ⟨by assumption, by assumption, by assumption⟩ | exact ⟨da1 _, da4 _, da5 _⟩ | exact ⟨db1 _ _, db4 _ _, db5 _ _⟩ | exact ⟨ea1 _, ea4 _, ea5 _⟩) (fun hHeld2 => ?_)
      clear hK K hHeld
      have hHeld := hHeld2
      clear hHeld2
      try simp only [Act.put, List.setIfInBounds_toArray, List.set_cons_zero, List.set_cons_succ]
      refine wpAnyH_ready (rs := [20]) (by kernel_rfl) (by simp) ?_
      refine AllReadyH.cons rfl (fun K hK => ?_) AllReadyH.nil
      go_simp
      refine hK.out _ _ (by first | assumption | exact ⟨by assumption, by assumption, by assumption⟩ | exact ⟨da1 _, da4 _, da5 _⟩ | exact ⟨db1 _ _, db4 _ _, db5 _ _⟩ | exact ⟨ea1 _, ea4 _, ea5 _⟩) (fun hHeld2 => ?_)
      clear hK K hHeld
      have hHeld := hHeld2
      clear hHeld2
      try simp only [Act.put, List.setIfInBounds_toArray, List.set_cons_zero, List.set_cons_succ]
      refine wpAnyH_done (by kernel_rfl) ?_ _
      go_wp2
      go_ret
      exact ⟨rfl, HFIN.out _ _ hbv2 p1⟩
    refine AllReadyH.cons rfl (fun K hK => ?_) AllReadyH.nil
    go_simp
    refine hK.out _ _ (by first | assumption | exact ⟨by assumption, by assumption, by assumption⟩ | exact ⟨da1 _, da4 _, da5 _⟩ | exact ⟨db1 _ _, db4 _ _, db5 _ _⟩ | exact ⟨ea1 _, ea4 _, ea5 _⟩) (fun hHeld2 => ?_)
    clear hK K hHeld
    have hHeld := hHeld2
    clear hHeld2
    try simp only [Act.put, List.setIfInBounds_toArray, List.set_cons_zero, List.set_cons_succ]
    refine wpAnyH_ready (rs := [5]) (by kernel_rfl) (by simp) ?_
    refine AllReadyH.cons rfl (fun K hK => ?_) AllReadyH.nil
    go_simp
    refine hK.out _ _ (by first | assumption | exact ⟨by assumption, by assumption, by assumption⟩ | exact ⟨da1 _, da4 _, da5 _⟩ | exact ⟨db1 _ _, db4 _ _, db5 _ _⟩ | exact ⟨ea1 _, ea4 _, ea5 _⟩) (fun hHeld2 => ?_)
    clear hK K hHeld
    have hHeld := hHeld2
    clear hHeld2
    try simp only [Act.put, List.setIfInBounds_toArray, List.set_cons_zero, List.set_cons_succ]
    refine wpAnyH_ready (rs := [14]) (by kernel_rfl) (by simp) ?_
    refine AllReadyH.cons rfl (fun K hK => ?_) AllReadyH.nil
    refine step_appS _ rfl _ _ 41 41 rfl B 37 ti _ 2 Try.underlying41 hti hz0 hz1 rfl (by rw [hz2]; omega) (.slice (some ⟨W.heap.size + 1, 0, none⟩) 0 0) 0 [] (by simp [Act.eval]; done) (owns_empty (by first | exact hA1 | exact hA2 _ | exact hA3 _) (by omega)) (.slice mp r.ms.length mc) (by simp [Act.eval]; done) r.ms.length (mksC r.ms) (HSRC.out _ (by repeat (first | exact Below.refl _ _ | refine Below.drew ?_ | refine Below.alloc ?_ (by simp) _ | refine Below.alloc ?_ (by simp; omega) _))) (by omega) (by simp; omega) ?_
    intro v1 w1 q1 q2 q3 q4
    rw [Nat.zero_add, List.nil_append] at q1
    have hbv1 := HBB.out _ _ _ (by repeat (first | exact Below.refl _ _ | refine Below.drew ?_ | refine Below.alloc ?_ (by simp) _ | refine Below.alloc ?_ (by simp; omega) _)) q2 (HOA.out _ (by omega))
    have hown1 := HOWN.out _ _ _ (by repeat (first | exact Below.refl _ _ | refine Below.drew ?_ | refine Below.alloc ?_ (by simp) _ | refine Below.alloc ?_ (by simp; omega) _)) q3 (HOA.out _ (by omega))
    obtain ⟨e1, e2, e3, e4, e5⟩ := HC.out _ hbv1
    have ea := fun o => HC.out _ (hbv1.alloc hbv1.size o)
    have ea1 := fun o => (ea o).1
    have ea4 := fun o => (ea o).2.2.2.1
    have ea5 := fun o => (ea o).2.2.2.2
    clear ea
    have hv1s := hbv1.size
    have HQ1 : Hid (∀ V, Below w1.heap.size w1 V → V.ownsRow B 37 2 v1 r.ms.length (mksC r.ms)) := fun V hb => ownsRow_upd q1 (Upd.ofBelow (S := fun _ => False) hb) (fun _ _ h => h)
    have hbr := (q2.block (W.heap.size) (by first | omega | (simp; omega) | simp) (HNB.out _ _ (by omega))).trans (by first | exact hB1 | exact hB2 _ | exact hB3 _)
    obtain ⟨vp1, vc1, rfl⟩ := owns_formB0 q1
    clear q1 q3 q4
    show K _ _
    refine hK.out _ _ (by first | assumption | exact ⟨by assumption, by assumption, by assumption⟩ | exact ⟨da1 _, da4 _, da5 _⟩ | exact ⟨db1 _ _, db4 _ _, db5 _ _⟩ | exact ⟨ea1 _, ea4 _, ea5 _⟩) (fun hHeld2 => ?_)
    clear hK K hHeld
    have hHeld := hHeld2
    clear hHeld2
    try simp only [Act.put, List.setIfInBounds_toArray]
    refine wpAnyH_ready (rs := [17]) (by kernel_rfl) (by simp) ?_
    refine AllReadyH.cons rfl (fun K hK => ?_) AllReadyH.nil
    refine step_appS _ rfl _ _ 41 41 rfl B 37 ti _ 2 Try.underlying41 hti hz0 hz1 rfl (by rw [hz2]; omega) (.slice vp1 r.ms.length vc1) r.ms.length (mksC r.ms) (by simp [Act.eval]; done) (HQ1.out _ (by repeat (first | exact Below.refl _ _ | refine Below.drew ?_ | refine Below.alloc ?_ (by simp) _ | refine Below.alloc ?_ (by simp; omega) _))) (.slice (some ⟨W.heap.size, 0, none⟩) 1 1) (by simp [Act.eval]; done) 1 (mkC (rev, false)) (HBK.out _ _ hbr) (by omega) (by first | omega | (simp; omega)) ?_
    intro v2 w2 p1 p2 p3 p4
    have hbv2 := HBB.out _ _ _ (by first | exact hbv1 | exact hbv1.alloc hbv1.size _) p2 hown1
    obtain ⟨s1, s2, s3, s4, s5⟩ := HC.out _ hbv2
    obtain ⟨np2, nc2, rfl⟩ := owns_formB0 p1
    obtain ⟨t1, t4, t5⟩ := HC2.out _ (.slice np2 (r.ms.length + 1) nc2) hbv2
    show K _ _
    refine hK.out _ _ (by first | assumption | exact ⟨by assumption, by assumption, by assumption⟩ | exact ⟨da1 _, da4 _, da5 _⟩ | exact ⟨db1 _ _, db4 _ _, db5 _ _⟩ | exact ⟨ea1 _, ea4 _, ea5 _⟩) (fun hHeld2 => ?_)
    clear hK K hHeld
    have hHeld := hHeld2
    clear hHeld2
    try simp only [Act.put]
    refine wpAnyH_ready (rs := [18]) (by kernel_rfl) (by simp) ?_
    refine AllReadyH.cons rfl (fun K hK => ?_) AllReadyH.nil
    go_simp
    refine hK.out _ _ (by first | assumption | exact ⟨by assumption, by assumption, by assumption⟩ | exact ⟨da1 _, da4 _, da5 _⟩ | exact ⟨db1 _ _, db4 _ _, db5 _ _⟩ | exact ⟨ea1 _, ea4 _, ea5 _⟩) (fun hHeld2 => ?_)
    clear hK K hHeld
    have hHeld := hHeld2
    clear hHeld2
    try simp only [Act.put, List.setIfInBounds_toArray, List.set_cons_zero, List.set_cons_succ]
    refine wpAnyH_ready (rs := [19]) (by kernel_rfl) (by simp) ?_
    refine AllReadyH.cons rfl (fun K hK => ?_) AllReadyH.nil
    go_simp
    refine hK.out _ _ (by first | assumption | exact ⟨by assumption, by assumption, by assumption⟩ | exact ⟨da1 _, da4 _, da5 _⟩ | exact ⟨db1 _ _, db4 _ _, db5 _ _⟩ | exact ⟨ea1 _, ea4 _, ea5 _⟩) (fun hHeld2 => ?_)
    clear hK K hHeld
    have hHeld := hHeld2
    clear hHeld2
    try simp only [Act.put, List.setIfInBounds_toArray, List.set_cons_zero, List.set_cons_succ]
    refine wpAnyH_ready (rs := [20]) (by kernel_rfl) (by simp) ?_
    refine AllReadyH.cons rfl (fun K hK => ?_) AllReadyH.nil
    go_simp
    refine hK.out _ _ (by first | assumption | exact ⟨by assumption, by assumption, by assumption⟩ | exact ⟨da1 _, da4 _, da5 _⟩ | exact ⟨db1 _ _, db4 _ _, db5 _ _⟩ | exact ⟨ea1 _, ea4 _, ea5 _⟩) (fun hHeld2 => ?_)
    clear hK K hHeld
    have hHeld := hHeld2
    clear hHeld2
    try simp only [Act.put, List.setIfInBounds_toArray, List.set_cons_zero, List.set_cons_succ]
    refine wpAnyH_done (by kernel_rfl) ?_ _
    go_wp2
    go_ret
    exact ⟨rfl, HFIN.out _ _ hbv2 p1⟩
  refine AllReadyH.cons rfl (fun K hK => ?_) AllReadyH.nil
  go_simp
  refine hK.out _ _ (by first | assumption | exact ⟨by assumption, by assumption, by assumption⟩ | exact ⟨da1 _, da4 _, da5 _⟩ | exact ⟨db1 _ _, db4 _ _, db5 _ _⟩ | exact ⟨ea1 _, ea4 _, ea5 _⟩) (fun hHeld2 => ?_)
  clear hK K hHeld
  have hHeld := hHeld2
  clear hHeld2
  try simp only [Act.put, List.setIfInBounds_toArray, List.set_cons_zero, List.set_cons_succ]
  refine wpAnyH_ready (rs := [5, 13]) (by kernel_rfl) (by simp) ?_
  refine AllReadyH.cons rfl (fun K hK => ?_) ?_
  · go_simp
    refine hK.out _ _ (by first | assumption | exact ⟨by assumption, by assumption, by assumption⟩ | exact ⟨da1 _, da4 _, da5 _⟩ | exact ⟨db1 _ _, db4 _ _, db5 _ _⟩ | exact ⟨ea1 _, ea4 _, ea5 _⟩) (fun hHeld2 => ?_)
    clear hK K hHeld
    have hHeld := hHeld2
    clear hHeld2
    try simp only [Act.put, List.setIfInBounds_toArray, List.set_cons_zero, List.set_cons_succ]
    refine wpAnyH_ready (rs := [13]) (by kernel_rfl) (by simp) ?_
    refine AllReadyH.cons rfl (fun K hK => ?_) AllReadyH.nil
    go_simp
    refine hK.out _ _ (by first | assumption | exact ⟨by assumption, by assumption, by assumption⟩ | exact ⟨da1 _, da4 _, da5 _⟩ | exact ⟨db1 _ _, db4 _ _, db5 _ _⟩ | exact ⟨ea1 _, ea4 _, ea5 _⟩) (fun hHeld2 => ?_)
    clear hK K hHeld
    have hHeld := hHeld2
    clear hHeld2
    try simp only [Act.put, List.setIfInBounds_toArray, List.set_cons_zero, List.set_cons_succ]
    refine wpAnyH_ready (rs := [14]) (by kernel_rfl) (by simp) ?_
    refine AllReadyH.cons rfl (fun K hK => ?_) AllReadyH.nil
    refine step_appS _ rfl _ _ 41 41 rfl B 37 ti _ 2 Try.underlying41 hti hz0 hz1 rfl (by rw [hz2]; omega) (.slice (some ⟨W.heap.size + 1, 0, none⟩) 0 0) 0 [] (by simp [Act.eval]; done) (owns_empty (by first | exact hA1 | exact hA2 _ | exact hA3 _) (by omega)) (.slice mp r.ms.length mc) (by simp [Act.eval]; done) r.ms.length (mksC r.ms) (HSRC.out _ (by repeat (first | exact Below.refl _ _ | refine Below.drew ?_ | refine Below.alloc ?_ (by simp) _ | refine Below.alloc ?_ (by simp; omega) _))) (by omega) (by simp; omega) ?_
    intro v1 w1 q1 q2 q3 q4
    rw [Nat.zero_add, List.nil_append] at q1
    have hbv1 := HBB.out _ _ _ (by repeat (first | exact Below.refl _ _ | refine Below.drew ?_ | refine Below.alloc ?_ (by simp) _ | refine Below.alloc ?_ (by simp; omega) _)) q2 (HOA.out _ (by omega))
    have hown1 := HOWN.out _ _ _ (by repeat (first | exact Below.refl _ _ | refine Below.drew ?_ | refine Below.alloc ?_ (by simp) _ | refine Below.alloc ?_ (by simp; omega) _)) q3 (HOA.out _ (by omega))
    obtain ⟨e1, e2, e3, e4, e5⟩ := HC.out _ hbv1
    have ea := fun o => HC.out _ (hbv1.alloc hbv1.size o)
    have ea1 := fun o => (ea o).1
    have ea4 := fun o => (ea o).2.2.2.1
    have ea5 := fun o => (ea o).2.2.2.2
    clear ea
    have hv1s := hbv1.size
    have HQ1 : Hid (∀ V, Below w1.heap.size w1 V → V.ownsRow B 37 2 v1 r.ms.length (mksC r.ms)) := fun V hb => ownsRow_upd q1 (Upd.ofBelow (S := fun _ => False) hb) (fun _ _ h => h)
    have hbr := (q2.block (W.heap.size) (by first | omega | (simp; omega) | simp) (HNB.out _ _ (by omega))).trans (by first | exact hB1 | exact hB2 _ | exact hB3 _)
    obtain ⟨vp1, vc1, rfl⟩ := owns_formB0 q1
    clear q1 q3 q4
    show K _ _
    refine hK.out _ _ (by first | assumption | exact ⟨by assumption, by assumption, by assumption⟩ | exact ⟨da1 _, da4 _, da5 _⟩ | exact ⟨db1 _ _, db4 _ _, db5 _ _⟩ | exact ⟨ea1 _, ea4 _, ea5 _⟩) (fun hHeld2 => ?_)
    clear hK K hHeld
    have hHeld := hHeld2
    clear hHeld2
    try simp only [Act.put, List.setIfInBounds_toArray]
    refine wpAnyH_ready (rs := [17]) (by kernel_rfl) (by simp) ?_
    refine AllReadyH.cons rfl (fun K hK => ?_) AllReadyH.nil
    refine step_appS _ rfl _ _ 41 41 rfl B 37 ti _ 2 Try.underlying41 hti hz0 hz1 rfl (by rw [hz2]; omega) (.slice vp1 r.ms.length vc1) r.ms.length (mksC r.ms) (by simp [Act.eval]; done) (HQ1.out _ (by repeat (first | exact Below.refl _ _ | refine Below.drew ?_ | refine Below.alloc ?_ (by simp) _ | refine Below.alloc ?_ (by simp; omega) _))) (.slice (some ⟨W.heap.size, 0, none⟩) 1 1) (by simp [Act.eval]; done) 1 (mkC (rev, false)) (HBK.out _ _ hbr) (by omega) (by first | omega | (simp; omega)) ?_
    intro v2 w2 p1 p2 p3 p4
    have hbv2 := HBB.out _ _ _ (by first | exact hbv1 | exact hbv1.alloc hbv1.size _) p2 hown1
    obtain ⟨s1, s2, s3, s4, s5⟩ := HC.out _ hbv2
    obtain ⟨np2, nc2, rfl⟩ := owns_formB0 p1
    obtain ⟨t1, t4, t5⟩ := HC2.out _ (.slice np2 (r.ms.length + 1) nc2) hbv2
    show K _ _
    refine hK.out _ _ (by first | assumption | exact ⟨by assumption, by assumption, by assumption⟩ | exact ⟨da1 _, da4 _, da5 _⟩ | exact ⟨db1 _ _, db4 _ _, db5 _ _⟩ | exact ⟨ea1 _, ea4 _, ea5 _⟩) (fun hHeld2 => ?_)
    clear hK K hHeld
    have hHeld := hHeld2
    clear hHeld2
    try simp only [Act.put]
    refine wpAnyH_ready (rs := [18]) (by kernel_rfl) (by simp) ?_
    refine AllReadyH.cons rfl (fun K hK => ?_) AllReadyH.nil
    go_simp
    refine hK.out _ _ (by first | assumption | exact ⟨by assumption, by assumption, by assumption⟩ | exact ⟨da1 _, da4 _, da5 _⟩ | exact ⟨db1 _ _, db4 _ _, db5 _ _⟩ | exact ⟨ea1 _, ea4 _, ea5 _⟩) (fun hHeld2 => ?_)
    clear hK K hHeld
    have hHeld := hHeld2
    clear hHeld2
    try simp only [Act.put, List.setIfInBounds_toArray, List.set_cons_zero, List.set_cons_succ]
    refine wpAnyH_ready (rs := [19]) (by kernel_rfl) (by simp) ?_
    refine AllReadyH.cons rfl (fun K hK => ?_) AllReadyH.nil
    go_simp
    refine hK.out _ _ (by first | assumption | exact ⟨by assumption, by assumption, by assumption⟩ | exact ⟨da1 _, da4 _, da5 _⟩ | exact ⟨db1 _ _, db4 _ _, db5 _ _⟩ | exact ⟨ea1 _, ea4 _, ea5 _⟩) (fun hHeld2 => ?_)
    clear hK K hHeld
    have hHeld := hHeld2
    clear hHeld2
    try simp only [Act.put, List.setIfInBounds_toArray, List.set_cons_zero, List.set_cons_succ]
    refine wpAnyH_ready (rs := [20]) (by kernel_rfl) (by simp) ?_
    refine AllReadyH.cons rfl (fun K hK => ?_) AllReadyH.nil
    go_simp
    refine hK.out _ _ (by first | assumption | exact ⟨by assumption, by assumption, by assumption⟩ | exact ⟨da1 _, da4 _, da5 _⟩ | exact ⟨db1 _ _, db4 _ _, db5 _ _⟩ | exact ⟨ea1 _, ea4 _, ea5 _⟩) (fun hHeld2 => ?_)
    clear hK K hHeld
    have hHeld := hHeld2
    clear hHeld2
    try simp only [Act.put, List.setIfInBounds_toArray, List.set_cons_zero, List.set_cons_succ]
    refine wpAnyH_done (by kernel_rfl) ?_ _
    go_wp2
    go_ret
    exact ⟨rfl, HFIN.out _ _ hbv2 p1⟩
  refine AllReadyH.cons rfl (fun K hK => ?_) AllReadyH.nil
  go_simp
  refine hK.out _ _ (by first | assumption | exact ⟨by assumption, by assumption, by assumption⟩ | exact ⟨da1 _, da4 _, da5 _⟩ | exact ⟨db1 _ _, db4 _ _, db5 _ _⟩ | exact ⟨ea1 _, ea4 _, ea5 _⟩) (fun hHeld2 => ?_)
  clear hK K hHeld
  have hHeld := hHeld2
  clear hHeld2
  try simp only [Act.put, List.setIfInBounds_toArray, List.set_cons_zero, List.set_cons_succ]
  refine wpAnyH_ready (rs := [5]) (by kernel_rfl) (by simp) ?_
  refine AllReadyH.cons rfl (fun K hK => ?_) AllReadyH.nil
  go_simp
  refine hK.out _ _ (by first | assumption | exact ⟨by assumption, by assumption, by assumption⟩ | exact ⟨da1 _, da4 _, da5 _⟩ | exact ⟨db1 _ _, db4 _ _, db5 _ _⟩ | exact ⟨ea1 _, ea4 _, ea5 _⟩) (fun hHeld2 => ?_)
  clear hK K hHeld
  have hHeld := hHeld2
  clear hHeld2
  try simp only [Act.put, List.setIfInBounds_toArray, List.set_cons_zero, List.set_cons_succ]
  refine wpAnyH_ready (rs := [14]) (by kernel_rfl) (by simp) ?_
  refine AllReadyH.cons rfl (fun K hK => ?_) AllReadyH.nil
  refine step_appS _ rfl _ _ 41 41 rfl B 37 ti _ 2 Try.underlying41 hti hz0 hz1 rfl (by rw [hz2]; omega) (.slice (some ⟨W.heap.size + 1, 0, none⟩) 0 0) 0 [] (by simp [Act.eval]; done) (owns_empty (by first | exact hA1 | exact hA2 _ | exact hA3 _) (by omega)) (.slice mp r.ms.length mc) (by simp [Act.eval]; done) r.ms.length (mksC r.ms) (HSRC.out _ (by repeat (first | exact Below.refl _ _ | refine Below.drew ?_ | refine Below.alloc ?_ (by simp) _ | refine Below.alloc ?_ (by simp; omega) _))) (by omega) (by simp; omega) ?_
  intro v1 w1 q1 q2 q3 q4
  rw [Nat.zero_add, List.nil_append] at q1
  have hbv1 := HBB.out _ _ _ (by repeat (first | exact Below.refl _ _ | refine Below.drew ?_ | refine Below.alloc ?_ (by simp) _ | refine Below.alloc ?_ (by simp; omega) _)) q2 (HOA.out _ (by omega))
  have hown1 := HOWN.out _ _ _ (by repeat (first | exact Below.refl _ _ | refine Below.drew ?_ | refine Below.alloc ?_ (by simp) _ | refine Below.alloc ?_ (by simp; omega) _)) q3 (HOA.out _ (by omega))
  obtain ⟨e1, e2, e3, e4, e5⟩ := HC.out _ hbv1
  have ea := fun o => HC.out _ (hbv1.alloc hbv1.size o)
  have ea1 := fun o => (ea o).1
  have ea4 := fun o => (ea o).2.2.2.1
  have ea5 := fun o => (ea o).2.2.2.2
  clear ea
  have hv1s := hbv1.size
  have HQ1 : Hid (∀ V, Below w1.heap.size w1 V → V.ownsRow B 37 2 v1 r.ms.length (mksC r.ms)) := fun V hb => ownsRow_upd q1 (Upd.ofBelow (S := fun _ => False) hb) (fun _ _ h => h)
  have hbr := (q2.block (W.heap.size) (by first | omega | (simp; omega) | simp) (HNB.out _ _ (by omega))).trans (by first | exact hB1 | exact hB2 _ | exact hB3 _)
  obtain ⟨vp1, vc1, rfl⟩ := owns_formB0 q1
  clear q1 q3 q4
  show K _ _
  refine hK.out _ _ (by first | assumption | exact ⟨by assumption, by assumption, by assumption⟩ | exact ⟨da1 _, da4 _, da5 _⟩ | exact ⟨db1 _ _, db4 _ _, db5 _ _⟩ | exact ⟨ea1 _, ea4 _, ea5 _⟩) (fun hHeld2 => ?_)
  clear hK K hHeld
  have hHeld := hHeld2
  clear hHeld2
  try simp only [Act.put, List.setIfInBounds_toArray]
  refine wpAnyH_ready (rs := [17]) (by kernel_rfl) (by simp) ?_
  refine AllReadyH.cons rfl (fun K hK => ?_) AllReadyH.nil
  refine step_appS _ rfl _ _ 41 41 rfl B 37 ti _ 2 Try.underlying41 hti hz0 hz1 rfl (by rw [hz2]; omega) (.slice vp1 r.ms.length vc1) r.ms.length (mksC r.ms) (by simp [Act.eval]; done) (HQ1.out _ (by repeat (first | exact Below.refl _ _ | refine Below.drew ?_ | refine Below.alloc ?_ (by simp) _ | refine Below.alloc ?_ (by simp; omega) _))) (.slice (some ⟨W.heap.size, 0, none⟩) 1 1) (by simp [Act.eval]; done) 1 (mkC (rev, false)) (HBK.out _ _ hbr) (by omega) (by first | omega | (simp; omega)) ?_
  intro v2 w2 p1 p2 p3 p4
  have hbv2 := HBB.out _ _ _ (by first | exact hbv1 | exact hbv1.alloc hbv1.size _) p2 hown1
  obtain ⟨s1, s2, s3, s4, s5⟩ := HC.out _ hbv2
  obtain ⟨np2, nc2, rfl⟩ := owns_formB0 p1
  obtain ⟨t1, t4, t5⟩ := HC2.out _ (.slice np2 (r.ms.length + 1) nc2) hbv2
  show K _ _
  refine hK.out _ _ (by first | assumption | exact ⟨by assumption, by assumption, by assumption⟩ | exact ⟨da1 _, da4 _, da5 _⟩ | exact ⟨db1 _ _, db4 _ _, db5 _ _⟩ | exact ⟨ea1 _, ea4 _, ea5 _⟩) (fun hHeld2 => ?_)
  clear hK K hHeld
  have hHeld := hHeld2
  clear hHeld2
  try simp only [Act.put]
  refine wpAnyH_ready (rs := [18]) (by kernel_rfl) (by simp) ?_
  refine AllReadyH.cons rfl (fun K hK => ?_) AllReadyH.nil
  go_simp
  refine hK.out _ _ (by first | assumption | exact ⟨by assumption, by assumption, by assumption⟩ | exact ⟨da1 _, da4 _, da5 _⟩ | exact ⟨db1 _ _, db4 _ _, db5 _ _⟩ | exact ⟨ea1 _, ea4 _, ea5 _⟩) (fun hHeld2 => ?_)
  clear hK K hHeld
  have hHeld := hHeld2
  clear hHeld2
  try simp only [Act.put, List.setIfInBounds_toArray, List.set_cons_zero, List.set_cons_succ]
  refine wpAnyH_ready (rs := [19]) (by kernel_rfl) (by simp) ?_
  refine AllReadyH.cons rfl (fun K hK => ?_) AllReadyH.nil
  go_simp
  refine hK.out _ _ (by first | assumption | exact ⟨by assumption, by assumption, by assumption⟩ | exact ⟨da1 _, da4 _, da5 _⟩ | exact ⟨db1 _ _, db4 _ _, db5 _ _⟩ | exact ⟨ea1 _, ea4 _, ea5 _⟩) (fun hHeld2 => ?_)
  clear hK K hHeld
  have hHeld := hHeld2
  clear hHeld2
  try simp only [Act.put, List.setIfInBounds_toArray, List.set_cons_zero, List.set_cons_succ]
  refine wpAnyH_ready (rs := [20]) (by kernel_rfl) (by simp) ?_
  refine AllReadyH.cons rfl (fun K hK => ?_) AllReadyH.nil
  go_simp
  refine hK.out _ _ (by first | assumption | exact ⟨by assumption, by assumption, by assumption⟩ | exact ⟨da1 _, da4 _, da5 _⟩ | exact ⟨db1 _ _, db4 _ _, db5 _ _⟩ | exact ⟨ea1 _, ea4 _, ea5 _⟩) (fun hHeld2 => ?_)
  clear hK K hHeld
  have hHeld := hHeld2
  clear hHeld2
  try simp only [Act.put, List.setIfInBounds_toArray, List.set_cons_zero, List.set_cons_succ]
  refine wpAnyH_done (by kernel_rfl) ?_ _
  go_wp2
  go_ret
  exact ⟨rfl, HFIN.out _ _ hbv2 p1⟩
set_option maxRecDepth 100000 in
set_option maxHeartbeats 4000000 in
theorem rput_new1 {gg cc : Nat} (hv : rv = .slice (some ⟨gg, 0, none⟩) R.length cc) (hck : cc = plc (R.map IM.it) key) (hl : lookD (dat R) key = none) (hk0 : ¬ key.size = 0) (hk1 : ¬ 100 < key.size) (hr1 : ¬ rev < 1) (hB : B ≤ w.heap.size) (he : putE (dat R) key rev false = 0) : Calls Try.prog 11 #[ptr y, .string key, .agg #[.int .i64 rev, .bool false]] w fun e w' => e = .returned (.int .i64 0) ∧ RPut w B y rv (putD (dat R) key rev false) w' := by
  have HDAT : Hid (∀ v, dat ((insN R (plc (R.map IM.it) key) key).set (plc (R.map IM.it) key) ⟨⟨key, v⟩, [(rev, false)]⟩) = putD (dat R) key rev false) := fun v => by
    have hp := plc_le (R.map IM.it) key
    rw [List.length_map] at hp
    rw [insN_set hp]
    exact rput_new ha hl he
  have hne : ¬ key = ByteArray.empty := fun e => hk0 (by rw [e]; rfl)
  have q := ne_hi hne
  have hb0 : Below w.heap.size w (w.alloc (.cells #[.int .i64 rev, .bool false] 37)) := (Below.refl _ w).alloc (Nat.le_refl _) _
  obtain ⟨W0, hW0⟩ : ∃ W0, W0 = w.alloc (.cells #[.int .i64 rev, .bool false] 37) := ⟨_, rfl⟩
  have hr0 : W0.heap[w.heap.size]? = some (.cells #[.int .i64 rev, .bool false] 37 (0, 0)) := by rw [hW0]; exact row_alloc w _ _
  rw [← hW0] at hb0
  have hmk := rmarks_any (h.below hb0) ha hn hms key
  rw [hl] at hmk
  have e0 : W0.cell? ⟨w.heap.size, 0, none⟩ = some (.int .i64 rev) := by simp [World.cell?, hr0]
  have HX := Hid.mk'' h
  go_enter Try.func11, Try.ntmps11
  go_upto_region 1 with (fail)
  rw [← hW0]
  clear hW0 h
  go_upto_region 4 with (go_at_call 15; refine hmk.mono ?_; rintro e W1 ⟨v1, rfl, ⟨p1, c1, hv1⟩, hM1, hb1⟩; dsimp only [Option.getD_none, List.length_nil] at hv1 hM1; subst hv1)
  have hbw1 : Below w.heap.size w W1 := hb0.trans (hb1.mono hb0.size)
  have hr1' : W1.heap[w.heap.size]? = some (.cells #[.int .i64 rev, .bool false] 37 (0, 0)) := (hb1.block _ (Array.getElem?_eq_some_iff.1 hr0).1).trans hr0
  have f0 : W1.cell? ⟨w.heap.size, 0, none⟩ = some (.int .i64 rev) := by simp [World.cell?, hr1']
  have f1 : W1.cell? ⟨w.heap.size, 1, none⟩ = some (.bool false) := by simp [World.cell?, hr1']
  clear hmk hb1 hr0 e0 hb0 hM1
  go_upto_region 5 with (fail)
  go_quiet (fail)
  obtain ⟨W2, hW2⟩ : ∃ W2, W2 = W1.drewN nq := ⟨_, rfl⟩
  rw [← hW2]
  have hb2 : Below W1.heap.size W1 W2 := by rw [hW2]; exact below_drewN' (Below.refl _ _) nq
  have hbw2 : Below w.heap.size w W2 := hbw1.trans (hb2.mono hbw1.size)
  have hr2 : W2.heap[w.heap.size]? = some (.cells #[.int .i64 rev, .bool false] 37 (0, 0)) := (hb2.block _ (Array.getElem?_eq_some_iff.1 hr1').1).trans hr1'
  have g0 : W2.cell? ⟨w.heap.size, 0, none⟩ = some (.int .i64 rev) := by simp [World.cell?, hr2]
  have g1 : W2.cell? ⟨w.heap.size, 1, none⟩ = some (.bool false) := by simp [World.cell?, hr2]
  clear hW2 f0 f1 hr1' hb2
  have hWB0 : B ≤ W2.heap.size := Nat.le_trans hB hbw2.size
  have hat := rat_any (HX.out.below hbw2) hn key
  have hp := plc_le (R.map IM.it) key
  rw [List.length_map] at hp
  subst hv
  have hXW := HX.out.below hbw2
  have c0 := hXW.c0
  have hRc : R.length ≤ cc ∧ cc ≤ 9223372036854775807 := by
    rcases HX.out.row.2 with ⟨e, _⟩ | ⟨g', cap, cur, e, _, _, h1, h2, _⟩
    · cases e
    · cases e; unfold maxLen at h2; exact ⟨h1, by omega⟩
  have HFR : Hid (∀ k V, k ≤ R.length → Below W2.heap.size W2 V → Src Try.prog 2 27 (.slice (some ⟨gg, 0, none⟩) k cc) k (itsC ((R.take k).map IM.it)) V) := fun k V hk hb => (hXW.below hb).front hk
  have HNIL : Hid (∀ V, Src Try.prog 2 27 (.slice (some ⟨gg, 0, none⟩) 0 0) 0 [] V) := fun V => Src.ofSlice V Try.underlying27 ⟨gg, 0, none⟩ 0 0 [] rfl (fun j u hj => by cases hj) (fun u hu => by cases hu)
  have HNIL2 : Hid (∀ V, Src Try.prog 2 27 (.slice none 0 0) 0 [] V) := fun V => Src_owns (base := 0) Try.underlying27 ⟨rfl, .inl ⟨rfl, rfl⟩⟩ (fun u hu => by cases hu)
  obtain ⟨ti, hti, hz0, hz1, hz2⟩ := info_parts info69
  have HY0 : Hid (∀ V, Below W2.heap.size W2 V → V.cell? ⟨y, 0, none⟩ = some (.slice (some ⟨gg, 0, none⟩) R.length cc) ∧ V.frozen? ⟨y, 0, none⟩ = false) := fun V hb => ⟨((HX.out.below hbw2).below hb).c0, ((HX.out.below hbw2).below hb).free⟩
  generalize hkk : plc (R.map IM.it) key = k at *
  have HCK : Hid (cc = k ∧ R.length ≤ k) := ⟨hck, by omega⟩
  clear hck
  go_upto_region 12 with (go_at_call 27; refine hat.mono ?_; rintro e V0 ⟨rfl, rfl⟩)
  clear hat
  go_upto_region 13 with (at_builtin; refine wpList_appS _ rfl _ _ 27 27 rfl B 69 ti _ 2 Try.underlying27 hti hz0 hz1 rfl (by rw [hz2]; omega) (.slice none 0 0) 0 [] rfl (⟨rfl, .inl ⟨rfl, rfl⟩⟩) (.slice (some ⟨gg, 0, none⟩) k cc) rfl k (itsC ((R.take k).map IM.it)) (HFR.out k _ hp (Below.refl _ _)) (by omega) (by first | omega | (simp; omega)) ?_; intro v1 w1 q1 q2 q3 q4)
  rw [Nat.zero_add, List.nil_append] at q1
  have hb1 : Below V0.heap.size V0 w1 := q2.below (Nat.le_refl _) (fun j hj e => by cases e)
  have ho1 : ∀ b, Value.ownBlock v1 = some b → V0.heap.size ≤ b := fun b hb => by
    rcases q3 with e | e
    · rw [hb] at e; cases e
    · rw [hb] at e; have := Option.some.inj e; omega
  clear q2 q3 q4
  have hs1 := hb1.size
  have HRW : Hid (∀ o, (w1.alloc o).ownsRow B 69 2 v1 k (itsC ((R.take k).map IM.it))) := fun o => ownsRow_upd q1 (Upd.ofBelow (S := fun _ => False) ((Below.refl _ w1).alloc (Nat.le_refl _) o)) (fun _ _ h => h)
  have HBX : Hid (Src Try.prog 2 27 (.slice (some ⟨w1.heap.size, 0, none⟩) 1 1) 1 (itsC [⟨key, .slice none 0 0⟩]) (w1.alloc (.cells #[.string key, .slice none 0 0] 69))) := Src.ofSlice _ Try.underlying27 ⟨w1.heap.size, 0, none⟩ 1 1 _ rfl (fun j u hj => by
    rw [Addr.add_lit, Nat.zero_add, cell_of_row _ _ _ _ _ _ (row_alloc w1 _ 69)]; simpa [itsC, itC] using hj) (fun u hu => by simp [itsC, itC] at hu; rcases hu with rfl | rfl <;> rfl)
  obtain ⟨vp1, vc1, rfl⟩ := owns_formB0 q1
  clear q1
  go_upto_region 14 with (at_builtin; refine wpList_appS _ rfl _ _ 27 27 rfl B 69 ti _ 2 Try.underlying27 hti hz0 hz1 rfl (by rw [hz2]; omega) (.slice vp1 k vc1) k (itsC ((R.take k).map IM.it)) rfl (HRW.out _) (.slice (some ⟨w1.heap.size, 0, none⟩) 1 1) rfl 1 (itsC [⟨key, .slice none 0 0⟩]) HBX.out (by omega) (by first | omega | (simp; omega)) ?_; intro v2 w2 q1 q2 q3 q4)
  have hba : Below V0.heap.size V0 (w1.alloc (.cells #[.string key, .slice none 0 0] 69)) := hb1.alloc hs1 _
  have hb2 : Below V0.heap.size V0 w2 := hba.trans (q2.below hba.size (fun j hj e => by have := ho1 j e.symm; omega))
  have ho2 : ∀ b, Value.ownBlock v2 = some b → V0.heap.size ≤ b := fun b hb => by
    rcases q3 with e | e
    · exact ho1 b (by rw [← e]; exact hb)
    · rw [hb] at e; have := Option.some.inj e; have := hba.size; omega
  have hs2 := hb2.size
  clear hba q2 q3 q4 ho1 HRW HBX
  obtain ⟨d1, d2⟩ := HY0.out _ hb2
  have HO2 := Hid.mk'' q1
  have HB3 : Hid (∀ w3, Upd w2 w3 (fun j => some j = v2.ownBlock) → Below V0.heap.size V0 w3) := fun w3 hu => hb2.trans (hu.below hs2 (fun j hj e => by have := ho2 j e.symm; omega))
  obtain ⟨vp2, vc2, rfl⟩ := owns_formB0 q1
  clear q1
  obtain ⟨hck, hkl⟩ := HCK.out
  clear HCK
  go_upto_region 15 with (at_builtin; refine wpList_appS _ rfl _ _ 27 27 rfl B 69 ti _ 2 Try.underlying27 hti hz0 hz1 rfl (by rw [hz2]; omega) (.slice vp2 (k + 1) vc2) (k + 1) (itsC ((R.take k).map IM.it) ++ itsC [⟨key, .slice none 0 0⟩]) rfl HO2.out (.slice (some ⟨gg, 0, none⟩) 0 0) rfl 0 [] (HNIL.out _) (by omega) (by first | omega | (simp; omega)) ?_; intro v3 w3 q1 q2 q3 q4; rw [show k + 1 + 0 = R.length + 1 by omega] at q1; obtain ⟨vp3, vc3, rfl⟩ := owns_formB0 q1; obtain ⟨d3, d4⟩ := HY0.out _ (HB3.out _ q2))
  have hb3 := HB3.out _ q2
  have ho3 : ∀ b, Value.ownBlock (.slice vp3 (R.length + 1) vc3) = some b → V0.heap.size ≤ b := fun b hb => by
    rcases q3 with e | e
    · exact ho2 b (by rw [← e]; exact hb)
    · rw [hb] at e; have := Option.some.inj e; omega
  have hq : w3.ownsRow B 69 2 (.slice vp3 (R.length + 1) vc3) (R.length + 1) (itsC ((insN R k key).map IM.it)) := by
    have e1 : itsC ((insN R k key).map IM.it) = itsC ((R.take k).map IM.it) ++ itsC [⟨key, .slice none 0 0⟩] ++ itsC ((R.drop k).map IM.it) := by
      rw [← itsC_append, ← itsC_append]; simp [insN]
    rw [e1]
    rw [List.drop_eq_nil_of_le (by omega)]
    exact q1
  obtain ⟨R1, r, g, c, mp, mc, hv3, hk, hR, hml, hX1, hgl, hg1, hgf, hM1, hbx, HNE0, hWB, HQ⟩ := Rx.ready hbw2 (HX.out.below hbw2) hB hb3 hq ho3 hp hn hr2 HDAT.out
  clear hck hkl q1 q2 q3 q4 hq ho3 hb3 d1 d2 d3 d4 HB3 HO2 ho2 hs2 hb2 hs1 hb1 HY0 HDAT hr2 g0 g1 c0 hbw2 hbw1 HX hXW HFR HNIL hRc ha he hl hn hms hkk hWB0 hB hz0 hz1 hz2 hti
  rw [hv3] at hX1 hgl hg1 hgf hM1 hbx hWB HQ ⊢
  clear hv3
  obtain ⟨W, hW⟩ : ∃ W, W = w3.setCell ⟨y, 0, none⟩ (.slice (some ⟨g, 0, none⟩) R1.length c) := ⟨_, rfl⟩
  rw [← hW] at hX1 hgl hg1 hgf hM1 hbx hWB HQ ⊢
  clear hW
  have HX1 := Hid.mk'' hX1
  have HQ := Hid.mk'' HQ
  clear hX1
  generalize hb0' : w.heap.size = b0 at *
  clear hb0'
  have HNE : y ≠ g ∧ b0 ≠ g := HNE0
  clear HNE0
  obtain ⟨ti, hti, hz0, hz1, hz2⟩ := info_parts info37
  have HC : Hid (∀ V, Below W.heap.size W V → V.cell? ⟨y, 0, none⟩ = some (.slice (some ⟨g, 0, none⟩) R1.length c) ∧ V.cell? ⟨g, k * 2 + 1, none⟩ = some (.slice mp r.ms.length mc) ∧ V.frozen? ⟨g, k * 2 + 1, none⟩ = false ∧ V.cell? ⟨b0, 0, none⟩ = some (.int .i64 rev) ∧ V.cell? ⟨b0, 1, none⟩ = some (.bool false)) := fun V hb => ⟨(HX1.out.below hb).c0, (hb.cell (p := ⟨g, k * 2 + 1, none⟩) hgl).trans hg1, (hb.frozen (p := ⟨g, k * 2 + 1, none⟩) hgl).trans hgf, by simp [World.cell?, (hb.block b0 (Array.getElem?_eq_some_iff.1 hbx).1).trans hbx], by simp [World.cell?, (hb.block b0 (Array.getElem?_eq_some_iff.1 hbx).1).trans hbx]⟩
  have HSRC : Hid (∀ V, Below W.heap.size W V → Src Try.prog 2 41 (.slice mp r.ms.length mc) r.ms.length (mksC r.ms) V) := fun V hb => Src_owns Try.underlying41 (ownsRow_upd hM1 (Upd.ofBelow (S := fun _ => False) hb) (fun _ _ h => h)) (mksC_mem _)
  have HBK : Hid (∀ (V : World) (b : Nat), V.heap[b]? = some (.cells #[.int .i64 rev, .bool false] 37 (0, 0)) → Src Try.prog 2 41 (.slice (some ⟨b, 0, none⟩) 1 1) 1 (mkC (rev, false)) V) := fun V b hr => Src.ofSlice V Try.underlying41 ⟨b, 0, none⟩ 1 1 _ rfl (fun j u hj => by
    rw [Addr.add_lit, Nat.zero_add, cell_of_row _ _ _ _ _ _ hr]; simpa [mkC] using hj) (fun u hu => by simp [mkC] at hu; rcases hu with rfl | rfl <;> rfl)
  have HFIN : Hid (∀ w2 v2, Below W.heap.size W w2 → w2.ownsRow B 37 2 v2 (r.ms.length + 1) (mksC r.ms ++ mkC (rev, false)) → RPut w B y (.slice (some ⟨gg, 0, none⟩) R.length cc) (putD (dat R) key rev false) (w2.setCell ⟨g, k * 2 + 1, none⟩ v2)) := fun w2 v2 hb ho => HQ.out w2 v2 hb (by
    have e : mksC (r.ms ++ [(rev, false)]) = mksC r.ms ++ mkC (rev, false) := by rw [mksC_append]; simp [mksC]
    show World.ownsRow _ _ _ _ _ (r.ms ++ [(rev, false)]).length _
    rw [e, List.length_append, List.length_singleton]
    exact ho)
  have HOWN : Hid (∀ (V : World) (v v1 : Value), Below W.heap.size W V → (Value.ownBlock v1 = Value.ownBlock v ∨ Value.ownBlock v1 = some V.heap.size) → (∀ b, Value.ownBlock v = some b → W.heap.size ≤ b) → ∀ b, Value.ownBlock v1 = some b → W.heap.size ≤ b) := fun V v v1 hb h hv b hb' => by
    rcases h with h | h
    · exact hv b (by rw [← h]; exact hb')
    · rw [hb'] at h; have := Option.some.inj h; have := hb.size; omega
  have HBB : Hid (∀ V w1 v, Below W.heap.size W V → Upd V w1 (fun k => some k = Value.ownBlock v) → (∀ b, Value.ownBlock v = some b → W.heap.size ≤ b) → Below W.heap.size W w1) := fun V w1 v hb hu hv => hb.trans (hu.below hb.size (fun k hk e => by have := hv k e.symm; omega))
  have HOA : Hid (∀ A, W.heap.size ≤ A → ∀ b, Value.ownBlock (.slice (some ⟨A, 0, none⟩) 0 0) = some b → W.heap.size ≤ b) := fun A h b e => by have := Option.some.inj e; dsimp at this; omega
  have HNB : Hid (∀ A b : Nat, b ≠ A → ¬ (some b = Value.ownBlock (.slice (some ⟨A, 0, none⟩) 0 0))) := fun A b h e => h (Option.some.inj e)
  have hyg : y ≠ g := HNE.1
  have hbg : b0 ≠ g := HNE.2
  have HC2 : Hid (∀ V v, Below W.heap.size W V → (V.setCell ⟨g, k * 2 + 1, none⟩ v).cell? ⟨y, 0, none⟩ = some (.slice (some ⟨g, 0, none⟩) R1.length c) ∧ (V.setCell ⟨g, k * 2 + 1, none⟩ v).cell? ⟨b0, 0, none⟩ = some (.int .i64 rev) ∧ (V.setCell ⟨g, k * 2 + 1, none⟩ v).cell? ⟨b0, 1, none⟩ = some (.bool false)) := fun V v hb => by
    obtain ⟨a1, _, _, a4, a5⟩ := HC.out V hb
    exact ⟨by rw [World.cell?_setCell_other _ _ _ _ (fun e => hyg (by simp only [Addr.mk.injEq] at e; exact e.1.symm))]; exact a1, by rw [World.cell?_setCell_other _ _ _ _ (fun e => hbg (by simp only [Addr.mk.injEq] at e; exact e.1.symm))]; exact a4, by rw [World.cell?_setCell_other _ _ _ _ (fun e => hbg (by simp only [Addr.mk.injEq] at e; exact e.1.symm))]; exact a5⟩
  obtain ⟨d1, d2, d3, d4, d5⟩ := HC.out _ (Below.refl _ _)
  have da := fun o => HC.out _ ((Below.refl _ W).alloc (Nat.le_refl _) o)
  have db := fun o o' => HC.out _ (((Below.refl _ W).alloc (Nat.le_refl _) o).alloc (by simp) o')
  have da1 := fun o => (da o).1
  have da2 := fun o => (da o).2.1
  have da4 := fun o => (da o).2.2.2.1
  have da5 := fun o => (da o).2.2.2.2
  have db1 := fun o o' => (db o o').1
  have db2 := fun o o' => (db o o').2.1
  have db4 := fun o o' => (db o o').2.2.2.1
  have db5 := fun o o' => (db o o').2.2.2.2
  have hWB' : B ≤ W.heap.size := hWB
  clear HQ hM1 da db hg1 hgf hbx HX1
  have hA1 := row_alloc W #[] 37
  have hA2 : ∀ o, ((W.alloc (.cells #[] 37)).alloc o).heap[W.heap.size]? = some (.cells #[] 37 (0, 0)) := fun o => (Below.heap_alloc _ _ _ (by simp)).trans hA1
  have hA3 : ∀ o, ((W.alloc o).alloc (.cells #[] 37)).heap[W.heap.size + 1]? = some (.cells #[] 37 (0, 0)) := fun o => by have := row_alloc (W.alloc o) #[] 37; rwa [World.size_alloc] at this
  have hB1 := row_alloc W #[.int .i64 rev, .bool false] 37
  have hB2 : ∀ o, ((W.alloc (.cells #[.int .i64 rev, .bool false] 37)).alloc o).heap[W.heap.size]? = some (.cells #[.int .i64 rev, .bool false] 37 (0, 0)) := fun o => (Below.heap_alloc _ _ _ (by simp)).trans hB1
  have hB3 : ∀ o, ((W.alloc o).alloc (.cells #[.int .i64 rev, .bool false] 37)).heap[W.heap.size + 1]? = some (.cells #[.int .i64 rev, .bool false] 37 (0, 0)) := fun o => by have := row_alloc (W.alloc o) #[.int .i64 rev, .bool false] 37; rwa [World.size_alloc] at this
  refine wp_region_held_drew (S := (fun V => V.cell? ⟨y, 0, none⟩ = some (.slice (some ⟨g, 0, none⟩) R1.length c) ∧ V.cell? ⟨b0, 0, none⟩ = some (.int .i64 rev) ∧ V.cell? ⟨b0, 1, none⟩ = some (.bool false))) (by kernel_rfl) ⟨d1, d4, d5⟩ (fun hHeld => ?_)
  refine wpAnyH_take (i := 0) (oi := { dst := some 84, op := Go.Op.move (Go.Operand.tmp 0), type := 26, pos := "ref.go:68", after := #[], guard := none }) (v := ?_) rfl (by kernel_rfl) (by kernel_rfl) (by kernel_rfl) (fun _ _ _ h => h) (Or.inl ⟨by rfl, ?_⟩) (by assumption) ?_
  case refine_2 => (intro w0 hSw; (try dsimp only at hSw); go_simp; try with_reducible rfl)
  try simp only [Act.put, List.setIfInBounds_toArray, List.set_cons_zero, List.set_cons_succ]
  refine wpAnyH_take (i := 1) (oi := { dst := some 85, op := Go.Op.nilCheck (Go.Operand.tmp 84), type := 0, pos := "ref.go:68", after := #[{ on := 0, ground := Go.Ground.data }], guard := none }) (v := ?_) rfl (by kernel_rfl) (by kernel_rfl) (by kernel_rfl) (fun _ _ _ h => h) (Or.inl ⟨by rfl, ?_⟩) (by assumption) ?_
  case refine_2 => (intro w0 hSw; (try dsimp only at hSw); go_simp; try with_reducible rfl)
  try simp only [Act.put, List.setIfInBounds_toArray, List.set_cons_zero, List.set_cons_succ]
  refine wpAnyH_take (i := 2) (oi := { dst := some 86, op := Go.Op.fieldAddr 29 (Go.Operand.tmp 85) 0, type := 0, pos := "ref.go:68", after := #[{ on := 1, ground := Go.Ground.data }], guard := none }) (v := ?_) rfl (by kernel_rfl) (by kernel_rfl) (by kernel_rfl) (fun _ _ _ h => h) (Or.inl ⟨by rfl, ?_⟩) (by assumption) ?_
  case refine_2 => (intro w0 hSw; (try dsimp only at hSw); go_simp; try with_reducible rfl)
  try simp only [Act.put, List.setIfInBounds_toArray, List.set_cons_zero, List.set_cons_succ]
  refine wpAnyH_take (i := 3) (oi := { dst := some 87, op := Go.Op.load 27 (Go.Operand.tmp 86), type := 27, pos := "ref.go:68", after := #[{ on := 2, ground := Go.Ground.data }], guard := none }) (v := ?_) rfl (by kernel_rfl) (by kernel_rfl) (by kernel_rfl) (fun _ _ _ h => h) (Or.inl ⟨by rfl, ?_⟩) (by assumption) ?_
  case refine_2 => (intro w0 hSw; (try dsimp only at hSw); go_simp; try with_reducible rfl)
  try simp only [Act.put, List.setIfInBounds_toArray, List.set_cons_zero, List.set_cons_succ]
  refine wpAnyH_take (i := 4) (oi := { dst := some 88, op := Go.Op.move (Go.Operand.tmp 9), type := 3, pos := "ref.go:68", after := #[], guard := none }) (v := ?_) rfl (by kernel_rfl) (by kernel_rfl) (by kernel_rfl) (fun _ _ _ h => h) (Or.inl ⟨by rfl, ?_⟩) (by assumption) ?_
  case refine_2 => (intro w0 hSw; (try dsimp only at hSw); go_simp; try with_reducible rfl)
  try simp only [Act.put, List.setIfInBounds_toArray, List.set_cons_zero, List.set_cons_succ]
  refine wpAnyH_take (i := 6) (oi := { dst := some 90, op := Go.Op.move (Go.Operand.tmp 0), type := 26, pos := "ref.go:68", after := #[], guard := none }) (v := ?_) rfl (by kernel_rfl) (by kernel_rfl) (by kernel_rfl) (fun _ _ _ h => h) (Or.inl ⟨by rfl, ?_⟩) (by assumption) ?_
  case refine_2 => (intro w0 hSw; (try dsimp only at hSw); go_simp; try with_reducible rfl)
  try simp only [Act.put, List.setIfInBounds_toArray, List.set_cons_zero, List.set_cons_succ]
  refine wpAnyH_take (i := 7) (oi := { dst := some 91, op := Go.Op.nilCheck (Go.Operand.tmp 90), type := 0, pos := "ref.go:68", after := #[{ on := 6, ground := Go.Ground.data }], guard := none }) (v := ?_) rfl (by kernel_rfl) (by kernel_rfl) (by kernel_rfl) (fun _ _ _ h => h) (Or.inl ⟨by rfl, ?_⟩) (by assumption) ?_
  case refine_2 => (intro w0 hSw; (try dsimp only at hSw); go_simp; try with_reducible rfl)
  try simp only [Act.put, List.setIfInBounds_toArray, List.set_cons_zero, List.set_cons_succ]
  refine wpAnyH_take (i := 8) (oi := { dst := some 92, op := Go.Op.fieldAddr 29 (Go.Operand.tmp 91) 0, type := 0, pos := "ref.go:68", after := #[{ on := 7, ground := Go.Ground.data }], guard := none }) (v := ?_) rfl (by kernel_rfl) (by kernel_rfl) (by kernel_rfl) (fun _ _ _ h => h) (Or.inl ⟨by rfl, ?_⟩) (by assumption) ?_
  case refine_2 => (intro w0 hSw; (try dsimp only at hSw); go_simp; try with_reducible rfl)
  try simp only [Act.put, List.setIfInBounds_toArray, List.set_cons_zero, List.set_cons_succ]
  refine wpAnyH_take (i := 9) (oi := { dst := some 93, op := Go.Op.load 27 (Go.Operand.tmp 92), type := 27, pos := "ref.go:68", after := #[{ on := 8, ground := Go.Ground.data }], guard := none }) (v := ?_) rfl (by kernel_rfl) (by kernel_rfl) (by kernel_rfl) (fun _ _ _ h => h) (Or.inl ⟨by rfl, ?_⟩) (by assumption) ?_
  case refine_2 => (intro w0 hSw; (try dsimp only at hSw); go_simp; try with_reducible rfl)
  try simp only [Act.put, List.setIfInBounds_toArray, List.set_cons_zero, List.set_cons_succ]
  refine wpAnyH_take (i := 10) (oi := { dst := some 94, op := Go.Op.move (Go.Operand.tmp 9), type := 3, pos := "ref.go:68", after := #[], guard := none }) (v := ?_) rfl (by kernel_rfl) (by kernel_rfl) (by kernel_rfl) (fun _ _ _ h => h) (Or.inl ⟨by rfl, ?_⟩) (by assumption) ?_
  case refine_2 => (intro w0 hSw; (try dsimp only at hSw); go_simp; try with_reducible rfl)
  try simp only [Act.put, List.setIfInBounds_toArray, List.set_cons_zero, List.set_cons_succ]
  refine wpAnyH_take (i := 11) (oi := { dst := some 95, op := Go.Op.indexAddr 27 (Go.Operand.tmp 93) (Go.Operand.tmp 94), type := 0, pos := "ref.go:68", after := #[{ on := 9, ground := Go.Ground.data }, { on := 10, ground := Go.Ground.data }], guard := none }) (v := ?_) rfl (by kernel_rfl) (by kernel_rfl) (by kernel_rfl) (fun _ _ _ h => h) (Or.inl ⟨by rfl, ?_⟩) (by assumption) ?_
  case refine_2 => (intro w0 hSw; (try dsimp only at hSw); go_simp; try with_reducible rfl)
  try simp only [Act.put, List.setIfInBounds_toArray, List.set_cons_zero, List.set_cons_succ]
  refine wpAnyH_take (i := 12) (oi := { dst := some 96, op := Go.Op.fieldAddr 69 (Go.Operand.tmp 95) 1, type := 0, pos := "ref.go:68", after := #[{ on := 11, ground := Go.Ground.data }], guard := none }) (v := ?_) rfl (by kernel_rfl) (by kernel_rfl) (by kernel_rfl) (fun _ _ _ h => h) (Or.inl ⟨by rfl, ?_⟩) (by assumption) ?_
  case refine_2 => (intro w0 hSw; (try dsimp only at hSw); go_simp; try with_reducible rfl)
  try simp only [Act.put, List.setIfInBounds_toArray, List.set_cons_zero, List.set_cons_succ]
  refine wpAnyH_take (i := 15) (oi := { dst := some 99, op := Go.Op.load 37 (Go.Operand.tmp 5), type := 37, pos := "ref.go:68", after := #[], guard := none }) (v := ?_) rfl (by kernel_rfl) (by kernel_rfl) (by kernel_rfl) (fun _ _ _ h => h) (Or.inl ⟨by rfl, ?_⟩) (by assumption) ?_
  case refine_2 => (intro w0 hSw; (try dsimp only at hSw); go_simp; try with_reducible rfl)
  try simp only [Act.put, List.setIfInBounds_toArray, List.set_cons_zero, List.set_cons_succ]
  refine wpAnyH_ready (rs := [5, 13, 16]) (by kernel_rfl) (by simp) ?_
  refine AllReadyH.cons rfl (fun K hK => ?_) ?_
  · go_simp
    refine hK.out _ _ (by first | assumption | exact ⟨by assumption, by assumption, by assumption⟩ | exact ⟨da1 _, da4 _, da5 _⟩ | exact ⟨db1 _ _, db4 _ _, db5 _ _⟩ | exact ⟨ea1 _, ea4 _, ea5 _⟩) (fun hHeld2 => ?_)
    clear hK K hHeld
    have hHeld := hHeld2
    clear hHeld2
    try simp only [Act.put, List.setIfInBounds_toArray, List.set_cons_zero, List.set_cons_succ]
    refine wpAnyH_ready (rs := [13, 16]) (by kernel_rfl) (by simp) ?_
    refine AllReadyH.cons rfl (fun K hK => ?_) ?_
    · go_simp
      refine hK.out _ _ (by first | assumption | exact ⟨by assumption, by assumption, by assumption⟩ | exact ⟨da1 _, da4 _, da5 _⟩ | exact ⟨db1 _ _, db4 _ _, db5 _ _⟩ | exact ⟨ea1 _, ea4 _, ea5 _⟩) (fun hHeld2 => ?_)
      clear hK K hHeld
      have hHeld := hHeld2
      clear hHeld2
      try simp only [Act.put, List.setIfInBounds_toArray, List.set_cons_zero, List.set_cons_succ]
      refine wpAnyH_ready (rs := [14, 16]) (by kernel_rfl) (by simp) ?_
      refine AllReadyH.cons rfl (fun K hK => ?_) ?_
      · refine step_appS _ rfl _ _ 41 41 rfl B 37 ti _ 2 Try.underlying41 hti hz0 hz1 rfl (by rw [hz2]; omega) (.slice (some ⟨W.heap.size, 0, none⟩) 0 0) 0 [] (by simp [Act.eval]; done) (owns_empty (by first | exact hA1 | exact hA2 _ | exact hA3 _) (by omega)) (.slice mp r.ms.length mc) (by simp [Act.eval]; done) r.ms.length (mksC r.ms) (HSRC.out _ (by repeat (first | exact Below.refl _ _ | refine Below.drew ?_ | refine Below.alloc ?_ (by simp) _ | refine Below.alloc ?_ (by simp; omega) _))) (by omega) (by simp; omega) ?_
        intro v1 w1 q1 q2 q3 q4
        rw [Nat.zero_add, List.nil_append] at q1
        have hbv1 := HBB.out _ _ _ (by repeat (first | exact Below.refl _ _ | refine Below.drew ?_ | refine Below.alloc ?_ (by simp) _ | refine Below.alloc ?_ (by simp; omega) _)) q2 (HOA.out _ (by omega))
        have hown1 := HOWN.out _ _ _ (by repeat (first | exact Below.refl _ _ | refine Below.drew ?_ | refine Below.alloc ?_ (by simp) _ | refine Below.alloc ?_ (by simp; omega) _)) q3 (HOA.out _ (by omega))
        obtain ⟨e1, e2, e3, e4, e5⟩ := HC.out _ hbv1
        have ea := fun o => HC.out _ (hbv1.alloc hbv1.size o)
        have ea1 := fun o => (ea o).1
        have ea4 := fun o => (ea o).2.2.2.1
        have ea5 := fun o => (ea o).2.2.2.2
        clear ea
        have hv1s := hbv1.size
        have HQ1 : Hid (∀ V, Below w1.heap.size w1 V → V.ownsRow B 37 2 v1 r.ms.length (mksC r.ms)) := fun V hb => ownsRow_upd q1 (Upd.ofBelow (S := fun _ => False) hb) (fun _ _ h => h)
        have hbr := row_alloc w1 #[.int .i64 rev, .bool false] 37
        obtain ⟨vp1, vc1, rfl⟩ := owns_formB0 q1
        clear q1 q3 q4
        show K _ _
        refine hK.out _ _ (by first | assumption | exact ⟨by assumption, by assumption, by assumption⟩ | exact ⟨da1 _, da4 _, da5 _⟩ | exact ⟨db1 _ _, db4 _ _, db5 _ _⟩ | exact ⟨ea1 _, ea4 _, ea5 _⟩) (fun hHeld2 => ?_)
        clear hK K hHeld
        have hHeld := hHeld2
        clear hHeld2
        try simp only [Act.put, List.setIfInBounds_toArray]
        refine wpAnyH_ready (rs := [16]) (by kernel_rfl) (by simp) ?_
        refine AllReadyH.cons rfl (fun K hK => ?_) AllReadyH.nil
        go_simp
        refine hK.out _ _ (by first | assumption | exact ⟨by assumption, by assumption, by assumption⟩ | exact ⟨da1 _, da4 _, da5 _⟩ | exact ⟨db1 _ _, db4 _ _, db5 _ _⟩ | exact ⟨ea1 _, ea4 _, ea5 _⟩) (fun hHeld2 => ?_)
        clear hK K hHeld
        have hHeld := hHeld2
        clear hHeld2
        try simp only [Act.put, List.setIfInBounds_toArray, List.set_cons_zero, List.set_cons_succ]
        refine wpAnyH_ready (rs := [17]) (by kernel_rfl) (by simp) ?_
        refine AllReadyH.cons rfl (fun K hK => ?_) AllReadyH.nil
        refine step_appS _ rfl _ _ 41 41 rfl B 37 ti _ 2 Try.underlying41 hti hz0 hz1 rfl (by rw [hz2]; omega) (.slice vp1 r.ms.length vc1) r.ms.length (mksC r.ms) (by simp [Act.eval]; done) (HQ1.out _ (by repeat (first | exact Below.refl _ _ | refine Below.drew ?_ | refine Below.alloc ?_ (by simp) _ | refine Below.alloc ?_ (by simp; omega) _))) (.slice (some ⟨w1.heap.size, 0, none⟩) 1 1) (by simp [Act.eval]; done) 1 (mkC (rev, false)) (HBK.out _ _ hbr) (by omega) (by first | omega | (simp; omega)) ?_
        intro v2 w2 p1 p2 p3 p4
        have hbv2 := HBB.out _ _ _ (by first | exact hbv1 | exact hbv1.alloc hbv1.size _) p2 hown1
        obtain ⟨s1, s2, s3, s4, s5⟩ := HC.out _ hbv2
        obtain ⟨np2, nc2, rfl⟩ := owns_formB0 p1
        obtain ⟨t1, t4, t5⟩ := HC2.out _ (.slice np2 (r.ms.length + 1) nc2) hbv2
        show K _ _
        refine hK.out _ _ (by first | assumption | exact ⟨by assumption, by assumption, by assumption⟩ | exact ⟨da1 _, da4 _, da5 _⟩ | exact ⟨db1 _ _, db4 _ _, db5 _ _⟩ | exact ⟨ea1 _, ea4 _, ea5 _⟩) (fun hHeld2 => ?_)
        clear hK K hHeld
        have hHeld := hHeld2
        clear hHeld2
        try simp only [Act.put, List.setIfInBounds_toArray]
        refine wpAnyH_ready (rs := [18]) (by kernel_rfl) (by simp) ?_
        refine AllReadyH.cons rfl (fun K hK => ?_) AllReadyH.nil
        go_simp
        refine hK.out _ _ (by first | assumption | exact ⟨by assumption, by assumption, by assumption⟩ | exact ⟨da1 _, da4 _, da5 _⟩ | exact ⟨db1 _ _, db4 _ _, db5 _ _⟩ | exact ⟨ea1 _, ea4 _, ea5 _⟩) (fun hHeld2 => ?_)
        clear hK K hHeld
        have hHeld := hHeld2
        clear hHeld2
        try simp only [Act.put, List.setIfInBounds_toArray, List.set_cons_zero, List.set_cons_succ]
        refine wpAnyH_ready (rs := [19]) (by kernel_rfl) (by simp) ?_
        refine AllReadyH.cons rfl (fun K hK => ?_) AllReadyH.nil
        go_simp
        refine hK.out _ _ (by first | assumption | exact ⟨by assumption, by assumption, by assumption⟩ | exact ⟨da1 _, da4 _, da5 _⟩ | exact ⟨db1 _ _, db4 _ _, db5 _ _⟩ | exact ⟨ea1 _, ea4 _, ea5 _⟩) (fun hHeld2 => ?_)
        clear hK K hHeld
        have hHeld := hHeld2
        clear hHeld2
        try simp only [Act.put, List.setIfInBounds_toArray, List.set_cons_zero, List.set_cons_succ]
        refine wpAnyH_ready (rs := [20]) (by kernel_rfl) (by simp) ?_
        refine AllReadyH.cons rfl (fun K hK => ?_) AllReadyH.nil
        go_simp
        refine hK.out _ _ (by first | assumption | exact ⟨by assumption, by assumption, by assumption⟩ | exact ⟨da1 _, da4 _, da5 _⟩ | exact ⟨db1 _ _, db4 _ _, db5 _ _⟩ | exact ⟨ea1 _, ea4 _, ea5 _⟩) (fun hHeld2 => ?_)
        clear hK K hHeld
        have hHeld := hHeld2
        clear hHeld2
        try simp only [Act.put, List.setIfInBounds_toArray, List.set_cons_zero, List.set_cons_succ]
        refine wpAnyH_done (by kernel_rfl) ?_ _
        go_wp2
        go_ret
        exact ⟨rfl, HFIN.out _ _ hbv2 p1⟩
      refine AllReadyH.cons rfl (fun K hK => ?_) AllReadyH.nil
      go_simp
      refine hK.out _ _ (by first | assumption | exact ⟨by assumption, by assumption, by assumption⟩ | exact ⟨da1 _, da4 _, da5 _⟩ | exact ⟨db1 _ _, db4 _ _, db5 _ _⟩ | exact ⟨ea1 _, ea4 _, ea5 _⟩) (fun hHeld2 => ?_)
      clear hK K hHeld
      have hHeld := hHeld2
      clear hHeld2
      try simp only [Act.put, List.setIfInBounds_toArray, List.set_cons_zero, List.set_cons_succ]
      refine wpAnyH_ready (rs := [14]) (by kernel_rfl) (by simp) ?_
      refine AllReadyH.cons rfl (fun K hK => ?_) AllReadyH.nil
      refine step_appS _ rfl _ _ 41 41 rfl B 37 ti _ 2 Try.underlying41 hti hz0 hz1 rfl (by rw [hz2]; omega) (.slice (some ⟨W.heap.size, 0, none⟩) 0 0) 0 [] (by simp [Act.eval]; done) (owns_empty (by first | exact hA1 | exact hA2 _ | exact hA3 _) (by omega)) (.slice mp r.ms.length mc) (by simp [Act.eval]; done) r.ms.length (mksC r.ms) (HSRC.out _ (by repeat (first | exact Below.refl _ _ | refine Below.drew ?_ | refine Below.alloc ?_ (by simp) _ | refine Below.alloc ?_ (by simp; omega) _))) (by omega) (by simp; omega) ?_
      intro v1 w1 q1 q2 q3 q4
      rw [Nat.zero_add, List.nil_append] at q1
      have hbv1 := HBB.out _ _ _ (by repeat (first | exact Below.refl _ _ | refine Below.drew ?_ | refine Below.alloc ?_ (by simp) _ | refine Below.alloc ?_ (by simp; omega) _)) q2 (HOA.out _ (by omega))
      have hown1 := HOWN.out _ _ _ (by repeat (first | exact Below.refl _ _ | refine Below.drew ?_ | refine Below.alloc ?_ (by simp) _ | refine Below.alloc ?_ (by simp; omega) _)) q3 (HOA.out _ (by omega))
      obtain ⟨e1, e2, e3, e4, e5⟩ := HC.out _ hbv1
      have ea := fun o => HC.out _ (hbv1.alloc hbv1.size o)
      have ea1 := fun o => (ea o).1
      have ea4 := fun o => (ea o).2.2.2.1
      have ea5 := fun o => (ea o).2.2.2.2
      clear ea
      have hv1s := hbv1.size
      have HQ1 : Hid (∀ V, Below w1.heap.size w1 V → V.ownsRow B 37 2 v1 r.ms.length (mksC r.ms)) := fun V hb => ownsRow_upd q1 (Upd.ofBelow (S := fun _ => False) hb) (fun _ _ h => h)
      have hbr := (q2.block (W.heap.size + 1) (by first | omega | (simp; omega) | simp) (HNB.out _ _ (by omega))).trans (by first | exact hB1 | exact hB2 _ | exact hB3 _)
      obtain ⟨vp1, vc1, rfl⟩ := owns_formB0 q1
      clear q1 q3 q4
      show K _ _
      refine hK.out _ _ (by first | assumption | exact ⟨by assumption, by assumption, by assumption⟩ | exact ⟨da1 _, da4 _, da5 _⟩ | exact ⟨db1 _ _, db4 _ _, db5 _ _⟩ | exact ⟨ea1 _, ea4 _, ea5 _⟩) (fun hHeld2 => ?_)
      clear hK K hHeld
      have hHeld := hHeld2
      clear hHeld2
      try simp only [Act.put, List.setIfInBounds_toArray]
      refine wpAnyH_ready (rs := [17]) (by kernel_rfl) (by simp) ?_
      refine AllReadyH.cons rfl (fun K hK => ?_) AllReadyH.nil
      refine step_appS _ rfl _ _ 41 41 rfl B 37 ti _ 2 Try.underlying41 hti hz0 hz1 rfl (by rw [hz2]; omega) (.slice vp1 r.ms.length vc1) r.ms.length (mksC r.ms) (by simp [Act.eval]; done) (HQ1.out _ (by repeat (first | exact Below.refl _ _ | refine Below.drew ?_ | refine Below.alloc ?_ (by simp) _ | refine Below.alloc ?_ (by simp; omega) _))) (.slice (some ⟨W.heap.size + 1, 0, none⟩) 1 1) (by simp [Act.eval]; done) 1 (mkC (rev, false)) (HBK.out _ _ hbr) (by omega) (by first | omega | (simp; omega)) ?_
      intro v2 w2 p1 p2 p3 p4
      have hbv2 := HBB.out _ _ _ (by first | exact hbv1 | exact hbv1.alloc hbv1.size _) p2 hown1
      obtain ⟨s1, s2, s3, s4, s5⟩ := HC.out _ hbv2
      obtain ⟨np2, nc2, rfl⟩ := owns_formB0 p1
      obtain ⟨t1, t4, t5⟩ := HC2.out _ (.slice np2 (r.ms.length + 1) nc2) hbv2
      show K _ _
      refine hK.out _ _ (by first | assumption | exact ⟨by assumption, by assumption, by assumption⟩ | exact ⟨da1 _, da4 _, da5 _⟩ | exact ⟨db1 _ _, db4 _ _, db5 _ _⟩ | exact ⟨ea1 _, ea4 _, ea5 _⟩) (fun hHeld2 => ?_)
      clear hK K hHeld
      have hHeld := hHeld2
      clear hHeld2
      try simp only [Act.put]
      refine wpAnyH_ready (rs := [18]) (by kernel_rfl) (by simp) ?_
      refine AllReadyH.cons rfl (fun K hK => ?_) AllReadyH.nil
      go_simp
      refine hK.out _ _ (by first | assumption | exact ⟨by assumption, by assumption, by assumption⟩ | exact ⟨da1 _, da4 _, da5 _⟩ | exact ⟨db1 _ _, db4 _ _, db5 _ _⟩ | exact ⟨ea1 _, ea4 _, ea5 _⟩) (fun hHeld2 => ?_)
      clear hK K hHeld
      have hHeld := hHeld2
      clear hHeld2
      try simp only [Act.put, List.setIfInBounds_toArray, List.set_cons_zero, List.set_cons_succ]
      refine wpAnyH_ready (rs := [19]) (by kernel_rfl) (by simp) ?_
      refine AllReadyH.cons rfl (fun K hK => ?_) AllReadyH.nil
      go_simp
      refine hK.out _ _ (by first | assumption | exact ⟨by assumption, by assumption, by assumption⟩ | exact ⟨da1 _, da4 _, da5 _⟩ | exact ⟨db1 _ _, db4 _ _, db5 _ _⟩ | exact ⟨ea1 _, ea4 _, ea5 _⟩) (fun hHeld2 => ?_)
      clear hK K hHeld
      have hHeld := hHeld2
      clear hHeld2
      try simp only [Act.put, List.setIfInBounds_toArray, List.set_cons_zero, List.set_cons_succ]
      refine wpAnyH_ready (rs := [20]) (by kernel_rfl) (by simp) ?_
      refine AllReadyH.cons rfl (fun K hK => ?_) AllReadyH.nil
      go_simp
      refine hK.out _ _ (by first | assumption | exact ⟨by assumption, by assumption, by assumption⟩ | exact ⟨da1 _, da4 _, da5 _⟩ | exact ⟨db1 _ _, db4 _ _, db5 _ _⟩ | exact ⟨ea1 _, ea4 _, ea5 _⟩) (fun hHeld2 => ?_)
      clear hK K hHeld
      have hHeld := hHeld2
      clear hHeld2
      try simp only [Act.put, List.setIfInBounds_toArray, List.set_cons_zero, List.set_cons_succ]
      refine wpAnyH_done (by kernel_rfl) ?_ _
      go_wp2
      go_ret
      exact ⟨rfl, HFIN.out _ _ hbv2 p1⟩
    refine AllReadyH.cons rfl (fun K hK => ?_) AllReadyH.nil
    go_simp
    refine hK.out _ _ (by first | assumption | exact ⟨by assumption, by assumption, by assumption⟩ | exact ⟨da1 _, da4 _, da5 _⟩ | exact ⟨db1 _ _, db4 _ _, db5 _ _⟩ | exact ⟨ea1 _, ea4 _, ea5 _⟩) (fun hHeld2 => ?_)
    clear hK K hHeld
    have hHeld := hHeld2
    clear hHeld2
    try simp only [Act.put, List.setIfInBounds_toArray, List.set_cons_zero, List.set_cons_succ]
    refine wpAnyH_ready (rs := [13]) (by kernel_rfl) (by simp) ?_
    refine AllReadyH.cons rfl (fun K hK => ?_) AllReadyH.nil
    go_simp
    refine hK.out _ _ (by first | assumption | exact ⟨by assumption, by assumption, by assumption⟩ | exact ⟨da1 _, da4 _, da5 _⟩ | exact ⟨db1 _ _, db4 _ _, db5 _ _⟩ | exact ⟨ea1 _, ea4 _, ea5 _⟩) (fun hHeld2 => ?_)
    clear hK K hHeld
    have hHeld := hHeld2
    clear hHeld2
    try simp only [Act.put, List.setIfInBounds_toArray, List.set_cons_zero, List.set_cons_succ]
    refine wpAnyH_ready (rs := [14]) (by kernel_rfl) (by simp) ?_
    refine AllReadyH.cons rfl (fun K hK => ?_) AllReadyH.nil
    refine step_appS _ rfl _ _ 41 41 rfl B 37 ti _ 2 Try.underlying41 hti hz0 hz1 rfl (by rw [hz2]; omega) (.slice (some ⟨W.heap.size, 0, none⟩) 0 0) 0 [] (by simp [Act.eval]; done) (owns_empty (by first | exact hA1 | exact hA2 _ | exact hA3 _) (by omega)) (.slice mp r.ms.length mc) (by simp [Act.eval]; done) r.ms.length (mksC r.ms) (HSRC.out _ (by repeat (first | exact Below.refl _ _ | refine Below.drew ?_ | refine Below.alloc ?_ (by simp) _ | refine Below.alloc ?_ (by simp; omega) _))) (by omega) (by simp; omega) ?_
    intro v1 w1 q1 q2 q3 q4
    rw [Nat.zero_add, List.nil_append] at q1
    have hbv1 := HBB.out _ _ _ (by repeat (first | exact Below.refl _ _ | refine Below.drew ?_ | refine Below.alloc ?_ (by simp) _ | refine Below.alloc ?_ (by simp; omega) _)) q2 (HOA.out _ (by omega))
    have hown1 := HOWN.out _ _ _ (by repeat (first | exact Below.refl _ _ | refine Below.drew ?_ | refine Below.alloc ?_ (by simp) _ | refine Below.alloc ?_ (by simp; omega) _)) q3 (HOA.out _ (by omega))
    obtain ⟨e1, e2, e3, e4, e5⟩ := HC.out _ hbv1
    have ea := fun o => HC.out _ (hbv1.alloc hbv1.size o)
    have ea1 := fun o => (ea o).1
    have ea4 := fun o => (ea o).2.2.2.1
    have ea5 := fun o => (ea o).2.2.2.2
    clear ea
    have hv1s := hbv1.size
    have HQ1 : Hid (∀ V, Below w1.heap.size w1 V → V.ownsRow B 37 2 v1 r.ms.length (mksC r.ms)) := fun V hb => ownsRow_upd q1 (Upd.ofBelow (S := fun _ => False) hb) (fun _ _ h => h)
    have hbr := (q2.block (W.heap.size + 1) (by first | omega | (simp; omega) | simp) (HNB.out _ _ (by omega))).trans (by first | exact hB1 | exact hB2 _ | exact hB3 _)
    obtain ⟨vp1, vc1, rfl⟩ := owns_formB0 q1
    clear q1 q3 q4
    show K _ _
    refine hK.out _ _ (by first | assumption | exact ⟨by assumption, by assumption, by assumption⟩ | exact ⟨da1 _, da4 _, da5 _⟩ | exact ⟨db1 _ _, db4 _ _, db5 _ _⟩ | exact ⟨ea1 _, ea4 _, ea5 _⟩) (fun hHeld2 => ?_)
    clear hK K hHeld
    have hHeld := hHeld2
    clear hHeld2
    try simp only [Act.put, List.setIfInBounds_toArray]
    refine wpAnyH_ready (rs := [17]) (by kernel_rfl) (by simp) ?_
    refine AllReadyH.cons rfl (fun K hK => ?_) AllReadyH.nil
    refine step_appS _ rfl _ _ 41 41 rfl B 37 ti _ 2 Try.underlying41 hti hz0 hz1 rfl (by rw [hz2]; omega) (.slice vp1 r.ms.length vc1) r.ms.length (mksC r.ms) (by simp [Act.eval]; done) (HQ1.out _ (by repeat (first | exact Below.refl _ _ | refine Below.drew ?_ | refine Below.alloc ?_ (by simp) _ | refine Below.alloc ?_ (by simp; omega) _))) (.slice (some ⟨W.heap.size + 1, 0, none⟩) 1 1) (by simp [Act.eval]; done) 1 (mkC (rev, false)) (HBK.out _ _ hbr) (by omega) (by first | omega | (simp; omega)) ?_
    intro v2 w2 p1 p2 p3 p4
    have hbv2 := HBB.out _ _ _ (by first | exact hbv1 | exact hbv1.alloc hbv1.size _) p2 hown1
    obtain ⟨s1, s2, s3, s4, s5⟩ := HC.out _ hbv2
    obtain ⟨np2, nc2, rfl⟩ := owns_formB0 p1
    obtain ⟨t1, t4, t5⟩ := HC2.out _ (.slice np2 (r.ms.length + 1) nc2) hbv2
    show K _ _
    refine hK.out _ _ (by first | assumption | exact ⟨by assumption, by assumption, by assumption⟩ | exact ⟨da1 _, da4 _, da5 _⟩ | exact ⟨db1 _ _, db4 _ _, db5 _ _⟩ | exact ⟨ea1 _, ea4 _, ea5 _⟩) (fun hHeld2 => ?_)
    clear hK K hHeld
    have hHeld := hHeld2
    clear hHeld2
    try simp only [Act.put]
    refine wpAnyH_ready (rs := [18]) (by kernel_rfl) (by simp) ?_
    refine AllReadyH.cons rfl (fun K hK => ?_) AllReadyH.nil
    go_simp
    refine hK.out _ _ (by first | assumption | exact ⟨by assumption, by assumption, by assumption⟩ | exact ⟨da1 _, da4 _, da5 _⟩ | exact ⟨db1 _ _, db4 _ _, db5 _ _⟩ | exact ⟨ea1 _, ea4 _, ea5 _⟩) (fun hHeld2 => ?_)
    clear hK K hHeld
    have hHeld := hHeld2
    clear hHeld2
    try simp only [Act.put, List.setIfInBounds_toArray, List.set_cons_zero, List.set_cons_succ]
    refine wpAnyH_ready (rs := [19]) (by kernel_rfl) (by simp) ?_
    refine AllReadyH.cons rfl (fun K hK => ?_) AllReadyH.nil
    go_simp
    refine hK.out _ _ (by first | assumption | exact ⟨by assumption, by assumption, by assumption⟩ | exact ⟨da1 _, da4 _, da5 _⟩ | exact ⟨db1 _ _, db4 _ _, db5 _ _⟩ | exact ⟨ea1 _, ea4 _, ea5 _⟩) (fun hHeld2 => ?_)
    clear hK K hHeld
    have hHeld := hHeld2
    clear hHeld2
    try simp only [Act.put, List.setIfInBounds_toArray, List.set_cons_zero, List.set_cons_succ]
    refine wpAnyH_ready (rs := [20]) (by kernel_rfl) (by simp) ?_
    refine AllReadyH.cons rfl (fun K hK => ?_) AllReadyH.nil
    go_simp
    refine hK.out _ _ (by first | assumption | exact ⟨by assumption, by assumption, by assumption⟩ | exact ⟨da1 _, da4 _, da5 _⟩ | exact ⟨db1 _ _, db4 _ _, db5 _ _⟩ | exact ⟨ea1 _, ea4 _, ea5 _⟩) (fun hHeld2 => ?_)
    clear hK K hHeld
    have hHeld := hHeld2
    clear hHeld2
    try simp only [Act.put, List.setIfInBounds_toArray, List.set_cons_zero, List.set_cons_succ]
    refine wpAnyH_done (by kernel_rfl) ?_ _
    go_wp2
    go_ret
    exact ⟨rfl, HFIN.out _ _ hbv2 p1⟩
  refine AllReadyH.cons rfl (fun K hK => ?_) ?_
  · go_simp
    refine hK.out _ _ (by first | assumption | exact ⟨by assumption, by assumption, by assumption⟩ | exact ⟨da1 _, da4 _, da5 _⟩ | exact ⟨db1 _ _, db4 _ _, db5 _ _⟩ | exact ⟨ea1 _, ea4 _, ea5 _⟩) (fun hHeld2 => ?_)
    clear hK K hHeld
    have hHeld := hHeld2
    clear hHeld2
    try simp only [Act.put, List.setIfInBounds_toArray, List.set_cons_zero, List.set_cons_succ]
    refine wpAnyH_ready (rs := [5, 16]) (by kernel_rfl) (by simp) ?_
    refine AllReadyH.cons rfl (fun K hK => ?_) ?_
    · go_simp
      refine hK.out _ _ (by first | assumption | exact ⟨by assumption, by assumption, by assumption⟩ | exact ⟨da1 _, da4 _, da5 _⟩ | exact ⟨db1 _ _, db4 _ _, db5 _ _⟩ | exact ⟨ea1 _, ea4 _, ea5 _⟩) (fun hHeld2 => ?_)
      clear hK K hHeld
      have hHeld := hHeld2
      clear hHeld2
      try simp only [Act.put, List.setIfInBounds_toArray, List.set_cons_zero, List.set_cons_succ]
      refine wpAnyH_ready (rs := [14, 16]) (by kernel_rfl) (by simp) ?_
      refine AllReadyH.cons rfl (fun K hK => ?_) ?_
      · refine step_appS _ rfl _ _ 41 41 rfl B 37 ti _ 2 Try.underlying41 hti hz0 hz1 rfl (by rw [hz2]; omega) (.slice (some ⟨W.heap.size, 0, none⟩) 0 0) 0 [] (by simp [Act.eval]; done) (owns_empty (by first | exact hA1 | exact hA2 _ | exact hA3 _) (by omega)) (.slice mp r.ms.length mc) (by simp [Act.eval]; done) r.ms.length (mksC r.ms) (HSRC.out _ (by repeat (first | exact Below.refl _ _ | refine Below.drew ?_ | refine Below.alloc ?_ (by simp) _ | refine Below.alloc ?_ (by simp; omega) _))) (by omega) (by simp; omega) ?_
        intro v1 w1 q1 q2 q3 q4
        rw [Nat.zero_add, List.nil_append] at q1
        have hbv1 := HBB.out _ _ _ (by repeat (first | exact Below.refl _ _ | refine Below.drew ?_ | refine Below.alloc ?_ (by simp) _ | refine Below.alloc ?_ (by simp; omega) _)) q2 (HOA.out _ (by omega))
        have hown1 := HOWN.out _ _ _ (by repeat (first | exact Below.refl _ _ | refine Below.drew ?_ | refine Below.alloc ?_ (by simp) _ | refine Below.alloc ?_ (by simp; omega) _)) q3 (HOA.out _ (by omega))
        obtain ⟨e1, e2, e3, e4, e5⟩ := HC.out _ hbv1
        have ea := fun o => HC.out _ (hbv1.alloc hbv1.size o)
        have ea1 := fun o => (ea o).1
        have ea4 := fun o => (ea o).2.2.2.1
        have ea5 := fun o => (ea o).2.2.2.2
        clear ea
        have hv1s := hbv1.size
        have HQ1 : Hid (∀ V, Below w1.heap.size w1 V → V.ownsRow B 37 2 v1 r.ms.length (mksC r.ms)) := fun V hb => ownsRow_upd q1 (Upd.ofBelow (S := fun _ => False) hb) (fun _ _ h => h)
        have hbr := row_alloc w1 #[.int .i64 rev, .bool false] 37
        obtain ⟨vp1, vc1, rfl⟩ := owns_formB0 q1
        clear q1 q3 q4
        show K _ _
        refine hK.out _ _ (by first | assumption | exact ⟨by assumption, by assumption, by assumption⟩ | exact ⟨da1 _, da4 _, da5 _⟩ | exact ⟨db1 _ _, db4 _ _, db5 _ _⟩ | exact ⟨ea1 _, ea4 _, ea5 _⟩) (fun hHeld2 => ?_)
        clear hK K hHeld
        have hHeld := hHeld2
        clear hHeld2
        try simp only [Act.put, List.setIfInBounds_toArray]
        refine wpAnyH_ready (rs := [16]) (by kernel_rfl) (by simp) ?_
        refine AllReadyH.cons rfl (fun K hK => ?_) AllReadyH.nil
        go_simp
        refine hK.out _ _ (by first | assumption | exact ⟨by assumption, by assumption, by assumption⟩ | exact ⟨da1 _, da4 _, da5 _⟩ | exact ⟨db1 _ _, db4 _ _, db5 _ _⟩ | exact ⟨ea1 _, ea4 _, ea5 _⟩) (fun hHeld2 => ?_)
        clear hK K hHeld
        have hHeld := hHeld2
        clear hHeld2
        try simp only [Act.put, List.setIfInBounds_toArray, List.set_cons_zero, List.set_cons_succ]
        refine wpAnyH_ready (rs := [17]) (by kernel_rfl) (by simp) ?_
        refine AllReadyH.cons rfl (fun K hK => ?_) AllReadyH.nil
        refine step_appS _ rfl _ _ 41 41 rfl B 37 ti _ 2 Try.underlying41 hti hz0 hz1 rfl (by rw [hz2]; omega) (.slice vp1 r.ms.length vc1) r.ms.length (mksC r.ms) (by simp [Act.eval]; done) (HQ1.out _ (by repeat (first | exact Below.refl _ _ | refine Below.drew ?_ | refine Below.alloc ?_ (by simp) _ | refine Below.alloc ?_ (by simp; omega) _))) (.slice (some ⟨w1.heap.size, 0, none⟩) 1 1) (by simp [Act.eval]; done) 1 (mkC (rev, false)) (HBK.out _ _ hbr) (by omega) (by first | omega | (simp; omega)) ?_
        intro v2 w2 p1 p2 p3 p4
        have hbv2 := HBB.out _ _ _ (by first | exact hbv1 | exact hbv1.alloc hbv1.size _) p2 hown1
        obtain ⟨s1, s2, s3, s4, s5⟩ := HC.out _ hbv2
        obtain ⟨np2, nc2, rfl⟩ := owns_formB0 p1
        obtain ⟨t1, t4, t5⟩ := HC2.out _ (.slice np2 (r.ms.length + 1) nc2) hbv2
        show K _ _
        refine hK.out _ _ (by first | assumption | exact ⟨by assumption, by assumption, by assumption⟩ | exact ⟨da1 _, da4 _, da5 _⟩ | exact ⟨db1 _ _, db4 _ _, db5 _ _⟩ | exact ⟨ea1 _, ea4 _, ea5 _⟩) (fun hHeld2 => ?_)
        clear hK K hHeld
        have hHeld := hHeld2
        clear hHeld2
        try simp only [Act.put, List.setIfInBounds_toArray]
        refine wpAnyH_ready (rs := [18]) (by kernel_rfl) (by simp) ?_
        refine AllReadyH.cons rfl (fun K hK => ?_) AllReadyH.nil
        go_simp
        refine hK.out _ _ (by first | assumption | exact ⟨by assumption, by assumption, by assumption⟩ | exact ⟨da1 _, da4 _, da5 _⟩ | exact ⟨db1 _ _, db4 _ _, db5 _ _⟩ | exact ⟨ea1 _, ea4 _, ea5 _⟩) (fun hHeld2 => ?_)
        clear hK K hHeld
        have hHeld := hHeld2
        clear hHeld2
        try simp only [Act.put, List.setIfInBounds_toArray, List.set_cons_zero, List.set_cons_succ]
        refine wpAnyH_ready (rs := [19]) (by kernel_rfl) (by simp) ?_
        refine AllReadyH.cons rfl (fun K hK => ?_) AllReadyH.nil
        go_simp
        refine hK.out _ _ (by first | assumption | exact ⟨by assumption, by assumption, by assumption⟩ | exact ⟨da1 _, da4 _, da5 _⟩ | exact ⟨db1 _ _, db4 _ _, db5 _ _⟩ | exact ⟨ea1 _, ea4 _, ea5 _⟩) (fun hHeld2 => ?_)
        clear hK K hHeld
        have hHeld := hHeld2
        clear hHeld2
        try simp only [Act.put, List.setIfInBounds_toArray, List.set_cons_zero, List.set_cons_succ]
        refine wpAnyH_ready (rs := [20]) (by kernel_rfl) (by simp) ?_
        refine AllReadyH.cons rfl (fun K hK => ?_) AllReadyH.nil
        go_simp
        refine hK.out _ _ (by first | assumption | exact ⟨by assumption, by assumption, by assumption⟩ | exact ⟨da1 _, da4 _, da5 _⟩ | exact ⟨db1 _ _, db4 _ _, db5 _ _⟩ | exact ⟨ea1 _, ea4 _, ea5 _⟩) (fun hHeld2 => ?_)
        clear hK K hHeld
        have hHeld := hHeld2
        clear hHeld2
        try simp only [Act.put, List.setIfInBounds_toArray, List.set_cons_zero, List.set_cons_succ]
        refine wpAnyH_done (by kernel_rfl) ?_ _
        go_wp2
        go_ret
        exact ⟨rfl, HFIN.out _ _ hbv2 p1⟩
      refine AllReadyH.cons rfl (fun K hK => ?_) AllReadyH.nil
      go_simp
      refine hK.out _ _ (by first | assumption | exact ⟨by assumption, by assumption, by assumption⟩ | exact ⟨da1 _, da4 _, da5 _⟩ | exact ⟨db1 _ _, db4 _ _, db5 _ _⟩ | exact ⟨ea1 _, ea4 _, ea5 _⟩) (fun hHeld2 => ?_)
      clear hK K hHeld
      have hHeld := hHeld2
      clear hHeld2
      try simp only [Act.put, List.setIfInBounds_toArray, List.set_cons_zero, List.set_cons_succ]
      refine wpAnyH_ready (rs := [14]) (by kernel_rfl) (by simp) ?_
      refine AllReadyH.cons rfl (fun K hK => ?_) AllReadyH.nil
      refine step_appS _ rfl _ _ 41 41 rfl B 37 ti _ 2 Try.underlying41 hti hz0 hz1 rfl (by rw [hz2]; omega) (.slice (some ⟨W.heap.size, 0, none⟩) 0 0) 0 [] (by simp [Act.eval]; done) (owns_empty (by first | exact hA1 | exact hA2 _ | exact hA3 _) (by omega)) (.slice mp r.ms.length mc) (by simp [Act.eval]; done) r.ms.length (mksC r.ms) (HSRC.out _ (by repeat (first | exact Below.refl _ _ | refine Below.drew ?_ | refine Below.alloc ?_ (by simp) _ | refine Below.alloc ?_ (by simp; omega) _))) (by omega) (by simp; omega) ?_
      intro v1 w1 q1 q2 q3 q4
      rw [Nat.zero_add, List.nil_append] at q1
      have hbv1 := HBB.out _ _ _ (by repeat (first | exact Below.refl _ _ | refine Below.drew ?_ | refine Below.alloc ?_ (by simp) _ | refine Below.alloc ?_ (by simp; omega) _)) q2 (HOA.out _ (by omega))
      have hown1 := HOWN.out _ _ _ (by repeat (first | exact Below.refl _ _ | refine Below.drew ?_ | refine Below.alloc ?_ (by simp) _ | refine Below.alloc ?_ (by simp; omega) _)) q3 (HOA.out _ (by omega))
      obtain ⟨e1, e2, e3, e4, e5⟩ := HC.out _ hbv1
      have ea := fun o => HC.out _ (hbv1.alloc hbv1.size o)
      have ea1 := fun o => (ea o).1
      have ea4 := fun o => (ea o).2.2.2.1
      have ea5 := fun o => (ea o).2.2.2.2
      clear ea
      have hv1s := hbv1.size
      have HQ1 : Hid (∀ V, Below w1.heap.size w1 V → V.ownsRow B 37 2 v1 r.ms.length (mksC r.ms)) := fun V hb => ownsRow_upd q1 (Upd.ofBelow (S := fun _ => False) hb) (fun _ _ h => h)
      have hbr := (q2.block (W.heap.size + 1) (by first | omega | (simp; omega) | simp) (HNB.out _ _ (by omega))).trans (by first | exact hB1 | exact hB2 _ | exact hB3 _)
      obtain ⟨vp1, vc1, rfl⟩ := owns_formB0 q1
      clear q1 q3 q4
      show K _ _
      refine hK.out _ _ (by first | assumption | exact ⟨by assumption, by assumption, by assumption⟩ | exact ⟨da1 _, da4 _, da5 _⟩ | exact ⟨db1 _ _, db4 _ _, db5 _ _⟩ | exact ⟨ea1 _, ea4 _, ea5 _⟩) (fun hHeld2 => ?_)
      clear hK K hHeld
      have hHeld := hHeld2
      clear hHeld2
      try simp only [Act.put, List.setIfInBounds_toArray]
      refine wpAnyH_ready (rs := [17]) (by kernel_rfl) (by simp) ?_
      refine AllReadyH.cons rfl (fun K hK => ?_) AllReadyH.nil
      refine step_appS _ rfl _ _ 41 41 rfl B 37 ti _ 2 Try.underlying41 hti hz0 hz1 rfl (by rw [hz2]; omega) (.slice vp1 r.ms.length vc1) r.ms.length (mksC r.ms) (by simp [Act.eval]; done) (HQ1.out _ (by repeat (first | exact Below.refl _ _ | refine Below.drew ?_ | refine Below.alloc ?_ (by simp) _ | refine Below.alloc ?_ (by simp; omega) _))) (.slice (some ⟨W.heap.size + 1, 0, none⟩) 1 1) (by simp [Act.eval]; done) 1 (mkC (rev, false)) (HBK.out _ _ hbr) (by omega) (by first | omega | (simp; omega)) ?_
      intro v2 w2 p1 p2 p3 p4
      have hbv2 := HBB.out _ _ _ (by first | exact hbv1 | exact hbv1.alloc hbv1.size _) p2 hown1
      obtain ⟨s1, s2, s3, s4, s5⟩ := HC.out _ hbv2
      obtain ⟨np2, nc2, rfl⟩ := owns_formB0 p1
      obtain ⟨t1, t4, t5⟩ := HC2.out _ (.slice np2 (r.ms.length + 1) nc2) hbv2
      show K _ _
      refine hK.out _ _ (by first | assumption | exact ⟨by assumption, by assumption, by assumption⟩ | exact ⟨da1 _, da4 _, da5 _⟩ | exact ⟨db1 _ _, db4 _ _, db5 _ _⟩ | exact ⟨ea1 _, ea4 _, ea5 _⟩) (fun hHeld2 => ?_)
      clear hK K hHeld
      have hHeld := hHeld2
      clear hHeld2
      try simp only [Act.put]
      refine wpAnyH_ready (rs := [18]) (by kernel_rfl) (by simp) ?_
      refine AllReadyH.cons rfl (fun K hK => ?_) AllReadyH.nil
      go_simp
      refine hK.out _ _ (by first | assumption | exact ⟨by assumption, by assumption, by assumption⟩ | exact ⟨da1 _, da4 _, da5 _⟩ | exact ⟨db1 _ _, db4 _ _, db5 _ _⟩ | exact ⟨ea1 _, ea4 _, ea5 _⟩) (fun hHeld2 => ?_)
      clear hK K hHeld
      have hHeld := hHeld2
      clear hHeld2
      try simp only [Act.put, List.setIfInBounds_toArray, List.set_cons_zero, List.set_cons_succ]
      refine wpAnyH_ready (rs := [19]) (by kernel_rfl) (by simp) ?_
      refine AllReadyH.cons rfl (fun K hK => ?_) AllReadyH.nil
      go_simp
      refine hK.out _ _ (by first | assumption | exact ⟨by assumption, by assumption, by assumption⟩ | exact ⟨da1 _, da4 _, da5 _⟩ | exact ⟨db1 _ _, db4 _ _, db5 _ _⟩ | exact ⟨ea1 _, ea4 _, ea5 _⟩) (fun hHeld2 => ?_)
      clear hK K hHeld
      have hHeld := hHeld2
      clear hHeld2
      try simp only [Act.put, List.setIfInBounds_toArray, List.set_cons_zero, List.set_cons_succ]
      refine wpAnyH_ready (rs := [20]) (by kernel_rfl) (by simp) ?_
      refine AllReadyH.cons rfl (fun K hK => ?_) AllReadyH.nil
      go_simp
      refine hK.out _ _ (by first | assumption | exact ⟨by assumption, by assumption, by assumption⟩ | exact ⟨da1 _, da4 _, da5 _⟩ | exact ⟨db1 _ _, db4 _ _, db5 _ _⟩ | exact ⟨ea1 _, ea4 _, ea5 _⟩) (fun hHeld2 => ?_)
      clear hK K hHeld
      have hHeld := hHeld2
      clear hHeld2
      try simp only [Act.put, List.setIfInBounds_toArray, List.set_cons_zero, List.set_cons_succ]
      refine wpAnyH_done (by kernel_rfl) ?_ _
      go_wp2
      go_ret
      exact ⟨rfl, HFIN.out _ _ hbv2 p1⟩
    refine AllReadyH.cons rfl (fun K hK => ?_) AllReadyH.nil
    go_simp
    refine hK.out _ _ (by first | assumption | exact ⟨by assumption, by assumption, by assumption⟩ | exact ⟨da1 _, da4 _, da5 _⟩ | exact ⟨db1 _ _, db4 _ _, db5 _ _⟩ | exact ⟨ea1 _, ea4 _, ea5 _⟩) (fun hHeld2 => ?_)
    clear hK K hHeld
    have hHeld := hHeld2
    clear hHeld2
    try simp only [Act.put, List.setIfInBounds_toArray, List.set_cons_zero, List.set_cons_succ]
    refine wpAnyH_ready (rs := [5]) (by kernel_rfl) (by simp) ?_
    refine AllReadyH.cons rfl (fun K hK => ?_) AllReadyH.nil
    go_simp
    refine hK.out _ _ (by first | assumption | exact ⟨by assumption, by assumption, by assumption⟩ | exact ⟨da1 _, da4 _, da5 _⟩ | exact ⟨db1 _ _, db4 _ _, db5 _ _⟩ | exact ⟨ea1 _, ea4 _, ea5 _⟩) (fun hHeld2 => ?_)
    clear hK K hHeld
    have hHeld := hHeld2
    clear hHeld2
    try simp only [Act.put, List.setIfInBounds_toArray, List.set_cons_zero, List.set_cons_succ]
    refine wpAnyH_ready (rs := [14]) (by kernel_rfl) (by simp) ?_
    refine AllReadyH.cons rfl (fun K hK => ?_) AllReadyH.nil
    refine step_appS _ rfl _ _ 41 41 rfl B 37 ti _ 2 Try.underlying41 hti hz0 hz1 rfl (by rw [hz2]; omega) (.slice (some ⟨W.heap.size + 1, 0, none⟩) 0 0) 0 [] (by simp [Act.eval]; done) (owns_empty (by first | exact hA1 | exact hA2 _ | exact hA3 _) (by omega)) (.slice mp r.ms.length mc) (by simp [Act.eval]; done) r.ms.length (mksC r.ms) (HSRC.out _ (by repeat (first | exact Below.refl _ _ | refine Below.drew ?_ | refine Below.alloc ?_ (by simp) _ | refine Below.alloc ?_ (by simp; omega) _))) (by omega) (by simp; omega) ?_
    intro v1 w1 q1 q2 q3 q4
    rw [Nat.zero_add, List.nil_append] at q1
    have hbv1 := HBB.out _ _ _ (by repeat (first | exact Below.refl _ _ | refine Below.drew ?_ | refine Below.alloc ?_ (by simp) _ | refine Below.alloc ?_ (by simp; omega) _)) q2 (HOA.out _ (by omega))
    have hown1 := HOWN.out _ _ _ (by repeat (first | exact Below.refl _ _ | refine Below.drew ?_ | refine Below.alloc ?_ (by simp) _ | refine Below.alloc ?_ (by simp; omega) _)) q3 (HOA.out _ (by omega))
    obtain ⟨e1, e2, e3, e4, e5⟩ := HC.out _ hbv1
    have ea := fun o => HC.out _ (hbv1.alloc hbv1.size o)
    have ea1 := fun o => (ea o).1
    have ea4 := fun o => (ea o).2.2.2.1
    have ea5 := fun o => (ea o).2.2.2.2
    clear ea
    have hv1s := hbv1.size
    have HQ1 : Hid (∀ V, Below w1.heap.size w1 V → V.ownsRow B 37 2 v1 r.ms.length (mksC r.ms)) := fun V hb => ownsRow_upd q1 (Upd.ofBelow (S := fun _ => False) hb) (fun _ _ h => h)
    have hbr := (q2.block (W.heap.size) (by first | omega | (simp; omega) | simp) (HNB.out _ _ (by omega))).trans (by first | exact hB1 | exact hB2 _ | exact hB3 _)
    obtain ⟨vp1, vc1, rfl⟩ := owns_formB0 q1
    clear q1 q3 q4
    show K _ _
    refine hK.out _ _ (by first | assumption | exact ⟨by assumption, by assumption, by assumption⟩ | exact ⟨da1 _, da4 _, da5 _⟩ | exact ⟨db1 _ _, db4 _ _, db5 _ _⟩ | exact ⟨ea1 _, ea4 _, ea5 _⟩) (fun hHeld2 => ?_)
    clear hK K hHeld
    have hHeld := hHeld2
    clear hHeld2
    try simp only [Act.put, List.setIfInBounds_toArray]
    refine wpAnyH_ready (rs := [17]) (by kernel_rfl) (by simp) ?_
    refine AllReadyH.cons rfl (fun K hK => ?_) AllReadyH.nil
    refine step_appS _ rfl _ _ 41 41 rfl B 37 ti _ 2 Try.underlying41 hti hz0 hz1 rfl (by rw [hz2]; omega) (.slice vp1 r.ms.length vc1) r.ms.length (mksC r.ms) (by simp [Act.eval]; done) (HQ1.out _ (by repeat (first | exact Below.refl _ _ | refine Below.drew ?_ | refine Below.alloc ?_ (by simp) _ | refine Below.alloc ?_ (by simp; omega) _))) (.slice (some ⟨W.heap.size, 0, none⟩) 1 1) (by simp [Act.eval]; done) 1 (mkC (rev, false)) (HBK.out _ _ hbr) (by omega) (by first | omega | (simp; omega)) ?_
    intro v2 w2 p1 p2 p3 p4
    have hbv2 := HBB.out _ _ _ (by first | exact hbv1 | exact hbv1.alloc hbv1.size _) p2 hown1
    obtain ⟨s1, s2, s3, s4, s5⟩ := HC.out _ hbv2
    obtain ⟨np2, nc2, rfl⟩ := owns_formB0 p1
    obtain ⟨t1, t4, t5⟩ := HC2.out _ (.slice np2 (r.ms.length + 1) nc2) hbv2
    show K _ _
    refine hK.out _ _ (by first | assumption | exact ⟨by assumption, by assumption, by assumption⟩ | exact ⟨da1 _, da4 _, da5 _⟩ | exact ⟨db1 _ _, db4 _ _, db5 _ _⟩ | exact ⟨ea1 _, ea4 _, ea5 _⟩) (fun hHeld2 => ?_)
    clear hK K hHeld
    have hHeld := hHeld2
    clear hHeld2
    try simp only [Act.put]
    refine wpAnyH_ready (rs := [18]) (by kernel_rfl) (by simp) ?_
    refine AllReadyH.cons rfl (fun K hK => ?_) AllReadyH.nil
    go_simp
    refine hK.out _ _ (by first | assumption | exact ⟨by assumption, by assumption, by assumption⟩ | exact ⟨da1 _, da4 _, da5 _⟩ | exact ⟨db1 _ _, db4 _ _, db5 _ _⟩ | exact ⟨ea1 _, ea4 _, ea5 _⟩) (fun hHeld2 => ?_)
    clear hK K hHeld
    have hHeld := hHeld2
    clear hHeld2
    try simp only [Act.put, List.setIfInBounds_toArray, List.set_cons_zero, List.set_cons_succ]
    refine wpAnyH_ready (rs := [19]) (by kernel_rfl) (by simp) ?_
    refine AllReadyH.cons rfl (fun K hK => ?_) AllReadyH.nil
    go_simp
    refine hK.out _ _ (by first | assumption | exact ⟨by assumption, by assumption, by assumption⟩ | exact ⟨da1 _, da4 _, da5 _⟩ | exact ⟨db1 _ _, db4 _ _, db5 _ _⟩ | exact ⟨ea1 _, ea4 _, ea5 _⟩) (fun hHeld2 => ?_)
    clear hK K hHeld
    have hHeld := hHeld2
    clear hHeld2
    try simp only [Act.put, List.setIfInBounds_toArray, List.set_cons_zero, List.set_cons_succ]
    refine wpAnyH_ready (rs := [20]) (by kernel_rfl) (by simp) ?_
    refine AllReadyH.cons rfl (fun K hK => ?_) AllReadyH.nil
    go_simp
    refine hK.out _ _ (by first | assumption | exact ⟨by assumption, by assumption, by assumption⟩ | exact ⟨da1 _, da4 _, da5 _⟩ | exact ⟨db1 _ _, db4 _ _, db5 _ _⟩ | exact ⟨ea1 _, ea4 _, ea5 _⟩) (fun hHeld2 => ?_)
    clear hK K hHeld
    have hHeld := hHeld2
    clear hHeld2
    try simp only [Act.put, List.setIfInBounds_toArray, List.set_cons_zero, List.set_cons_succ]
    refine wpAnyH_done (by kernel_rfl) ?_ _
    go_wp2
    go_ret
    exact ⟨rfl, HFIN.out _ _ hbv2 p1⟩
  refine AllReadyH.cons rfl (fun K hK => ?_) AllReadyH.nil
  go_simp
  refine hK.out _ _ (by first | assumption | exact ⟨by assumption, by assumption, by assumption⟩ | exact ⟨da1 _, da4 _, da5 _⟩ | exact ⟨db1 _ _, db4 _ _, db5 _ _⟩ | exact ⟨ea1 _, ea4 _, ea5 _⟩) (fun hHeld2 => ?_)
  clear hK K hHeld
  have hHeld := hHeld2
  clear hHeld2
  try simp only [Act.put, List.setIfInBounds_toArray, List.set_cons_zero, List.set_cons_succ]
  refine wpAnyH_ready (rs := [5, 13]) (by kernel_rfl) (by simp) ?_
  refine AllReadyH.cons rfl (fun K hK => ?_) ?_
  · go_simp
    refine hK.out _ _ (by first | assumption | exact ⟨by assumption, by assumption, by assumption⟩ | exact ⟨da1 _, da4 _, da5 _⟩ | exact ⟨db1 _ _, db4 _ _, db5 _ _⟩ | exact ⟨ea1 _, ea4 _, ea5 _⟩) (fun hHeld2 => ?_)
    clear hK K hHeld
    have hHeld := hHeld2
    clear hHeld2
    try simp only [Act.put, List.setIfInBounds_toArray, List.set_cons_zero, List.set_cons_succ]
    refine wpAnyH_ready (rs := [13]) (by kernel_rfl) (by simp) ?_
    refine AllReadyH.cons rfl (fun K hK => ?_) AllReadyH.nil
    go_simp
    refine hK.out _ _ (by first | assumption | exact ⟨by assumption, by assumption, by assumption⟩ | exact ⟨da1 _, da4 _, da5 _⟩ | exact ⟨db1 _ _, db4 _ _, db5 _ _⟩ | exact ⟨ea1 _, ea4 _, ea5 _⟩) (fun hHeld2 => ?_)
    clear hK K hHeld
    have hHeld := hHeld2
    clear hHeld2
    try simp only [Act.put, List.setIfInBounds_toArray, List.set_cons_zero, List.set_cons_succ]
    refine wpAnyH_ready (rs := [14]) (by kernel_rfl) (by simp) ?_
    refine AllReadyH.cons rfl (fun K hK => ?_) AllReadyH.nil
    refine step_appS _ rfl _ _ 41 41 rfl B 37 ti _ 2 Try.underlying41 hti hz0 hz1 rfl (by rw [hz2]; omega) (.slice (some ⟨W.heap.size + 1, 0, none⟩) 0 0) 0 [] (by simp [Act.eval]; done) (owns_empty (by first | exact hA1 | exact hA2 _ | exact hA3 _) (by omega)) (.slice mp r.ms.length mc) (by simp [Act.eval]; done) r.ms.length (mksC r.ms) (HSRC.out _ (by repeat (first | exact Below.refl _ _ | refine Below.drew ?_ | refine Below.alloc ?_ (by simp) _ | refine Below.alloc ?_ (by simp; omega) _))) (by omega) (by simp; omega) ?_
    intro v1 w1 q1 q2 q3 q4
    rw [Nat.zero_add, List.nil_append] at q1
    have hbv1 := HBB.out _ _ _ (by repeat (first | exact Below.refl _ _ | refine Below.drew ?_ | refine Below.alloc ?_ (by simp) _ | refine Below.alloc ?_ (by simp; omega) _)) q2 (HOA.out _ (by omega))
    have hown1 := HOWN.out _ _ _ (by repeat (first | exact Below.refl _ _ | refine Below.drew ?_ | refine Below.alloc ?_ (by simp) _ | refine Below.alloc ?_ (by simp; omega) _)) q3 (HOA.out _ (by omega))
    obtain ⟨e1, e2, e3, e4, e5⟩ := HC.out _ hbv1
    have ea := fun o => HC.out _ (hbv1.alloc hbv1.size o)
    have ea1 := fun o => (ea o).1
    have ea4 := fun o => (ea o).2.2.2.1
    have ea5 := fun o => (ea o).2.2.2.2
    clear ea
    have hv1s := hbv1.size
    have HQ1 : Hid (∀ V, Below w1.heap.size w1 V → V.ownsRow B 37 2 v1 r.ms.length (mksC r.ms)) := fun V hb => ownsRow_upd q1 (Upd.ofBelow (S := fun _ => False) hb) (fun _ _ h => h)
    have hbr := (q2.block (W.heap.size) (by first | omega | (simp; omega) | simp) (HNB.out _ _ (by omega))).trans (by first | exact hB1 | exact hB2 _ | exact hB3 _)
    obtain ⟨vp1, vc1, rfl⟩ := owns_formB0 q1
    clear q1 q3 q4
    show K _ _
    refine hK.out _ _ (by first | assumption | exact ⟨by assumption, by assumption, by assumption⟩ | exact ⟨da1 _, da4 _, da5 _⟩ | exact ⟨db1 _ _, db4 _ _, db5 _ _⟩ | exact ⟨ea1 _, ea4 _, ea5 _⟩) (fun hHeld2 => ?_)
    clear hK K hHeld
    have hHeld := hHeld2
    clear hHeld2
    try simp only [Act.put, List.setIfInBounds_toArray]
    refine wpAnyH_ready (rs := [17]) (by kernel_rfl) (by simp) ?_
    refine AllReadyH.cons rfl (fun K hK => ?_) AllReadyH.nil
    refine step_appS _ rfl _ _ 41 41 rfl B 37 ti _ 2 Try.underlying41 hti hz0 hz1 rfl (by rw [hz2]; omega) (.slice vp1 r.ms.length vc1) r.ms.length (mksC r.ms) (by simp [Act.eval]; done) (HQ1.out _ (by repeat (first | exact Below.refl _ _ | refine Below.drew ?_ | refine Below.alloc ?_ (by simp) _ | refine Below.alloc ?_ (by simp; omega) _))) (.slice (some ⟨W.heap.size, 0, none⟩) 1 1) (by simp [Act.eval]; done) 1 (mkC (rev, false)) (HBK.out _ _ hbr) (by omega) (by first | omega | (simp; omega)) ?_
    intro v2 w2 p1 p2 p3 p4
    have hbv2 := HBB.out _ _ _ (by first | exact hbv1 | exact hbv1.alloc hbv1.size _) p2 hown1
    obtain ⟨s1, s2, s3, s4, s5⟩ := HC.out _ hbv2
    obtain ⟨np2, nc2, rfl⟩ := owns_formB0 p1
    obtain ⟨t1, t4, t5⟩ := HC2.out _ (.slice np2 (r.ms.length + 1) nc2) hbv2
    show K _ _
    refine hK.out _ _ (by first | assumption | exact ⟨by assumption, by assumption, by assumption⟩ | exact ⟨da1 _, da4 _, da5 _⟩ | exact ⟨db1 _ _, db4 _ _, db5 _ _⟩ | exact ⟨ea1 _, ea4 _, ea5 _⟩) (fun hHeld2 => ?_)
    clear hK K hHeld
    have hHeld := hHeld2
    clear hHeld2
    try simp only [Act.put]
    refine wpAnyH_ready (rs := [18]) (by kernel_rfl) (by simp) ?_
    refine AllReadyH.cons rfl (fun K hK => ?_) AllReadyH.nil
    go_simp
    refine hK.out _ _ (by first | assumption | exact ⟨by assumption, by assumption, by assumption⟩ | exact ⟨da1 _, da4 _, da5 _⟩ | exact ⟨db1 _ _, db4 _ _, db5 _ _⟩ | exact ⟨ea1 _, ea4 _, ea5 _⟩) (fun hHeld2 => ?_)
    clear hK K hHeld
    have hHeld := hHeld2
    clear hHeld2
    try simp only [Act.put, List.setIfInBounds_toArray, List.set_cons_zero, List.set_cons_succ]
    refine wpAnyH_ready (rs := [19]) (by kernel_rfl) (by simp) ?_
    refine AllReadyH.cons rfl (fun K hK => ?_) AllReadyH.nil
    go_simp
    refine hK.out _ _ (by first | assumption | exact ⟨by assumption, by assumption, by assumption⟩ | exact ⟨da1 _, da4 _, da5 _⟩ | exact ⟨db1 _ _, db4 _ _, db5 _ _⟩ | exact ⟨ea1 _, ea4 _, ea5 _⟩) (fun hHeld2 => ?_)
    clear hK K hHeld
    have hHeld := hHeld2
    clear hHeld2
    try simp only [Act.put, List.setIfInBounds_toArray, List.set_cons_zero, List.set_cons_succ]
    refine wpAnyH_ready (rs := [20]) (by kernel_rfl) (by simp) ?_
    refine AllReadyH.cons rfl (fun K hK => ?_) AllReadyH.nil
    go_simp
    refine hK.out _ _ (by first | assumption | exact ⟨by assumption, by assumption, by assumption⟩ | exact ⟨da1 _, da4 _, da5 _⟩ | exact ⟨db1 _ _, db4 _ _, db5 _ _⟩ | exact ⟨ea1 _, ea4 _, ea5 _⟩) (fun hHeld2 => ?_)
    clear hK K hHeld
    have hHeld := hHeld2
    clear hHeld2
    try simp only [Act.put, List.setIfInBounds_toArray, List.set_cons_zero, List.set_cons_succ]
    refine wpAnyH_done (by kernel_rfl) ?_ _
    go_wp2
    go_ret
    exact ⟨rfl, HFIN.out _ _ hbv2 p1⟩
  refine AllReadyH.cons rfl (fun K hK => ?_) AllReadyH.nil
  go_simp
  refine hK.out _ _ (by first | assumption | exact ⟨by assumption, by assumption, by assumption⟩ | exact ⟨da1 _, da4 _, da5 _⟩ | exact ⟨db1 _ _, db4 _ _, db5 _ _⟩ | exact ⟨ea1 _, ea4 _, ea5 _⟩) (fun hHeld2 => ?_)
  clear hK K hHeld
  have hHeld := hHeld2
  clear hHeld2
  try simp only [Act.put, List.setIfInBounds_toArray, List.set_cons_zero, List.set_cons_succ]
  refine wpAnyH_ready (rs := [5]) (by kernel_rfl) (by simp) ?_
  refine AllReadyH.cons rfl (fun K hK => ?_) AllReadyH.nil
  go_simp
  refine hK.out _ _ (by first | assumption | exact ⟨by assumption, by assumption, by assumption⟩ | exact ⟨da1 _, da4 _, da5 _⟩ | exact ⟨db1 _ _, db4 _ _, db5 _ _⟩ | exact ⟨ea1 _, ea4 _, ea5 _⟩) (fun hHeld2 => ?_)
  clear hK K hHeld
  have hHeld := hHeld2
  clear hHeld2
  try simp only [Act.put, List.setIfInBounds_toArray, List.set_cons_zero, List.set_cons_succ]
  refine wpAnyH_ready (rs := [14]) (by kernel_rfl) (by simp) ?_
  refine AllReadyH.cons rfl (fun K hK => ?_) AllReadyH.nil
  refine step_appS _ rfl _ _ 41 41 rfl B 37 ti _ 2 Try.underlying41 hti hz0 hz1 rfl (by rw [hz2]; omega) (.slice (some ⟨W.heap.size + 1, 0, none⟩) 0 0) 0 [] (by simp [Act.eval]; done) (owns_empty (by first | exact hA1 | exact hA2 _ | exact hA3 _) (by omega)) (.slice mp r.ms.length mc) (by simp [Act.eval]; done) r.ms.length (mksC r.ms) (HSRC.out _ (by repeat (first | exact Below.refl _ _ | refine Below.drew ?_ | refine Below.alloc ?_ (by simp) _ | refine Below.alloc ?_ (by simp; omega) _))) (by omega) (by simp; omega) ?_
  intro v1 w1 q1 q2 q3 q4
  rw [Nat.zero_add, List.nil_append] at q1
  have hbv1 := HBB.out _ _ _ (by repeat (first | exact Below.refl _ _ | refine Below.drew ?_ | refine Below.alloc ?_ (by simp) _ | refine Below.alloc ?_ (by simp; omega) _)) q2 (HOA.out _ (by omega))
  have hown1 := HOWN.out _ _ _ (by repeat (first | exact Below.refl _ _ | refine Below.drew ?_ | refine Below.alloc ?_ (by simp) _ | refine Below.alloc ?_ (by simp; omega) _)) q3 (HOA.out _ (by omega))
  obtain ⟨e1, e2, e3, e4, e5⟩ := HC.out _ hbv1
  have ea := fun o => HC.out _ (hbv1.alloc hbv1.size o)
  have ea1 := fun o => (ea o).1
  have ea4 := fun o => (ea o).2.2.2.1
  have ea5 := fun o => (ea o).2.2.2.2
  clear ea
  have hv1s := hbv1.size
  have HQ1 : Hid (∀ V, Below w1.heap.size w1 V → V.ownsRow B 37 2 v1 r.ms.length (mksC r.ms)) := fun V hb => ownsRow_upd q1 (Upd.ofBelow (S := fun _ => False) hb) (fun _ _ h => h)
  have hbr := (q2.block (W.heap.size) (by first | omega | (simp; omega) | simp) (HNB.out _ _ (by omega))).trans (by first | exact hB1 | exact hB2 _ | exact hB3 _)
  obtain ⟨vp1, vc1, rfl⟩ := owns_formB0 q1
  clear q1 q3 q4
  show K _ _
  refine hK.out _ _ (by first | assumption | exact ⟨by assumption, by assumption, by assumption⟩ | exact ⟨da1 _, da4 _, da5 _⟩ | exact ⟨db1 _ _, db4 _ _, db5 _ _⟩ | exact ⟨ea1 _, ea4 _, ea5 _⟩) (fun hHeld2 => ?_)
  clear hK K hHeld
  have hHeld := hHeld2
  clear hHeld2
  try simp only [Act.put, List.setIfInBounds_toArray]
  refine wpAnyH_ready (rs := [17]) (by kernel_rfl) (by simp) ?_
  refine AllReadyH.cons rfl (fun K hK => ?_) AllReadyH.nil
  refine step_appS _ rfl _ _ 41 41 rfl B 37 ti _ 2 Try.underlying41 hti hz0 hz1 rfl (by rw [hz2]; omega) (.slice vp1 r.ms.length vc1) r.ms.length (mksC r.ms) (by simp [Act.eval]; done) (HQ1.out _ (by repeat (first | exact Below.refl _ _ | refine Below.drew ?_ | refine Below.alloc ?_ (by simp) _ | refine Below.alloc ?_ (by simp; omega) _))) (.slice (some ⟨W.heap.size, 0, none⟩) 1 1) (by simp [Act.eval]; done) 1 (mkC (rev, false)) (HBK.out _ _ hbr) (by omega) (by first | omega | (simp; omega)) ?_
  intro v2 w2 p1 p2 p3 p4
  have hbv2 := HBB.out _ _ _ (by first | exact hbv1 | exact hbv1.alloc hbv1.size _) p2 hown1
  obtain ⟨s1, s2, s3, s4, s5⟩ := HC.out _ hbv2
  obtain ⟨np2, nc2, rfl⟩ := owns_formB0 p1
  obtain ⟨t1, t4, t5⟩ := HC2.out _ (.slice np2 (r.ms.length + 1) nc2) hbv2
  show K _ _
  refine hK.out _ _ (by first | assumption | exact ⟨by assumption, by assumption, by assumption⟩ | exact ⟨da1 _, da4 _, da5 _⟩ | exact ⟨db1 _ _, db4 _ _, db5 _ _⟩ | exact ⟨ea1 _, ea4 _, ea5 _⟩) (fun hHeld2 => ?_)
  clear hK K hHeld
  have hHeld := hHeld2
  clear hHeld2
  try simp only [Act.put]
  refine wpAnyH_ready (rs := [18]) (by kernel_rfl) (by simp) ?_
  refine AllReadyH.cons rfl (fun K hK => ?_) AllReadyH.nil
  go_simp
  refine hK.out _ _ (by first | assumption | exact ⟨by assumption, by assumption, by assumption⟩ | exact ⟨da1 _, da4 _, da5 _⟩ | exact ⟨db1 _ _, db4 _ _, db5 _ _⟩ | exact ⟨ea1 _, ea4 _, ea5 _⟩) (fun hHeld2 => ?_)
  clear hK K hHeld
  have hHeld := hHeld2
  clear hHeld2
  try simp only [Act.put, List.setIfInBounds_toArray, List.set_cons_zero, List.set_cons_succ]
  refine wpAnyH_ready (rs := [19]) (by kernel_rfl) (by simp) ?_
  refine AllReadyH.cons rfl (fun K hK => ?_) AllReadyH.nil
  go_simp
  refine hK.out _ _ (by first | assumption | exact ⟨by assumption, by assumption, by assumption⟩ | exact ⟨da1 _, da4 _, da5 _⟩ | exact ⟨db1 _ _, db4 _ _, db5 _ _⟩ | exact ⟨ea1 _, ea4 _, ea5 _⟩) (fun hHeld2 => ?_)
  clear hK K hHeld
  have hHeld := hHeld2
  clear hHeld2
  try simp only [Act.put, List.setIfInBounds_toArray, List.set_cons_zero, List.set_cons_succ]
  refine wpAnyH_ready (rs := [20]) (by kernel_rfl) (by simp) ?_
  refine AllReadyH.cons rfl (fun K hK => ?_) AllReadyH.nil
  go_simp
  refine hK.out _ _ (by first | assumption | exact ⟨by assumption, by assumption, by assumption⟩ | exact ⟨da1 _, da4 _, da5 _⟩ | exact ⟨db1 _ _, db4 _ _, db5 _ _⟩ | exact ⟨ea1 _, ea4 _, ea5 _⟩) (fun hHeld2 => ?_)
  clear hK K hHeld
  have hHeld := hHeld2
  clear hHeld2
  try simp only [Act.put, List.setIfInBounds_toArray, List.set_cons_zero, List.set_cons_succ]
  refine wpAnyH_done (by kernel_rfl) ?_ _
  go_wp2
  go_ret
  exact ⟨rfl, HFIN.out _ _ hbv2 p1⟩
set_option maxRecDepth 100000 in
set_option maxHeartbeats 4000000 in
theorem rput_new2 {gg cc : Nat} (hv : rv = .slice (some ⟨gg, 0, none⟩) R.length cc) (hck : ¬ cc = plc (R.map IM.it) key) (hl : lookD (dat R) key = none) (hk0 : ¬ key.size = 0) (hk1 : ¬ 100 < key.size) (hr1 : ¬ rev < 1) (hB : B ≤ w.heap.size) (he : putE (dat R) key rev false = 0) : Calls Try.prog 11 #[ptr y, .string key, .agg #[.int .i64 rev, .bool false]] w fun e w' => e = .returned (.int .i64 0) ∧ RPut w B y rv (putD (dat R) key rev false) w' := by
  have HDAT : Hid (∀ v, dat ((insN R (plc (R.map IM.it) key) key).set (plc (R.map IM.it) key) ⟨⟨key, v⟩, [(rev, false)]⟩) = putD (dat R) key rev false) := fun v => by
    have hp := plc_le (R.map IM.it) key
    rw [List.length_map] at hp
    rw [insN_set hp]
    exact rput_new ha hl he
  have hne : ¬ key = ByteArray.empty := fun e => hk0 (by rw [e]; rfl)
  have q := ne_hi hne
  have hb0 : Below w.heap.size w (w.alloc (.cells #[.int .i64 rev, .bool false] 37)) := (Below.refl _ w).alloc (Nat.le_refl _) _
  obtain ⟨W0, hW0⟩ : ∃ W0, W0 = w.alloc (.cells #[.int .i64 rev, .bool false] 37) := ⟨_, rfl⟩
  have hr0 : W0.heap[w.heap.size]? = some (.cells #[.int .i64 rev, .bool false] 37 (0, 0)) := by rw [hW0]; exact row_alloc w _ _
  rw [← hW0] at hb0
  have hmk := rmarks_any (h.below hb0) ha hn hms key
  rw [hl] at hmk
  have e0 : W0.cell? ⟨w.heap.size, 0, none⟩ = some (.int .i64 rev) := by simp [World.cell?, hr0]
  have HX := Hid.mk'' h
  go_enter Try.func11, Try.ntmps11
  go_upto_region 1 with (fail)
  rw [← hW0]
  clear hW0 h
  go_upto_region 4 with (go_at_call 15; refine hmk.mono ?_; rintro e W1 ⟨v1, rfl, ⟨p1, c1, hv1⟩, hM1, hb1⟩; dsimp only [Option.getD_none, List.length_nil] at hv1 hM1; subst hv1)
  have hbw1 : Below w.heap.size w W1 := hb0.trans (hb1.mono hb0.size)
  have hr1' : W1.heap[w.heap.size]? = some (.cells #[.int .i64 rev, .bool false] 37 (0, 0)) := (hb1.block _ (Array.getElem?_eq_some_iff.1 hr0).1).trans hr0
  have f0 : W1.cell? ⟨w.heap.size, 0, none⟩ = some (.int .i64 rev) := by simp [World.cell?, hr1']
  have f1 : W1.cell? ⟨w.heap.size, 1, none⟩ = some (.bool false) := by simp [World.cell?, hr1']
  clear hmk hb1 hr0 e0 hb0 hM1
  go_upto_region 5 with (fail)
  go_quiet (fail)
  obtain ⟨W2, hW2⟩ : ∃ W2, W2 = W1.drewN nq := ⟨_, rfl⟩
  rw [← hW2]
  have hb2 : Below W1.heap.size W1 W2 := by rw [hW2]; exact below_drewN' (Below.refl _ _) nq
  have hbw2 : Below w.heap.size w W2 := hbw1.trans (hb2.mono hbw1.size)
  have hr2 : W2.heap[w.heap.size]? = some (.cells #[.int .i64 rev, .bool false] 37 (0, 0)) := (hb2.block _ (Array.getElem?_eq_some_iff.1 hr1').1).trans hr1'
  have g0 : W2.cell? ⟨w.heap.size, 0, none⟩ = some (.int .i64 rev) := by simp [World.cell?, hr2]
  have g1 : W2.cell? ⟨w.heap.size, 1, none⟩ = some (.bool false) := by simp [World.cell?, hr2]
  clear hW2 f0 f1 hr1' hb2
  have hWB0 : B ≤ W2.heap.size := Nat.le_trans hB hbw2.size
  have hat := rat_any (HX.out.below hbw2) hn key
  have hp := plc_le (R.map IM.it) key
  rw [List.length_map] at hp
  subst hv
  have hXW := HX.out.below hbw2
  have c0 := hXW.c0
  have hRc : R.length ≤ cc ∧ cc ≤ 9223372036854775807 := by
    rcases HX.out.row.2 with ⟨e, _⟩ | ⟨g', cap, cur, e, _, _, h1, h2, _⟩
    · cases e
    · cases e; unfold maxLen at h2; exact ⟨h1, by omega⟩
  have HFR : Hid (∀ k V, k ≤ R.length → Below W2.heap.size W2 V → Src Try.prog 2 27 (.slice (some ⟨gg, 0, none⟩) k cc) k (itsC ((R.take k).map IM.it)) V) := fun k V hk hb => (hXW.below hb).front hk
  have HBA : Hid (∀ k c' V, Below W2.heap.size W2 V → Src Try.prog 2 27 (.slice (some ⟨gg, k * 2, none⟩) (R.length - k) c') (R.length - k) (itsC ((R.drop k).map IM.it)) V) := fun k c' V hb => (hXW.below hb).back k c'
  obtain ⟨ti, hti, hz0, hz1, hz2⟩ := info_parts info69
  have HY0 : Hid (∀ V, Below W2.heap.size W2 V → V.cell? ⟨y, 0, none⟩ = some (.slice (some ⟨gg, 0, none⟩) R.length cc) ∧ V.frozen? ⟨y, 0, none⟩ = false) := fun V hb => ⟨((HX.out.below hbw2).below hb).c0, ((HX.out.below hbw2).below hb).free⟩
  generalize hkk : plc (R.map IM.it) key = k at *
  go_upto_region 12 with (go_at_call 27; refine hat.mono ?_; rintro e V0 ⟨rfl, rfl⟩)
  clear hat
  go_upto_region 13 with (at_builtin; refine wpList_appS _ rfl _ _ 27 27 rfl B 69 ti _ 2 Try.underlying27 hti hz0 hz1 rfl (by rw [hz2]; omega) (.slice none 0 0) 0 [] rfl (⟨rfl, .inl ⟨rfl, rfl⟩⟩) (.slice (some ⟨gg, 0, none⟩) k cc) rfl k (itsC ((R.take k).map IM.it)) (HFR.out k _ hp (Below.refl _ _)) (by omega) (by first | omega | (simp; omega)) ?_; intro v1 w1 q1 q2 q3 q4)
  rw [Nat.zero_add, List.nil_append] at q1
  have hb1 : Below V0.heap.size V0 w1 := q2.below (Nat.le_refl _) (fun j hj e => by cases e)
  have ho1 : ∀ b, Value.ownBlock v1 = some b → V0.heap.size ≤ b := fun b hb => by
    rcases q3 with e | e
    · rw [hb] at e; cases e
    · rw [hb] at e; have := Option.some.inj e; omega
  clear q2 q3 q4
  have hs1 := hb1.size
  have HRW : Hid (∀ o, (w1.alloc o).ownsRow B 69 2 v1 k (itsC ((R.take k).map IM.it))) := fun o => ownsRow_upd q1 (Upd.ofBelow (S := fun _ => False) ((Below.refl _ w1).alloc (Nat.le_refl _) o)) (fun _ _ h => h)
  have HBX : Hid (Src Try.prog 2 27 (.slice (some ⟨w1.heap.size, 0, none⟩) 1 1) 1 (itsC [⟨key, .slice none 0 0⟩]) (w1.alloc (.cells #[.string key, .slice none 0 0] 69))) := Src.ofSlice _ Try.underlying27 ⟨w1.heap.size, 0, none⟩ 1 1 _ rfl (fun j u hj => by
    rw [Addr.add_lit, Nat.zero_add, cell_of_row _ _ _ _ _ _ (row_alloc w1 _ 69)]; simpa [itsC, itC] using hj) (fun u hu => by simp [itsC, itC] at hu; rcases hu with rfl | rfl <;> rfl)
  obtain ⟨vp1, vc1, rfl⟩ := owns_formB0 q1
  clear q1
  go_upto_region 14 with (at_builtin; refine wpList_appS _ rfl _ _ 27 27 rfl B 69 ti _ 2 Try.underlying27 hti hz0 hz1 rfl (by rw [hz2]; omega) (.slice vp1 k vc1) k (itsC ((R.take k).map IM.it)) rfl (HRW.out _) (.slice (some ⟨w1.heap.size, 0, none⟩) 1 1) rfl 1 (itsC [⟨key, .slice none 0 0⟩]) HBX.out (by omega) (by first | omega | (simp; omega)) ?_; intro v2 w2 q1 q2 q3 q4)
  have hba : Below V0.heap.size V0 (w1.alloc (.cells #[.string key, .slice none 0 0] 69)) := hb1.alloc hs1 _
  have hb2 : Below V0.heap.size V0 w2 := hba.trans (q2.below hba.size (fun j hj e => by have := ho1 j e.symm; omega))
  have ho2 : ∀ b, Value.ownBlock v2 = some b → V0.heap.size ≤ b := fun b hb => by
    rcases q3 with e | e
    · exact ho1 b (by rw [← e]; exact hb)
    · rw [hb] at e; have := Option.some.inj e; have := hba.size; omega
  have hs2 := hb2.size
  clear hba q2 q3 q4 ho1 HRW HBX
  obtain ⟨d1, d2⟩ := HY0.out _ hb2
  have HO2 := Hid.mk'' q1
  have HB3 : Hid (∀ w3, Upd w2 w3 (fun j => some j = v2.ownBlock) → Below V0.heap.size V0 w3) := fun w3 hu => hb2.trans (hu.below hs2 (fun j hj e => by have := ho2 j e.symm; omega))
  obtain ⟨vp2, vc2, rfl⟩ := owns_formB0 q1
  clear q1
  go_upto_region 15 with (at_builtin; refine wpList_appS _ rfl _ _ 27 27 rfl B 69 ti _ 2 Try.underlying27 hti hz0 hz1 rfl (by rw [hz2]; omega) (.slice vp2 (k + 1) vc2) (k + 1) (itsC ((R.take k).map IM.it) ++ itsC [⟨key, .slice none 0 0⟩]) rfl HO2.out (.slice (some ⟨gg, k * 2, none⟩) (R.length - k) (cc - k)) rfl (R.length - k) (itsC ((R.drop k).map IM.it)) (HBA.out k _ _ hb2) (by omega) (by first | omega | (simp; omega)) ?_; intro v3 w3 q1 q2 q3 q4; rw [show k + 1 + (R.length - k) = R.length + 1 by omega] at q1; obtain ⟨vp3, vc3, rfl⟩ := owns_formB0 q1; obtain ⟨d3, d4⟩ := HY0.out _ (HB3.out _ q2))
  have hb3 := HB3.out _ q2
  have ho3 : ∀ b, Value.ownBlock (.slice vp3 (R.length + 1) vc3) = some b → V0.heap.size ≤ b := fun b hb => by
    rcases q3 with e | e
    · exact ho2 b (by rw [← e]; exact hb)
    · rw [hb] at e; have := Option.some.inj e; omega
  have hq : w3.ownsRow B 69 2 (.slice vp3 (R.length + 1) vc3) (R.length + 1) (itsC ((insN R k key).map IM.it)) := by
    have e1 : itsC ((insN R k key).map IM.it) = itsC ((R.take k).map IM.it) ++ itsC [⟨key, .slice none 0 0⟩] ++ itsC ((R.drop k).map IM.it) := by
      rw [← itsC_append, ← itsC_append]; simp [insN]
    rw [e1]
    exact q1
  obtain ⟨R1, r, g, c, mp, mc, hv3, hk, hR, hml, hX1, hgl, hg1, hgf, hM1, hbx, HNE0, hWB, HQ⟩ := Rx.ready hbw2 (HX.out.below hbw2) hB hb3 hq ho3 hp hn hr2 HDAT.out
  clear q1 q2 q3 q4 hq ho3 hb3 d1 d2 d3 d4 HB3 HO2 ho2 hs2 hb2 hs1 hb1 HY0 HDAT hr2 g0 g1 c0 hbw2 hbw1 HX hXW HFR HBA hRc ha he hl hn hms hkk hWB0 hB hz0 hz1 hz2 hti
  rw [hv3] at hX1 hgl hg1 hgf hM1 hbx hWB HQ ⊢
  clear hv3
  obtain ⟨W, hW⟩ : ∃ W, W = w3.setCell ⟨y, 0, none⟩ (.slice (some ⟨g, 0, none⟩) R1.length c) := ⟨_, rfl⟩
  rw [← hW] at hX1 hgl hg1 hgf hM1 hbx hWB HQ ⊢
  clear hW
  have HX1 := Hid.mk'' hX1
  have HQ := Hid.mk'' HQ
  clear hX1
  generalize hb0' : w.heap.size = b0 at *
  clear hb0'
  have HNE : y ≠ g ∧ b0 ≠ g := HNE0
  clear HNE0
  obtain ⟨ti, hti, hz0, hz1, hz2⟩ := info_parts info37
  have HC : Hid (∀ V, Below W.heap.size W V → V.cell? ⟨y, 0, none⟩ = some (.slice (some ⟨g, 0, none⟩) R1.length c) ∧ V.cell? ⟨g, k * 2 + 1, none⟩ = some (.slice mp r.ms.length mc) ∧ V.frozen? ⟨g, k * 2 + 1, none⟩ = false ∧ V.cell? ⟨b0, 0, none⟩ = some (.int .i64 rev) ∧ V.cell? ⟨b0, 1, none⟩ = some (.bool false)) := fun V hb => ⟨(HX1.out.below hb).c0, (hb.cell (p := ⟨g, k * 2 + 1, none⟩) hgl).trans hg1, (hb.frozen (p := ⟨g, k * 2 + 1, none⟩) hgl).trans hgf, by simp [World.cell?, (hb.block b0 (Array.getElem?_eq_some_iff.1 hbx).1).trans hbx], by simp [World.cell?, (hb.block b0 (Array.getElem?_eq_some_iff.1 hbx).1).trans hbx]⟩
  have HSRC : Hid (∀ V, Below W.heap.size W V → Src Try.prog 2 41 (.slice mp r.ms.length mc) r.ms.length (mksC r.ms) V) := fun V hb => Src_owns Try.underlying41 (ownsRow_upd hM1 (Upd.ofBelow (S := fun _ => False) hb) (fun _ _ h => h)) (mksC_mem _)
  have HBK : Hid (∀ (V : World) (b : Nat), V.heap[b]? = some (.cells #[.int .i64 rev, .bool false] 37 (0, 0)) → Src Try.prog 2 41 (.slice (some ⟨b, 0, none⟩) 1 1) 1 (mkC (rev, false)) V) := fun V b hr => Src.ofSlice V Try.underlying41 ⟨b, 0, none⟩ 1 1 _ rfl (fun j u hj => by
    rw [Addr.add_lit, Nat.zero_add, cell_of_row _ _ _ _ _ _ hr]; simpa [mkC] using hj) (fun u hu => by simp [mkC] at hu; rcases hu with rfl | rfl <;> rfl)
  have HFIN : Hid (∀ w2 v2, Below W.heap.size W w2 → w2.ownsRow B 37 2 v2 (r.ms.length + 1) (mksC r.ms ++ mkC (rev, false)) → RPut w B y (.slice (some ⟨gg, 0, none⟩) R.length cc) (putD (dat R) key rev false) (w2.setCell ⟨g, k * 2 + 1, none⟩ v2)) := fun w2 v2 hb ho => HQ.out w2 v2 hb (by
    have e : mksC (r.ms ++ [(rev, false)]) = mksC r.ms ++ mkC (rev, false) := by rw [mksC_append]; simp [mksC]
    show World.ownsRow _ _ _ _ _ (r.ms ++ [(rev, false)]).length _
    rw [e, List.length_append, List.length_singleton]
    exact ho)
  have HOWN : Hid (∀ (V : World) (v v1 : Value), Below W.heap.size W V → (Value.ownBlock v1 = Value.ownBlock v ∨ Value.ownBlock v1 = some V.heap.size) → (∀ b, Value.ownBlock v = some b → W.heap.size ≤ b) → ∀ b, Value.ownBlock v1 = some b → W.heap.size ≤ b) := fun V v v1 hb h hv b hb' => by
    rcases h with h | h
    · exact hv b (by rw [← h]; exact hb')
    · rw [hb'] at h; have := Option.some.inj h; have := hb.size; omega
  have HBB : Hid (∀ V w1 v, Below W.heap.size W V → Upd V w1 (fun k => some k = Value.ownBlock v) → (∀ b, Value.ownBlock v = some b → W.heap.size ≤ b) → Below W.heap.size W w1) := fun V w1 v hb hu hv => hb.trans (hu.below hb.size (fun k hk e => by have := hv k e.symm; omega))
  have HOA : Hid (∀ A, W.heap.size ≤ A → ∀ b, Value.ownBlock (.slice (some ⟨A, 0, none⟩) 0 0) = some b → W.heap.size ≤ b) := fun A h b e => by have := Option.some.inj e; dsimp at this; omega
  have HNB : Hid (∀ A b : Nat, b ≠ A → ¬ (some b = Value.ownBlock (.slice (some ⟨A, 0, none⟩) 0 0))) := fun A b h e => h (Option.some.inj e)
  have hyg : y ≠ g := HNE.1
  have hbg : b0 ≠ g := HNE.2
  have HC2 : Hid (∀ V v, Below W.heap.size W V → (V.setCell ⟨g, k * 2 + 1, none⟩ v).cell? ⟨y, 0, none⟩ = some (.slice (some ⟨g, 0, none⟩) R1.length c) ∧ (V.setCell ⟨g, k * 2 + 1, none⟩ v).cell? ⟨b0, 0, none⟩ = some (.int .i64 rev) ∧ (V.setCell ⟨g, k * 2 + 1, none⟩ v).cell? ⟨b0, 1, none⟩ = some (.bool false)) := fun V v hb => by
    obtain ⟨a1, _, _, a4, a5⟩ := HC.out V hb
    exact ⟨by rw [World.cell?_setCell_other _ _ _ _ (fun e => hyg (by simp only [Addr.mk.injEq] at e; exact e.1.symm))]; exact a1, by rw [World.cell?_setCell_other _ _ _ _ (fun e => hbg (by simp only [Addr.mk.injEq] at e; exact e.1.symm))]; exact a4, by rw [World.cell?_setCell_other _ _ _ _ (fun e => hbg (by simp only [Addr.mk.injEq] at e; exact e.1.symm))]; exact a5⟩
  obtain ⟨d1, d2, d3, d4, d5⟩ := HC.out _ (Below.refl _ _)
  have da := fun o => HC.out _ ((Below.refl _ W).alloc (Nat.le_refl _) o)
  have db := fun o o' => HC.out _ (((Below.refl _ W).alloc (Nat.le_refl _) o).alloc (by simp) o')
  have da1 := fun o => (da o).1
  have da2 := fun o => (da o).2.1
  have da4 := fun o => (da o).2.2.2.1
  have da5 := fun o => (da o).2.2.2.2
  have db1 := fun o o' => (db o o').1
  have db2 := fun o o' => (db o o').2.1
  have db4 := fun o o' => (db o o').2.2.2.1
  have db5 := fun o o' => (db o o').2.2.2.2
  have hWB' : B ≤ W.heap.size := hWB
  clear HQ hM1 da db hg1 hgf hbx HX1
  have hA1 := row_alloc W #[] 37
  have hA2 : ∀ o, ((W.alloc (.cells #[] 37)).alloc o).heap[W.heap.size]? = some (.cells #[] 37 (0, 0)) := fun o => (Below.heap_alloc _ _ _ (by simp)).trans hA1
  have hA3 : ∀ o, ((W.alloc o).alloc (.cells #[] 37)).heap[W.heap.size + 1]? = some (.cells #[] 37 (0, 0)) := fun o => by have := row_alloc (W.alloc o) #[] 37; rwa [World.size_alloc] at this
  have hB1 := row_alloc W #[.int .i64 rev, .bool false] 37
  have hB2 : ∀ o, ((W.alloc (.cells #[.int .i64 rev, .bool false] 37)).alloc o).heap[W.heap.size]? = some (.cells #[.int .i64 rev, .bool false] 37 (0, 0)) := fun o => (Below.heap_alloc _ _ _ (by simp)).trans hB1
  have hB3 : ∀ o, ((W.alloc o).alloc (.cells #[.int .i64 rev, .bool false] 37)).heap[W.heap.size + 1]? = some (.cells #[.int .i64 rev, .bool false] 37 (0, 0)) := fun o => by have := row_alloc (W.alloc o) #[.int .i64 rev, .bool false] 37; rwa [World.size_alloc] at this
  refine wp_region_held_drew (S := (fun V => V.cell? ⟨y, 0, none⟩ = some (.slice (some ⟨g, 0, none⟩) R1.length c) ∧ V.cell? ⟨b0, 0, none⟩ = some (.int .i64 rev) ∧ V.cell? ⟨b0, 1, none⟩ = some (.bool false))) (by kernel_rfl) ⟨d1, d4, d5⟩ (fun hHeld => ?_)
  refine wpAnyH_take (i := 0) (oi := { dst := some 84, op := Go.Op.move (Go.Operand.tmp 0), type := 26, pos := "ref.go:68", after := #[], guard := none }) (v := ?_) rfl (by kernel_rfl) (by kernel_rfl) (by kernel_rfl) (fun _ _ _ h => h) (Or.inl ⟨by rfl, ?_⟩) (by assumption) ?_
  case refine_2 => (intro w0 hSw; (try dsimp only at hSw); go_simp; try with_reducible rfl)
  try simp only [Act.put, List.setIfInBounds_toArray, List.set_cons_zero, List.set_cons_succ]
  refine wpAnyH_take (i := 1) (oi := { dst := some 85, op := Go.Op.nilCheck (Go.Operand.tmp 84), type := 0, pos := "ref.go:68", after := #[{ on := 0, ground := Go.Ground.data }], guard := none }) (v := ?_) rfl (by kernel_rfl) (by kernel_rfl) (by kernel_rfl) (fun _ _ _ h => h) (Or.inl ⟨by rfl, ?_⟩) (by assumption) ?_
  case refine_2 => (intro w0 hSw; (try dsimp only at hSw); go_simp; try with_reducible rfl)
  try simp only [Act.put, List.setIfInBounds_toArray, List.set_cons_zero, List.set_cons_succ]
  refine wpAnyH_take (i := 2) (oi := { dst := some 86, op := Go.Op.fieldAddr 29 (Go.Operand.tmp 85) 0, type := 0, pos := "ref.go:68", after := #[{ on := 1, ground := Go.Ground.data }], guard := none }) (v := ?_) rfl (by kernel_rfl) (by kernel_rfl) (by kernel_rfl) (fun _ _ _ h => h) (Or.inl ⟨by rfl, ?_⟩) (by assumption) ?_
  case refine_2 => (intro w0 hSw; (try dsimp only at hSw); go_simp; try with_reducible rfl)
  try simp only [Act.put, List.setIfInBounds_toArray, List.set_cons_zero, List.set_cons_succ]
  refine wpAnyH_take (i := 3) (oi := { dst := some 87, op := Go.Op.load 27 (Go.Operand.tmp 86), type := 27, pos := "ref.go:68", after := #[{ on := 2, ground := Go.Ground.data }], guard := none }) (v := ?_) rfl (by kernel_rfl) (by kernel_rfl) (by kernel_rfl) (fun _ _ _ h => h) (Or.inl ⟨by rfl, ?_⟩) (by assumption) ?_
  case refine_2 => (intro w0 hSw; (try dsimp only at hSw); go_simp; try with_reducible rfl)
  try simp only [Act.put, List.setIfInBounds_toArray, List.set_cons_zero, List.set_cons_succ]
  refine wpAnyH_take (i := 4) (oi := { dst := some 88, op := Go.Op.move (Go.Operand.tmp 9), type := 3, pos := "ref.go:68", after := #[], guard := none }) (v := ?_) rfl (by kernel_rfl) (by kernel_rfl) (by kernel_rfl) (fun _ _ _ h => h) (Or.inl ⟨by rfl, ?_⟩) (by assumption) ?_
  case refine_2 => (intro w0 hSw; (try dsimp only at hSw); go_simp; try with_reducible rfl)
  try simp only [Act.put, List.setIfInBounds_toArray, List.set_cons_zero, List.set_cons_succ]
  refine wpAnyH_take (i := 6) (oi := { dst := some 90, op := Go.Op.move (Go.Operand.tmp 0), type := 26, pos := "ref.go:68", after := #[], guard := none }) (v := ?_) rfl (by kernel_rfl) (by kernel_rfl) (by kernel_rfl) (fun _ _ _ h => h) (Or.inl ⟨by rfl, ?_⟩) (by assumption) ?_
  case refine_2 => (intro w0 hSw; (try dsimp only at hSw); go_simp; try with_reducible rfl)
  try simp only [Act.put, List.setIfInBounds_toArray, List.set_cons_zero, List.set_cons_succ]
  refine wpAnyH_take (i := 7) (oi := { dst := some 91, op := Go.Op.nilCheck (Go.Operand.tmp 90), type := 0, pos := "ref.go:68", after := #[{ on := 6, ground := Go.Ground.data }], guard := none }) (v := ?_) rfl (by kernel_rfl) (by kernel_rfl) (by kernel_rfl) (fun _ _ _ h => h) (Or.inl ⟨by rfl, ?_⟩) (by assumption) ?_
  case refine_2 => (intro w0 hSw; (try dsimp only at hSw); go_simp; try with_reducible rfl)
  try simp only [Act.put, List.setIfInBounds_toArray, List.set_cons_zero, List.set_cons_succ]
  refine wpAnyH_take (i := 8) (oi := { dst := some 92, op := Go.Op.fieldAddr 29 (Go.Operand.tmp 91) 0, type := 0, pos := "ref.go:68", after := #[{ on := 7, ground := Go.Ground.data }], guard := none }) (v := ?_) rfl (by kernel_rfl) (by kernel_rfl) (by kernel_rfl) (fun _ _ _ h => h) (Or.inl ⟨by rfl, ?_⟩) (by assumption) ?_
  case refine_2 => (intro w0 hSw; (try dsimp only at hSw); go_simp; try with_reducible rfl)
  try simp only [Act.put, List.setIfInBounds_toArray, List.set_cons_zero, List.set_cons_succ]
  refine wpAnyH_take (i := 9) (oi := { dst := some 93, op := Go.Op.load 27 (Go.Operand.tmp 92), type := 27, pos := "ref.go:68", after := #[{ on := 8, ground := Go.Ground.data }], guard := none }) (v := ?_) rfl (by kernel_rfl) (by kernel_rfl) (by kernel_rfl) (fun _ _ _ h => h) (Or.inl ⟨by rfl, ?_⟩) (by assumption) ?_
  case refine_2 => (intro w0 hSw; (try dsimp only at hSw); go_simp; try with_reducible rfl)
  try simp only [Act.put, List.setIfInBounds_toArray, List.set_cons_zero, List.set_cons_succ]
  refine wpAnyH_take (i := 10) (oi := { dst := some 94, op := Go.Op.move (Go.Operand.tmp 9), type := 3, pos := "ref.go:68", after := #[], guard := none }) (v := ?_) rfl (by kernel_rfl) (by kernel_rfl) (by kernel_rfl) (fun _ _ _ h => h) (Or.inl ⟨by rfl, ?_⟩) (by assumption) ?_
  case refine_2 => (intro w0 hSw; (try dsimp only at hSw); go_simp; try with_reducible rfl)
  try simp only [Act.put, List.setIfInBounds_toArray, List.set_cons_zero, List.set_cons_succ]
  refine wpAnyH_take (i := 11) (oi := { dst := some 95, op := Go.Op.indexAddr 27 (Go.Operand.tmp 93) (Go.Operand.tmp 94), type := 0, pos := "ref.go:68", after := #[{ on := 9, ground := Go.Ground.data }, { on := 10, ground := Go.Ground.data }], guard := none }) (v := ?_) rfl (by kernel_rfl) (by kernel_rfl) (by kernel_rfl) (fun _ _ _ h => h) (Or.inl ⟨by rfl, ?_⟩) (by assumption) ?_
  case refine_2 => (intro w0 hSw; (try dsimp only at hSw); go_simp; try with_reducible rfl)
  try simp only [Act.put, List.setIfInBounds_toArray, List.set_cons_zero, List.set_cons_succ]
  refine wpAnyH_take (i := 12) (oi := { dst := some 96, op := Go.Op.fieldAddr 69 (Go.Operand.tmp 95) 1, type := 0, pos := "ref.go:68", after := #[{ on := 11, ground := Go.Ground.data }], guard := none }) (v := ?_) rfl (by kernel_rfl) (by kernel_rfl) (by kernel_rfl) (fun _ _ _ h => h) (Or.inl ⟨by rfl, ?_⟩) (by assumption) ?_
  case refine_2 => (intro w0 hSw; (try dsimp only at hSw); go_simp; try with_reducible rfl)
  try simp only [Act.put, List.setIfInBounds_toArray, List.set_cons_zero, List.set_cons_succ]
  refine wpAnyH_take (i := 15) (oi := { dst := some 99, op := Go.Op.load 37 (Go.Operand.tmp 5), type := 37, pos := "ref.go:68", after := #[], guard := none }) (v := ?_) rfl (by kernel_rfl) (by kernel_rfl) (by kernel_rfl) (fun _ _ _ h => h) (Or.inl ⟨by rfl, ?_⟩) (by assumption) ?_
  case refine_2 => (intro w0 hSw; (try dsimp only at hSw); go_simp; try with_reducible rfl)
  try simp only [Act.put, List.setIfInBounds_toArray, List.set_cons_zero, List.set_cons_succ]
  refine wpAnyH_ready (rs := [5, 13, 16]) (by kernel_rfl) (by simp) ?_
  refine AllReadyH.cons rfl (fun K hK => ?_) ?_
  · go_simp
    refine hK.out _ _ (by first | assumption | exact ⟨by assumption, by assumption, by assumption⟩ | exact ⟨da1 _, da4 _, da5 _⟩ | exact ⟨db1 _ _, db4 _ _, db5 _ _⟩ | exact ⟨ea1 _, ea4 _, ea5 _⟩) (fun hHeld2 => ?_)
    clear hK K hHeld
    have hHeld := hHeld2
    clear hHeld2
    try simp only [Act.put, List.setIfInBounds_toArray, List.set_cons_zero, List.set_cons_succ]
    refine wpAnyH_ready (rs := [13, 16]) (by kernel_rfl) (by simp) ?_
    refine AllReadyH.cons rfl (fun K hK => ?_) ?_
    · go_simp
      refine hK.out _ _ (by first | assumption | exact ⟨by assumption, by assumption, by assumption⟩ | exact ⟨da1 _, da4 _, da5 _⟩ | exact ⟨db1 _ _, db4 _ _, db5 _ _⟩ | exact ⟨ea1 _, ea4 _, ea5 _⟩) (fun hHeld2 => ?_)
      clear hK K hHeld
      have hHeld := hHeld2
      clear hHeld2
      try simp only [Act.put, List.setIfInBounds_toArray, List.set_cons_zero, List.set_cons_succ]
      refine wpAnyH_ready (rs := [14, 16]) (by kernel_rfl) (by simp) ?_
      refine AllReadyH.cons rfl (fun K hK => ?_) ?_
      · refine step_appS _ rfl _ _ 41 41 rfl B 37 ti _ 2 Try.underlying41 hti hz0 hz1 rfl (by rw [hz2]; omega) (.slice (some ⟨W.heap.size, 0, none⟩) 0 0) 0 [] (by simp [Act.eval]; done) (owns_empty (by first | exact hA1 | exact hA2 _ | exact hA3 _) (by omega)) (.slice mp r.ms.length mc) (by simp [Act.eval]; done) r.ms.length (mksC r.ms) (HSRC.out _ (by repeat (first | exact Below.refl _ _ | refine Below.drew ?_ | refine Below.alloc ?_ (by simp) _ | refine Below.alloc ?_ (by simp; omega) _))) (by omega) (by simp; omega) ?_
        intro v1 w1 q1 q2 q3 q4
        rw [Nat.zero_add, List.nil_append] at q1
        have hbv1 := HBB.out _ _ _ (by repeat (first | exact Below.refl _ _ | refine Below.drew ?_ | refine Below.alloc ?_ (by simp) _ | refine Below.alloc ?_ (by simp; omega) _)) q2 (HOA.out _ (by omega))
        have hown1 := HOWN.out _ _ _ (by repeat (first | exact Below.refl _ _ | refine Below.drew ?_ | refine Below.alloc ?_ (by simp) _ | refine Below.alloc ?_ (by simp; omega) _)) q3 (HOA.out _ (by omega))
        obtain ⟨e1, e2, e3, e4, e5⟩ := HC.out _ hbv1
        have ea := fun o => HC.out _ (hbv1.alloc hbv1.size o)
        have ea1 := fun o => (ea o).1
        have ea4 := fun o => (ea o).2.2.2.1
        have ea5 := fun o => (ea o).2.2.2.2
        clear ea
        have hv1s := hbv1.size
        have HQ1 : Hid (∀ V, Below w1.heap.size w1 V → V.ownsRow B 37 2 v1 r.ms.length (mksC r.ms)) := fun V hb => ownsRow_upd q1 (Upd.ofBelow (S := fun _ => False) hb) (fun _ _ h => h)
        have hbr := row_alloc w1 #[.int .i64 rev, .bool false] 37
        obtain ⟨vp1, vc1, rfl⟩ := owns_formB0 q1
        clear q1 q3 q4
        show K _ _
        refine hK.out _ _ (by first | assumption | exact ⟨by assumption, by assumption, by assumption⟩ | exact ⟨da1 _, da4 _, da5 _⟩ | exact ⟨db1 _ _, db4 _ _, db5 _ _⟩ | exact ⟨ea1 _, ea4 _, ea5 _⟩) (fun hHeld2 => ?_)
        clear hK K hHeld
        have hHeld := hHeld2
        clear hHeld2
        try simp only [Act.put, List.setIfInBounds_toArray]
        refine wpAnyH_ready (rs := [16]) (by kernel_rfl) (by simp) ?_
        refine AllReadyH.cons rfl (fun K hK => ?_) AllReadyH.nil
        go_simp
        refine hK.out _ _ (by first | assumption | exact ⟨by assumption, by assumption, by assumption⟩ | exact ⟨da1 _, da4 _, da5 _⟩ | exact ⟨db1 _ _, db4 _ _, db5 _ _⟩ | exact ⟨ea1 _, ea4 _, ea5 _⟩) (fun hHeld2 => ?_)
        clear hK K hHeld
        have hHeld := hHeld2
        clear hHeld2
        try simp only [Act.put, List.setIfInBounds_toArray, List.set_cons_zero, List.set_cons_succ]
        refine wpAnyH_ready (rs := [17]) (by kernel_rfl) (by simp) ?_
        refine AllReadyH.cons rfl (fun K hK => ?_) AllReadyH.nil
        refine step_appS _ rfl _ _ 41 41 rfl B 37 ti _ 2 Try.underlying41 hti hz0 hz1 rfl (by rw [hz2]; omega) (.slice vp1 r.ms.length vc1) r.ms.length (mksC r.ms) (by simp [Act.eval]; done) (HQ1.out _ (by repeat (first | exact Below.refl _ _ | refine Below.drew ?_ | refine Below.alloc ?_ (by simp) _ | refine Below.alloc ?_ (by simp; omega) _))) (.slice (some ⟨w1.heap.size, 0, none⟩) 1 1) (by simp [Act.eval]; done) 1 (mkC (rev, false)) (HBK.out _ _ hbr) (by omega) (by first | omega | (simp; omega)) ?_
        intro v2 w2 p1 p2 p3 p4
        have hbv2 := HBB.out _ _ _ (by first | exact hbv1 | exact hbv1.alloc hbv1.size _) p2 hown1
        obtain ⟨s1, s2, s3, s4, s5⟩ := HC.out _ hbv2
        obtain ⟨np2, nc2, rfl⟩ := owns_formB0 p1
        obtain ⟨t1, t4, t5⟩ := HC2.out _ (.slice np2 (r.ms.length + 1) nc2) hbv2
        show K _ _
        refine hK.out _ _ (by first | assumption | exact ⟨by assumption, by assumption, by assumption⟩ | exact ⟨da1 _, da4 _, da5 _⟩ | exact ⟨db1 _ _, db4 _ _, db5 _ _⟩ | exact ⟨ea1 _, ea4 _, ea5 _⟩) (fun hHeld2 => ?_)
        clear hK K hHeld
        have hHeld := hHeld2
        clear hHeld2
        try simp only [Act.put, List.setIfInBounds_toArray]
        refine wpAnyH_ready (rs := [18]) (by kernel_rfl) (by simp) ?_
        refine AllReadyH.cons rfl (fun K hK => ?_) AllReadyH.nil
        go_simp
        refine hK.out _ _ (by first | assumption | exact ⟨by assumption, by assumption, by assumption⟩ | exact ⟨da1 _, da4 _, da5 _⟩ | exact ⟨db1 _ _, db4 _ _, db5 _ _⟩ | exact ⟨ea1 _, ea4 _, ea5 _⟩) (fun hHeld2 => ?_)
        clear hK K hHeld
        have hHeld := hHeld2
        clear hHeld2
        try simp only [Act.put, List.setIfInBounds_toArray, List.set_cons_zero, List.set_cons_succ]
        refine wpAnyH_ready (rs := [19]) (by kernel_rfl) (by simp) ?_
        refine AllReadyH.cons rfl (fun K hK => ?_) AllReadyH.nil
        go_simp
        refine hK.out _ _ (by first | assumption | exact ⟨by assumption, by assumption, by assumption⟩ | exact ⟨da1 _, da4 _, da5 _⟩ | exact ⟨db1 _ _, db4 _ _, db5 _ _⟩ | exact ⟨ea1 _, ea4 _, ea5 _⟩) (fun hHeld2 => ?_)
        clear hK K hHeld
        have hHeld := hHeld2
        clear hHeld2
        try simp only [Act.put, List.setIfInBounds_toArray, List.set_cons_zero, List.set_cons_succ]
        refine wpAnyH_ready (rs := [20]) (by kernel_rfl) (by simp) ?_
        refine AllReadyH.cons rfl (fun K hK => ?_) AllReadyH.nil
        go_simp
        refine hK.out _ _ (by first | assumption | exact ⟨by assumption, by assumption, by assumption⟩ | exact ⟨da1 _, da4 _, da5 _⟩ | exact ⟨db1 _ _, db4 _ _, db5 _ _⟩ | exact ⟨ea1 _, ea4 _, ea5 _⟩) (fun hHeld2 => ?_)
        clear hK K hHeld
        have hHeld := hHeld2
        clear hHeld2
        try simp only [Act.put, List.setIfInBounds_toArray, List.set_cons_zero, List.set_cons_succ]
        refine wpAnyH_done (by kernel_rfl) ?_ _
        go_wp2
        go_ret
        exact ⟨rfl, HFIN.out _ _ hbv2 p1⟩
      refine AllReadyH.cons rfl (fun K hK => ?_) AllReadyH.nil
      go_simp
      refine hK.out _ _ (by first | assumption | exact ⟨by assumption, by assumption, by assumption⟩ | exact ⟨da1 _, da4 _, da5 _⟩ | exact ⟨db1 _ _, db4 _ _, db5 _ _⟩ | exact ⟨ea1 _, ea4 _, ea5 _⟩) (fun hHeld2 => ?_)
      clear hK K hHeld
      have hHeld := hHeld2
      clear hHeld2
      try simp only [Act.put, List.setIfInBounds_toArray, List.set_cons_zero, List.set_cons_succ]
      refine wpAnyH_ready (rs := [14]) (by kernel_rfl) (by simp) ?_
      refine AllReadyH.cons rfl (fun K hK => ?_) AllReadyH.nil
      refine step_appS _ rfl _ _ 41 41 rfl B 37 ti _ 2 Try.underlying41 hti hz0 hz1 rfl (by rw [hz2]; omega) (.slice (some ⟨W.heap.size, 0, none⟩) 0 0) 0 [] (by simp [Act.eval]; done) (owns_empty (by first | exact hA1 | exact hA2 _ | exact hA3 _) (by omega)) (.slice mp r.ms.length mc) (by simp [Act.eval]; done) r.ms.length (mksC r.ms) (HSRC.out _ (by repeat (first | exact Below.refl _ _ | refine Below.drew ?_ | refine Below.alloc ?_ (by simp) _ | refine Below.alloc ?_ (by simp; omega) _))) (by omega) (by simp; omega) ?_
      intro v1 w1 q1 q2 q3 q4
      rw [Nat.zero_add, List.nil_append] at q1
      have hbv1 := HBB.out _ _ _ (by repeat (first | exact Below.refl _ _ | refine Below.drew ?_ | refine Below.alloc ?_ (by simp) _ | refine Below.alloc ?_ (by simp; omega) _)) q2 (HOA.out _ (by omega))
      have hown1 := HOWN.out _ _ _ (by repeat (first | exact Below.refl _ _ | refine Below.drew ?_ | refine Below.alloc ?_ (by simp) _ | refine Below.alloc ?_ (by simp; omega) _)) q3 (HOA.out _ (by omega))
      obtain ⟨e1, e2, e3, e4, e5⟩ := HC.out _ hbv1
      have ea := fun o => HC.out _ (hbv1.alloc hbv1.size o)
      have ea1 := fun o => (ea o).1
      have ea4 := fun o => (ea o).2.2.2.1
      have ea5 := fun o => (ea o).2.2.2.2
      clear ea
      have hv1s := hbv1.size
      have HQ1 : Hid (∀ V, Below w1.heap.size w1 V → V.ownsRow B 37 2 v1 r.ms.length (mksC r.ms)) := fun V hb => ownsRow_upd q1 (Upd.ofBelow (S := fun _ => False) hb) (fun _ _ h => h)
      have hbr := (q2.block (W.heap.size + 1) (by first | omega | (simp; omega) | simp) (HNB.out _ _ (by omega))).trans (by first | exact hB1 | exact hB2 _ | exact hB3 _)
      obtain ⟨vp1, vc1, rfl⟩ := owns_formB0 q1
      clear q1 q3 q4
      show K _ _
      refine hK.out _ _ (by first | assumption | exact ⟨by assumption, by assumption, by assumption⟩ | exact ⟨da1 _, da4 _, da5 _⟩ | exact ⟨db1 _ _, db4 _ _, db5 _ _⟩ | exact ⟨ea1 _, ea4 _, ea5 _⟩) (fun hHeld2 => ?_)
      clear hK K hHeld
      have hHeld := hHeld2
      clear hHeld2
      try simp only [Act.put, List.setIfInBounds_toArray]
      refine wpAnyH_ready (rs := [17]) (by kernel_rfl) (by simp) ?_
      refine AllReadyH.cons rfl (fun K hK => ?_) AllReadyH.nil
      refine step_appS _ rfl _ _ 41 41 rfl B 37 ti _ 2 Try.underlying41 hti hz0 hz1 rfl (by rw [hz2]; omega) (.slice vp1 r.ms.length vc1) r.ms.length (mksC r.ms) (by simp [Act.eval]; done) (HQ1.out _ (by repeat (first | exact Below.refl _ _ | refine Below.drew ?_ | refine Below.alloc ?_ (by simp) _ | refine Below.alloc ?_ (by simp; omega) _))) (.slice (some ⟨W.heap.size + 1, 0, none⟩) 1 1) (by simp [Act.eval]; done) 1 (mkC (rev, false)) (HBK.out _ _ hbr) (by omega) (by first | omega | (simp; omega)) ?_
      intro v2 w2 p1 p2 p3 p4
      have hbv2 := HBB.out _ _ _ (by first | exact hbv1 | exact hbv1.alloc hbv1.size _) p2 hown1
      obtain ⟨s1, s2, s3, s4, s5⟩ := HC.out _ hbv2
      obtain ⟨np2, nc2, rfl⟩ := owns_formB0 p1
      obtain ⟨t1, t4, t5⟩ := HC2.out _ (.slice np2 (r.ms.length + 1) nc2) hbv2
      show K _ _
      refine hK.out _ _ (by first | assumption | exact ⟨by assumption, by assumption, by assumption⟩ | exact ⟨da1 _, da4 _, da5 _⟩ | exact ⟨db1 _ _, db4 _ _, db5 _ _⟩ | exact ⟨ea1 _, ea4 _, ea5 _⟩) (fun hHeld2 => ?_)
      clear hK K hHeld
      have hHeld := hHeld2
      clear hHeld2
      try simp only [Act.put]
      refine wpAnyH_ready (rs := [18]) (by kernel_rfl) (by simp) ?_
      refine AllReadyH.cons rfl (fun K hK => ?_) AllReadyH.nil
      go_simp
      refine hK.out _ _ (by first | assumption | exact ⟨by assumption, by assumption, by assumption⟩ | exact ⟨da1 _, da4 _, da5 _⟩ | exact ⟨db1 _ _, db4 _ _, db5 _ _⟩ | exact ⟨ea1 _, ea4 _, ea5 _⟩) (fun hHeld2 => ?_)
      clear hK K hHeld
      have hHeld := hHeld2
      clear hHeld2
      try simp only [Act.put, List.setIfInBounds_toArray, List.set_cons_zero, List.set_cons_succ]
      refine wpAnyH_ready (rs := [19]) (by kernel_rfl) (by simp) ?_
      refine AllReadyH.cons rfl (fun K hK => ?_) AllReadyH.nil
      go_simp
      refine hK.out _ _ (by first | assumption | exact ⟨by assumption, by assumption, by assumption⟩ | exact ⟨da1 _, da4 _, da5 _⟩ | exact ⟨db1 _ _, db4 _ _, db5 _ _⟩ | exact ⟨ea1 _, ea4 _, ea5 _⟩) (fun hHeld2 => ?_)
      clear hK K hHeld
      have hHeld := hHeld2
      clear hHeld2
      try simp only [Act.put, List.setIfInBounds_toArray, List.set_cons_zero, List.set_cons_succ]
      refine wpAnyH_ready (rs := [20]) (by kernel_rfl) (by simp) ?_
      refine AllReadyH.cons rfl (fun K hK => ?_) AllReadyH.nil
      go_simp
      refine hK.out _ _ (by first | assumption | exact ⟨by assumption, by assumption, by assumption⟩ | exact ⟨da1 _, da4 _, da5 _⟩ | exact ⟨db1 _ _, db4 _ _, db5 _ _⟩ | exact ⟨ea1 _, ea4 _, ea5 _⟩) (fun hHeld2 => ?_)
      clear hK K hHeld
      have hHeld := hHeld2
      clear hHeld2
      try simp only [Act.put, List.setIfInBounds_toArray, List.set_cons_zero, List.set_cons_succ]
      refine wpAnyH_done (by kernel_rfl) ?_ _
      go_wp2
      go_ret
      exact ⟨rfl, HFIN.out _ _ hbv2 p1⟩
    refine AllReadyH.cons rfl (fun K hK => ?_) AllReadyH.nil
    go_simp
    refine hK.out _ _ (by first | assumption | exact ⟨by assumption, by assumption, by assumption⟩ | exact ⟨da1 _, da4 _, da5 _⟩ | exact ⟨db1 _ _, db4 _ _, db5 _ _⟩ | exact ⟨ea1 _, ea4 _, ea5 _⟩) (fun hHeld2 => ?_)
    clear hK K hHeld
    have hHeld := hHeld2
    clear hHeld2
    try simp only [Act.put, List.setIfInBounds_toArray, List.set_cons_zero, List.set_cons_succ]
    refine wpAnyH_ready (rs := [13]) (by kernel_rfl) (by simp) ?_
    refine AllReadyH.cons rfl (fun K hK => ?_) AllReadyH.nil
    go_simp
    refine hK.out _ _ (by first | assumption | exact ⟨by assumption, by assumption, by assumption⟩ | exact ⟨da1 _, da4 _, da5 _⟩ | exact ⟨db1 _ _, db4 _ _, db5 _ _⟩ | exact ⟨ea1 _, ea4 _, ea5 _⟩) (fun hHeld2 => ?_)
    clear hK K hHeld
    have hHeld := hHeld2
    clear hHeld2
    try simp only [Act.put, List.setIfInBounds_toArray, List.set_cons_zero, List.set_cons_succ]
    refine wpAnyH_ready (rs := [14]) (by kernel_rfl) (by simp) ?_
    refine AllReadyH.cons rfl (fun K hK => ?_) AllReadyH.nil
    refine step_appS _ rfl _ _ 41 41 rfl B 37 ti _ 2 Try.underlying41 hti hz0 hz1 rfl (by rw [hz2]; omega) (.slice (some ⟨W.heap.size, 0, none⟩) 0 0) 0 [] (by simp [Act.eval]; done) (owns_empty (by first | exact hA1 | exact hA2 _ | exact hA3 _) (by omega)) (.slice mp r.ms.length mc) (by simp [Act.eval]; done) r.ms.length (mksC r.ms) (HSRC.out _ (by repeat (first | exact Below.refl _ _ | refine Below.drew ?_ | refine Below.alloc ?_ (by simp) _ | refine Below.alloc ?_ (by simp; omega) _))) (by omega) (by simp; omega) ?_
    intro v1 w1 q1 q2 q3 q4
    rw [Nat.zero_add, List.nil_append] at q1
    have hbv1 := HBB.out _ _ _ (by repeat (first | exact Below.refl _ _ | refine Below.drew ?_ | refine Below.alloc ?_ (by simp) _ | refine Below.alloc ?_ (by simp; omega) _)) q2 (HOA.out _ (by omega))
    have hown1 := HOWN.out _ _ _ (by repeat (first | exact Below.refl _ _ | refine Below.drew ?_ | refine Below.alloc ?_ (by simp) _ | refine Below.alloc ?_ (by simp; omega) _)) q3 (HOA.out _ (by omega))
    obtain ⟨e1, e2, e3, e4, e5⟩ := HC.out _ hbv1
    have ea := fun o => HC.out _ (hbv1.alloc hbv1.size o)
    have ea1 := fun o => (ea o).1
    have ea4 := fun o => (ea o).2.2.2.1
    have ea5 := fun o => (ea o).2.2.2.2
    clear ea
    have hv1s := hbv1.size
    have HQ1 : Hid (∀ V, Below w1.heap.size w1 V → V.ownsRow B 37 2 v1 r.ms.length (mksC r.ms)) := fun V hb => ownsRow_upd q1 (Upd.ofBelow (S := fun _ => False) hb) (fun _ _ h => h)
    have hbr := (q2.block (W.heap.size + 1) (by first | omega | (simp; omega) | simp) (HNB.out _ _ (by omega))).trans (by first | exact hB1 | exact hB2 _ | exact hB3 _)
    obtain ⟨vp1, vc1, rfl⟩ := owns_formB0 q1
    clear q1 q3 q4
    show K _ _
    refine hK.out _ _ (by first | assumption | exact ⟨by assumption, by assumption, by assumption⟩ | exact ⟨da1 _, da4 _, da5 _⟩ | exact ⟨db1 _ _, db4 _ _, db5 _ _⟩ | exact ⟨ea1 _, ea4 _, ea5 _⟩) (fun hHeld2 => ?_)
    clear hK K hHeld
    have hHeld := hHeld2
    clear hHeld2
    try simp only [Act.put, List.setIfInBounds_toArray]
    refine wpAnyH_ready (rs := [17]) (by kernel_rfl) (by simp) ?_
    refine AllReadyH.cons rfl (fun K hK => ?_) AllReadyH.nil
    refine step_appS _ rfl _ _ 41 41 rfl B 37 ti _ 2 Try.underlying41 hti hz0 hz1 rfl (by rw [hz2]; omega) (.slice vp1 r.ms.length vc1) r.ms.length (mksC r.ms) (by simp [Act.eval]; done) (HQ1.out _ (by repeat (first | exact Below.refl _ _ | refine Below.drew ?_ | refine Below.alloc ?_ (by simp) _ | refine Below.alloc ?_ (by simp; omega) _))) (.slice (some ⟨W.heap.size + 1, 0, none⟩) 1 1) (by simp [Act.eval]; done) 1 (mkC (rev, false)) (HBK.out _ _ hbr) (by omega) (by first | omega | (simp; omega)) ?_
    intro v2 w2 p1 p2 p3 p4
    have hbv2 := HBB.out _ _ _ (by first | exact hbv1 | exact hbv1.alloc hbv1.size _) p2 hown1
    obtain ⟨s1, s2, s3, s4, s5⟩ := HC.out _ hbv2
    obtain ⟨np2, nc2, rfl⟩ := owns_formB0 p1
    obtain ⟨t1, t4, t5⟩ := HC2.out _ (.slice np2 (r.ms.length + 1) nc2) hbv2
    show K _ _
    refine hK.out _ _ (by first | assumption | exact ⟨by assumption, by assumption, by assumption⟩ | exact ⟨da1 _, da4 _, da5 _⟩ | exact ⟨db1 _ _, db4 _ _, db5 _ _⟩ | exact ⟨ea1 _, ea4 _, ea5 _⟩) (fun hHeld2 => ?_)
    clear hK K hHeld
    have hHeld := hHeld2
    clear hHeld2
    try simp only [Act.put]
    refine wpAnyH_ready (rs := [18]) (by kernel_rfl) (by simp) ?_
    refine AllReadyH.cons rfl (fun K hK => ?_) AllReadyH.nil
    go_simp
    refine hK.out _ _ (by first | assumption | exact ⟨by assumption, by assumption, by assumption⟩ | exact ⟨da1 _, da4 _, da5 _⟩ | exact ⟨db1 _ _, db4 _ _, db5 _ _⟩ | exact ⟨ea1 _, ea4 _, ea5 _⟩) (fun hHeld2 => ?_)
    clear hK K hHeld
    have hHeld := hHeld2
    clear hHeld2
    try simp only [Act.put, List.setIfInBounds_toArray, List.set_cons_zero, List.set_cons_succ]
    refine wpAnyH_ready (rs := [19]) (by kernel_rfl) (by simp) ?_
    refine AllReadyH.cons rfl (fun K hK => ?_) AllReadyH.nil
    go_simp
    refine hK.out _ _ (by first | assumption | exact ⟨by assumption, by assumption, by assumption⟩ | exact ⟨da1 _, da4 _, da5 _⟩ | exact ⟨db1 _ _, db4 _ _, db5 _ _⟩ | exact ⟨ea1 _, ea4 _, ea5 _⟩) (fun hHeld2 => ?_)
    clear hK K hHeld
    have hHeld := hHeld2
    clear hHeld2
    try simp only [Act.put, List.setIfInBounds_toArray, List.set_cons_zero, List.set_cons_succ]
    refine wpAnyH_ready (rs := [20]) (by kernel_rfl) (by simp) ?_
    refine AllReadyH.cons rfl (fun K hK => ?_) AllReadyH.nil
    go_simp
    refine hK.out _ _ (by first | assumption | exact ⟨by assumption, by assumption, by assumption⟩ | exact ⟨da1 _, da4 _, da5 _⟩ | exact ⟨db1 _ _, db4 _ _, db5 _ _⟩ | exact ⟨ea1 _, ea4 _, ea5 _⟩) (fun hHeld2 => ?_)
    clear hK K hHeld
    have hHeld := hHeld2
    clear hHeld2
    try simp only [Act.put, List.setIfInBounds_toArray, List.set_cons_zero, List.set_cons_succ]
    refine wpAnyH_done (by kernel_rfl) ?_ _
    go_wp2
    go_ret
    exact ⟨rfl, HFIN.out _ _ hbv2 p1⟩
  refine AllReadyH.cons rfl (fun K hK => ?_) ?_
  · go_simp
    refine hK.out _ _ (by first | assumption | exact ⟨by assumption, by assumption, by assumption⟩ | exact ⟨da1 _, da4 _, da5 _⟩ | exact ⟨db1 _ _, db4 _ _, db5 _ _⟩ | exact ⟨ea1 _, ea4 _, ea5 _⟩) (fun hHeld2 => ?_)
    clear hK K hHeld
    have hHeld := hHeld2
    clear hHeld2
    try simp only [Act.put, List.setIfInBounds_toArray, List.set_cons_zero, List.set_cons_succ]
    refine wpAnyH_ready (rs := [5, 16]) (by kernel_rfl) (by simp) ?_
    refine AllReadyH.cons rfl (fun K hK => ?_) ?_
    · go_simp
      refine hK.out _ _ (by first | assumption | exact ⟨by assumption, by assumption, by assumption⟩ | exact ⟨da1 _, da4 _, da5 _⟩ | exact ⟨db1 _ _, db4 _ _, db5 _ _⟩ | exact ⟨ea1 _, ea4 _, ea5 _⟩) (fun hHeld2 => ?_)
      clear hK K hHeld
      have hHeld := hHeld2
      clear hHeld2
      try simp only [Act.put, List.setIfInBounds_toArray, List.set_cons_zero, List.set_cons_succ]
      refine wpAnyH_ready (rs := [14, 16]) (by kernel_rfl) (by simp) ?_
      refine AllReadyH.cons rfl (fun K hK => ?_) ?_
      · refine step_appS _ rfl _ _ 41 41 rfl B 37 ti _ 2 Try.underlying41 hti hz0 hz1 rfl (by rw [hz2]; omega) (.slice (some ⟨W.heap.size, 0, none⟩) 0 0) 0 [] (by simp [Act.eval]; done) (owns_empty (by first | exact hA1 | exact hA2 _ | exact hA3 _) (by omega)) (.slice mp r.ms.length mc) (by simp [Act.eval]; done) r.ms.length (mksC r.ms) (HSRC.out _ (by repeat (first | exact Below.refl _ _ | refine Below.drew ?_ | refine Below.alloc ?_ (by simp) _ | refine Below.alloc ?_ (by simp; omega) _))) (by omega) (by simp; omega) ?_
        intro v1 w1 q1 q2 q3 q4
        rw [Nat.zero_add, List.nil_append] at q1
        have hbv1 := HBB.out _ _ _ (by repeat (first | exact Below.refl _ _ | refine Below.drew ?_ | refine Below.alloc ?_ (by simp) _ | refine Below.alloc ?_ (by simp; omega) _)) q2 (HOA.out _ (by omega))
        have hown1 := HOWN.out _ _ _ (by repeat (first | exact Below.refl _ _ | refine Below.drew ?_ | refine Below.alloc ?_ (by simp) _ | refine Below.alloc ?_ (by simp; omega) _)) q3 (HOA.out _ (by omega))
        obtain ⟨e1, e2, e3, e4, e5⟩ := HC.out _ hbv1
        have ea := fun o => HC.out _ (hbv1.alloc hbv1.size o)
        have ea1 := fun o => (ea o).1
        have ea4 := fun o => (ea o).2.2.2.1
        have ea5 := fun o => (ea o).2.2.2.2
        clear ea
        have hv1s := hbv1.size
        have HQ1 : Hid (∀ V, Below w1.heap.size w1 V → V.ownsRow B 37 2 v1 r.ms.length (mksC r.ms)) := fun V hb => ownsRow_upd q1 (Upd.ofBelow (S := fun _ => False) hb) (fun _ _ h => h)
        have hbr := row_alloc w1 #[.int .i64 rev, .bool false] 37
        obtain ⟨vp1, vc1, rfl⟩ := owns_formB0 q1
        clear q1 q3 q4
        show K _ _
        refine hK.out _ _ (by first | assumption | exact ⟨by assumption, by assumption, by assumption⟩ | exact ⟨da1 _, da4 _, da5 _⟩ | exact ⟨db1 _ _, db4 _ _, db5 _ _⟩ | exact ⟨ea1 _, ea4 _, ea5 _⟩) (fun hHeld2 => ?_)
        clear hK K hHeld
        have hHeld := hHeld2
        clear hHeld2
        try simp only [Act.put, List.setIfInBounds_toArray]
        refine wpAnyH_ready (rs := [16]) (by kernel_rfl) (by simp) ?_
        refine AllReadyH.cons rfl (fun K hK => ?_) AllReadyH.nil
        go_simp
        refine hK.out _ _ (by first | assumption | exact ⟨by assumption, by assumption, by assumption⟩ | exact ⟨da1 _, da4 _, da5 _⟩ | exact ⟨db1 _ _, db4 _ _, db5 _ _⟩ | exact ⟨ea1 _, ea4 _, ea5 _⟩) (fun hHeld2 => ?_)
        clear hK K hHeld
        have hHeld := hHeld2
        clear hHeld2
        try simp only [Act.put, List.setIfInBounds_toArray, List.set_cons_zero, List.set_cons_succ]
        refine wpAnyH_ready (rs := [17]) (by kernel_rfl) (by simp) ?_
        refine AllReadyH.cons rfl (fun K hK => ?_) AllReadyH.nil
        refine step_appS _ rfl _ _ 41 41 rfl B 37 ti _ 2 Try.underlying41 hti hz0 hz1 rfl (by rw [hz2]; omega) (.slice vp1 r.ms.length vc1) r.ms.length (mksC r.ms) (by simp [Act.eval]; done) (HQ1.out _ (by repeat (first | exact Below.refl _ _ | refine Below.drew ?_ | refine Below.alloc ?_ (by simp) _ | refine Below.alloc ?_ (by simp; omega) _))) (.slice (some ⟨w1.heap.size, 0, none⟩) 1 1) (by simp [Act.eval]; done) 1 (mkC (rev, false)) (HBK.out _ _ hbr) (by omega) (by first | omega | (simp; omega)) ?_
        intro v2 w2 p1 p2 p3 p4
        have hbv2 := HBB.out _ _ _ (by first | exact hbv1 | exact hbv1.alloc hbv1.size _) p2 hown1
        obtain ⟨s1, s2, s3, s4, s5⟩ := HC.out _ hbv2
        obtain ⟨np2, nc2, rfl⟩ := owns_formB0 p1
        obtain ⟨t1, t4, t5⟩ := HC2.out _ (.slice np2 (r.ms.length + 1) nc2) hbv2
        show K _ _
        refine hK.out _ _ (by first | assumption | exact ⟨by assumption, by assumption, by assumption⟩ | exact ⟨da1 _, da4 _, da5 _⟩ | exact ⟨db1 _ _, db4 _ _, db5 _ _⟩ | exact ⟨ea1 _, ea4 _, ea5 _⟩) (fun hHeld2 => ?_)
        clear hK K hHeld
        have hHeld := hHeld2
        clear hHeld2
        try simp only [Act.put, List.setIfInBounds_toArray]
        refine wpAnyH_ready (rs := [18]) (by kernel_rfl) (by simp) ?_
        refine AllReadyH.cons rfl (fun K hK => ?_) AllReadyH.nil
        go_simp
        refine hK.out _ _ (by first | assumption | exact ⟨by assumption, by assumption, by assumption⟩ | exact ⟨da1 _, da4 _, da5 _⟩ | exact ⟨db1 _ _, db4 _ _, db5 _ _⟩ | exact ⟨ea1 _, ea4 _, ea5 _⟩) (fun hHeld2 => ?_)
        clear hK K hHeld
        have hHeld := hHeld2
        clear hHeld2
        try simp only [Act.put, List.setIfInBounds_toArray, List.set_cons_zero, List.set_cons_succ]
        refine wpAnyH_ready (rs := [19]) (by kernel_rfl) (by simp) ?_
        refine AllReadyH.cons rfl (fun K hK => ?_) AllReadyH.nil
        go_simp
        refine hK.out _ _ (by first | assumption | exact ⟨by assumption, by assumption, by assumption⟩ | exact ⟨da1 _, da4 _, da5 _⟩ | exact ⟨db1 _ _, db4 _ _, db5 _ _⟩ | exact ⟨ea1 _, ea4 _, ea5 _⟩) (fun hHeld2 => ?_)
        clear hK K hHeld
        have hHeld := hHeld2
        clear hHeld2
        try simp only [Act.put, List.setIfInBounds_toArray, List.set_cons_zero, List.set_cons_succ]
        refine wpAnyH_ready (rs := [20]) (by kernel_rfl) (by simp) ?_
        refine AllReadyH.cons rfl (fun K hK => ?_) AllReadyH.nil
        go_simp
        refine hK.out _ _ (by first | assumption | exact ⟨by assumption, by assumption, by assumption⟩ | exact ⟨da1 _, da4 _, da5 _⟩ | exact ⟨db1 _ _, db4 _ _, db5 _ _⟩ | exact ⟨ea1 _, ea4 _, ea5 _⟩) (fun hHeld2 => ?_)
        clear hK K hHeld
        have hHeld := hHeld2
        clear hHeld2
        try simp only [Act.put, List.setIfInBounds_toArray, List.set_cons_zero, List.set_cons_succ]
        refine wpAnyH_done (by kernel_rfl) ?_ _
        go_wp2
        go_ret
        exact ⟨rfl, HFIN.out _ _ hbv2 p1⟩
      refine AllReadyH.cons rfl (fun K hK => ?_) AllReadyH.nil
      go_simp
      refine hK.out _ _ (by first | assumption | exact ⟨by assumption, by assumption, by assumption⟩ | exact ⟨da1 _, da4 _, da5 _⟩ | exact ⟨db1 _ _, db4 _ _, db5 _ _⟩ | exact ⟨ea1 _, ea4 _, ea5 _⟩) (fun hHeld2 => ?_)
      clear hK K hHeld
      have hHeld := hHeld2
      clear hHeld2
      try simp only [Act.put, List.setIfInBounds_toArray, List.set_cons_zero, List.set_cons_succ]
      refine wpAnyH_ready (rs := [14]) (by kernel_rfl) (by simp) ?_
      refine AllReadyH.cons rfl (fun K hK => ?_) AllReadyH.nil
      refine step_appS _ rfl _ _ 41 41 rfl B 37 ti _ 2 Try.underlying41 hti hz0 hz1 rfl (by rw [hz2]; omega) (.slice (some ⟨W.heap.size, 0, none⟩) 0 0) 0 [] (by simp [Act.eval]; done) (owns_empty (by first | exact hA1 | exact hA2 _ | exact hA3 _) (by omega)) (.slice mp r.ms.length mc) (by simp [Act.eval]; done) r.ms.length (mksC r.ms) (HSRC.out _ (by repeat (first | exact Below.refl _ _ | refine Below.drew ?_ | refine Below.alloc ?_ (by simp) _ | refine Below.alloc ?_ (by simp; omega) _))) (by omega) (by simp; omega) ?_
      intro v1 w1 q1 q2 q3 q4
      rw [Nat.zero_add, List.nil_append] at q1
      have hbv1 := HBB.out _ _ _ (by repeat (first | exact Below.refl _ _ | refine Below.drew ?_ | refine Below.alloc ?_ (by simp) _ | refine Below.alloc ?_ (by simp; omega) _)) q2 (HOA.out _ (by omega))
      have hown1 := HOWN.out _ _ _ (by repeat (first | exact Below.refl _ _ | refine Below.drew ?_ | refine Below.alloc ?_ (by simp) _ | refine Below.alloc ?_ (by simp; omega) _)) q3 (HOA.out _ (by omega))
      obtain ⟨e1, e2, e3, e4, e5⟩ := HC.out _ hbv1
      have ea := fun o => HC.out _ (hbv1.alloc hbv1.size o)
      have ea1 := fun o => (ea o).1
      have ea4 := fun o => (ea o).2.2.2.1
      have ea5 := fun o => (ea o).2.2.2.2
      clear ea
      have hv1s := hbv1.size
      have HQ1 : Hid (∀ V, Below w1.heap.size w1 V → V.ownsRow B 37 2 v1 r.ms.length (mksC r.ms)) := fun V hb => ownsRow_upd q1 (Upd.ofBelow (S := fun _ => False) hb) (fun _ _ h => h)
      have hbr := (q2.block (W.heap.size + 1) (by first | omega | (simp; omega) | simp) (HNB.out _ _ (by omega))).trans (by first | exact hB1 | exact hB2 _ | exact hB3 _)
      obtain ⟨vp1, vc1, rfl⟩ := owns_formB0 q1
      clear q1 q3 q4
      show K _ _
      refine hK.out _ _ (by first | assumption | exact ⟨by assumption, by assumption, by assumption⟩ | exact ⟨da1 _, da4 _, da5 _⟩ | exact ⟨db1 _ _, db4 _ _, db5 _ _⟩ | exact ⟨ea1 _, ea4 _, ea5 _⟩) (fun hHeld2 => ?_)
      clear hK K hHeld
      have hHeld := hHeld2
      clear hHeld2
      try simp only [Act.put, List.setIfInBounds_toArray]
      refine wpAnyH_ready (rs := [17]) (by kernel_rfl) (by simp) ?_
      refine AllReadyH.cons rfl (fun K hK => ?_) AllReadyH.nil
      refine step_appS _ rfl _ _ 41 41 rfl B 37 ti _ 2 Try.underlying41 hti hz0 hz1 rfl (by rw [hz2]; omega) (.slice vp1 r.ms.length vc1) r.ms.length (mksC r.ms) (by simp [Act.eval]; done) (HQ1.out _ (by repeat (first | exact Below.refl _ _ | refine Below.drew ?_ | refine Below.alloc ?_ (by simp) _ | refine Below.alloc ?_ (by simp; omega) _))) (.slice (some ⟨W.heap.size + 1, 0, none⟩) 1 1) (by simp [Act.eval]; done) 1 (mkC (rev, false)) (HBK.out _ _ hbr) (by omega) (by first | omega | (simp; omega)) ?_
      intro v2 w2 p1 p2 p3 p4
      have hbv2 := HBB.out _ _ _ (by first | exact hbv1 | exact hbv1.alloc hbv1.size _) p2 hown1
      obtain ⟨s1, s2, s3, s4, s5⟩ := HC.out _ hbv2
      obtain ⟨np2, nc2, rfl⟩ := owns_formB0 p1
      obtain ⟨t1, t4, t5⟩ := HC2.out _ (.slice np2 (r.ms.length + 1) nc2) hbv2
      show K _ _
      refine hK.out _ _ (by first | assumption | exact ⟨by assumption, by assumption, by assumption⟩ | exact ⟨da1 _, da4 _, da5 _⟩ | exact ⟨db1 _ _, db4 _ _, db5 _ _⟩ | exact ⟨ea1 _, ea4 _, ea5 _⟩) (fun hHeld2 => ?_)
      clear hK K hHeld
      have hHeld := hHeld2
      clear hHeld2
      try simp only [Act.put]
      refine wpAnyH_ready (rs := [18]) (by kernel_rfl) (by simp) ?_
      refine AllReadyH.cons rfl (fun K hK => ?_) AllReadyH.nil
      go_simp
      refine hK.out _ _ (by first | assumption | exact ⟨by assumption, by assumption, by assumption⟩ | exact ⟨da1 _, da4 _, da5 _⟩ | exact ⟨db1 _ _, db4 _ _, db5 _ _⟩ | exact ⟨ea1 _, ea4 _, ea5 _⟩) (fun hHeld2 => ?_)
      clear hK K hHeld
      have hHeld := hHeld2
      clear hHeld2
      try simp only [Act.put, List.setIfInBounds_toArray, List.set_cons_zero, List.set_cons_succ]
      refine wpAnyH_ready (rs := [19]) (by kernel_rfl) (by simp) ?_
      refine AllReadyH.cons rfl (fun K hK => ?_) AllReadyH.nil
      go_simp
      refine hK.out _ _ (by first | assumption | exact ⟨by assumption, by assumption, by assumption⟩ | exact ⟨da1 _, da4 _, da5 _⟩ | exact ⟨db1 _ _, db4 _ _, db5 _ _⟩ | exact ⟨ea1 _, ea4 _, ea5 _⟩) (fun hHeld2 => ?_)
      clear hK K hHeld
      have hHeld := hHeld2
      clear hHeld2
      try simp only [Act.put, List.setIfInBounds_toArray, List.set_cons_zero, List.set_cons_succ]
      refine wpAnyH_ready (rs := [20]) (by kernel_rfl) (by simp) ?_
      refine AllReadyH.cons rfl (fun K hK => ?_) AllReadyH.nil
      go_simp
      refine hK.out _ _ (by first | assumption | exact ⟨by assumption, by assumption, by assumption⟩ | exact ⟨da1 _, da4 _, da5 _⟩ | exact ⟨db1 _ _, db4 _ _, db5 _ _⟩ | exact ⟨ea1 _, ea4 _, ea5 _⟩) (fun hHeld2 => ?_)
      clear hK K hHeld
      have hHeld := hHeld2
      clear hHeld2
      try simp only [Act.put, List.setIfInBounds_toArray, List.set_cons_zero, List.set_cons_succ]
      refine wpAnyH_done (by kernel_rfl) ?_ _
      go_wp2
      go_ret
      exact ⟨rfl, HFIN.out _ _ hbv2 p1⟩
    refine AllReadyH.cons rfl (fun K hK => ?_) AllReadyH.nil
    go_simp
    refine hK.out _ _ (by first | assumption | exact ⟨by assumption, by assumption, by assumption⟩ | exact ⟨da1 _, da4 _, da5 _⟩ | exact ⟨db1 _ _, db4 _ _, db5 _ _⟩ | exact ⟨ea1 _, ea4 _, ea5 _⟩) (fun hHeld2 => ?_)
    clear hK K hHeld
    have hHeld := hHeld2
    clear hHeld2
    try simp only [Act.put, List.setIfInBounds_toArray, List.set_cons_zero, List.set_cons_succ]
    refine wpAnyH_ready (rs := [5]) (by kernel_rfl) (by simp) ?_
    refine AllReadyH.cons rfl (fun K hK => ?_) AllReadyH.nil
    go_simp
    refine hK.out _ _ (by first | assumption | exact ⟨by assumption, by assumption, by assumption⟩ | exact ⟨da1 _, da4 _, da5 _⟩ | exact ⟨db1 _ _, db4 _ _, db5 _ _⟩ | exact ⟨ea1 _, ea4 _, ea5 _⟩) (fun hHeld2 => ?_)
    clear hK K hHeld
    have hHeld := hHeld2
    clear hHeld2
    try simp only [Act.put, List.setIfInBounds_toArray, List.set_cons_zero, List.set_cons_succ]
    refine wpAnyH_ready (rs := [14]) (by kernel_rfl) (by simp) ?_
    refine AllReadyH.cons rfl (fun K hK => ?_) AllReadyH.nil
    refine step_appS _ rfl _ _ 41 41 rfl B 37 ti _ 2 Try.underlying41 hti hz0 hz1 rfl (by rw [hz2]; omega) (.slice (some ⟨W.heap.size + 1, 0, none⟩) 0 0) 0 [] (by simp [Act.eval]; done) (owns_empty (by first | exact hA1 | exact hA2 _ | exact hA3 _) (by omega)) (.slice mp r.ms.length mc) (by simp [Act.eval]; done) r.ms.length (mksC r.ms) (HSRC.out _ (by repeat (first | exact Below.refl _ _ | refine Below.drew ?_ | refine Below.alloc ?_ (by simp) _ | refine Below.alloc ?_ (by simp; omega) _))) (by omega) (by simp; omega) ?_
    intro v1 w1 q1 q2 q3 q4
    rw [Nat.zero_add, List.nil_append] at q1
    have hbv1 := HBB.out _ _ _ (by repeat (first | exact Below.refl _ _ | refine Below.drew ?_ | refine Below.alloc ?_ (by simp) _ | refine Below.alloc ?_ (by simp; omega) _)) q2 (HOA.out _ (by omega))
    have hown1 := HOWN.out _ _ _ (by repeat (first | exact Below.refl _ _ | refine Below.drew ?_ | refine Below.alloc ?_ (by simp) _ | refine Below.alloc ?_ (by simp; omega) _)) q3 (HOA.out _ (by omega))
    obtain ⟨e1, e2, e3, e4, e5⟩ := HC.out _ hbv1
    have ea := fun o => HC.out _ (hbv1.alloc hbv1.size o)
    have ea1 := fun o => (ea o).1
    have ea4 := fun o => (ea o).2.2.2.1
    have ea5 := fun o => (ea o).2.2.2.2
    clear ea
    have hv1s := hbv1.size
    have HQ1 : Hid (∀ V, Below w1.heap.size w1 V → V.ownsRow B 37 2 v1 r.ms.length (mksC r.ms)) := fun V hb => ownsRow_upd q1 (Upd.ofBelow (S := fun _ => False) hb) (fun _ _ h => h)
    have hbr := (q2.block (W.heap.size) (by first | omega | (simp; omega) | simp) (HNB.out _ _ (by omega))).trans (by first | exact hB1 | exact hB2 _ | exact hB3 _)
    obtain ⟨vp1, vc1, rfl⟩ := owns_formB0 q1
    clear q1 q3 q4
    show K _ _
    refine hK.out _ _ (by first | assumption | exact ⟨by assumption, by assumption, by assumption⟩ | exact ⟨da1 _, da4 _, da5 _⟩ | exact ⟨db1 _ _, db4 _ _, db5 _ _⟩ | exact ⟨ea1 _, ea4 _, ea5 _⟩) (fun hHeld2 => ?_)
    clear hK K hHeld
    have hHeld := hHeld2
    clear hHeld2
    try simp only [Act.put, List.setIfInBounds_toArray]
    refine wpAnyH_ready (rs := [17]) (by kernel_rfl) (by simp) ?_
    refine AllReadyH.cons rfl (fun K hK => ?_) AllReadyH.nil
    refine step_appS _ rfl _ _ 41 41 rfl B 37 ti _ 2 Try.underlying41 hti hz0 hz1 rfl (by rw [hz2]; omega) (.slice vp1 r.ms.length vc1) r.ms.length (mksC r.ms) (by simp [Act.eval]; done) (HQ1.out _ (by repeat (first | exact Below.refl _ _ | refine Below.drew ?_ | refine Below.alloc ?_ (by simp) _ | refine Below.alloc ?_ (by simp; omega) _))) (.slice (some ⟨W.heap.size, 0, none⟩) 1 1) (by simp [Act.eval]; done) 1 (mkC (rev, false)) (HBK.out _ _ hbr) (by omega) (by first | omega | (simp; omega)) ?_
    intro v2 w2 p1 p2 p3 p4
    have hbv2 := HBB.out _ _ _ (by first | exact hbv1 | exact hbv1.alloc hbv1.size _) p2 hown1
    obtain ⟨s1, s2, s3, s4, s5⟩ := HC.out _ hbv2
    obtain ⟨np2, nc2, rfl⟩ := owns_formB0 p1
    obtain ⟨t1, t4, t5⟩ := HC2.out _ (.slice np2 (r.ms.length + 1) nc2) hbv2
    show K _ _
    refine hK.out _ _ (by first | assumption | exact ⟨by assumption, by assumption, by assumption⟩ | exact ⟨da1 _, da4 _, da5 _⟩ | exact ⟨db1 _ _, db4 _ _, db5 _ _⟩ | exact ⟨ea1 _, ea4 _, ea5 _⟩) (fun hHeld2 => ?_)
    clear hK K hHeld
    have hHeld := hHeld2
    clear hHeld2
    try simp only [Act.put]
    refine wpAnyH_ready (rs := [18]) (by kernel_rfl) (by simp) ?_
    refine AllReadyH.cons rfl (fun K hK => ?_) AllReadyH.nil
    go_simp
    refine hK.out _ _ (by first | assumption | exact ⟨by assumption, by assumption, by assumption⟩ | exact ⟨da1 _, da4 _, da5 _⟩ | exact ⟨db1 _ _, db4 _ _, db5 _ _⟩ | exact ⟨ea1 _, ea4 _, ea5 _⟩) (fun hHeld2 => ?_)
    clear hK K hHeld
    have hHeld := hHeld2
    clear hHeld2
    try simp only [Act.put, List.setIfInBounds_toArray, List.set_cons_zero, List.set_cons_succ]
    refine wpAnyH_ready (rs := [19]) (by kernel_rfl) (by simp) ?_
    refine AllReadyH.cons rfl (fun K hK => ?_) AllReadyH.nil
    go_simp
    refine hK.out _ _ (by first | assumption | exact ⟨by assumption, by assumption, by assumption⟩ | exact ⟨da1 _, da4 _, da5 _⟩ | exact ⟨db1 _ _, db4 _ _, db5 _ _⟩ | exact ⟨ea1 _, ea4 _, ea5 _⟩) (fun hHeld2 => ?_)
    clear hK K hHeld
    have hHeld := hHeld2
    clear hHeld2
    try simp only [Act.put, List.setIfInBounds_toArray, List.set_cons_zero, List.set_cons_succ]
    refine wpAnyH_ready (rs := [20]) (by kernel_rfl) (by simp) ?_
    refine AllReadyH.cons rfl (fun K hK => ?_) AllReadyH.nil
    go_simp
    refine hK.out _ _ (by first | assumption | exact ⟨by assumption, by assumption, by assumption⟩ | exact ⟨da1 _, da4 _, da5 _⟩ | exact ⟨db1 _ _, db4 _ _, db5 _ _⟩ | exact ⟨ea1 _, ea4 _, ea5 _⟩) (fun hHeld2 => ?_)
    clear hK K hHeld
    have hHeld := hHeld2
    clear hHeld2
    try simp only [Act.put, List.setIfInBounds_toArray, List.set_cons_zero, List.set_cons_succ]
    refine wpAnyH_done (by kernel_rfl) ?_ _
    go_wp2
    go_ret
    exact ⟨rfl, HFIN.out _ _ hbv2 p1⟩
  refine AllReadyH.cons rfl (fun K hK => ?_) AllReadyH.nil
  go_simp
  refine hK.out _ _ (by first | assumption | exact ⟨by assumption, by assumption, by assumption⟩ | exact ⟨da1 _, da4 _, da5 _⟩ | exact ⟨db1 _ _, db4 _ _, db5 _ _⟩ | exact ⟨ea1 _, ea4 _, ea5 _⟩) (fun hHeld2 => ?_)
  clear hK K hHeld
  have hHeld := hHeld2
  clear hHeld2
  try simp only [Act.put, List.setIfInBounds_toArray, List.set_cons_zero, List.set_cons_succ]
  refine wpAnyH_ready (rs := [5, 13]) (by kernel_rfl) (by simp) ?_
  refine AllReadyH.cons rfl (fun K hK => ?_) ?_
  · go_simp
    refine hK.out _ _ (by first | assumption | exact ⟨by assumption, by assumption, by assumption⟩ | exact ⟨da1 _, da4 _, da5 _⟩ | exact ⟨db1 _ _, db4 _ _, db5 _ _⟩ | exact ⟨ea1 _, ea4 _, ea5 _⟩) (fun hHeld2 => ?_)
    clear hK K hHeld
    have hHeld := hHeld2
    clear hHeld2
    try simp only [Act.put, List.setIfInBounds_toArray, List.set_cons_zero, List.set_cons_succ]
    refine wpAnyH_ready (rs := [13]) (by kernel_rfl) (by simp) ?_
    refine AllReadyH.cons rfl (fun K hK => ?_) AllReadyH.nil
    go_simp
    refine hK.out _ _ (by first | assumption | exact ⟨by assumption, by assumption, by assumption⟩ | exact ⟨da1 _, da4 _, da5 _⟩ | exact ⟨db1 _ _, db4 _ _, db5 _ _⟩ | exact ⟨ea1 _, ea4 _, ea5 _⟩) (fun hHeld2 => ?_)
    clear hK K hHeld
    have hHeld := hHeld2
    clear hHeld2
    try simp only [Act.put, List.setIfInBounds_toArray, List.set_cons_zero, List.set_cons_succ]
    refine wpAnyH_ready (rs := [14]) (by kernel_rfl) (by simp) ?_
    refine AllReadyH.cons rfl (fun K hK => ?_) AllReadyH.nil
    refine step_appS _ rfl _ _ 41 41 rfl B 37 ti _ 2 Try.underlying41 hti hz0 hz1 rfl (by rw [hz2]; omega) (.slice (some ⟨W.heap.size + 1, 0, none⟩) 0 0) 0 [] (by simp [Act.eval]; done) (owns_empty (by first | exact hA1 | exact hA2 _ | exact hA3 _) (by omega)) (.slice mp r.ms.length mc) (by simp [Act.eval]; done) r.ms.length (mksC r.ms) (HSRC.out _ (by repeat (first | exact Below.refl _ _ | refine Below.drew ?_ | refine Below.alloc ?_ (by simp) _ | refine Below.alloc ?_ (by simp; omega) _))) (by omega) (by simp; omega) ?_
    intro v1 w1 q1 q2 q3 q4
    rw [Nat.zero_add, List.nil_append] at q1
    have hbv1 := HBB.out _ _ _ (by repeat (first | exact Below.refl _ _ | refine Below.drew ?_ | refine Below.alloc ?_ (by simp) _ | refine Below.alloc ?_ (by simp; omega) _)) q2 (HOA.out _ (by omega))
    have hown1 := HOWN.out _ _ _ (by repeat (first | exact Below.refl _ _ | refine Below.drew ?_ | refine Below.alloc ?_ (by simp) _ | refine Below.alloc ?_ (by simp; omega) _)) q3 (HOA.out _ (by omega))
    obtain ⟨e1, e2, e3, e4, e5⟩ := HC.out _ hbv1
    have ea := fun o => HC.out _ (hbv1.alloc hbv1.size o)
    have ea1 := fun o => (ea o).1
    have ea4 := fun o => (ea o).2.2.2.1
    have ea5 := fun o => (ea o).2.2.2.2
    clear ea
    have hv1s := hbv1.size
    have HQ1 : Hid (∀ V, Below w1.heap.size w1 V → V.ownsRow B 37 2 v1 r.ms.length (mksC r.ms)) := fun V hb => ownsRow_upd q1 (Upd.ofBelow (S := fun _ => False) hb) (fun _ _ h => h)
    have hbr := (q2.block (W.heap.size) (by first | omega | (simp; omega) | simp) (HNB.out _ _ (by omega))).trans (by first | exact hB1 | exact hB2 _ | exact hB3 _)
    obtain ⟨vp1, vc1, rfl⟩ := owns_formB0 q1
    clear q1 q3 q4
    show K _ _
    refine hK.out _ _ (by first | assumption | exact ⟨by assumption, by assumption, by assumption⟩ | exact ⟨da1 _, da4 _, da5 _⟩ | exact ⟨db1 _ _, db4 _ _, db5 _ _⟩ | exact ⟨ea1 _, ea4 _, ea5 _⟩) (fun hHeld2 => ?_)
    clear hK K hHeld
    have hHeld := hHeld2
    clear hHeld2
    try simp only [Act.put, List.setIfInBounds_toArray]
    refine wpAnyH_ready (rs := [17]) (by kernel_rfl) (by simp) ?_
    refine AllReadyH.cons rfl (fun K hK => ?_) AllReadyH.nil
    refine step_appS _ rfl _ _ 41 41 rfl B 37 ti _ 2 Try.underlying41 hti hz0 hz1 rfl (by rw [hz2]; omega) (.slice vp1 r.ms.length vc1) r.ms.length (mksC r.ms) (by simp [Act.eval]; done) (HQ1.out _ (by repeat (first | exact Below.refl _ _ | refine Below.drew ?_ | refine Below.alloc ?_ (by simp) _ | refine Below.alloc ?_ (by simp; omega) _))) (.slice (some ⟨W.heap.size, 0, none⟩) 1 1) (by simp [Act.eval]; done) 1 (mkC (rev, false)) (HBK.out _ _ hbr) (by omega) (by first | omega | (simp; omega)) ?_
    intro v2 w2 p1 p2 p3 p4
    have hbv2 := HBB.out _ _ _ (by first | exact hbv1 | exact hbv1.alloc hbv1.size _) p2 hown1
    obtain ⟨s1, s2, s3, s4, s5⟩ := HC.out _ hbv2
    obtain ⟨np2, nc2, rfl⟩ := owns_formB0 p1
    obtain ⟨t1, t4, t5⟩ := HC2.out _ (.slice np2 (r.ms.length + 1) nc2) hbv2
    show K _ _
    refine hK.out _ _ (by first | assumption | exact ⟨by assumption, by assumption, by assumption⟩ | exact ⟨da1 _, da4 _, da5 _⟩ | exact ⟨db1 _ _, db4 _ _, db5 _ _⟩ | exact ⟨ea1 _, ea4 _, ea5 _⟩) (fun hHeld2 => ?_)
    clear hK K hHeld
    have hHeld := hHeld2
    clear hHeld2
    try simp only [Act.put]
    refine wpAnyH_ready (rs := [18]) (by kernel_rfl) (by simp) ?_
    refine AllReadyH.cons rfl (fun K hK => ?_) AllReadyH.nil
    go_simp
    refine hK.out _ _ (by first | assumption | exact ⟨by assumption, by assumption, by assumption⟩ | exact ⟨da1 _, da4 _, da5 _⟩ | exact ⟨db1 _ _, db4 _ _, db5 _ _⟩ | exact ⟨ea1 _, ea4 _, ea5 _⟩) (fun hHeld2 => ?_)
    clear hK K hHeld
    have hHeld := hHeld2
    clear hHeld2
    try simp only [Act.put, List.setIfInBounds_toArray, List.set_cons_zero, List.set_cons_succ]
    refine wpAnyH_ready (rs := [19]) (by kernel_rfl) (by simp) ?_
    refine AllReadyH.cons rfl (fun K hK => ?_) AllReadyH.nil
    go_simp
    refine hK.out _ _ (by first | assumption | exact ⟨by assumption, by assumption, by assumption⟩ | exact ⟨da1 _, da4 _, da5 _⟩ | exact ⟨db1 _ _, db4 _ _, db5 _ _⟩ | exact ⟨ea1 _, ea4 _, ea5 _⟩) (fun hHeld2 => ?_)
    clear hK K hHeld
    have hHeld := hHeld2
    clear hHeld2
    try simp only [Act.put, List.setIfInBounds_toArray, List.set_cons_zero, List.set_cons_succ]
    refine wpAnyH_ready (rs := [20]) (by kernel_rfl) (by simp) ?_
    refine AllReadyH.cons rfl (fun K hK => ?_) AllReadyH.nil
    go_simp
    refine hK.out _ _ (by first | assumption | exact ⟨by assumption, by assumption, by assumption⟩ | exact ⟨da1 _, da4 _, da5 _⟩ | exact ⟨db1 _ _, db4 _ _, db5 _ _⟩ | exact ⟨ea1 _, ea4 _, ea5 _⟩) (fun hHeld2 => ?_)
    clear hK K hHeld
    have hHeld := hHeld2
    clear hHeld2
    try simp only [Act.put, List.setIfInBounds_toArray, List.set_cons_zero, List.set_cons_succ]
    refine wpAnyH_done (by kernel_rfl) ?_ _
    go_wp2
    go_ret
    exact ⟨rfl, HFIN.out _ _ hbv2 p1⟩
  refine AllReadyH.cons rfl (fun K hK => ?_) AllReadyH.nil
  go_simp
  refine hK.out _ _ (by first | assumption | exact ⟨by assumption, by assumption, by assumption⟩ | exact ⟨da1 _, da4 _, da5 _⟩ | exact ⟨db1 _ _, db4 _ _, db5 _ _⟩ | exact ⟨ea1 _, ea4 _, ea5 _⟩) (fun hHeld2 => ?_)
  clear hK K hHeld
  have hHeld := hHeld2
  clear hHeld2
  try simp only [Act.put, List.setIfInBounds_toArray, List.set_cons_zero, List.set_cons_succ]
  refine wpAnyH_ready (rs := [5]) (by kernel_rfl) (by simp) ?_
  refine AllReadyH.cons rfl (fun K hK => ?_) AllReadyH.nil
  go_simp
  refine hK.out _ _ (by first | assumption | exact ⟨by assumption, by assumption, by assumption⟩ | exact ⟨da1 _, da4 _, da5 _⟩ | exact ⟨db1 _ _, db4 _ _, db5 _ _⟩ | exact ⟨ea1 _, ea4 _, ea5 _⟩) (fun hHeld2 => ?_)
  clear hK K hHeld
  have hHeld := hHeld2
  clear hHeld2
  try simp only [Act.put, List.setIfInBounds_toArray, List.set_cons_zero, List.set_cons_succ]
  refine wpAnyH_ready (rs := [14]) (by kernel_rfl) (by simp) ?_
  refine AllReadyH.cons rfl (fun K hK => ?_) AllReadyH.nil
  refine step_appS _ rfl _ _ 41 41 rfl B 37 ti _ 2 Try.underlying41 hti hz0 hz1 rfl (by rw [hz2]; omega) (.slice (some ⟨W.heap.size + 1, 0, none⟩) 0 0) 0 [] (by simp [Act.eval]; done) (owns_empty (by first | exact hA1 | exact hA2 _ | exact hA3 _) (by omega)) (.slice mp r.ms.length mc) (by simp [Act.eval]; done) r.ms.length (mksC r.ms) (HSRC.out _ (by repeat (first | exact Below.refl _ _ | refine Below.drew ?_ | refine Below.alloc ?_ (by simp) _ | refine Below.alloc ?_ (by simp; omega) _))) (by omega) (by simp; omega) ?_
  intro v1 w1 q1 q2 q3 q4
  rw [Nat.zero_add, List.nil_append] at q1
  have hbv1 := HBB.out _ _ _ (by repeat (first | exact Below.refl _ _ | refine Below.drew ?_ | refine Below.alloc ?_ (by simp) _ | refine Below.alloc ?_ (by simp; omega) _)) q2 (HOA.out _ (by omega))
  have hown1 := HOWN.out _ _ _ (by repeat (first | exact Below.refl _ _ | refine Below.drew ?_ | refine Below.alloc ?_ (by simp) _ | refine Below.alloc ?_ (by simp; omega) _)) q3 (HOA.out _ (by omega))
  obtain ⟨e1, e2, e3, e4, e5⟩ := HC.out _ hbv1
  have ea := fun o => HC.out _ (hbv1.alloc hbv1.size o)
  have ea1 := fun o => (ea o).1
  have ea4 := fun o => (ea o).2.2.2.1
  have ea5 := fun o => (ea o).2.2.2.2
  clear ea
  have hv1s := hbv1.size
  have HQ1 : Hid (∀ V, Below w1.heap.size w1 V → V.ownsRow B 37 2 v1 r.ms.length (mksC r.ms)) := fun V hb => ownsRow_upd q1 (Upd.ofBelow (S := fun _ => False) hb) (fun _ _ h => h)
  have hbr := (q2.block (W.heap.size) (by first | omega | (simp; omega) | simp) (HNB.out _ _ (by omega))).trans (by first | exact hB1 | exact hB2 _ | exact hB3 _)
  obtain ⟨vp1, vc1, rfl⟩ := owns_formB0 q1
  clear q1 q3 q4
  show K _ _
  refine hK.out _ _ (by first | assumption | exact ⟨by assumption, by assumption, by assumption⟩ | exact ⟨da1 _, da4 _, da5 _⟩ | exact ⟨db1 _ _, db4 _ _, db5 _ _⟩ | exact ⟨ea1 _, ea4 _, ea5 _⟩) (fun hHeld2 => ?_)
  clear hK K hHeld
  have hHeld := hHeld2
  clear hHeld2
  try simp only [Act.put, List.setIfInBounds_toArray]
  refine wpAnyH_ready (rs := [17]) (by kernel_rfl) (by simp) ?_
  refine AllReadyH.cons rfl (fun K hK => ?_) AllReadyH.nil
  refine step_appS _ rfl _ _ 41 41 rfl B 37 ti _ 2 Try.underlying41 hti hz0 hz1 rfl (by rw [hz2]; omega) (.slice vp1 r.ms.length vc1) r.ms.length (mksC r.ms) (by simp [Act.eval]; done) (HQ1.out _ (by repeat (first | exact Below.refl _ _ | refine Below.drew ?_ | refine Below.alloc ?_ (by simp) _ | refine Below.alloc ?_ (by simp; omega) _))) (.slice (some ⟨W.heap.size, 0, none⟩) 1 1) (by simp [Act.eval]; done) 1 (mkC (rev, false)) (HBK.out _ _ hbr) (by omega) (by first | omega | (simp; omega)) ?_
  intro v2 w2 p1 p2 p3 p4
  have hbv2 := HBB.out _ _ _ (by first | exact hbv1 | exact hbv1.alloc hbv1.size _) p2 hown1
  obtain ⟨s1, s2, s3, s4, s5⟩ := HC.out _ hbv2
  obtain ⟨np2, nc2, rfl⟩ := owns_formB0 p1
  obtain ⟨t1, t4, t5⟩ := HC2.out _ (.slice np2 (r.ms.length + 1) nc2) hbv2
  show K _ _
  refine hK.out _ _ (by first | assumption | exact ⟨by assumption, by assumption, by assumption⟩ | exact ⟨da1 _, da4 _, da5 _⟩ | exact ⟨db1 _ _, db4 _ _, db5 _ _⟩ | exact ⟨ea1 _, ea4 _, ea5 _⟩) (fun hHeld2 => ?_)
  clear hK K hHeld
  have hHeld := hHeld2
  clear hHeld2
  try simp only [Act.put]
  refine wpAnyH_ready (rs := [18]) (by kernel_rfl) (by simp) ?_
  refine AllReadyH.cons rfl (fun K hK => ?_) AllReadyH.nil
  go_simp
  refine hK.out _ _ (by first | assumption | exact ⟨by assumption, by assumption, by assumption⟩ | exact ⟨da1 _, da4 _, da5 _⟩ | exact ⟨db1 _ _, db4 _ _, db5 _ _⟩ | exact ⟨ea1 _, ea4 _, ea5 _⟩) (fun hHeld2 => ?_)
  clear hK K hHeld
  have hHeld := hHeld2
  clear hHeld2
  try simp only [Act.put, List.setIfInBounds_toArray, List.set_cons_zero, List.set_cons_succ]
  refine wpAnyH_ready (rs := [19]) (by kernel_rfl) (by simp) ?_
  refine AllReadyH.cons rfl (fun K hK => ?_) AllReadyH.nil
  go_simp
  refine hK.out _ _ (by first | assumption | exact ⟨by assumption, by assumption, by assumption⟩ | exact ⟨da1 _, da4 _, da5 _⟩ | exact ⟨db1 _ _, db4 _ _, db5 _ _⟩ | exact ⟨ea1 _, ea4 _, ea5 _⟩) (fun hHeld2 => ?_)
  clear hK K hHeld
  have hHeld := hHeld2
  clear hHeld2
  try simp only [Act.put, List.setIfInBounds_toArray, List.set_cons_zero, List.set_cons_succ]
  refine wpAnyH_ready (rs := [20]) (by kernel_rfl) (by simp) ?_
  refine AllReadyH.cons rfl (fun K hK => ?_) AllReadyH.nil
  go_simp
  refine hK.out _ _ (by first | assumption | exact ⟨by assumption, by assumption, by assumption⟩ | exact ⟨da1 _, da4 _, da5 _⟩ | exact ⟨db1 _ _, db4 _ _, db5 _ _⟩ | exact ⟨ea1 _, ea4 _, ea5 _⟩) (fun hHeld2 => ?_)
  clear hK K hHeld
  have hHeld := hHeld2
  clear hHeld2
  try simp only [Act.put, List.setIfInBounds_toArray, List.set_cons_zero, List.set_cons_succ]
  refine wpAnyH_done (by kernel_rfl) ?_ _
  go_wp2
  go_ret
  exact ⟨rfl, HFIN.out _ _ hbv2 p1⟩
end
end Go.Proofs.Ytilginghgigiiaa
