/- Keys. -/
import Derived.Test.YteeflkkoifgcbabGreatG40
namespace Go.Proofs.YteeflkkoifgcbabGreat
open Go Go.RowKit Go.Shelf
attribute [local go_sem] Oper.semAt_some

def inHi (hi key : ByteArray) : Bool := decide (hi = ByteArray.empty) || klt key hi
def keysL (lo hi : ByteArray) (L : List Itm) : List ByteArray := ((filt lo L).filter fun it => inHi hi it.key).map Itm.key
def KeysPost (w w' : World) (v : Value) (ks : List ByteArray) : Prop := w'.ownsRow w.heap.size 9 1 v ks.length (strs ks) ∧ Below w.heap.size w w'

theorem asc_filt (p : Itm → Bool) : ∀ {L : List Itm}, Asc (keysI L) → Asc (keysI (L.filter p))
  | [], _ => trivial
  | a :: l, h => by
    obtain ⟨h1, h2⟩ : (∀ j ∈ keysI l, klt a.key j = true) ∧ Asc (keysI l) := h
    have ih := asc_filt p h2
    rw [List.filter_cons]
    split
    · refine ⟨fun j hj => h1 j ?_, ih⟩
      obtain ⟨x, hx, rfl⟩ := List.mem_map.1 hj
      exact List.mem_map.2 ⟨x, (List.mem_filter.1 hx).1, rfl⟩
    · exact ih
theorem keysL_stop (lo hi : ByteArray) {L : List Itm} (ha : Asc (keysI L)) {q : List Itm} {a : Itm} (hS : q ++ [a] <+: filt lo L) (hq : ∀ x ∈ q, inHi hi x.key = true) (hna : inHi hi a.key = false) : keysL lo hi L = q.map Itm.key := by
  obtain ⟨t, ht⟩ := hS
  have h := asc_filt (fun it => !klt it.key lo) ha
  change Asc (keysI (filt lo L)) at h
  rw [← ht] at h
  have h' : Asc ((q ++ [a]).map Itm.key ++ t.map Itm.key) := by rw [← List.map_append]; exact h
  have h3 := ((asc_append _ _).1 h').2.2
  unfold keysL
  rw [← ht, List.filter_append, List.filter_append, List.filter_eq_self.2 hq, (List.filter_eq_nil_iff (l := t)).2 (fun x hx hin => ?_)]
  · simp [hna]
  · have hlt := h3 a.key (List.mem_map.2 ⟨a, by simp, rfl⟩) x.key (List.mem_map.2 ⟨x, hx, rfl⟩)
    unfold inHi at hna hin
    have e1 : ¬ hi = ByteArray.empty := fun e => by rw [e] at hna; simp at hna
    have e2 : klt a.key hi = false := by simpa [e1] using hna
    have e3 : klt x.key hi = true := by simpa [e1] using hin
    rw [klt_trans hlt e3] at e2
    cases e2

set_option maxRecDepth 100000 in
set_option maxHeartbeats 4000000 in
theorem keys_any {w : World} {x : Nat} {R : List IM} {F : List Nat} (H : Ix w x R F) (lo hi : ByteArray) (hR : R.length ≤ 1000000) :
    Calls Tryz.prog 41 #[ptr x, .string lo, .string hi] w fun e w' => ∃ v, e = .returned v ∧ KeysPost w w' v (keysL lo hi (R.map IM.it)) := by
  obtain ⟨rp, Ft, hx, hRt, hF⟩ := H.ex
  have hndF : Ft.Nodup := by have := H.nd; rw [hF] at this; exact (List.nodup_append.1 (List.nodup_cons.1 this).2).1
  have hFl : ∀ k ∈ Ft, k < w.heap.size := hRt.lt
  have hai : Asc (keysI (R.map IM.it)) := by rw [keysI_map]; exact H.asc
  have c0 := hx.c0
  have hdd : ∀ k : Nat, (Fence.wide.depth.isSome = true → 1 ≤ k) := fun k h => by cases h
  refine (callsIn_wide (n := 3)).1 ?_
  refine callsIn_of_wp_marks Tryz.func41 rfl trivial ?_ rfl
  simp only [Tryz.ntmps41, List.size_toArray, List.length_cons, List.length_nil, Nat.reduceAdd, Nat.reduceSub, Array.replicate_succ, Array.replicate_zero, List.push_toArray, List.append_toArray, List.nil_append, List.cons_append]
  have hb0 : Below w.heap.size w (w.alloc (.cells #[.string hi] 9)) := (Below.refl _ w).alloc (Nat.le_refl _) _
  have ca : ∀ o o', ((w.alloc o).alloc o').cell? ⟨x, 0, none⟩ = some (.pointer rp) := fun o o' => (hx.below (((Below.refl _ w).alloc (Nat.le_refl _) o).alloc (by simp) o')).c0
  gi_wp2_with (refine ⟨trivial, ?_⟩; gi_at_call 38; refine (from_in _ _ _ _).mono ?_; rintro e w' ⟨rfl, rfl⟩)
  try simp only [World.size_alloc]
  obtain ⟨WL, hWL⟩ : ∃ WL, WL = (((w.alloc (.cells #[.string hi] 9)).alloc (.cells #[.slice none 0 0] 51)).alloc (.cells #[.pointer rp] 78)).alloc (.cells #[.string lo] 9) := ⟨_, rfl⟩
  have hbL : Below w.heap.size w WL := by rw [hWL]; exact ((((Below.refl _ w).alloc (Nat.le_refl _) _).alloc (by simp) _).alloc (by simp; omega) _).alloc (by simp; omega) _
  have hzL : WL.heap.size = w.heap.size + 4 := by rw [hWL]; simp
  have r0 : WL.heap[w.heap.size]? = some (.cells #[.string hi] 9 (0, 0)) := by
    rw [hWL, Below.heap_alloc _ _ _ (by simp; omega), Below.heap_alloc _ _ _ (by simp; omega), Below.heap_alloc _ _ _ (by simp)]; exact row_alloc w _ _
  have r1 : WL.heap[w.heap.size + 1]? = some (.cells #[.slice none 0 0] 51 (0, 0)) := by
    rw [hWL, Below.heap_alloc _ _ _ (by simp), Below.heap_alloc _ _ _ (by simp)]
    have := row_alloc (w.alloc (.cells #[.string hi] 9)) #[.slice none 0 0] 51
    rwa [World.size_alloc] at this
  have r2 : WL.heap[w.heap.size + 1 + 1]? = some (.cells #[.pointer rp] 78 (0, 0)) := by
    rw [hWL, Below.heap_alloc _ _ _ (by simp)]
    have := row_alloc ((w.alloc (.cells #[.string hi] 9)).alloc (.cells #[.slice none 0 0] 51)) #[.pointer rp] 78
    rwa [World.size_alloc, World.size_alloc] at this
  have r3 : WL.heap[w.heap.size + 1 + 1 + 1]? = some (.cells #[.string lo] 9 (0, 0)) := by
    rw [hWL]
    have := row_alloc (((w.alloc (.cells #[.string hi] 9)).alloc (.cells #[.slice none 0 0] 51)).alloc (.cells #[.pointer rp] 78)) #[.string lo] 9
    rwa [World.size_alloc, World.size_alloc, World.size_alloc] at this
  rw [← hWL]
  clear hWL
  obtain ⟨hT, bT, nT, _, hseq⟩ := seq_root hRt hndF hai lo 2 (w.heap.size + 1 + 1) (w.heap.size + 1 + 1 + 1) WL hbL (by simp [World.cell?, r2]) (by simp [World.cell?, r3])
  refine wpIn_rangeFunc_ownG (w0 := WL) rfl (by decide) (gf := 58) (lb := #[.pointer (some ⟨w.heap.size + 1 + 1, 0, none⟩), .pointer (some ⟨w.heap.size + 1 + 1 + 1, 0, none⟩)]) rfl trivial (enters_of Tryz.func58 (by kernel_rfl) rfl)
    hseq KpS.t (fun W l o o' hl _ _ _ => KpS.b (fun k hk => Nat.lt_of_lt_of_le (hFl k hk) hbL.size) W l o' hl) (Below.refl _ _) (fun _ => rfl)
    (fun pre W => (∃ v, W.heap[w.heap.size + 1]? = some (.cells #[v] 51 (0, 0)) ∧ W.ownsRow (w.heap.size + 4) 9 1 v pre.length (strs (pre.map fun a => a.it.key))) ∧ W.heap[w.heap.size]? = some (.cells #[.string hi] 9 (0, 0)) ∧ Below w.heap.size w W ∧ (∀ a ∈ pre, inHi hi a.it.key = true) ∧ w.heap.size + 4 ≤ W.heap.size)
    (fun c pre W => ∃ q a, pre = q ++ [a] ∧ inHi hi a.it.key = false ∧ c = .exit 0 ∧ (∃ v, W.heap[w.heap.size + 1]? = some (.cells #[v] 51 (0, 0)) ∧ W.ownsRow (w.heap.size + 4) 9 1 v q.length (strs (q.map fun a => a.it.key))) ∧ Below w.heap.size w W ∧ (∀ a ∈ q, inHi hi a.it.key = true))
    ?hI ?hIx ?h0
    (fun a => { tmps := #[ptr x, .string lo, .string hi, undef, undef, .pointer (some ⟨w.heap.size, 0, none⟩), .slice none 0 0, .pointer (some ⟨w.heap.size + 1, 0, none⟩), .pointer (some (encA a)), ptr x, .pointer (some ⟨x, 0, none⟩), .pointer (some ⟨x, 0, none⟩), .pointer rp, .string lo, .func (.func 58) #[] #[.pointer (some ⟨w.heap.size + 1 + 1, 0, none⟩), .pointer (some ⟨w.heap.size + 1 + 1 + 1, 0, none⟩)], .pointer (some (encA a)), undef, undef, undef, undef, undef, undef, undef, undef, undef, undef, undef, undef, undef, undef, undef, undef, undef, undef], defers := [] }) ?assign ?body ?done ?stop
  case hI =>
    rintro s W W' row ⟨⟨v, q1, q2⟩, q3, q4, q5, q6⟩ hg hr
    exact ⟨⟨v, grown_cells hg hr q1, ownsRow_grown hg hr q2⟩, grown_cells hg hr q3, ownFrom_below (β := Unit) (Nat.le_refl _) (by omega) () W W' row q4 hg hr, q5, Nat.le_trans q6 hg.size⟩
  case hIx =>
    rintro c s W W' row ⟨q, a, e, h1, h2, ⟨v, q1, q2⟩, q4, q5⟩ hg hr
    exact ⟨q, a, e, h1, h2, ⟨v, grown_cells hg hr q1, ownsRow_grown hg hr q2⟩, ownFrom_below (β := Unit) (Nat.le_refl _) (by omega) () W W' row q4 hg hr, q5⟩
  case h0 => exact ⟨⟨_, r1, World.ownsRow_nil _ _ _ _⟩, r0, hbL, by simp, by omega⟩
  case assign =>
    intro l a W K hK
    gi_wp2
    exact hK
  case body =>
    rintro l pre a W ⟨⟨v, q1, q2⟩, q3, q4, q5, q6⟩ hlt
    have k0 : W.cell? ⟨a.g, a.i * 2, none⟩ = some (.string a.it.key) := (q4.cell (p := ⟨a.g, a.i * 2, none⟩) (hFl _ a.ok.mem)).trans a.ok.key
    have k1 : W.cell? ⟨w.heap.size, 0, none⟩ = some (.string hi) := by simp [World.cell?, q3]
    have k2 : W.cell? ⟨w.heap.size + 1, 0, none⟩ = some v := by simp [World.cell?, q1]
    have e1 := bl_data a.it.key hi
    have hmix : Tryz.prog.follows .mixedOrders = true := by kernel_rfl
    have hin : inHi hi a.it.key = (decide (hi = ByteArray.empty) || klt a.it.key hi) := rfl
    obtain ⟨ti, hti, hz0, hz1, hz2⟩ := info_parts info9
    have hlen : pre.length ≤ 1000000 := by
      have : (filt lo (R.map IM.it)).length ≤ (R.map IM.it).length := List.length_filter_le _ _
      simp at this; omega
    have HRW : Hid (∀ V, Below W.heap.size W V → V.ownsRow (w.heap.size + 4) 9 1 v pre.length (strs (pre.map fun a => a.it.key))) := fun V hb => ownsRow_upd q2 (Upd.ofBelow (S := fun _ => False) hb) (fun _ _ h => h)
    have HSR : Hid (∀ V, V.heap[W.heap.size]? = some (.cells #[.string a.it.key] 9 (0, 0)) → Src Tryz.prog 1 51 (.slice (some ⟨W.heap.size, 0, none⟩) 1 1) 1 (strs [a.it.key]) V) := fun V hr => Src.ofSlice V Tryz.underlying51 ⟨W.heap.size, 0, none⟩ 1 1 _ rfl (fun j u hj => by
      rw [Addr.add_lit, Nat.zero_add, cell_of_row _ _ _ _ _ _ hr]; simpa using hj) (fun u hu => by simp at hu; subst hu; rfl)
    have HCL : Hid (∀ V w', Below W.heap.size W V → Upd V w' (fun k => some k = v.ownBlock) → w'.cell? ⟨w.heap.size + 1, 0, none⟩ = some v ∧ w'.frozen? ⟨w.heap.size + 1, 0, none⟩ = false) := fun V w' hb hu => by
      have hl : w.heap.size + 1 < W.heap.size := by omega
      have h1 := (hu.block _ (Nat.lt_of_lt_of_le hl hb.size) (fun e => by have := (ownBlock_ge q2 e.symm).1; omega)).trans ((hb.block _ hl).trans q1)
      exact ⟨by simp [World.cell?, h1], by simp [World.frozen?, h1]⟩
    have HFIN : inHi hi a.it.key = true → Hid (∀ V w' nv, Below W.heap.size W V → Upd V w' (fun k => some k = v.ownBlock) → w'.ownsRow (w.heap.size + 4) 9 1 nv (pre.length + 1) (strs (pre.map fun a => a.it.key) ++ strs [a.it.key]) →
        KeepsFrom WL.heap.size W (w'.setCell ⟨w.heap.size + 1, 0, none⟩ nv) ∧ KpS w Ft W (w'.setCell ⟨w.heap.size + 1, 0, none⟩ nv) ∧
        ((∃ v, (w'.setCell ⟨w.heap.size + 1, 0, none⟩ nv).heap[w.heap.size + 1]? = some (.cells #[v] 51 (0, 0)) ∧ (w'.setCell ⟨w.heap.size + 1, 0, none⟩ nv).ownsRow (w.heap.size + 4) 9 1 v (pre ++ [a]).length (strs ((pre ++ [a]).map fun a => a.it.key))) ∧ (w'.setCell ⟨w.heap.size + 1, 0, none⟩ nv).heap[w.heap.size]? = some (.cells #[.string hi] 9 (0, 0)) ∧ Below w.heap.size w (w'.setCell ⟨w.heap.size + 1, 0, none⟩ nv) ∧ (∀ b ∈ pre ++ [a], inHi hi b.it.key = true) ∧ w.heap.size + 4 ≤ (w'.setCell ⟨w.heap.size + 1, 0, none⟩ nv).heap.size)) := fun hin' V w' nv hV p2 p1 => by
      obtain ⟨f1, f2, f3, f4, f5⟩ := app_fin q1 q2 (by omega) q6 hV p2 p1 WL.heap.size
      refine ⟨f1, ⟨KpT.of_block fun k hk => f2.block k (by have := hFl k hk; omega), f2.size⟩, ⟨_, f3, by simpa [strs] using f4⟩, (f5 _ (by omega) (by omega)).trans q3, q4.trans (f2.mono (by omega)), ?_, Nat.le_trans q6 f2.size⟩
      intro b hb
      rcases List.mem_append.1 hb with h | h
      · exact q5 b h
      · rw [List.mem_singleton.1 h]; exact hin'
    have ca1 : ∀ o, (W.alloc o).cell? ⟨w.heap.size + 1, 0, none⟩ = some v := fun o => (((Below.refl _ W).alloc (Nat.le_refl _) o).cell (p := ⟨w.heap.size + 1, 0, none⟩) (by show w.heap.size + 1 < W.heap.size; omega)).trans k2
    by_cases hhi : hi = ByteArray.empty
    · have e2 : hi.toList.isEmpty = true := by rw [hhi]; simp
      have hin' : inHi hi a.it.key = true := by rw [hin]; simp [hhi]
      have HFIN := HFIN hin'
      clear e1 hin hhi
      gi_wp2
      gi_region_with_o (fail)
      all_goals
        gi_wp2
        refine wpIn_region_any (by kernel_rfl) ?_
        change wpAnyIn _ _ _ _ _ _ _ _ _ (World.drew _)
        refine wpAnyIn_ready (rs := [0, 1]) (by kernel_rfl) (by simp) ?_
        refine AllReadyIn.cons rfl (fun K hK => ?_) ?_
        · go_simp
          refine hK _ _ ?_
          clear hK K
          refine wpAnyIn_ready (rs := [1]) (by kernel_rfl) (by simp) ?_
          refine AllReadyIn.cons rfl (fun K hK => ?_) AllReadyIn.nil
          go_simp
          refine hK _ _ ?_
          clear hK K
          refine wpAnyIn_ready (rs := [2]) (by kernel_rfl) (by simp) ?_
          refine AllReadyIn.cons rfl (fun K hK => ?_) AllReadyIn.nil
          go_simp
          refine hK _ _ ?_
          clear hK K
          refine wpAnyIn_ready (rs := [3]) (by kernel_rfl) (by simp) ?_
          refine AllReadyIn.cons rfl (fun K hK => ?_) AllReadyIn.nil
          go_simp
          refine hK _ _ ?_
          clear hK K
          refine wpAnyIn_ready (rs := [4]) (by kernel_rfl) (by simp) ?_
          refine AllReadyIn.cons rfl (fun K hK => ?_) AllReadyIn.nil
          go_simp
          refine hK _ _ ?_
          clear hK K
          refine wpAnyIn_ready (rs := [5]) (by kernel_rfl) (by simp) ?_
          refine AllReadyIn.cons rfl (fun K hK => ?_) AllReadyIn.nil
          go_simp
          refine hK _ _ ?_
          clear hK K
          refine wpAnyIn_ready (rs := [6]) (by kernel_rfl) (by simp) ?_
          refine AllReadyIn.cons rfl (fun K hK => ?_) AllReadyIn.nil
          refine stepIn_appS _ rfl _ _ 51 51 rfl (w.heap.size + 4) 9 _ _ 1 Tryz.underlying51 hti hz0 hz1 rfl (by rw [hz2]; decide) v pre.length _ rfl (HRW.out _ (by repeat (first | exact Below.refl _ _ | refine Below.drew ?_ | refine Below.alloc ?_ (by simp) _))) (.slice (some ⟨W.heap.size, 0, none⟩) 1 1) rfl 1 (strs [a.it.key]) (HSR.out _ (by first | exact row_alloc (World.drew (World.drew _)) _ _ | exact row_alloc (World.drew _) _ _)) (by omega) (by simp; omega) ?_
          intro v' w' p1 p2 p3 p4
          obtain ⟨p5, p6⟩ := HCL.out _ w' (by repeat (first | exact Below.refl _ _ | refine Below.drew ?_ | refine Below.alloc ?_ (by simp) _)) p2
          obtain ⟨g', c', rfl, _, _⟩ := owns_formB p1 (by omega)
          show K _ _
          refine hK _ _ ?_
          clear hK K
          refine wpAnyIn_ready (rs := [7]) (by kernel_rfl) (by simp) ?_
          refine AllReadyIn.cons rfl (fun K hK => ?_) AllReadyIn.nil
          go_simp
          refine hK _ _ ?_
          clear hK K
          refine wpAnyIn_done (by kernel_rfl) ?_ _
          gi_wp2; exact HFIN.out _ _ _ (by repeat (first | exact Below.refl _ _ | refine Below.drew ?_ | refine Below.alloc ?_ (by simp) _)) p2 p1
        refine AllReadyIn.cons rfl (fun K hK => ?_) AllReadyIn.nil
        go_simp
        refine hK _ _ ?_
        clear hK K
        refine wpAnyIn_ready (rs := [0, 2]) (by kernel_rfl) (by simp) ?_
        refine AllReadyIn.cons rfl (fun K hK => ?_) ?_
        · go_simp
          refine hK _ _ ?_
          clear hK K
          refine wpAnyIn_ready (rs := [2]) (by kernel_rfl) (by simp) ?_
          refine AllReadyIn.cons rfl (fun K hK => ?_) AllReadyIn.nil
          go_simp
          refine hK _ _ ?_
          clear hK K
          refine wpAnyIn_ready (rs := [3]) (by kernel_rfl) (by simp) ?_
          refine AllReadyIn.cons rfl (fun K hK => ?_) AllReadyIn.nil
          go_simp
          refine hK _ _ ?_
          clear hK K
          refine wpAnyIn_ready (rs := [4]) (by kernel_rfl) (by simp) ?_
          refine AllReadyIn.cons rfl (fun K hK => ?_) AllReadyIn.nil
          go_simp
          refine hK _ _ ?_
          clear hK K
          refine wpAnyIn_ready (rs := [5]) (by kernel_rfl) (by simp) ?_
          refine AllReadyIn.cons rfl (fun K hK => ?_) AllReadyIn.nil
          go_simp
          refine hK _ _ ?_
          clear hK K
          refine wpAnyIn_ready (rs := [6]) (by kernel_rfl) (by simp) ?_
          refine AllReadyIn.cons rfl (fun K hK => ?_) AllReadyIn.nil
          refine stepIn_appS _ rfl _ _ 51 51 rfl (w.heap.size + 4) 9 _ _ 1 Tryz.underlying51 hti hz0 hz1 rfl (by rw [hz2]; decide) v pre.length _ rfl (HRW.out _ (by repeat (first | exact Below.refl _ _ | refine Below.drew ?_ | refine Below.alloc ?_ (by simp) _))) (.slice (some ⟨W.heap.size, 0, none⟩) 1 1) rfl 1 (strs [a.it.key]) (HSR.out _ (by first | exact row_alloc (World.drew (World.drew _)) _ _ | exact row_alloc (World.drew _) _ _)) (by omega) (by simp; omega) ?_
          intro v' w' p1 p2 p3 p4
          obtain ⟨p5, p6⟩ := HCL.out _ w' (by repeat (first | exact Below.refl _ _ | refine Below.drew ?_ | refine Below.alloc ?_ (by simp) _)) p2
          obtain ⟨g', c', rfl, _, _⟩ := owns_formB p1 (by omega)
          show K _ _
          refine hK _ _ ?_
          clear hK K
          refine wpAnyIn_ready (rs := [7]) (by kernel_rfl) (by simp) ?_
          refine AllReadyIn.cons rfl (fun K hK => ?_) AllReadyIn.nil
          go_simp
          refine hK _ _ ?_
          clear hK K
          refine wpAnyIn_done (by kernel_rfl) ?_ _
          gi_wp2; exact HFIN.out _ _ _ (by repeat (first | exact Below.refl _ _ | refine Below.drew ?_ | refine Below.alloc ?_ (by simp) _)) p2 p1
        refine AllReadyIn.cons rfl (fun K hK => ?_) AllReadyIn.nil
        go_simp
        refine hK _ _ ?_
        clear hK K
        refine wpAnyIn_ready (rs := [0, 3]) (by kernel_rfl) (by simp) ?_
        refine AllReadyIn.cons rfl (fun K hK => ?_) ?_
        · go_simp
          refine hK _ _ ?_
          clear hK K
          refine wpAnyIn_ready (rs := [3]) (by kernel_rfl) (by simp) ?_
          refine AllReadyIn.cons rfl (fun K hK => ?_) AllReadyIn.nil
          go_simp
          refine hK _ _ ?_
          clear hK K
          refine wpAnyIn_ready (rs := [4]) (by kernel_rfl) (by simp) ?_
          refine AllReadyIn.cons rfl (fun K hK => ?_) AllReadyIn.nil
          go_simp
          refine hK _ _ ?_
          clear hK K
          refine wpAnyIn_ready (rs := [5]) (by kernel_rfl) (by simp) ?_
          refine AllReadyIn.cons rfl (fun K hK => ?_) AllReadyIn.nil
          go_simp
          refine hK _ _ ?_
          clear hK K
          refine wpAnyIn_ready (rs := [6]) (by kernel_rfl) (by simp) ?_
          refine AllReadyIn.cons rfl (fun K hK => ?_) AllReadyIn.nil
          refine stepIn_appS _ rfl _ _ 51 51 rfl (w.heap.size + 4) 9 _ _ 1 Tryz.underlying51 hti hz0 hz1 rfl (by rw [hz2]; decide) v pre.length _ rfl (HRW.out _ (by repeat (first | exact Below.refl _ _ | refine Below.drew ?_ | refine Below.alloc ?_ (by simp) _))) (.slice (some ⟨W.heap.size, 0, none⟩) 1 1) rfl 1 (strs [a.it.key]) (HSR.out _ (by first | exact row_alloc (World.drew (World.drew _)) _ _ | exact row_alloc (World.drew _) _ _)) (by omega) (by simp; omega) ?_
          intro v' w' p1 p2 p3 p4
          obtain ⟨p5, p6⟩ := HCL.out _ w' (by repeat (first | exact Below.refl _ _ | refine Below.drew ?_ | refine Below.alloc ?_ (by simp) _)) p2
          obtain ⟨g', c', rfl, _, _⟩ := owns_formB p1 (by omega)
          show K _ _
          refine hK _ _ ?_
          clear hK K
          refine wpAnyIn_ready (rs := [7]) (by kernel_rfl) (by simp) ?_
          refine AllReadyIn.cons rfl (fun K hK => ?_) AllReadyIn.nil
          go_simp
          refine hK _ _ ?_
          clear hK K
          refine wpAnyIn_done (by kernel_rfl) ?_ _
          gi_wp2; exact HFIN.out _ _ _ (by repeat (first | exact Below.refl _ _ | refine Below.drew ?_ | refine Below.alloc ?_ (by simp) _)) p2 p1
        refine AllReadyIn.cons rfl (fun K hK => ?_) AllReadyIn.nil
        go_simp
        refine hK _ _ ?_
        clear hK K
        refine wpAnyIn_ready (rs := [0, 4]) (by kernel_rfl) (by simp) ?_
        refine AllReadyIn.cons rfl (fun K hK => ?_) ?_
        · go_simp
          refine hK _ _ ?_
          clear hK K
          refine wpAnyIn_ready (rs := [4]) (by kernel_rfl) (by simp) ?_
          refine AllReadyIn.cons rfl (fun K hK => ?_) AllReadyIn.nil
          go_simp
          refine hK _ _ ?_
          clear hK K
          refine wpAnyIn_ready (rs := [5]) (by kernel_rfl) (by simp) ?_
          refine AllReadyIn.cons rfl (fun K hK => ?_) AllReadyIn.nil
          go_simp
          refine hK _ _ ?_
          clear hK K
          refine wpAnyIn_ready (rs := [6]) (by kernel_rfl) (by simp) ?_
          refine AllReadyIn.cons rfl (fun K hK => ?_) AllReadyIn.nil
          refine stepIn_appS _ rfl _ _ 51 51 rfl (w.heap.size + 4) 9 _ _ 1 Tryz.underlying51 hti hz0 hz1 rfl (by rw [hz2]; decide) v pre.length _ rfl (HRW.out _ (by repeat (first | exact Below.refl _ _ | refine Below.drew ?_ | refine Below.alloc ?_ (by simp) _))) (.slice (some ⟨W.heap.size, 0, none⟩) 1 1) rfl 1 (strs [a.it.key]) (HSR.out _ (by first | exact row_alloc (World.drew (World.drew _)) _ _ | exact row_alloc (World.drew _) _ _)) (by omega) (by simp; omega) ?_
          intro v' w' p1 p2 p3 p4
          obtain ⟨p5, p6⟩ := HCL.out _ w' (by repeat (first | exact Below.refl _ _ | refine Below.drew ?_ | refine Below.alloc ?_ (by simp) _)) p2
          obtain ⟨g', c', rfl, _, _⟩ := owns_formB p1 (by omega)
          show K _ _
          refine hK _ _ ?_
          clear hK K
          refine wpAnyIn_ready (rs := [7]) (by kernel_rfl) (by simp) ?_
          refine AllReadyIn.cons rfl (fun K hK => ?_) AllReadyIn.nil
          go_simp
          refine hK _ _ ?_
          clear hK K
          refine wpAnyIn_done (by kernel_rfl) ?_ _
          gi_wp2; exact HFIN.out _ _ _ (by repeat (first | exact Below.refl _ _ | refine Below.drew ?_ | refine Below.alloc ?_ (by simp) _)) p2 p1
        refine AllReadyIn.cons rfl (fun K hK => ?_) AllReadyIn.nil
        go_simp
        refine hK _ _ ?_
        clear hK K
        refine wpAnyIn_ready (rs := [0, 5]) (by kernel_rfl) (by simp) ?_
        refine AllReadyIn.cons rfl (fun K hK => ?_) ?_
        · go_simp
          refine hK _ _ ?_
          clear hK K
          refine wpAnyIn_ready (rs := [5]) (by kernel_rfl) (by simp) ?_
          refine AllReadyIn.cons rfl (fun K hK => ?_) AllReadyIn.nil
          go_simp
          refine hK _ _ ?_
          clear hK K
          refine wpAnyIn_ready (rs := [6]) (by kernel_rfl) (by simp) ?_
          refine AllReadyIn.cons rfl (fun K hK => ?_) AllReadyIn.nil
          refine stepIn_appS _ rfl _ _ 51 51 rfl (w.heap.size + 4) 9 _ _ 1 Tryz.underlying51 hti hz0 hz1 rfl (by rw [hz2]; decide) v pre.length _ rfl (HRW.out _ (by repeat (first | exact Below.refl _ _ | refine Below.drew ?_ | refine Below.alloc ?_ (by simp) _))) (.slice (some ⟨W.heap.size, 0, none⟩) 1 1) rfl 1 (strs [a.it.key]) (HSR.out _ (by first | exact row_alloc (World.drew (World.drew _)) _ _ | exact row_alloc (World.drew _) _ _)) (by omega) (by simp; omega) ?_
          intro v' w' p1 p2 p3 p4
          obtain ⟨p5, p6⟩ := HCL.out _ w' (by repeat (first | exact Below.refl _ _ | refine Below.drew ?_ | refine Below.alloc ?_ (by simp) _)) p2
          obtain ⟨g', c', rfl, _, _⟩ := owns_formB p1 (by omega)
          show K _ _
          refine hK _ _ ?_
          clear hK K
          refine wpAnyIn_ready (rs := [7]) (by kernel_rfl) (by simp) ?_
          refine AllReadyIn.cons rfl (fun K hK => ?_) AllReadyIn.nil
          go_simp
          refine hK _ _ ?_
          clear hK K
          refine wpAnyIn_done (by kernel_rfl) ?_ _
          gi_wp2; exact HFIN.out _ _ _ (by repeat (first | exact Below.refl _ _ | refine Below.drew ?_ | refine Below.alloc ?_ (by simp) _)) p2 p1
        refine AllReadyIn.cons rfl (fun K hK => ?_) AllReadyIn.nil
        go_simp
        refine hK _ _ ?_
        clear hK K
        refine wpAnyIn_ready (rs := [0]) (by kernel_rfl) (by simp) ?_
        refine AllReadyIn.cons rfl (fun K hK => ?_) AllReadyIn.nil
        go_simp
        refine hK _ _ ?_
        clear hK K
        refine wpAnyIn_ready (rs := [6]) (by kernel_rfl) (by simp) ?_
        refine AllReadyIn.cons rfl (fun K hK => ?_) AllReadyIn.nil
        refine stepIn_appS _ rfl _ _ 51 51 rfl (w.heap.size + 4) 9 _ _ 1 Tryz.underlying51 hti hz0 hz1 rfl (by rw [hz2]; decide) v pre.length _ rfl (HRW.out _ (by repeat (first | exact Below.refl _ _ | refine Below.drew ?_ | refine Below.alloc ?_ (by simp) _))) (.slice (some ⟨W.heap.size, 0, none⟩) 1 1) rfl 1 (strs [a.it.key]) (HSR.out _ (by first | exact row_alloc (World.drew (World.drew _)) _ _ | exact row_alloc (World.drew _) _ _)) (by omega) (by simp; omega) ?_
        intro v' w' p1 p2 p3 p4
        obtain ⟨p5, p6⟩ := HCL.out _ w' (by repeat (first | exact Below.refl _ _ | refine Below.drew ?_ | refine Below.alloc ?_ (by simp) _)) p2
        obtain ⟨g', c', rfl, _, _⟩ := owns_formB p1 (by omega)
        show K _ _
        refine hK _ _ ?_
        clear hK K
        refine wpAnyIn_ready (rs := [7]) (by kernel_rfl) (by simp) ?_
        refine AllReadyIn.cons rfl (fun K hK => ?_) AllReadyIn.nil
        go_simp
        refine hK _ _ ?_
        clear hK K
        refine wpAnyIn_done (by kernel_rfl) ?_ _
        gi_wp2; exact HFIN.out _ _ _ (by repeat (first | exact Below.refl _ _ | refine Below.drew ?_ | refine Below.alloc ?_ (by simp) _)) p2 p1
    · have e2 : hi.toList.isEmpty = false := by
        cases h : hi.toList.isEmpty
        · rfl
        · exfalso; apply hhi
          rw [List.isEmpty_iff, toList_data] at h
          exact bytes_ext (by rw [h]; rfl)
      cases hk : klt a.it.key hi
      · rw [hk] at e1
        have hin' : inHi hi a.it.key = false := by rw [hin, hk]; simp [hhi]
        clear HFIN
        have HQ : Hid (∃ v, W.heap[w.heap.size + 1]? = some (.cells #[v] 51 (0, 0)) ∧ W.ownsRow (w.heap.size + 4) 9 1 v pre.length (strs (pre.map fun a => a.it.key))) := ⟨v, q1, q2⟩
        clear hin hk HRW HSR HCL ca1
        gi_wp2
        gi_region_with_o (fail)
        all_goals
          gi_wp2
          exact ⟨(KeepsOthers.drew W).from _, pre, a, rfl, hin', rfl, by obtain ⟨v, h1, h2⟩ := HQ.out; exact ⟨v, h1, ownsRow_upd h2 (Upd.ofBelow (S := fun _ => False) (Below.refl _ W).drew) (fun _ _ h => h)⟩, q4.drew, q5⟩
      · rw [hk] at e1
        have hin' : inHi hi a.it.key = true := by rw [hin, hk]; simp
        have HFIN := HFIN hin'
        clear hin hk
        gi_wp2
        gi_region_with_o (fail)
        all_goals
          gi_wp2
          refine wpIn_region_any (by kernel_rfl) ?_
          change wpAnyIn _ _ _ _ _ _ _ _ _ (World.drew _)
          refine wpAnyIn_ready (rs := [0, 1]) (by kernel_rfl) (by simp) ?_
          refine AllReadyIn.cons rfl (fun K hK => ?_) ?_
          · go_simp
            refine hK _ _ ?_
            clear hK K
            refine wpAnyIn_ready (rs := [1]) (by kernel_rfl) (by simp) ?_
            refine AllReadyIn.cons rfl (fun K hK => ?_) AllReadyIn.nil
            go_simp
            refine hK _ _ ?_
            clear hK K
            refine wpAnyIn_ready (rs := [2]) (by kernel_rfl) (by simp) ?_
            refine AllReadyIn.cons rfl (fun K hK => ?_) AllReadyIn.nil
            go_simp
            refine hK _ _ ?_
            clear hK K
            refine wpAnyIn_ready (rs := [3]) (by kernel_rfl) (by simp) ?_
            refine AllReadyIn.cons rfl (fun K hK => ?_) AllReadyIn.nil
            go_simp
            refine hK _ _ ?_
            clear hK K
            refine wpAnyIn_ready (rs := [4]) (by kernel_rfl) (by simp) ?_
            refine AllReadyIn.cons rfl (fun K hK => ?_) AllReadyIn.nil
            go_simp
            refine hK _ _ ?_
            clear hK K
            refine wpAnyIn_ready (rs := [5]) (by kernel_rfl) (by simp) ?_
            refine AllReadyIn.cons rfl (fun K hK => ?_) AllReadyIn.nil
            go_simp
            refine hK _ _ ?_
            clear hK K
            refine wpAnyIn_ready (rs := [6]) (by kernel_rfl) (by simp) ?_
            refine AllReadyIn.cons rfl (fun K hK => ?_) AllReadyIn.nil
            refine stepIn_appS _ rfl _ _ 51 51 rfl (w.heap.size + 4) 9 _ _ 1 Tryz.underlying51 hti hz0 hz1 rfl (by rw [hz2]; decide) v pre.length _ rfl (HRW.out _ (by repeat (first | exact Below.refl _ _ | refine Below.drew ?_ | refine Below.alloc ?_ (by simp) _))) (.slice (some ⟨W.heap.size, 0, none⟩) 1 1) rfl 1 (strs [a.it.key]) (HSR.out _ (by first | exact row_alloc (World.drew (World.drew _)) _ _ | exact row_alloc (World.drew _) _ _)) (by omega) (by simp; omega) ?_
            intro v' w' p1 p2 p3 p4
            obtain ⟨p5, p6⟩ := HCL.out _ w' (by repeat (first | exact Below.refl _ _ | refine Below.drew ?_ | refine Below.alloc ?_ (by simp) _)) p2
            obtain ⟨g', c', rfl, _, _⟩ := owns_formB p1 (by omega)
            show K _ _
            refine hK _ _ ?_
            clear hK K
            refine wpAnyIn_ready (rs := [7]) (by kernel_rfl) (by simp) ?_
            refine AllReadyIn.cons rfl (fun K hK => ?_) AllReadyIn.nil
            go_simp
            refine hK _ _ ?_
            clear hK K
            refine wpAnyIn_done (by kernel_rfl) ?_ _
            gi_wp2; exact HFIN.out _ _ _ (by repeat (first | exact Below.refl _ _ | refine Below.drew ?_ | refine Below.alloc ?_ (by simp) _)) p2 p1
          refine AllReadyIn.cons rfl (fun K hK => ?_) AllReadyIn.nil
          go_simp
          refine hK _ _ ?_
          clear hK K
          refine wpAnyIn_ready (rs := [0, 2]) (by kernel_rfl) (by simp) ?_
          refine AllReadyIn.cons rfl (fun K hK => ?_) ?_
          · go_simp
            refine hK _ _ ?_
            clear hK K
            refine wpAnyIn_ready (rs := [2]) (by kernel_rfl) (by simp) ?_
            refine AllReadyIn.cons rfl (fun K hK => ?_) AllReadyIn.nil
            go_simp
            refine hK _ _ ?_
            clear hK K
            refine wpAnyIn_ready (rs := [3]) (by kernel_rfl) (by simp) ?_
            refine AllReadyIn.cons rfl (fun K hK => ?_) AllReadyIn.nil
            go_simp
            refine hK _ _ ?_
            clear hK K
            refine wpAnyIn_ready (rs := [4]) (by kernel_rfl) (by simp) ?_
            refine AllReadyIn.cons rfl (fun K hK => ?_) AllReadyIn.nil
            go_simp
            refine hK _ _ ?_
            clear hK K
            refine wpAnyIn_ready (rs := [5]) (by kernel_rfl) (by simp) ?_
            refine AllReadyIn.cons rfl (fun K hK => ?_) AllReadyIn.nil
            go_simp
            refine hK _ _ ?_
            clear hK K
            refine wpAnyIn_ready (rs := [6]) (by kernel_rfl) (by simp) ?_
            refine AllReadyIn.cons rfl (fun K hK => ?_) AllReadyIn.nil
            refine stepIn_appS _ rfl _ _ 51 51 rfl (w.heap.size + 4) 9 _ _ 1 Tryz.underlying51 hti hz0 hz1 rfl (by rw [hz2]; decide) v pre.length _ rfl (HRW.out _ (by repeat (first | exact Below.refl _ _ | refine Below.drew ?_ | refine Below.alloc ?_ (by simp) _))) (.slice (some ⟨W.heap.size, 0, none⟩) 1 1) rfl 1 (strs [a.it.key]) (HSR.out _ (by first | exact row_alloc (World.drew (World.drew _)) _ _ | exact row_alloc (World.drew _) _ _)) (by omega) (by simp; omega) ?_
            intro v' w' p1 p2 p3 p4
            obtain ⟨p5, p6⟩ := HCL.out _ w' (by repeat (first | exact Below.refl _ _ | refine Below.drew ?_ | refine Below.alloc ?_ (by simp) _)) p2
            obtain ⟨g', c', rfl, _, _⟩ := owns_formB p1 (by omega)
            show K _ _
            refine hK _ _ ?_
            clear hK K
            refine wpAnyIn_ready (rs := [7]) (by kernel_rfl) (by simp) ?_
            refine AllReadyIn.cons rfl (fun K hK => ?_) AllReadyIn.nil
            go_simp
            refine hK _ _ ?_
            clear hK K
            refine wpAnyIn_done (by kernel_rfl) ?_ _
            gi_wp2; exact HFIN.out _ _ _ (by repeat (first | exact Below.refl _ _ | refine Below.drew ?_ | refine Below.alloc ?_ (by simp) _)) p2 p1
          refine AllReadyIn.cons rfl (fun K hK => ?_) AllReadyIn.nil
          go_simp
          refine hK _ _ ?_
          clear hK K
          refine wpAnyIn_ready (rs := [0, 3]) (by kernel_rfl) (by simp) ?_
          refine AllReadyIn.cons rfl (fun K hK => ?_) ?_
          · go_simp
            refine hK _ _ ?_
            clear hK K
            refine wpAnyIn_ready (rs := [3]) (by kernel_rfl) (by simp) ?_
            refine AllReadyIn.cons rfl (fun K hK => ?_) AllReadyIn.nil
            go_simp
            refine hK _ _ ?_
            clear hK K
            refine wpAnyIn_ready (rs := [4]) (by kernel_rfl) (by simp) ?_
            refine AllReadyIn.cons rfl (fun K hK => ?_) AllReadyIn.nil
            go_simp
            refine hK _ _ ?_
            clear hK K
            refine wpAnyIn_ready (rs := [5]) (by kernel_rfl) (by simp) ?_
            refine AllReadyIn.cons rfl (fun K hK => ?_) AllReadyIn.nil
            go_simp
            refine hK _ _ ?_
            clear hK K
            refine wpAnyIn_ready (rs := [6]) (by kernel_rfl) (by simp) ?_
            refine AllReadyIn.cons rfl (fun K hK => ?_) AllReadyIn.nil
            refine stepIn_appS _ rfl _ _ 51 51 rfl (w.heap.size + 4) 9 _ _ 1 Tryz.underlying51 hti hz0 hz1 rfl (by rw [hz2]; decide) v pre.length _ rfl (HRW.out _ (by repeat (first | exact Below.refl _ _ | refine Below.drew ?_ | refine Below.alloc ?_ (by simp) _))) (.slice (some ⟨W.heap.size, 0, none⟩) 1 1) rfl 1 (strs [a.it.key]) (HSR.out _ (by first | exact row_alloc (World.drew (World.drew _)) _ _ | exact row_alloc (World.drew _) _ _)) (by omega) (by simp; omega) ?_
            intro v' w' p1 p2 p3 p4
            obtain ⟨p5, p6⟩ := HCL.out _ w' (by repeat (first | exact Below.refl _ _ | refine Below.drew ?_ | refine Below.alloc ?_ (by simp) _)) p2
            obtain ⟨g', c', rfl, _, _⟩ := owns_formB p1 (by omega)
            show K _ _
            refine hK _ _ ?_
            clear hK K
            refine wpAnyIn_ready (rs := [7]) (by kernel_rfl) (by simp) ?_
            refine AllReadyIn.cons rfl (fun K hK => ?_) AllReadyIn.nil
            go_simp
            refine hK _ _ ?_
            clear hK K
            refine wpAnyIn_done (by kernel_rfl) ?_ _
            gi_wp2; exact HFIN.out _ _ _ (by repeat (first | exact Below.refl _ _ | refine Below.drew ?_ | refine Below.alloc ?_ (by simp) _)) p2 p1
          refine AllReadyIn.cons rfl (fun K hK => ?_) AllReadyIn.nil
          go_simp
          refine hK _ _ ?_
          clear hK K
          refine wpAnyIn_ready (rs := [0, 4]) (by kernel_rfl) (by simp) ?_
          refine AllReadyIn.cons rfl (fun K hK => ?_) ?_
          · go_simp
            refine hK _ _ ?_
            clear hK K
            refine wpAnyIn_ready (rs := [4]) (by kernel_rfl) (by simp) ?_
            refine AllReadyIn.cons rfl (fun K hK => ?_) AllReadyIn.nil
            go_simp
            refine hK _ _ ?_
            clear hK K
            refine wpAnyIn_ready (rs := [5]) (by kernel_rfl) (by simp) ?_
            refine AllReadyIn.cons rfl (fun K hK => ?_) AllReadyIn.nil
            go_simp
            refine hK _ _ ?_
            clear hK K
            refine wpAnyIn_ready (rs := [6]) (by kernel_rfl) (by simp) ?_
            refine AllReadyIn.cons rfl (fun K hK => ?_) AllReadyIn.nil
            refine stepIn_appS _ rfl _ _ 51 51 rfl (w.heap.size + 4) 9 _ _ 1 Tryz.underlying51 hti hz0 hz1 rfl (by rw [hz2]; decide) v pre.length _ rfl (HRW.out _ (by repeat (first | exact Below.refl _ _ | refine Below.drew ?_ | refine Below.alloc ?_ (by simp) _))) (.slice (some ⟨W.heap.size, 0, none⟩) 1 1) rfl 1 (strs [a.it.key]) (HSR.out _ (by first | exact row_alloc (World.drew (World.drew _)) _ _ | exact row_alloc (World.drew _) _ _)) (by omega) (by simp; omega) ?_
            intro v' w' p1 p2 p3 p4
            obtain ⟨p5, p6⟩ := HCL.out _ w' (by repeat (first | exact Below.refl _ _ | refine Below.drew ?_ | refine Below.alloc ?_ (by simp) _)) p2
            obtain ⟨g', c', rfl, _, _⟩ := owns_formB p1 (by omega)
            show K _ _
            refine hK _ _ ?_
            clear hK K
            refine wpAnyIn_ready (rs := [7]) (by kernel_rfl) (by simp) ?_
            refine AllReadyIn.cons rfl (fun K hK => ?_) AllReadyIn.nil
            go_simp
            refine hK _ _ ?_
            clear hK K
            refine wpAnyIn_done (by kernel_rfl) ?_ _
            gi_wp2; exact HFIN.out _ _ _ (by repeat (first | exact Below.refl _ _ | refine Below.drew ?_ | refine Below.alloc ?_ (by simp) _)) p2 p1
          refine AllReadyIn.cons rfl (fun K hK => ?_) AllReadyIn.nil
          go_simp
          refine hK _ _ ?_
          clear hK K
          refine wpAnyIn_ready (rs := [0, 5]) (by kernel_rfl) (by simp) ?_
          refine AllReadyIn.cons rfl (fun K hK => ?_) ?_
          · go_simp
            refine hK _ _ ?_
            clear hK K
            refine wpAnyIn_ready (rs := [5]) (by kernel_rfl) (by simp) ?_
            refine AllReadyIn.cons rfl (fun K hK => ?_) AllReadyIn.nil
            go_simp
            refine hK _ _ ?_
            clear hK K
            refine wpAnyIn_ready (rs := [6]) (by kernel_rfl) (by simp) ?_
            refine AllReadyIn.cons rfl (fun K hK => ?_) AllReadyIn.nil
            refine stepIn_appS _ rfl _ _ 51 51 rfl (w.heap.size + 4) 9 _ _ 1 Tryz.underlying51 hti hz0 hz1 rfl (by rw [hz2]; decide) v pre.length _ rfl (HRW.out _ (by repeat (first | exact Below.refl _ _ | refine Below.drew ?_ | refine Below.alloc ?_ (by simp) _))) (.slice (some ⟨W.heap.size, 0, none⟩) 1 1) rfl 1 (strs [a.it.key]) (HSR.out _ (by first | exact row_alloc (World.drew (World.drew _)) _ _ | exact row_alloc (World.drew _) _ _)) (by omega) (by simp; omega) ?_
            intro v' w' p1 p2 p3 p4
            obtain ⟨p5, p6⟩ := HCL.out _ w' (by repeat (first | exact Below.refl _ _ | refine Below.drew ?_ | refine Below.alloc ?_ (by simp) _)) p2
            obtain ⟨g', c', rfl, _, _⟩ := owns_formB p1 (by omega)
            show K _ _
            refine hK _ _ ?_
            clear hK K
            refine wpAnyIn_ready (rs := [7]) (by kernel_rfl) (by simp) ?_
            refine AllReadyIn.cons rfl (fun K hK => ?_) AllReadyIn.nil
            go_simp
            refine hK _ _ ?_
            clear hK K
            refine wpAnyIn_done (by kernel_rfl) ?_ _
            gi_wp2; exact HFIN.out _ _ _ (by repeat (first | exact Below.refl _ _ | refine Below.drew ?_ | refine Below.alloc ?_ (by simp) _)) p2 p1
          refine AllReadyIn.cons rfl (fun K hK => ?_) AllReadyIn.nil
          go_simp
          refine hK _ _ ?_
          clear hK K
          refine wpAnyIn_ready (rs := [0]) (by kernel_rfl) (by simp) ?_
          refine AllReadyIn.cons rfl (fun K hK => ?_) AllReadyIn.nil
          go_simp
          refine hK _ _ ?_
          clear hK K
          refine wpAnyIn_ready (rs := [6]) (by kernel_rfl) (by simp) ?_
          refine AllReadyIn.cons rfl (fun K hK => ?_) AllReadyIn.nil
          refine stepIn_appS _ rfl _ _ 51 51 rfl (w.heap.size + 4) 9 _ _ 1 Tryz.underlying51 hti hz0 hz1 rfl (by rw [hz2]; decide) v pre.length _ rfl (HRW.out _ (by repeat (first | exact Below.refl _ _ | refine Below.drew ?_ | refine Below.alloc ?_ (by simp) _))) (.slice (some ⟨W.heap.size, 0, none⟩) 1 1) rfl 1 (strs [a.it.key]) (HSR.out _ (by first | exact row_alloc (World.drew (World.drew _)) _ _ | exact row_alloc (World.drew _) _ _)) (by omega) (by simp; omega) ?_
          intro v' w' p1 p2 p3 p4
          obtain ⟨p5, p6⟩ := HCL.out _ w' (by repeat (first | exact Below.refl _ _ | refine Below.drew ?_ | refine Below.alloc ?_ (by simp) _)) p2
          obtain ⟨g', c', rfl, _, _⟩ := owns_formB p1 (by omega)
          show K _ _
          refine hK _ _ ?_
          clear hK K
          refine wpAnyIn_ready (rs := [7]) (by kernel_rfl) (by simp) ?_
          refine AllReadyIn.cons rfl (fun K hK => ?_) AllReadyIn.nil
          go_simp
          refine hK _ _ ?_
          clear hK K
          refine wpAnyIn_done (by kernel_rfl) ?_ _
          gi_wp2; exact HFIN.out _ _ _ (by repeat (first | exact Below.refl _ _ | refine Below.drew ?_ | refine Below.alloc ?_ (by simp) _)) p2 p1
  case done =>
    rintro D ys W hD hS ⟨⟨v, q1, q2⟩, q3, q4, q5, q6⟩ hK
    have k2 : W.cell? ⟨w.heap.size + 1, 0, none⟩ = some v := by simp [World.cell?, q1]
    have hk : keysL lo hi (R.map IM.it) = ys.map (fun a => a.it.key) := by
      show ((filt lo (R.map IM.it)).filter fun it => inHi hi it.key).map Itm.key = _
      rw [← hS, List.filter_eq_self.2 (fun it hit => by obtain ⟨b, hb, rfl⟩ := List.mem_map.1 hit; exact q5 b hb), List.map_map]; rfl
    gi_wp2
    refine ⟨by simp, .inl ⟨_, _, rfl, run_takeDeferred hK, ?_⟩⟩
    have hb := q4.trans (belowK_b (w := w) (Nat.le_refl _) W D _ (.deferred none) (by omega) hK rfl rfl)
    have hgr := grownBy_putObj' W D (.deferred none)
    have hrr : ∀ r, some D = some r → 0 ≤ r ∧ ∃ o : Obj, W.heap[r]? = some o ∧ o.isCells = false := fun r e => by cases e; exact ⟨Nat.zero_le _, _, hK, rfl⟩
    refine ⟨v, ?_, v, rfl, ?_⟩
    · simp [results, Tryz.results41, go_sem]
    · rw [hk]; exact ⟨by simpa using ownsRow_base (ownsRow_grown hgr hrr q2) (by omega), hb⟩
  case stop =>
    rintro D c pre W hD hS ⟨q, a, rfl, hna, rfl, ⟨v, q1, q2⟩, q4, q5⟩ hK
    have k2 : W.cell? ⟨w.heap.size + 1, 0, none⟩ = some v := by simp [World.cell?, q1]
    have hk : keysL lo hi (R.map IM.it) = q.map (fun a => a.it.key) := by
      rw [List.map_append] at hS
      have := keysL_stop lo hi hai hS (fun it hit => by obtain ⟨b, hb, rfl⟩ := List.mem_map.1 hit; exact q5 b hb) hna
      rw [this, List.map_map]; rfl
    gi_wp2
    refine ⟨by simp, .inl ⟨_, _, rfl, run_takeDeferred hK, ?_⟩⟩
    have hb := q4.trans (belowK_b (w := w) (Nat.le_refl _) W D _ (.deferred none) (by omega) hK rfl rfl)
    have hgr := grownBy_putObj' W D (.deferred none)
    have hrr : ∀ r, some D = some r → 0 ≤ r ∧ ∃ o : Obj, W.heap[r]? = some o ∧ o.isCells = false := fun r e => by cases e; exact ⟨Nat.zero_le _, _, hK, rfl⟩
    refine ⟨v, ?_, v, rfl, ?_⟩
    · simp [results, Tryz.results41, go_sem]
    · rw [hk]; exact ⟨by simpa using ownsRow_base (ownsRow_grown hgr hrr q2) (by omega), hb⟩
end Go.Proofs.YteeflkkoifgcbabGreat
