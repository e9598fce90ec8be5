/- What ownEntries, slices.Clone and records do. -/
import Derived.Test.YtecnlfalpfbobaaGreatDoorWC8
import Derived.Test.YtecnlfalpfbobaaGreatDoorWC9
import Derived.Deep.RegionWith
namespace Go.Proofs.YtecnlfalpfbobaaGreatDoor
open Go Go.RowKit
theorem heap_setCell_row {w : World} {g : Nat} {cur : Array Value} {e : TypeId} (hg : w.heap[g]? = some (.cells cur e (0, 0))) (k : Nat) (u : Value) : (w.setCell ⟨g, k, none⟩ u).heap[g]? = some (.cells (cur.setIfInBounds k u) e (0, 0)) := by
  have hlt : g < w.heap.size := (Array.getElem?_eq_some_iff.1 hg).1
  have hv : w.heap[g] = .cells cur e (0, 0) := (Array.getElem?_eq_some_iff.1 hg).2
  unfold World.setCell
  rw [Array.getElem?_eq_getElem (by simpa using hlt), Array.getElem_modify]
  simp [hv]
theorem RowO.setAt {w : World} {B : Nat} {e : TypeId} {s : Nat} {g off n cap : Nat} {xs : List Value} (h : RowO w B e s (.slice (some ⟨g, off, none⟩) n cap) n xs) (j : Nat) (hj : j < n * s) (u : Value) : RowO (w.setCell ⟨g, off + j, none⟩ u) B e s (.slice (some ⟨g, off, none⟩) n cap) n (xs.set j u) := by
  refine ⟨by rw [List.length_set]; exact h.1, .inr ?_⟩
  rcases h.2 with ⟨h', _⟩ | ⟨g', off', cap', cur, h', hb, hh, hn, hc, hs, ht⟩
  · simp at h'
  · simp only [Value.slice.injEq, Option.some.injEq, Addr.mk.injEq, and_true, true_and] at h'
    obtain ⟨⟨rfl, rfl⟩, rfl⟩ := h'
    refine ⟨g, off, cap, _, rfl, hb, heap_setCell_row hh _ _, hn, hc, by rw [Array.size_setIfInBounds]; exact hs, ?_⟩
    rw [← ht]
    simp only [Array.toList_setIfInBounds]
    apply List.ext_getElem?
    intro i
    simp only [List.getElem?_take, List.getElem?_drop, List.getElem?_set, List.length_take, List.length_drop, Array.length_toList]
    have hm : n * s ≤ cap * s := Nat.mul_le_mul_right _ hn
    by_cases hij : j = i
    · subst hij
      have h1 : off + j < cur.size := by omega
      have h2 : j < min (n * s) (cur.size - off) := by omega
      simp [hj, h1, h2]
    · simp [hij]
theorem rowOf_set : ∀ (ys : List Ev) (k : Nat) (h : k < ys.length) (u : Value), (rowOf ys).set (k * 4 + 3) u = rowOf (ys.set k ⟨ys[k].e, u⟩)
  | [], k, h, _ => by simp at h
  | y :: r, 0, _, u => by simp [rowOf, Ev.cells]
  | y :: r, k + 1, h, u => by
    have := rowOf_set r k (by simpa using h) u
    simp only [rowOf, List.flatMap_cons, List.set_cons_succ, List.getElem_cons_succ] at *
    rw [← this, List.set_append_right _ _ (by show 4 ≤ _; omega)]
    congr 2
    show (k + 1) * 4 + 3 - 4 = _
    omega
set_option maxRecDepth 100000 in
set_option maxHeartbeats 1000000 in
theorem ownEntries_any (v : Value) (xs : List Ev) (w : World) (hx : ∃ B, RowO w B 60 4 v xs.length (rowOf xs)) (ho : ∀ x ∈ xs, EvOk w x) (hn : xs.length ≤ 1000000) :
    Calls Tryz.prog 84 #[v] w fun e w' => ∃ v', e = .returned v' ∧ RowO w' w.heap.size 60 4 v' xs.length (rowOf xs) ∧ Below w.heap.size w w' := by
  obtain ⟨B, hr⟩ := hx
  obtain ⟨i0, hi0, hz0, hz1, hz2⟩ := info_parts info60
  have hsrc := Src_rowO (P := Tryz.prog) w (tx := 38) (e := 60) (s := 4) Tryz.underlying38 hr (rowOf_one ho)
  obtain ⟨ao, cp, rfl, _, _⟩ := hr.form
  clear hr ho
  go_enter Tryz.func84, Tryz.ntmps84
  go_wp2_with (at_builtin; refine wpList_appO _ rfl (.const (.slice none 0 0)) (.tmp 3) 38 38 rfl w.heap.size 60 i0 (.agg #[.int .i64 0, .int .i64 0, .int .i64 0, .slice none 0 0]) 4 Tryz.underlying38 hi0 hz0 hz1 rfl (by omega) _ 0 [] rfl (RowO.nil _ _ _ _) _ rfl xs.length (rowOf xs) hsrc (by omega) (Nat.le_refl _) ?_; intro v' w' h1 h2 h3)
  go_ret
  refine ⟨_, rfl, by simpa using h1, h2.below (Nat.le_refl _) (fun k _ e => by cases e)⟩
theorem info3 : (Tryz.prog.info? 3).map (fun i => (i.zero, i.size, i.bytes)) = some (some (.int .i64 0), 1, 8) := by kernel_rfl
abbrev i64s (l : List Int) : List Value := l.map (Value.int .i64)
theorem seesI_row {w : World} {B : Nat} {v : Value} {zs : List Int} (h : RowO w B 3 1 v zs.length (i64s zs)) : SeesI w v zs := by
  have hlt := fun k => @RowO.lt _ _ _ _ _ _ _ h k
  rcases h.2 with ⟨rfl, h0⟩ | ⟨g, off, cap, cur, rfl, _⟩
  · exact .inl ⟨List.eq_nil_of_length_eq_zero h0, _, _, rfl⟩
  · by_cases h0 : zs.length = 0
    · exact .inl ⟨List.eq_nil_of_length_eq_zero h0, some ⟨g, off, none⟩, cap, by rw [h0]⟩
    · refine .inr ⟨g, off, cap, rfl, by omega, (hlt g rfl).2, fun i hi => ?_⟩
      exact h.cell i _ (by simp [i64s, List.getD_eq_getElem?_getD, hi])
theorem Src_seesI {w : World} {v : Value} {zs : List Int} (h : SeesI w v zs) : Src Tryz.prog 1 35 v zs.length (i64s zs) w := by
  rcases h with ⟨rfl, ao, cap, rfl⟩ | ⟨b, off, cap, rfl, _, _, hc⟩
  · cases ao with
    | none => exact Src.ofNil w Tryz.underlying35 cap
    | some a => exact Src.ofSlice w Tryz.underlying35 a 0 cap [] rfl (fun j u h => by simp at h) (fun u h => by cases h)
  · refine Src.ofSlice w Tryz.underlying35 ⟨b, off, none⟩ _ cap (i64s zs) (by simp) (fun j u h => ?_) (ints_oneCell _ _)
    simp only [i64s, List.getElem?_map, Option.map_eq_some_iff] at h
    obtain ⟨x, hx, rfl⟩ := h
    obtain ⟨hj, rfl⟩ := List.getElem?_eq_some_iff.1 hx
    rw [Addr.add_lit, hc j hj, List.getD_eq_getElem?_getD, hx]
    rfl
set_option maxRecDepth 100000 in
set_option maxHeartbeats 1000000 in
theorem cloneI_any (v : Value) (zs : List Int) (w : World) (hv : SeesI w v zs) (hn : zs.length ≤ 1000000) :
    Calls Tryz.prog 57 #[v] w fun e w' => ∃ v', e = .returned v' ∧ SeesI w' v' zs ∧ (∀ k, v'.ownBlock = some k → w.heap.size ≤ k) ∧ Below w.heap.size w w' := by
  obtain ⟨i0, hi0, hz0, hz1, hz2⟩ := info_parts info3
  have hnil := fun (w' : World) a n c => Lib.run_eql_slice_nil (P := Tryz.prog) w' 35 3 a n c 0 0 Tryz.underlying35
  obtain ⟨ao, cp, rfl⟩ := hv.form
  cases ao with
  | none =>
    obtain rfl : zs = [] := by
      rcases hv with ⟨rfl, _⟩ | ⟨b, off, cap, h, _⟩
      · rfl
      · cases h
    clear hv
    go_enter Tryz.func57, Tryz.ntmps57
    go_wp2
    go_ret
    exact ⟨_, rfl, .inl ⟨rfl, _, _, rfl⟩, fun k hk => (by cases hk), Below.refl _ _⟩
  | some a =>
    have hsrc := Src_seesI (hv.upd (Upd.alloc w (.cells #[] 3) (fun _ => False)) (fun _ _ _ => id))
    have hown : RowO (w.alloc (.cells #[] 3)) w.heap.size 3 1 (.slice (some ⟨w.heap.size, 0, none⟩) 0 0) 0 [] := RowO.of_owns (World.ownsRow_lit (size := 1) (e := 3) w #[] 0 (Nat.le_refl _) (by decide) rfl)
    clear hv
    go_enter Tryz.func57, Tryz.ntmps57
    go_wp2_with (at_builtin; refine wpList_appO _ rfl (.tmp 5) (.tmp 6) 35 35 rfl w.heap.size 3 i0 (.int .i64 0) 1 Tryz.underlying35 hi0 hz0 hz1 rfl (by omega) _ 0 [] rfl hown _ rfl zs.length (i64s zs) hsrc (by omega) (by simp) ?_; intro v' w' h1 h2 h3)
    go_ret
    refine ⟨_, rfl, seesI_row (by simpa using h1), fun k hk => (h1.lt hk).1, ((Below.refl _ _).alloc (Nat.le_refl _) _).trans (h2.below (by simp) (fun k hk e => by have := Option.some.inj (show some k = some w.heap.size from e); omega))⟩
set_option maxRecDepth 100000 in
set_option maxHeartbeats 4000000 in
theorem records_any (B b o : Nat) (s : Sm) (ev : Value) (w : World) (h : Smem B w b o s ev) :
    Calls Tryz.prog 103 #[.pointer (some ⟨b, o, none⟩)] w fun e w' => ∃ v' rs, e = .returned v' ∧ SeesR w' v' rs ∧ rs.map pureR = RecG.base s.mi s.mt s.vs.vs :: RecG.hard s.ht s.hv s.hc :: (s.es.map Ev.e).map RecG.entry ∧ Below w.heap.size w w' := by
  obtain ⟨i0, hi0, hz0, hz1, hz2⟩ := info_parts info107
  obtain ⟨ao, cp, rfl, hcp, hcm⟩ := h.rest.row.form
  obtain ⟨vo, vc, hvv⟩ := h.rest.vot.sees.form
  have HM := Hid.mk' h
  have c0 := h.cells.c0; have c1 := h.cells.c1; have c2 := h.cells.c2; have c3 := h.cells.c3; have c4 := h.cells.c4; have c5 := h.cells.c5; have c6 := h.cells.c6
  rw [hvv] at c5
  have HVV := Hid.mk' hvv
  have hfew := h.rest.few
  generalize hn : s.es.length = n at *
  have HN := Hid.mk' hn
  clear h hn hvv
  have hbl := HM.out.cells.lt
  have c6a : ∀ o1, (w.alloc o1).cell? ⟨b, o + 6, none⟩ = some (.slice ao n cp) := fun o1 => (((Below.refl _ w).alloc (Nat.le_refl _) o1).cell (p := ⟨b, o + 6, none⟩) hbl).trans c6
  go_enter Tryz.func103, Tryz.ntmps103
  go_wp2_with fail
  go_region
  go_wp2_with fail
  obtain ⟨W0, hW0⟩ : ∃ W0, W0 = (w.alloc (.cells #[.iface 117 (.agg #[.int .i64 s.mi, .int .i64 s.mt, .slice vo s.vs.vs.length vc]), .iface 153 (.agg #[.int .i64 s.ht, .int .i64 s.hv, .int .i64 s.hc])] 107)).drew := ⟨_, rfl⟩
  have HB0 : Hid (Below w.heap.size w W0) := by rw [hW0]; exact ((Below.refl _ _).alloc (Nat.le_refl _) _).drew
  have HO0 : Hid (OwnR w.heap.size W0 (.slice (some ⟨w.heap.size, 0, none⟩) 2 2) [.base s.mi s.mt s.vs, .hard s.ht s.hv s.hc]) := by
    refine ⟨⟨rfl, .inr ⟨w.heap.size, 0, 2, _, rfl, Nat.le_refl _, by rw [hW0]; exact heap_alloc_new w _, Nat.le_refl _, by decide, by simp, ?_⟩⟩, fun r hr => ?_, fun r hr => ?_⟩
    · simp only [recVal, List.map_cons, List.map_nil, HVV.out]; rfl
    · rcases List.mem_cons.1 hr with rfl | hr
      · refine RecOk.below (w := w) ⟨HM.out.rest.vot, HM.out.rest.ok.bot, ?_⟩ HB0.out
        have := HM.out.rest.ok.top
        omega
      · rw [List.mem_singleton.1 hr]; exact trivial
    · rcases List.mem_cons.1 hr with rfl | hr
      · exact fun j hj h0 e => by have h1 := HM.out.rest.vot.lt hj h0; have h2 := Option.some.inj (show some j = some w.heap.size from e); omega
      · rw [List.mem_singleton.1 hr]; exact trivial
  rw [← hW0]
  clear hW0 c0 c1 c2 c3 c4 c5 c6 c6a
  go_loopg [3, 22] n (fun kx s3 s22 wr => ∃ (k : Nat) (u : Value) (rs : List RecV), s22 = .int .i64 k ∧ s3 = u ∧ k ≤ n ∧ n - k ≤ kx ∧ Hid (OwnR w.heap.size wr u rs) ∧ Hid (rs.map pureR = RecG.base s.mi s.mt s.vs.vs :: RecG.hard s.ht s.hv s.hc :: (s.es.take k).map (fun x => RecG.entry x.e)) ∧ Hid (rs.length = k + 2) ∧ Hid (Below w.heap.size w wr))
  case atStart => exact ⟨0, _, _, rfl, rfl, Nat.zero_le _, by omega, HO0, Hid.mk' rfl, Hid.mk' rfl, HB0⟩
  case round =>
    obtain ⟨k, u, rs, rfl, rfl, hk, hkx, HR, HRE, HRL, HB⟩ := hrel
    obtain ⟨uo, uc, hue, _, _⟩ := HR.out.row.form
    rw [HRL.out] at hue
    subst hue
    by_cases hlt : k < n
    · have hkr : k < s.es.length := by rw [HN.out]; exact hlt
      have hm2 := HM.out.below HB.out
      have hrw := hm2.rest.row
      rw [HN.out] at hrw
      obtain ⟨g, off, cap, hgo⟩ : ∃ g off cap, Value.slice ao n cp = .slice (some ⟨g, off, none⟩) n cap := by
        rcases hrw.2 with ⟨h', h0⟩ | ⟨g, off, cap, cur, h', _⟩
        · omega
        · exact ⟨g, off, cap, h'⟩
      simp only [Value.slice.injEq, true_and] at hgo
      obtain ⟨rfl, rfl⟩ := hgo
      obtain ⟨e0, e1, e2, e3⟩ := hrw.entry k hkr
      have hxo : EvOk wr s.es[k] ∧ i64 s.es[k].e.i := by
        refine ⟨hm2.rest.ents _ (List.getElem_mem hkr), ?_⟩
        have h1 := HM.out.rest.ok.at_ k hkr
        have h2 := HM.out.rest.ok.top
        have h3 := HM.out.rest.ok.bot
        have h4 : ix s.es[k] = s.es[k].e.i := rfl
        rw [h4] at h1
        unfold i64
        omega
      have hxw : EvOk w s.es[k] := HM.out.rest.ents _ (List.getElem_mem hkr)
      have HE : Hid ((s.es.take (k + 1)).map (fun x => (RecG.entry x.e : Rec)) = (s.es.take k).map (fun x => RecG.entry x.e) ++ [RecG.entry s.es[k].e]) := by
        show _ = _
        rw [List.take_succ_eq_append_getElem hkr, List.map_append]; rfl
      generalize s.es[k] = x at *
      have HXO := Hid.mk' hxo
      have HXW := Hid.mk' hxw
      obtain ⟨xo, xc, hxv⟩ := hxo.1.sees.form
      have HXV := Hid.mk' hxv
      rw [hxv] at e3
      clear hxo hxw hxv hm2 hrw hkr
      have hsrc := Src_one (w := wr.alloc (.cells #[.int .i64 x.e.i, .int .i64 x.e.t, .int .i64 x.e.k, .slice xo x.e.d.length xc] 60)) (x := .iface 152 (.agg #[.int .i64 x.e.i, .int .i64 x.e.t, .int .i64 x.e.k, .slice xo x.e.d.length xc])) rfl
      have hszW : (wr.alloc (.cells #[.int .i64 x.e.i, .int .i64 x.e.t, .int .i64 x.e.k, .slice xo x.e.d.length xc] 60)).heap.size = wr.heap.size + 1 := by simp
      rw [hszW] at hsrc
      have HB3 : Hid (Below wr.heap.size wr ((wr.alloc (.cells #[.int .i64 x.e.i, .int .i64 x.e.t, .int .i64 x.e.k, .slice xo x.e.d.length xc] 60)).alloc (.cells #[.iface 152 (.agg #[.int .i64 x.e.i, .int .i64 x.e.t, .int .i64 x.e.k, .slice xo x.e.d.length xc])] 107))) := ((Below.refl _ _).alloc (Nat.le_refl _) _).alloc (by simp) _
      have hrow := (HR.out.below HB3.out).row
      rw [HRL.out] at hrow
      have hbs := HB.out.size
      go_wp2_with (at_builtin; refine wpList_appO _ rfl (.tmp 26) (.tmp 29) 102 102 rfl w.heap.size 107 i0 .nilIface 1 Tryz.underlying102 hi0 hz0 hz1 rfl (by omega) _ (k + 2) (rs.map recVal) rfl hrow _ rfl 1 _ hsrc (by omega) (by simp; omega) ?_; intro v6 w6 h1 h2 h3; obtain ⟨a6, c6, rfl, _, _⟩ := h1.form)
      go_roundg (n - (k + 1))
      case measure => omega
      case rel =>
        have key := HR.out.push (r := .entry x) HB3.out (RecOk.below (w := wr) (r := .entry x) HXO.out HB3.out) (fun j hj h0 e => by have h4 := HXW.out.lt hj h0; have h5 := (HR.out.row.lt e.symm).1; omega) (by rw [HRL.out]; simpa only [recVal, HXV.out] using h1) h2 h3
        refine ⟨k + 1, _, rs ++ [.entry x], rfl, rfl, by omega, by omega, Hid.mk' key, Hid.mk' ?_, Hid.mk' (by rw [List.length_append, HRL.out]; rfl), Hid.mk' ?_⟩
        · rw [List.map_append, HRE.out, HE.out]; rfl
        · refine HB.out.trans ((HB3.out.mono HB.out.size).trans (h2.below (Nat.le_trans HB.out.size HB3.out.size) (fun j hj e => ?_)))
          have := (HR.out.row.lt e.symm).1; omega
    · obtain rfl : k = n := by omega
      have HRX : Hid (rs.map pureR = RecG.base s.mi s.mt s.vs.vs :: RecG.hard s.ht s.hv s.hc :: (s.es.map Ev.e).map RecG.entry) := by
        show _ = _
        rw [HRE.out, List.take_of_length_le (by rw [HN.out]; exact Nat.le_refl _), List.map_map]; rfl
      go_wp2
      go_ret
      exact ⟨_, rs, rfl, HR.out.sees, HRX.out, HB.out⟩
end Go.Proofs.YtecnlfalpfbobaaGreatDoor
