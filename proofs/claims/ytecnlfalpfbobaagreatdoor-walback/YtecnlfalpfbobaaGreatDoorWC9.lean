/- What toSave does: the records of what is to be saved. -/
import Derived.Test.YtecnlfalpfbobaaGreatDoorWC6
namespace Go.Proofs.YtecnlfalpfbobaaGreatDoor
open Go Go.RowKit
theorem info107 : (Tryz.prog.info? 107).map (fun i => (i.zero, i.size, i.bytes)) = some (some .nilIface, 1, 16) := by kernel_rfl
/-- Entries that are seen through a slice. -/
structure SeesE (w : World) (v : Value) (xs : List Ev) : Prop where
  row : ∃ B, RowO w B 60 4 v xs.length (rowOf xs)
  ok : ∀ x ∈ xs, EvOk w x ∧ i64 x.e.i
theorem SeesE.below {w w' : World} {v : Value} {xs : List Ev} (h : SeesE w v xs) (hb : Below w.heap.size w w') : SeesE w' v xs := by
  obtain ⟨⟨B, hr⟩, ho⟩ := h
  have hu : Upd w w' (fun _ => False) := Upd.ofBelow hb
  exact ⟨⟨B, hr.upd hu (fun _ _ => id)⟩, fun x hx => ⟨(ho x hx).1.upd hu (fun _ _ _ => id), (ho x hx).2⟩⟩
theorem SeesE.form {w : World} {v : Value} {xs : List Ev} (h : SeesE w v xs) : ∃ ao c, v = .slice ao xs.length c ∧ c ≤ maxLen := by
  obtain ⟨⟨B, hr⟩, _⟩ := h
  obtain ⟨ao, c, e, _, h2⟩ := hr.form
  exact ⟨ao, c, e, h2⟩
theorem SeesE.at_ {w : World} {ao : Option Addr} {c : Nat} {xs : List Ev} (h : SeesE w (.slice ao xs.length c) xs) (m : Nat) (hm : m < xs.length) : ∃ g off, ao = some ⟨g, off, none⟩ ∧ w.cell? ⟨g, off + m * 4, none⟩ = some (.int .i64 xs[m].e.i) ∧ w.cell? ⟨g, off + m * 4 + 1, none⟩ = some (.int .i64 xs[m].e.t) ∧ w.cell? ⟨g, off + m * 4 + 2, none⟩ = some (.int .i64 xs[m].e.k) ∧ w.cell? ⟨g, off + m * 4 + 3, none⟩ = some xs[m].v := by
  obtain ⟨⟨B, hr⟩, _⟩ := h
  rcases hr.2 with ⟨h', _⟩ | ⟨g, off, cap, cur, h', _⟩
  · simp only [Value.slice.injEq] at h'; omega
  · simp only [Value.slice.injEq, true_and] at h'
    obtain ⟨rfl, rfl⟩ := h'
    exact ⟨g, off, rfl, hr.entry m hm⟩
/-- Records that nothing below B leads to. -/
def NewR (B : Nat) (v : Value) (rs : List RecV) : Prop := (∀ k, v.ownBlock = some k → B ≤ k) ∧ ∀ r ∈ rs, RecAway (fun k => k < B) r
theorem NewR.away {B : Nat} {v : Value} {rs : List RecV} (h : NewR B v rs) {S : Nat → Prop} (hS : ∀ k, S k → k < B) : RowAway S v rs :=
  ⟨fun k hk hs => by have := h.1 k hk; have := hS k hs; omega, fun r hr => (h.2 r hr).mono hS⟩
theorem recVal_one {w : World} : ∀ {r : RecV}, RecOk w r → (recVal r).oneCell' = true
  | .hard _ _ _, _ => rfl
  | .entry _, _ => rfl
  | .base _ _ _, _ => rfl
/-- One record more behind a row of records. -/
theorem SeesR.snoc {w : World} {B : Nat} {v : Value} {rs : List RecV} {r : RecV} (h : RowO w B 107 1 v (rs.length + 1) (rs.map recVal ++ [recVal r])) (ho : ∀ x ∈ rs, RecOk w x) (hr : RecOk w r) : SeesR w v (rs ++ [r]) :=
  ⟨⟨B, by simpa using h⟩, fun x hx => by rcases List.mem_append.1 hx with hx | hx; exact ho x hx; rw [List.mem_singleton.1 hx]; exact hr⟩
theorem recOk_lt {w : World} {B : Nat} (hB : w.heap.size ≤ B) : ∀ {r : RecV}, RecOk w r → RecAway (fun j => B ≤ j) r
  | .hard _ _ _, _ => trivial
  | .entry _, h => fun k hk h0 hj => by have := h.1.lt hk h0; omega
  | .base _ _ _, h => fun k hk h0 hj => by have := h.1.lt hk h0; omega
structure OwnR (B : Nat) (w : World) (u : Value) (rs : List RecV) : Prop where
  row : RowO w B 107 1 u rs.length (rs.map recVal)
  ok : ∀ r ∈ rs, RecOk w r
  apart : ∀ r ∈ rs, RecAway (fun j => some j = u.ownBlock) r
theorem OwnR.nil (B : Nat) (w : World) : OwnR B w (.slice none 0 0) [] := ⟨RowO.nil _ _ _ _, fun _ h => (by cases h), fun _ h => (by cases h)⟩
theorem OwnR.sees {B : Nat} {w : World} {u : Value} {rs : List RecV} (h : OwnR B w u rs) : SeesR w u rs := ⟨⟨B, h.row⟩, h.ok⟩
theorem OwnR.below {B : Nat} {w w' : World} {u : Value} {rs : List RecV} (h : OwnR B w u rs) (hb : Below w.heap.size w w') : OwnR B w' u rs :=
  ⟨h.row.upd (Upd.ofBelow hb : Upd w w' (fun _ => False)) (fun _ _ => id), fun r hr => (h.ok r hr).below hb, h.apart⟩
theorem OwnR.push {B : Nat} {wr W w' : World} {u v' : Value} {rs : List RecV} {r : RecV} (h : OwnR B wr u rs) (hb : Below wr.heap.size wr W) (hr : RecOk W r) (ha : RecAway (fun j => some j = u.ownBlock) r)
    (h1 : RowO w' B 107 1 v' (rs.length + 1) (rs.map recVal ++ [recVal r])) (h2 : Upd W w' (fun k => some k = u.ownBlock)) (h3 : v'.ownBlock = u.ownBlock ∨ v'.ownBlock = some W.heap.size) : OwnR B w' v' (rs ++ [r]) := by
  have hall : ∀ x ∈ rs ++ [r], RecOk W x ∧ RecAway (fun j => some j = u.ownBlock) x := fun x hx => by
    rcases List.mem_append.1 hx with hx | hx
    · exact ⟨(h.ok x hx).below hb, h.apart x hx⟩
    · rw [List.mem_singleton.1 hx]; exact ⟨hr, ha⟩
  refine ⟨by simpa using h1, fun x hx => (hall x hx).1.upd h2 (hall x hx).2, fun x hx => ?_⟩
  rcases h3 with h3 | h3
  · rw [h3]; exact (hall x hx).2
  · rw [h3]; exact (recOk_lt (Nat.le_refl _) (hall x hx).1).mono (fun k hk => by have := Option.some.inj hk; omega)
theorem Src_one {w : World} {x : Value} (hx : x.oneCell' = true) : Src Tryz.prog 1 102 (.slice (some ⟨w.heap.size, 0, none⟩) 1 1) 1 [x] (w.alloc (.cells #[x] 107)) := by
  refine Src.ofSlice _ Tryz.underlying102 ⟨w.heap.size, 0, none⟩ 1 1 [x] rfl (fun j u hu => ?_) (fun u hu => by rw [List.mem_singleton.1 hu]; exact hx)
  rw [Addr.add_lit, Nat.zero_add]
  exact (cell_of_row _ _ _ _ _ _ (heap_alloc_new w _)).trans (by rw [← hu]; simp)
def recsFor (es : List En) (h : Option (Int × Int × Int)) : List Rec := es.map RecG.entry ++ (match h with | none => [] | some (t, v, c) => [RecG.hard t v c])
def HardAt (w : World) (v : Value) : Option (Int × Int × Int) → Prop
  | none => v = .pointer none
  | some (t, vo, c) => ∃ b, v = .pointer (some ⟨b, 0, none⟩) ∧ b < w.heap.size ∧ w.cell? ⟨b, 0, none⟩ = some (.int .i64 t) ∧ w.cell? ⟨b, 1, none⟩ = some (.int .i64 vo) ∧ w.cell? ⟨b, 2, none⟩ = some (.int .i64 c)
set_option maxRecDepth 100000 in
set_option maxHeartbeats 4000000 in
theorem toSave_any (hv v : Value) (h : Option (Int × Int × Int)) (xs : List Ev) (w : World) (hh : HardAt w hv h) (hx : SeesE w v xs) (hn : xs.length ≤ 100000) :
    Calls Tryz.prog 48 #[hv, v] w fun e w' => ∃ v' rs, e = .returned v' ∧ SeesR w' v' rs ∧ NewR w.heap.size v' rs ∧ rs.map (RecG.map Ev.e Vv.vs) = recsFor (xs.map Ev.e) h ∧ Below w.heap.size w w' := by
  obtain ⟨ao, cp, rfl, hcm⟩ := hx.form
  obtain ⟨i0, hi0, hz0, hz1, hz2⟩ := info_parts info107
  have HX := Hid.mk' hx
  have HH := Hid.mk' hh
  obtain ⟨ho, hvv⟩ : ∃ o, hv = .pointer o := by
    cases h with
    | none => exact ⟨_, hh⟩
    | some p => obtain ⟨b, e, _⟩ := hh; exact ⟨_, e⟩
  subst hvv
  generalize hm : xs.length = n at *
  have HN := Hid.mk' hm
  clear hx hh hm
  go_enter Tryz.func48, Tryz.ntmps48
  go_wp2
  go_loopg [5, 10] n (fun kx s5 s10 wr => ∃ (k : Nat) (u : Value) (rs : List RecV), s10 = .int .i64 k ∧ s5 = u ∧ k ≤ n ∧ n - k ≤ kx ∧ Hid (OwnR w.heap.size wr u rs) ∧ Hid (∀ r ∈ rs, RecAway (fun j => j < w.heap.size) r) ∧ Hid (rs.map (RecG.map Ev.e Vv.vs) = (xs.take k).map (fun x => RecG.entry x.e)) ∧ Hid (rs.length = k) ∧ Hid (Below w.heap.size w wr))
  case atStart => exact ⟨0, _, [], rfl, rfl, Nat.zero_le _, by omega, Hid.mk' (OwnR.nil _ _), Hid.mk' (fun _ h => by cases h), Hid.mk' rfl, Hid.mk' rfl, Hid.mk' (Below.refl _ _)⟩
  case round =>
    obtain ⟨k, u, rs, rfl, rfl, hk, hkx, HR, HRO, HRE, HRL, HB⟩ := hrel
    obtain ⟨uo, uc, hue, _, _⟩ := HR.out.row.form
    rw [HRL.out] at hue
    subst hue
    by_cases hlt : k < n
    · have hkr : k < xs.length := by rw [HN.out]; exact hlt
      have hX2 := HX.out.below HB.out
      rw [← HN.out] at hX2
      obtain ⟨g, off, rfl, e0, e1, e2, e3⟩ := hX2.at_ k hkr
      have hxo := hX2.ok _ (List.getElem_mem hkr)
      have HE : Hid ((xs.take (k + 1)).map (fun x => (RecG.entry x.e : Rec)) = (xs.take k).map (fun x => RecG.entry x.e) ++ [RecG.entry xs[k].e]) := by
        show _ = _
        rw [List.take_succ_eq_append_getElem hkr, List.map_append]; rfl
      generalize xs[k] = x at *
      have HXO := Hid.mk' hxo
      obtain ⟨vo, vc, hvv⟩ := hxo.1.sees.form
      have hcl := clone_any x.v x.e.d (wr.alloc (.cells #[.int .i64 x.e.i, .int .i64 x.e.t, .int .i64 x.e.k, x.v] 60)) (hxo.1.sees.below ((Below.refl _ _).alloc (Nat.le_refl _) _)) (by have := hxo.1.len; omega)
      rw [hvv] at e3 hcl
      clear hvv hxo hX2 hkr
      obtain ⟨W1, hW1⟩ : ∃ W1, W1 = wr.alloc (.cells #[.int .i64 x.e.i, .int .i64 x.e.t, .int .i64 x.e.k, .slice vo x.e.d.length vc] 60) := ⟨_, rfl⟩
      have hszW : W1.heap.size = wr.heap.size + 1 := by rw [hW1]; simp
      have HBW : Hid (Below wr.heap.size wr W1) := by rw [hW1]; exact (Below.refl _ _).alloc (Nat.le_refl _) _
      have hbx : ∀ j, W1.cell? ⟨wr.heap.size, j, none⟩ = (#[.int .i64 x.e.i, .int .i64 x.e.t, .int .i64 x.e.k, .slice vo x.e.d.length vc] : Array Value)[j]? := fun j => by rw [hW1]; exact cell_of_row _ _ _ _ _ _ (heap_alloc_new wr _)
      have hfx : W1.frozen? ⟨wr.heap.size, 3, none⟩ = false := by rw [hW1]; exact frozen_of_row _ _ _ _ _ (heap_alloc_new wr _)
      rw [← hW1] at hcl
      go_wp2_with fail
      rw [← hW1]
      refine hcl.mono ?_
      rintro e w2 ⟨v2, rfl, ho2, hb2⟩
      have hs2 := sees_own ho2
      have HN2 : Hid (∀ j, v2.ownBlock = some j → wr.heap.size + 1 ≤ j) := fun j hj => by have := (ho2.lt j hj).1; omega
      obtain ⟨a2, c2, rfl⟩ := owns_form ho2
      have hbl : wr.heap.size < W1.heap.size := by omega
      have b0 := (hb2.cell (p := ⟨wr.heap.size, 0, none⟩) hbl).trans (hbx 0)
      have b1 := (hb2.cell (p := ⟨wr.heap.size, 1, none⟩) hbl).trans (hbx 1)
      have b2 := (hb2.cell (p := ⟨wr.heap.size, 2, none⟩) hbl).trans (hbx 2)
      have b3 := (hb2.cell (p := ⟨wr.heap.size, 3, none⟩) hbl).trans (hbx 3)
      have f3 := (hb2.frozen (p := ⟨wr.heap.size, 3, none⟩) hbl).trans hfx
      simp only [List.getElem?_toArray, List.getElem?_cons_zero, List.getElem?_cons_succ] at b0 b1 b2 b3
      have HB2 : Hid (Below wr.heap.size wr w2) := HBW.out.trans (hb2.mono (by omega))
      have HS2 := Hid.mk' hs2
      clear hW1 hbx hfx hbl hb2 ho2 hs2 hcl
      obtain ⟨W3, hW3⟩ : ∃ W3, W3 = w2.setCell ⟨wr.heap.size, 3, none⟩ (.slice a2 x.e.d.length c2) := ⟨_, rfl⟩
      have HU3 : Hid (Upd wr W3 (fun _ => False)) := by rw [hW3]; exact (Upd.ofBelow HB2.out : Upd wr w2 (fun _ => False)).setCell (p := ⟨wr.heap.size, 3, none⟩) (.inl (Nat.le_refl _)) _
      have HU23 : Hid (Upd w2 W3 (fun j => j = wr.heap.size)) := by rw [hW3]; exact upd_cell _ _ _ _
      have HSZ3 : Hid (W3.heap.size = w2.heap.size) := by rw [hW3]; show _ = _; simp [World.setCell]
      have hsrc := Src_one (w := W3) (x := .iface 152 (.agg #[.int .i64 x.e.i, .int .i64 x.e.t, .int .i64 x.e.k, .slice a2 x.e.d.length c2])) rfl
      have HB3 : Hid (Below wr.heap.size wr (W3.alloc (.cells #[.iface 152 (.agg #[.int .i64 x.e.i, .int .i64 x.e.t, .int .i64 x.e.k, .slice a2 x.e.d.length c2])] 107))) := (HU3.out.below (Nat.le_refl _) (fun _ _ => id)).alloc HU3.out.size _
      have hrow := (HR.out.below HB3.out).row
      rw [HRL.out] at hrow
      rw [HSZ3.out] at hsrc
      rw [hW3] at hsrc hrow
      have hbs : w.heap.size ≤ w2.heap.size := Nat.le_trans HB.out.size HB2.out.size
      go_wp2_with (at_builtin; refine wpList_appO _ rfl (.tmp 18) (.tmp 21) 102 102 rfl w.heap.size 107 i0 .nilIface 1 Tryz.underlying102 hi0 hz0 hz1 rfl (by omega) _ k (rs.map recVal) rfl hrow _ rfl 1 _ hsrc (by omega) (by simp [World.setCell]; omega) ?_; intro v6 w6 h1 h2 h3; obtain ⟨a6, c6, rfl, _, _⟩ := h1.form)
      go_roundg (n - (k + 1))
      case measure => omega
      case rel =>
        rw [← hW3] at h2 h3
        have hnew : RecOk (W3.alloc (.cells #[.iface 152 (.agg #[.int .i64 x.e.i, .int .i64 x.e.t, .int .i64 x.e.k, .slice a2 x.e.d.length c2])] 107)) (.entry ⟨x.e, .slice a2 x.e.d.length c2⟩) := by
          refine RecOk.below (w := W3) ⟨⟨HS2.out.upd HU23.out (fun j hj _ e => by have := HN2.out j hj; omega), HXO.out.1.isb, HXO.out.1.len⟩, HXO.out.2⟩ ((Below.refl _ _).alloc (Nat.le_refl _) _)
        have key := HR.out.push (r := .entry ⟨x.e, .slice a2 x.e.d.length c2⟩) HB3.out hnew (fun j hj _ e => by have h4 := HN2.out j hj; have h5 := (HR.out.row.lt e.symm).2; omega) (by rw [HRL.out]; exact h1) h2 h3
        refine ⟨k + 1, _, rs ++ [.entry ⟨x.e, .slice a2 x.e.d.length c2⟩], rfl, rfl, by omega, by omega, Hid.mk' key, Hid.mk' (fun r hr => ?_), Hid.mk' ?_, Hid.mk' (by rw [List.length_append, HRL.out]; rfl), Hid.mk' ?_⟩
        · rcases List.mem_append.1 hr with hr | hr
          · exact HRO.out r hr
          · rw [List.mem_singleton.1 hr]; exact fun j hj _ e => by have h4 := HN2.out j hj; have h5 := HB.out.size; have h6 : j < w.heap.size := e; omega
        · rw [List.map_append, HRE.out, HE.out]; rfl
        · refine HB.out.trans ((HB3.out.mono HB.out.size).trans (h2.below (Nat.le_trans HB.out.size HB3.out.size) (fun j hj e => ?_)))
          have := (HR.out.row.lt e.symm).1; omega
    · obtain rfl : k = n := by omega
      have HRX : Hid (rs.map (RecG.map Ev.e Vv.vs) = (xs.map Ev.e).map RecG.entry) := by show _ = _; rw [HRE.out, List.take_of_length_le (by rw [HN.out]; exact Nat.le_refl _), List.map_map]; rfl
      cases h with
      | none =>
        have he : Value.pointer ho = .pointer none := HH.out
        simp only [Value.pointer.injEq] at he
        subst he
        go_wp2
        go_ret
        exact ⟨_, rs, rfl, HR.out.sees, ⟨fun j hj => (HR.out.row.lt hj).1, HRO.out⟩, by rw [HRX.out, recsFor, List.append_nil], HB.out⟩
      | some p =>
        obtain ⟨t1, v1, c1⟩ := p
        obtain ⟨hb, he, hlt2, k0, k1, k2⟩ := HH.out
        simp only [Value.pointer.injEq] at he
        subst he
        have k0 := (HB.out.cell (p := ⟨hb, 0, none⟩) hlt2).trans k0
        have k1 := (HB.out.cell (p := ⟨hb, 1, none⟩) hlt2).trans k1
        have k2 := (HB.out.cell (p := ⟨hb, 2, none⟩) hlt2).trans k2
        have hsrc := Src_one (w := wr) (x := .iface 153 (.agg #[.int .i64 t1, .int .i64 v1, .int .i64 c1])) rfl
        have HB3 : Hid (Below wr.heap.size wr (wr.alloc (.cells #[.iface 153 (.agg #[.int .i64 t1, .int .i64 v1, .int .i64 c1])] 107))) := (Below.refl _ _).alloc (Nat.le_refl _) _
        have hrow := (HR.out.below HB3.out).row
        rw [HRL.out] at hrow
        have hbs := HB.out.size
        go_wp2_with (at_builtin; refine wpList_appO _ rfl (.tmp 26) (.tmp 31) 102 102 rfl w.heap.size 107 i0 .nilIface 1 Tryz.underlying102 hi0 hz0 hz1 rfl (by omega) _ k (rs.map recVal) rfl hrow _ rfl 1 _ hsrc (by omega) (by simp; omega) ?_; intro v6 w6 h1 h2 h3; obtain ⟨a6, c6, rfl, _, _⟩ := h1.form)
        go_ret
        have key := HR.out.push (r := .hard t1 v1 c1) HB3.out trivial trivial (by rw [HRL.out]; exact h1) h2 h3
        refine ⟨.slice a6 (k + 1) c6, rs ++ [.hard t1 v1 c1], rfl, key.sees, ⟨fun j hj => (key.row.lt hj).1, fun r hr => ?_⟩, ?_, ?_⟩
        · rcases List.mem_append.1 hr with hr | hr
          · exact HRO.out r hr
          · rw [List.mem_singleton.1 hr]; exact trivial
        · rw [List.map_append, HRX.out, recsFor]; rfl
        · refine HB.out.trans ((HB3.out.mono HB.out.size).trans (h2.below (Nat.le_trans HB.out.size HB3.out.size) (fun j hj e => ?_)))
          have := (HR.out.row.lt e.symm).1; omega
end Go.Proofs.YtecnlfalpfbobaaGreatDoor
