/- Cutting the end off a row of entries; what a new row leaves of a state. -/
import Derived.Test.YtecnlfalpfbobaaGreatDoorWC1
import Derived.Deep.RegionWith
namespace Go.Proofs.YtecnlfalpfbobaaGreatDoor
open Go Go.RowKit
theorem info60 : (Tryz.prog.info? 60).map (fun i => (i.zero, i.size, i.bytes)) = some (some (.agg #[.int .i64 0, .int .i64 0, .int .i64 0, .slice none 0 0]), 4, 48) := by kernel_rfl
def zeroE (n : Nat) : List Value := (Builtin.zeroCells #[.int .i64 0, .int .i64 0, .int .i64 0, .slice none 0 0] n).toList
theorem zeroE_one (n : Nat) : ∀ u ∈ zeroE n, u.oneCell' = true := by
  intro u hu
  unfold zeroE Builtin.zeroCells at hu
  rw [Array.toList_map] at hu
  obtain ⟨j, _, rfl⟩ := List.mem_map.1 hu
  show (#[Value.int .i64 0, .int .i64 0, .int .i64 0, .slice none 0 0][j % 4]!).oneCell' = true
  rcases (by omega : j % 4 = 0 ∨ j % 4 = 1 ∨ j % 4 = 2 ∨ j % 4 = 3) with h | h | h | h <;> (rw [h]; rfl)
set_option maxRecDepth 100000 in
set_option maxHeartbeats 1000000 in
theorem delete_any (B : Nat) (ev : Value) (xs : List Ev) (i : Nat) (w : World) (hrow : RowO w B 60 4 ev xs.length (rowOf xs)) (hi : i ≤ xs.length) (hfew : xs.length ≤ 1000000) :
    Calls Tryz.prog 129 #[ev, .int .i64 i, .int .i64 xs.length] w fun e w' => ∃ ev', e = .returned ev' ∧ RowO w' B 60 4 ev' i (rowOf (xs.take i)) ∧ Upd w w' (fun k => some k = ev.ownBlock) ∧ ev'.ownBlock = ev.ownBlock := by
  obtain ⟨i0, hi0, hz0, hz1, hz2⟩ := info_parts info60
  by_cases heq : i = xs.length
  · subst heq
    obtain ⟨ao, cp, rfl, hcp, hcm⟩ := hrow.form
    have HR := Hid.mk' hrow
    clear hrow
    generalize hn : xs.length = n at *
    have HN := Hid.mk' hn
    clear hn
    go_enter Tryz.func129, Tryz.ntmps129
    go_wp2
    all_goals (go_ret; exact ⟨_, rfl, by have := HR.out; rw [← HN.out, List.take_length]; rw [HN.out]; exact this, Upd.refl _ _, rfl⟩)
  · rcases hrow.2 with ⟨_, h0⟩ | ⟨g, off, cap, cur, rfl, hB, hg, hcp, hcm, hcs, htk⟩
    · omega
    have hlt : i < xs.length := by omega
    have HR := Hid.mk' hrow
    generalize hn : xs.length = n at *
    have HN := Hid.mk' hn
    have HTK := Hid.mk' htk
    clear hn htk
    have hap : ∀ (w' : World) (a : Addr) (c : Nat), (Builtin.append_ #[38, 38] 38 #[.slice (some ⟨g, off, none⟩) i cap, .slice (some a) 0 c]).run Tryz.prog w' = .ok (.slice (some ⟨g, off, none⟩) i cap) w' := by
      intro w' a c
      refine run_append_nothing w' 38 38 38 60 i0 Tryz.underlying38 hi0 (some ⟨g, off, none⟩) i cap (by omega) _ ?_
      exact Src.ofSlice w' Tryz.underlying38 a 0 c [] (by simp) (fun j u h => by simp at h) (fun u h => by cases h)
    have hzl : ∀ m, (zeroE m).length = m * 4 := fun m => by unfold zeroE; rw [Array.length_toList, size_zeroCells]; rfl
    have hmul : i * 4 + (n - i) * 4 = n * 4 := by omega
    have hst := run_storeCells_at Tryz.prog g (off + i * 4) 60 (zeroE (n - i)) 0 cur w.drew hg (by rw [hzl]; omega) (zeroE_one _)
    simp only [Nat.add_zero, hzl] at hst
    obtain ⟨cur', hcur'⟩ : ∃ c : Array Value, c = (cur.toList.take (off + i * 4) ++ zeroE (n - i) ++ cur.toList.drop (off + i * 4 + (n - i) * 4)).toArray := ⟨_, rfl⟩
    rw [← hcur'] at hst
    have hcl : ∀ ty c, (Builtin.clear_ #[38] ty #[.slice (some ⟨g, off + i * 4, none⟩) (n - i) c]).run Tryz.prog w.drew = .ok (.tuple #[]) (w.drew.setRow g cur') := by
      intro ty c
      obtain ⟨m, hm⟩ : ∃ m, n - i = m + 1 := ⟨n - i - 1, by omega⟩
      rw [hm] at hst ⊢
      simp only [zeroE] at hst
      simp [Builtin.clear_, run_underlying Tryz.underlying38, Tryz.zeroValue60, Value.cells, hst]
    have HC : Hid (cur'.size = cur.size ∧ (cur'.toList.drop off).take (i * 4) = rowOf (xs.take i)) := by
      constructor
      · rw [hcur']
        simp only [List.size_toArray, List.length_append, List.length_take, List.length_drop, Array.length_toList, hzl]
        omega
      · rw [hcur', List.append_assoc]
        show ((cur.toList.take (off + i * 4) ++ (zeroE (n - i) ++ cur.toList.drop (off + i * 4 + (n - i) * 4))).drop off).take (i * 4) = _
        rw [List.drop_append_of_le_length (by rw [List.length_take, Array.length_toList]; omega), List.drop_take, show off + i * 4 - off = i * 4 by omega, List.take_append_of_le_length (by rw [List.length_take, List.length_drop, Array.length_toList]; omega), List.take_take, Nat.min_self, ← rowOf_take, ← HTK.out, List.take_take]
        congr 1
        omega
    have HG : Hid ((w.drew.setRow g cur').heap[g]? = some (.cells cur' 60 (0, 0))) := setRow_heap w.drew g cur cur' 60 (0, 0) hg
    have HO : Hid (∀ k, k ≠ g → (w.drew.setRow g cur').heap[k]? = w.heap[k]?) := fun k hk => setRow_other w.drew g k cur' hk
    have HS : Hid ((w.drew.setRow g cur').heap.size = w.heap.size) := by show _ = _; simp [World.setRow]
    have HHB := Hid.mk' hB
    have HCM := Hid.mk' hcm
    have HCS := Hid.mk' hcs
    clear hrow hcur' hst hg hzl hmul hB hcs
    have fin : Hid (∃ ev', Ending.returned (.slice (some ⟨g, off, none⟩) i cap) = .returned ev' ∧ RowO (w.drew.setRow g cur') B 60 4 ev' i (rowOf (xs.take i)) ∧ Upd w (w.drew.setRow g cur') (fun k => some k = (Value.slice (some ⟨g, off, none⟩) n cap).ownBlock) ∧ ev'.ownBlock = (Value.slice (some ⟨g, off, none⟩) n cap).ownBlock) := by
      refine ⟨_, rfl, ⟨by rw [rowOf_len, List.length_take, HN.out, Nat.min_eq_left hi], .inr ⟨g, off, cap, cur', rfl, HHB.out, HG.out, by omega, HCM.out, by rw [HC.out.1]; exact HCS.out, HC.out.2⟩⟩, ?_, rfl⟩
      exact ⟨rfl, rfl, rfl, Nat.le_of_eq HS.out.symm, fun k _ hk => HO.out k (fun e => hk (by rw [e]; rfl))⟩
    generalize w.drew.setRow g cur' = w2 at *
    go_enter Tryz.func129, Tryz.ntmps129
    go_wp2_with fail
    by_cases hcn : cap = n
    · subst hcn
      go_region
      go_wp2
      go_ret
      exact fin.out
    · go_region
      go_wp2
      go_ret
      exact fin.out
def Owned (w : World) (ev ev' : Value) : Prop := ev'.ownBlock = ev.ownBlock ∨ ev'.ownBlock = none ∨ ∃ g, w.heap.size ≤ g ∧ ev'.ownBlock = some g
theorem Owned.trans {w w1 : World} {a b c : Value} (h : Owned w a b) (hs : w.heap.size ≤ w1.heap.size) (k : Owned w1 b c) : Owned w a c := by
  rcases k with k | k | ⟨g, hg, k⟩
  · unfold Owned; rw [k]; exact h
  · exact .inr (.inl k)
  · exact .inr (.inr ⟨g, by omega, k⟩)
theorem EvAway.owned {w : World} {b : Nat} {ev ev' : Value} {x : Ev} (hx : EvOk w x) (h : EvAway (fun k => k = b ∨ some k = ev.ownBlock) x) (ho : Owned w ev ev') : EvAway (fun k => k = b ∨ some k = ev'.ownBlock) x := by
  intro k hk h0 hc
  rcases hc with hc | hc
  · exact h k hk h0 (.inl hc)
  · rcases ho with ho | ho | ⟨g, hg, ho⟩
    · exact h k hk h0 (.inr (by rw [hc, ho]))
    · rw [ho] at hc; cases hc
    · rw [ho] at hc; have := hx.lt hk h0; have := Option.some.inj hc; omega
theorem VvAway.owned {w : World} {b : Nat} {ev ev' : Value} {x : Vv} (hx : VvOk w x) (h : VvAway (fun k => k = b ∨ some k = ev.ownBlock) x) (ho : Owned w ev ev') : VvAway (fun k => k = b ∨ some k = ev'.ownBlock) x := by
  intro k hk h0 hc
  rcases hc with hc | hc
  · exact h k hk h0 (.inl hc)
  · rcases ho with ho | ho | ⟨g, hg, ho⟩
    · exact h k hk h0 (.inr (by rw [hc, ho]))
    · rw [ho] at hc; cases hc
    · rw [ho] at hc; have := hx.lt hk h0; have := Option.some.inj hc; omega
/-- All but a state's own cells of its block are as they were. -/
def Keeps (w w' : World) (b o : Nat) : Prop := ∀ j, (j < o ∨ o + 7 ≤ j) → w'.cell? ⟨b, j, none⟩ = w.cell? ⟨b, j, none⟩
theorem Keeps.refl (w : World) (b o : Nat) : Keeps w w b o := fun _ _ => rfl
theorem Keeps.trans {w w1 w2 : World} {b o : Nat} (h : Keeps w w1 b o) (k : Keeps w1 w2 b o) : Keeps w w2 b o := fun j hj => (k j hj).trans (h j hj)
theorem Keeps.upd {w w1 : World} {S : Nat → Prop} {b o : Nat} (hu : Upd w w1 S) (hb : b < w.heap.size) (hS : ¬ S b) : Keeps w w1 b o := fun j _ => hu.cell (p := ⟨b, j, none⟩) hb hS
theorem Keeps.below {w w1 : World} {b o : Nat} (hu : Below w.heap.size w w1) (hb : b < w.heap.size) : Keeps w w1 b o := fun j _ => hu.cell (p := ⟨b, j, none⟩) hb
theorem Keeps.set {w w1 : World} {b o : Nat} (h : Keeps w w1 b o) (i : Nat) (hi : o ≤ i ∧ i < o + 7) (u : Value) : Keeps w (w1.setCell ⟨b, i, none⟩ u) b o := fun j hj => by
  have hne : j ≠ i := by omega
  rw [World.cell?_setCell_other _ _ _ _ (fun e => hne (congrArg Addr.off e).symm)]
  exact h j hj
/-- What one change of a state leaves. -/
def SmPost (B : Nat) (w w' : World) (b o : Nat) (ev : Value) (s : Sm) : Prop :=
  ∃ ev', Smem B w' b o s ev' ∧ Upd w w' (fun k => k = b ∨ some k = ev.ownBlock) ∧ Owned w ev ev' ∧ Keeps w w' b o
theorem SCells.set6 {w : World} {b o : Nat} {ht hv hc mi mt : Int} {vv ev : Value} (h : SCells w b o ht hv hc mi mt vv ev) (u : Value) : SCells (w.setCell ⟨b, o + 6, none⟩ u) b o ht hv hc mi mt vv u := by
  constructor <;> first | exact World.cell?_setCell_same _ _ _ h.c6 | (rw [World.cell?_setCell_other _ _ _ _ (by simp)]; first | exact h.c0 | exact h.c1 | exact h.c2 | exact h.c3 | exact h.c4 | exact h.c5) | (intro j; rw [World.frozen?_setCell]; exact h.free j)
theorem Smem.row {B : Nat} {w w' : World} {b o : Nat} {s : Sm} {ev ev' : Value} (h : Smem B w b o s ev) (xs : List Ev) (hu : Upd w w' (fun k => some k = ev.ownBlock)) (hr : RowO w' B 60 4 ev' xs.length (rowOf xs)) (ho : Owned w ev ev')
    (hx : ∀ x ∈ xs, EvOk w x ∧ EvAway (fun k => k = b ∨ some k = ev.ownBlock) x) (hok : ({ s with es := xs } : Sm).ok) (hf : xs.length ≤ 1000000) :
    Smem B (w'.setCell ⟨b, o + 6, none⟩ ev') b o { s with es := xs } ev' ∧ Upd w (w'.setCell ⟨b, o + 6, none⟩ ev') (fun k => k = b ∨ some k = ev.ownBlock) ∧ Keeps w (w'.setCell ⟨b, o + 6, none⟩ ev') b o := by
  have hbl := h.cells.lt
  have hnb : ¬ some b = ev.ownBlock := fun e => h.rest.ne e.symm
  have hne : ev'.ownBlock ≠ some b := by
    rcases ho with ho | ho | ⟨g, hg, ho⟩ <;> rw [ho]
    · exact h.rest.ne
    · intro e; cases e
    · intro e; have := Option.some.inj e; omega
  have hU : Upd w (w'.setCell ⟨b, o + 6, none⟩ ev') (fun k => k = b ∨ some k = ev.ownBlock) := (hu.mono (fun k _ hk => .inr hk)).setCell (p := ⟨b, o + 6, none⟩) (.inr (.inl rfl)) _
  refine ⟨⟨(h.cells.upd hu hnb).set6 ev', ?_⟩, hU, (Keeps.upd hu hbl hnb).set (o + 6) (by omega) _⟩
  refine ⟨hr.upd (upd_cell _ _ _ _) (fun k hk e => hne (by rw [hk, e])), fun x hxm => ((hx x hxm).1.upd hU (hx x hxm).2), h.rest.vot.upd hU h.rest.va, hne, fun x hxm => (hx x hxm).2.owned (hx x hxm).1 ho, h.rest.va.owned h.rest.vot ho, hok, hf⟩
end Go.Proofs.YtecnlfalpfbobaaGreatDoor
