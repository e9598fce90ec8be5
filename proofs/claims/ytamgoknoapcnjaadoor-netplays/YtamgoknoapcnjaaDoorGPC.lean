/- Lists are cloned. -/
import Derived.Test.YtamgoknoapcnjaaDoorNR
import Derived.Laws.MakeOwn
import Derived.Deep.RegionLaw
import Derived.Deep.LoopGhost
namespace Go.Proofs.YtamgoknoapcnjaaDoor
open Go Go.RowKit
theorem run_copyS {P : Program} (w : World) (dT sT ty e et : TypeId) (i : TypeInfo) (ht : P.underlying dT = some (.slice e)) (hi : P.info? e = some i) (g o dLen dCap : Nat) (cur : Array Value) (hg : w.heap[g]? = some (.cells cur et (0, 0)))
    (a : Addr) (sLen sCap : Nat) (news : List Value) (hn : news.length = min sLen dLen * i.size) (hsrc : ∀ j v, news[j]? = some v → w.cell? (a.add j) = some v) (hfit : o + news.length ≤ cur.size) (h1 : ∀ v ∈ news, v.oneCell' = true) :
    (Builtin.copy_ #[dT, sT] ty #[.slice (some ⟨g, o, none⟩) dLen dCap, .slice (some a) sLen sCap]).run P w = .ok (goInt (Nat.min sLen dLen : Nat)) (w.setRow g (cur.toList.take o ++ news ++ cur.toList.drop (o + news.length)).toArray) := by
  have hl := run_loadCells_list (P := P) w a news hsrc
  have hst := run_storeCells_at P g o et news 0 cur w hg (by rw [Nat.add_zero]; exact hfit) h1
  rw [hn] at hl
  simp only [Nat.add_zero] at hst
  have hmin : Nat.min sLen dLen = min sLen dLen := rfl
  simp [Builtin.copy_, run_underlying ht, Builtin.lenOf, Builtin.firstCells, sizeOf, typeInfo, hi, hmin, hl, hst]
theorem wp_copy_run {P : Program} (w : World) {o : Oper} {a : Act} {K : Act → World → Prop} {Q : Exit → Act → World → Prop} (d s : Operand) (t t' : TypeId)
    (ho : o.op = .call { callee := .builtin .copy, args := #[d, s], argTypes := #[t, t'] }) (v u : Value) (hd : a.eval d = v) (hs : a.eval s = u) {v' : Value} {w' : World}
    (hr : (Builtin.copy_ #[t, t'] o.type #[v, u]).run P w = .ok v' w') (h : K (a.put o.dst v') w') : o.wp P a w K Q := by
  unfold Oper.wp execOp
  simp only [ho, resolve, invoke, builtin, Sem.run_bind, Sem.run_pure, Result.andThen_ok, List.map_toArray, List.map_cons, List.map_nil, hd, hs, hr]
  exact h
theorem wpList_copy_run {P : Program} (w : World) {ops : Array Oper} {rest : List Oper} {o : Oper} {a : Act} {Q : Exit → Act → World → Prop} (hgd : o.guard = none) (d s : Operand) (t t' : TypeId)
    (ho : o.op = .call { callee := .builtin .copy, args := #[d, s], argTypes := #[t, t'] }) (v u : Value) (hd : a.eval d = v) (hs : a.eval s = u) {v' : Value} {w' : World}
    (hr : (Builtin.copy_ #[t, t'] o.type #[v, u]).run P w = .ok v' w') (h : wpList P ops Q rest (a.put o.dst v') w') : wpList P ops Q (o :: rest) a w :=
  wpList_plain hgd fun _ hK => wp_copy_run w d s t t' ho v u hd hs hr (hK _ _ h)
set_option maxHeartbeats 1000000 in
/-- A list cloned, without spare room. -/
theorem fresh79 (g off n c : Nat) (xs : List Value) (w : World) (hn : n ≤ 1000000) (h0 : 0 < n) (hx : xs.length = n * 4) (hc : ∀ j v, xs[j]? = some v → w.cell? ⟨g, off + j, none⟩ = some v) (h1 : ∀ u ∈ xs, u.oneCell' = true) :
    Calls Tryd.prog 79 #[.slice (some ⟨g, off, none⟩) n c] w fun e w' => e = .returned (.slice (some ⟨w.heap.size, 0, none⟩) n n) ∧ w'.heap[w.heap.size]? = some (.cells xs.toArray 58 (0, 0)) ∧ Below w.heap.size w w' := by
  obtain ⟨i0, hi, hz0, hz1, hz2⟩ := info_parts infoE
  have hg : g < w.heap.size := World.block_lt_of_cell? _ _ (hc 0 _ (List.getElem?_eq_getElem (by omega)))
  obtain ⟨ROW, hRS, hmk⟩ : ∃ ROW : Array Value, ROW.size = n * 4 ∧ (Instr.makeSlice 22 (.int .i64 n) (.int .i64 n)).run Tryd.prog w = .ok (.slice (some ⟨w.heap.size, 0, none⟩) n n) (w.alloc (.cells ROW 58)) := by
    have := run_make (P := Tryd.prog) w 22 58 i0 _ Tryd.underlying22 hi hz0 .i64 .i64 n n (by omega) (by omega) (by rw [hz2]; omega) (by omega)
    simp only [Int.toNat_natCast] at this
    exact ⟨_, by rw [size_madeCells, hz1], this⟩
  have hgn : (w.alloc (.cells ROW 58)).heap[w.heap.size]? = some (.cells ROW 58 (0, 0)) := row_alloc w _ 58
  have hcp : ∀ ty, (Builtin.copy_ #[22, 22] ty #[.slice (some ⟨w.heap.size, 0, none⟩) n n, .slice (some ⟨g, off, none⟩) n c]).run Tryd.prog (w.alloc (.cells ROW 58)) = .ok (goInt (Nat.min n n : Nat)) ((w.alloc (.cells ROW 58)).setRow w.heap.size xs.toArray) := fun ty => by
    have := run_copyS (P := Tryd.prog) (w.alloc (.cells ROW 58)) 22 22 ty 58 58 i0 Tryd.underlying22 hi w.heap.size 0 n n ROW hgn ⟨g, off, none⟩ n c xs (by rw [hx, hz1, Nat.min_self]) (fun j v hj => by
      rw [Addr.add_lit]
      exact ((Below.refl _ w).alloc (Nat.le_refl _) _ |>.cell (p := ⟨g, off + j, none⟩) hg).trans (hc j v hj)) (by omega) h1
    rw [List.take_zero, List.drop_eq_nil_of_le (by simp; omega), List.nil_append, List.append_nil] at this
    exact this
  have hn0 : ((n : Int) == 0) = false := by simpa using by omega
  clear hc
  go_enter Tryd.func79, Tryd.ntmps79
  go_wp2_with (at_builtin; refine wpList_copy_run _ rfl _ _ 22 22 rfl _ _ rfl rfl (hcp _) ?_)
  go_ret
  have hr : Bx w.heap.size ROW 58 (w.alloc (.cells ROW 58)) := hgn
  obtain ⟨k1, k2⟩ := hr.fill (row' := xs.toArray)
  exact ⟨rfl, k1, ((Below.refl _ w).alloc (Nat.le_refl _) _).trans (k2.below (by simp) (fun k hk e => by have e1 : k = w.heap.size := e; omega))⟩
set_option maxHeartbeats 1000000 in
/-- A list cloned, without spare room. -/
theorem fresh80 (g off n c : Nat) (xs : List Value) (w : World) (hn : n ≤ 1000000) (h0 : 0 < n) (hx : xs.length = n * 1) (hc : ∀ j v, xs[j]? = some v → w.cell? ⟨g, off + j, none⟩ = some v) (h1 : ∀ u ∈ xs, u.oneCell' = true) :
    Calls Tryd.prog 80 #[.slice (some ⟨g, off, none⟩) n c] w fun e w' => e = .returned (.slice (some ⟨w.heap.size, 0, none⟩) n n) ∧ w'.heap[w.heap.size]? = some (.cells xs.toArray 5 (0, 0)) ∧ Below w.heap.size w w' := by
  obtain ⟨i0, hi, hz0, hz1, hz2⟩ := info_parts info5
  have hg : g < w.heap.size := World.block_lt_of_cell? _ _ (hc 0 _ (List.getElem?_eq_getElem (by omega)))
  obtain ⟨ROW, hRS, hmk⟩ : ∃ ROW : Array Value, ROW.size = n * 1 ∧ (Instr.makeSlice 26 (.int .i64 n) (.int .i64 n)).run Tryd.prog w = .ok (.slice (some ⟨w.heap.size, 0, none⟩) n n) (w.alloc (.cells ROW 5)) := by
    have := run_make (P := Tryd.prog) w 26 5 i0 _ Tryd.underlying26 hi hz0 .i64 .i64 n n (by omega) (by omega) (by rw [hz2]; omega) (by omega)
    simp only [Int.toNat_natCast] at this
    exact ⟨_, by rw [size_madeCells, hz1], this⟩
  have hgn : (w.alloc (.cells ROW 5)).heap[w.heap.size]? = some (.cells ROW 5 (0, 0)) := row_alloc w _ 5
  have hcp : ∀ ty, (Builtin.copy_ #[26, 26] ty #[.slice (some ⟨w.heap.size, 0, none⟩) n n, .slice (some ⟨g, off, none⟩) n c]).run Tryd.prog (w.alloc (.cells ROW 5)) = .ok (goInt (Nat.min n n : Nat)) ((w.alloc (.cells ROW 5)).setRow w.heap.size xs.toArray) := fun ty => by
    have := run_copyS (P := Tryd.prog) (w.alloc (.cells ROW 5)) 26 26 ty 5 5 i0 Tryd.underlying26 hi w.heap.size 0 n n ROW hgn ⟨g, off, none⟩ n c xs (by rw [hx, hz1, Nat.min_self]) (fun j v hj => by
      rw [Addr.add_lit]
      exact ((Below.refl _ w).alloc (Nat.le_refl _) _ |>.cell (p := ⟨g, off + j, none⟩) hg).trans (hc j v hj)) (by omega) h1
    rw [List.take_zero, List.drop_eq_nil_of_le (by simp; omega), List.nil_append, List.append_nil] at this
    exact this
  have hn0 : ((n : Int) == 0) = false := by simpa using by omega
  clear hc
  go_enter Tryd.func80, Tryd.ntmps80
  go_wp2_with (at_builtin; refine wpList_copy_run _ rfl _ _ 26 26 rfl _ _ rfl rfl (hcp _) ?_)
  go_ret
  have hr : Bx w.heap.size ROW 5 (w.alloc (.cells ROW 5)) := hgn
  obtain ⟨k1, k2⟩ := hr.fill (row' := xs.toArray)
  exact ⟨rfl, k1, ((Below.refl _ w).alloc (Nat.le_refl _) _).trans (k2.below (by simp) (fun k hk e => by have e1 : k = w.heap.size := e; omega))⟩
set_option maxHeartbeats 1000000 in
/-- A list cloned, without spare room. -/
theorem fresh81 (g off n c : Nat) (xs : List Value) (w : World) (hn : n ≤ 1000000) (h0 : 0 < n) (hx : xs.length = n * 1) (hc : ∀ j v, xs[j]? = some v → w.cell? ⟨g, off + j, none⟩ = some v) (h1 : ∀ u ∈ xs, u.oneCell' = true) :
    Calls Tryd.prog 81 #[.slice (some ⟨g, off, none⟩) n c] w fun e w' => e = .returned (.slice (some ⟨w.heap.size, 0, none⟩) n n) ∧ w'.heap[w.heap.size]? = some (.cells xs.toArray 3 (0, 0)) ∧ Below w.heap.size w w' := by
  obtain ⟨i0, hi, hz0, hz1, hz2⟩ := info_parts infoI
  have hg : g < w.heap.size := World.block_lt_of_cell? _ _ (hc 0 _ (List.getElem?_eq_getElem (by omega)))
  obtain ⟨ROW, hRS, hmk⟩ : ∃ ROW : Array Value, ROW.size = n * 1 ∧ (Instr.makeSlice 23 (.int .i64 n) (.int .i64 n)).run Tryd.prog w = .ok (.slice (some ⟨w.heap.size, 0, none⟩) n n) (w.alloc (.cells ROW 3)) := by
    have := run_make (P := Tryd.prog) w 23 3 i0 _ Tryd.underlying23 hi hz0 .i64 .i64 n n (by omega) (by omega) (by rw [hz2]; omega) (by omega)
    simp only [Int.toNat_natCast] at this
    exact ⟨_, by rw [size_madeCells, hz1], this⟩
  have hgn : (w.alloc (.cells ROW 3)).heap[w.heap.size]? = some (.cells ROW 3 (0, 0)) := row_alloc w _ 3
  have hcp : ∀ ty, (Builtin.copy_ #[23, 23] ty #[.slice (some ⟨w.heap.size, 0, none⟩) n n, .slice (some ⟨g, off, none⟩) n c]).run Tryd.prog (w.alloc (.cells ROW 3)) = .ok (goInt (Nat.min n n : Nat)) ((w.alloc (.cells ROW 3)).setRow w.heap.size xs.toArray) := fun ty => by
    have := run_copyS (P := Tryd.prog) (w.alloc (.cells ROW 3)) 23 23 ty 3 3 i0 Tryd.underlying23 hi w.heap.size 0 n n ROW hgn ⟨g, off, none⟩ n c xs (by rw [hx, hz1, Nat.min_self]) (fun j v hj => by
      rw [Addr.add_lit]
      exact ((Below.refl _ w).alloc (Nat.le_refl _) _ |>.cell (p := ⟨g, off + j, none⟩) hg).trans (hc j v hj)) (by omega) h1
    rw [List.take_zero, List.drop_eq_nil_of_le (by simp; omega), List.nil_append, List.append_nil] at this
    exact this
  have hn0 : ((n : Int) == 0) = false := by simpa using by omega
  clear hc
  go_enter Tryd.func81, Tryd.ntmps81
  go_wp2_with (at_builtin; refine wpList_copy_run _ rfl _ _ 23 23 rfl _ _ rfl rfl (hcp _) ?_)
  go_ret
  have hr : Bx w.heap.size ROW 3 (w.alloc (.cells ROW 3)) := hgn
  obtain ⟨k1, k2⟩ := hr.fill (row' := xs.toArray)
  exact ⟨rfl, k1, ((Below.refl _ w).alloc (Nat.le_refl _) _).trans (k2.below (by simp) (fun k hk e => by have e1 : k = w.heap.size := e; omega))⟩
end Go.Proofs.YtamgoknoapcnjaaDoor
/- A message cloned. -/
namespace Go.Proofs.YtamgoknoapcnjaaDoor
open Go Go.RowKit
theorem cloneB {Z : Nat → Prop} {w : World} {v : Value} {zs : List Int} (h : Bs Z w v zs) (hl : zs.length ≤ 1000000) :
    Calls Tryd.prog 80 #[v] w fun e w' => ∃ p c, e = .returned (.slice p zs.length c) ∧ Bs (fun k => w.heap.size ≤ k) w' (.slice p zs.length c) zs ∧ Below w.heap.size w w' := by
  obtain ⟨p, c, rfl⟩ := h.slice
  by_cases h0 : zs.length = 0
  · obtain rfl := List.eq_nil_of_length_eq_zero h0
    refine (cl80 p c w).mono ?_
    rintro e w' ⟨rfl, hw⟩
    obtain rfl := hw.symm
    exact ⟨none, 0, rfl, Bs.nil _ _, Below.refl _ _⟩
  · rcases h.s with ⟨rfl, _⟩ | ⟨g, o, c', e, h1, h2, h3, hc⟩
    · exact absurd rfl h0
    cases e
    refine (fresh80 g o zs.length c (u8s zs) w hl (by omega) (by simp) (fun j v hj => ?_) (fun u hu => ?_)).mono ?_
    · rw [List.getElem?_map] at hj
      cases hz : zs[j]? with
      | none => rw [hz] at hj; cases hj
      | some x =>
        rw [hz] at hj
        cases hj
        have hjl := (List.getElem?_eq_some_iff.1 hz).1
        refine (hc j hjl).trans ?_
        simp [List.getD_eq_getElem?_getD, hz]
    · obtain ⟨x, _, rfl⟩ := List.mem_map.1 hu
      rfl
    · rintro e w' ⟨rfl, hr, hb⟩
      refine ⟨_, _, rfl, ⟨.inr ⟨w.heap.size, 0, _, rfl, by omega, Nat.le_refl _, by unfold maxLen; omega, fun i hi => ?_⟩, fun k hk _ => ?_⟩, hb⟩
      · rw [Nat.zero_add, cell_of_row _ _ _ _ _ _ hr]
        simp [List.getD_eq_getElem?_getD, List.getElem?_eq_getElem hi]
      · have e1 : w.heap.size = k := by simpa [Value.ownBlock] using hk
        omega
theorem cloneI {Z : Nat → Prop} {w : World} {p : Option Addr} {c : Nat} {l : List Int} (h : Is Z w (.slice p l.length c) l) (hl : l.length ≤ 1000000) :
    Calls Tryd.prog 81 #[.slice p l.length c] w fun e w' => ∃ p c, e = .returned (.slice p l.length c) ∧ Is (fun k => w.heap.size ≤ k) w' (.slice p l.length c) l ∧ Below w.heap.size w w' := by
  by_cases h0 : l.length = 0
  · obtain rfl := List.eq_nil_of_length_eq_zero h0
    refine (cl81 p c w).mono ?_
    rintro e w' ⟨rfl, hw⟩
    obtain rfl := hw.symm
    exact ⟨none, 0, rfl, Is.nil _ _, Below.refl _ _⟩
  · obtain ⟨p', c', e, _, _, hh⟩ := h
    cases e
    obtain ⟨g, o, rfl, _, _⟩ := hh 0 l[0] (List.getElem?_eq_getElem (by omega))
    refine (fresh81 g o l.length c (l.map iv) w hl (by omega) (by simp) (fun j v hj => ?_) (fun u hu => ?_)).mono ?_
    · rw [List.getElem?_map] at hj
      cases hz : l[j]? with
      | none => rw [hz] at hj; cases hj
      | some x =>
        rw [hz] at hj
        cases hj
        obtain ⟨g', o', e, _, hc⟩ := hh j x hz
        cases e
        exact hc
    · obtain ⟨x, _, rfl⟩ := List.mem_map.1 hu
      rfl
    · rintro e w' ⟨rfl, hr, hb⟩
      refine ⟨_, _, rfl, ⟨_, _, rfl, Nat.le_refl _, by unfold maxLen; omega, fun i x hi => ⟨w.heap.size, 0, rfl, Nat.le_refl _, ?_⟩⟩, hb⟩
      rw [Nat.zero_add, cell_of_row _ _ _ _ _ _ hr]
      simp [hi]
theorem ecells_len : ∀ (l : List Ent) (ds : List Value), l.length = ds.length → (ecells l ds).length = l.length * 4
  | [], [], _ => rfl
  | a :: l, c :: ds, h => by simp only [ecells, List.length_cons]; rw [ecells_len l ds (by simpa using h)]; omega
  | [], _ :: _, h => by simp at h
  | _ :: _, [], h => by simp at h
/-- A cell of entries: whose, and which. -/
theorem ecells_at {l : List Ent} {ds : List Value} (hl : l.length = ds.length) {q : Value → Nat → Prop} (h : ∀ (i : Nat) (e : Ent) (d : Value), l[i]? = some e → ds[i]? = some d → q (iv e.i) (i * 4) ∧ q (iv e.t) (i * 4 + 1) ∧ q (iv e.k) (i * 4 + 2) ∧ q d (i * 4 + 3)) :
    ∀ j v, (ecells l ds)[j]? = some v → q v j := by
  intro j v hj
  have hjl := (List.getElem?_eq_some_iff.1 hj).1
  rw [ecells_len l ds hl] at hjl
  obtain ⟨i, r, rfl, hr⟩ : ∃ i r, j = i * 4 + r ∧ r < 4 := ⟨j / 4, j % 4, by omega, by omega⟩
  have hi : i < l.length := by omega
  have h1 := List.getElem?_eq_getElem hi
  have h2 := List.getElem?_eq_getElem (show i < ds.length by omega)
  obtain ⟨a0, a1, a2, a3⟩ := ecells_get l ds i _ _ h1 h2
  obtain ⟨b0, b1, b2, b3⟩ := h i _ _ h1 h2
  rcases (by omega : r = 0 ∨ r = 1 ∨ r = 2 ∨ r = 3) with e | e | e | e <;> subst e
  · rw [Nat.add_zero] at hj ⊢; rw [a0] at hj; cases hj; exact b0
  · rw [a1] at hj; cases hj; exact b1
  · rw [a2] at hj; cases hj; exact b2
  · rw [a3] at hj; cases hj; exact b3
theorem cloneE {Z : Nat → Prop} {w : World} {p : Option Addr} {c : Nat} {l : List Ent} (h : Es Z w (.slice p l.length c) l) (hl : l.length ≤ 1000000) :
    Calls Tryd.prog 79 #[.slice p l.length c] w fun e w' => ∃ p' c', e = .returned (.slice p' l.length c') ∧ l.length ≤ c' ∧ c' ≤ maxLen ∧ Below w.heap.size w w' ∧ (l.length = 0 → p' = none ∧ c' = 0) ∧
      (0 < l.length → ∃ ds, p' = some ⟨w.heap.size, 0, none⟩ ∧ l.length = ds.length ∧ Bx w.heap.size (ecells l ds).toArray 58 w' ∧ ∀ (i : Nat) (e : Ent) (dv : Value), l[i]? = some e → ds[i]? = some dv → Bs Z w dv e.d) := by
  by_cases h0 : l.length = 0
  · obtain rfl := List.eq_nil_of_length_eq_zero h0
    refine (cl79 p c w).mono ?_
    rintro e w' ⟨rfl, hw⟩
    obtain rfl := hw.symm
    exact ⟨none, 0, rfl, Nat.le_refl _, by decide, Below.refl _ _, fun _ => ⟨rfl, rfl⟩, fun h => absurd h (by simp)⟩
  · obtain ⟨p', c', e, _, _, hh⟩ := h
    cases e
    obtain ⟨g, o, rfl, _, _⟩ := hh 0 l[0] (List.getElem?_eq_getElem (by omega))
    obtain ⟨ds, hds⟩ : ∃ ds, ds = (List.range l.length).map (fun i => (w.cell? ⟨g, o + i * 4 + 3, none⟩).getD (.slice none 0 0)) := ⟨_, rfl⟩
    have hdl : l.length = ds.length := by rw [hds]; simp
    have hel : ∀ (i : Nat) (e : Ent) (d : Value), l[i]? = some e → ds[i]? = some d → w.cell? ⟨g, o + i * 4, none⟩ = some (iv e.i) ∧ w.cell? ⟨g, o + i * 4 + 1, none⟩ = some (iv e.t) ∧ w.cell? ⟨g, o + i * 4 + 2, none⟩ = some (iv e.k) ∧ w.cell? ⟨g, o + i * 4 + 3, none⟩ = some d ∧ Bs Z w d e.d := by
      intro i e d h1 h2
      obtain ⟨g', o', e', _, q0, q1, q2, dv, q3, hd⟩ := hh i e h1
      cases e'
      have hi := (List.getElem?_eq_some_iff.1 h1).1
      rw [hds, List.getElem?_map, List.getElem?_range hi, Option.map_some, q3] at h2
      cases h2
      exact ⟨q0, q1, q2, q3, hd⟩
    refine (fresh79 g o l.length c (ecells l ds) w hl (by omega) (ecells_len l ds hdl) (ecells_at hdl (q := fun v j => w.cell? ⟨g, o + j, none⟩ = some v) (fun i e d h1 h2 => ?_)) (fun u hu => ?_)).mono ?_
    · obtain ⟨a0, a1, a2, a3, _⟩ := hel i e d h1 h2
      exact ⟨a0, a1, a2, a3⟩
    · obtain ⟨j, hj⟩ := List.getElem?_of_mem hu
      exact ecells_at hdl (q := fun v _ => v.oneCell' = true) (fun i e d h1 h2 => by
        obtain ⟨_, _, _, _, hb⟩ := hel i e d h1 h2
        obtain ⟨pp, cc, rfl⟩ := hb.slice
        exact ⟨rfl, rfl, rfl, rfl⟩) j u hj
    · rintro e w' ⟨rfl, hr, hb⟩
      exact ⟨_, _, rfl, Nat.le_refl _, by unfold maxLen; omega, hb, fun h => absurd h h0, fun _ => ⟨ds, rfl, hdl, hr, fun i e dv h1 h2 => (hel i e dv h1 h2).2.2.2.2⟩⟩
end Go.Proofs.YtamgoknoapcnjaaDoor
/- A message cloned, whole. -/
namespace Go.Proofs.YtamgoknoapcnjaaDoor
open Go Go.RowKit
theorem ecells_set : ∀ (l : List Ent) (ds : List Value) (j : Nat) (v : Value), l.length = ds.length → j < l.length → ecells l (ds.set j v) = (ecells l ds).set (j * 4 + 3) v
  | [], _, j, v, _, hj => by simp at hj
  | a :: l, [], j, v, h, _ => by simp at h
  | a :: l, c :: ds, 0, v, h, _ => rfl
  | a :: l, c :: ds, j + 1, v, h, hj => by
    rw [show (j + 1) * 4 + 3 = (j * 4 + 3) + 4 by omega]
    show iv a.i :: iv a.t :: iv a.k :: c :: ecells l (ds.set j v) = _
    rw [ecells_set l ds j v (by simpa using h) (by simpa using hj)]
    rfl
/-- A clone on its way: the box at d, the result's behind it, the entries' row at G; the first j entries' bytes are new. -/
structure Cl (w W : World) (d G : Nat) (Z : Nat → Prop) (R : Array Value) (m : Md) (pe : Option Addr) (j : Nat) : Prop where
  x : Bx d R 28 W
  z : Bx (d + 1) zrow 28 W
  u : Below w.heap.size w W
  hd : d = w.heap.size
  hG : d + 1 < G
  g : 0 < m.es.length → ∃ ds, pe = some ⟨G, 0, none⟩ ∧ m.es.length = ds.length ∧ Bx G (ecells m.es ds).toArray 58 W ∧ ∀ (i : Nat) (e : Ent) (dv : Value), m.es[i]? = some e → ds[i]? = some dv → (i < j → Bs (fun k => G < k) W dv e.d) ∧ (j ≤ i → Bs Z W dv e.d)
theorem Cl.below {w W W' : World} {d G : Nat} {Z : Nat → Prop} {R : Array Value} {m : Md} {pe : Option Addr} {j : Nat} (h : Cl w W d G Z R m pe j) (hb : Below W.heap.size W W') : Cl w W' d G Z R m pe j :=
  ⟨h.x.below hb, h.z.below hb, h.u.trans (hb.mono h.u.size), h.hd, h.hG, fun h0 => by
    obtain ⟨ds, h1, h2, h3, h4⟩ := h.g h0
    exact ⟨ds, h1, h2, h3.below hb, fun i e dv a b => ⟨fun hi => ((h4 i e dv a b).1 hi).below hb, fun hi => ((h4 i e dv a b).2 hi).below hb⟩⟩⟩
theorem Cl.es {w W : World} {d G : Nat} {Z : Nat → Prop} {R : Array Value} {m : Md} {pe : Option Addr} {c : Nat} (h : Cl w W d G Z R m pe m.es.length) (hc : m.es.length ≤ c) (hcm : c ≤ maxLen) : Es (fun k => d + 1 < k) W (.slice pe m.es.length c) m.es := by
  refine ⟨pe, c, rfl, hc, hcm, fun i e hi => ?_⟩
  have hil := (List.getElem?_eq_some_iff.1 hi).1
  obtain ⟨ds, h1, h2, h3, h4⟩ := h.g (by omega)
  have hdi := List.getElem?_eq_getElem (show i < ds.length by omega)
  obtain ⟨a0, a1, a2, a3⟩ := ecells_get m.es ds i e _ hi hdi
  have hG := h.hG
  refine ⟨G, 0, h1, hG, ?_⟩
  rw [Nat.zero_add]
  refine ⟨(h3.cell _).trans (by simpa using a0), (h3.cell _).trans (by simpa using a1), (h3.cell _).trans (by simpa using a2), _, (h3.cell _).trans (by simpa using a3), ((h4 i e _ hi hdi).1 hil).mono (fun k hk => by omega)⟩
set_option maxRecDepth 100000 in
set_option maxHeartbeats 4000000 in
theorem clone_msg (Z : Nat → Prop) (w : World) (m : Md) (ve vv vd : Value) (hm : Ms Z w ve vv vd m) (hs : Small m) (hZ : ∀ k, Z k → k < w.heap.size) :
    Calls Tryd.prog 48 #[.agg (mrow m ve vv vd)] w fun e w' => ∃ pe ce pv cv pd cd, e = .returned (.agg (mrow m (.slice pe m.es.length ce) (.slice pv m.vs.length cv) (.slice pd m.data.length cd))) ∧ Ms (fun k => w.heap.size ≤ k) w' (.slice pe m.es.length ce) (.slice pv m.vs.length cv) (.slice pd m.data.length cd) m ∧ Below w.heap.size w w' := by
  obtain ⟨pe0, ce0, rfl, -, -, -⟩ := hm.e
  obtain ⟨pv0, cv0, rfl, -, -, -⟩ := hm.v
  obtain ⟨pd0, cd0, rfl⟩ := hm.d.slice
  obtain ⟨w1, hw1⟩ : ∃ w1, w1 = (w.alloc (.cells (mrow m (.slice pe0 m.es.length ce0) (.slice pv0 m.vs.length cv0) (.slice pd0 m.data.length cd0)) 28)).alloc (.cells zrow 28) := ⟨_, rfl⟩
  have hb1 : Below w.heap.size w w1 := by rw [hw1]; exact ((Below.refl _ _).alloc (Nat.le_refl _) _).alloc (by simp) _
  obtain ⟨d, hd⟩ : ∃ d, d = w.heap.size := ⟨_, rfl⟩
  have HX1 : Bx d (mrow m (.slice pe0 m.es.length ce0) (.slice pv0 m.vs.length cv0) (.slice pd0 m.data.length cd0)) 28 w1 := by rw [hd, hw1]; exact Bx.below (row_alloc w _ 28) ((Below.refl _ _).alloc (Nat.le_refl _) _)
  have HY1 : Bx (d + 1) zrow 28 w1 := by
    rw [hd, hw1]
    have := row_alloc (w.alloc (.cells (mrow m (.slice pe0 m.es.length ce0) (.slice pv0 m.vs.length cv0) (.slice pd0 m.data.length cd0)) 28)) zrow 28
    rw [show (w.alloc (.cells (mrow m (.slice pe0 m.es.length ce0) (.slice pv0 m.vs.length cv0) (.slice pd0 m.data.length cd0)) 28)).heap.size = w.heap.size + 1 by simp] at this
    exact this
  obtain ⟨G, hG⟩ : ∃ G, G = w1.heap.size := ⟨_, rfl⟩
  have hGs : Hid (w1.heap.size = d + 2) := by show _ = _; rw [hw1, hd]; simp
  have HSM : Hid (entsN m.es ≤ 20000) := by show _ ≤ _; have := hs.sum; omega
  have hes := hs.es
  have hvs := hs.vs
  have hds : m.data.length ≤ 20000 := by have := hs.sum; omega
  have hce := cloneE (hm.e.below hb1) (by omega)
  have e0 : w1.cell? ⟨d, 6, none⟩ = some (.slice pe0 m.es.length ce0) := HX1.cell 6
  have HB1 := Hid.mkW hb1
  have HD := Hid.mkW hd
  have HM := Hid.mkW hm
  have HZ := Hid.mkW hZ
  have HG := Hid.mkW hG
  clear hm hZ hb1 hs
  unfold zrow at hw1
  go_enter Tryd.func48, Tryd.ntmps48
  go_upto_region 1 with fail
  rw [← hw1, ← hd]
  clear hw1 hd hG
  go_upto_region 2 with (go_at_call 79; refine hce.mono ?_; rintro e w2 ⟨pe, ce, rfl, q1, q2, hb2, q3, q4⟩; have HX2 := HX1.below hb2; have e2 := HX2.cell 6; have f2 := HX2.free 6; have HE := Hid.mkW (And.intro q1 (And.intro q2 (And.intro q3 q4))); have HB2 := Hid.mkW hb2; clear q1 q2 q3 q4 hb2)
  obtain ⟨w3, hw3⟩ : ∃ w3, w3 = w2.setCell ⟨d, 6, none⟩ (.slice pe m.es.length ce) := ⟨_, rfl⟩
  have H3 : Hid (Cl w w3 d G Z (mrow m (.slice pe m.es.length ce) (.slice pv0 m.vs.length cv0) (.slice pd0 m.data.length cd0)) m pe 0) := by
    have hd := HD.out
    have hG := HG.out
    have hg2 := hGs.out
    have us : Upd w2 w3 (fun k => k = d) := by rw [hw3]; exact (Upd.refl w2 (fun k => k = d)).setCell (p := ⟨d, 6, none⟩) (.inr rfl) _
    have hy2 := HY1.below HB2.out
    have hu2 := HB1.out.trans (HB2.out.mono HB1.out.size)
    refine ⟨by rw [hw3]; exact HX2.set 6 _ rfl, hy2.upd us (by omega), hu2.trans (us.below hu2.size (fun k hk e => by have e1 : k = d := e; omega)), hd, by omega, fun h0 => ?_⟩
    obtain ⟨ds, a1, a2, a3, a4⟩ := HE.out.2.2.2 h0
    rw [← hG] at a1 a3
    exact ⟨ds, a1, a2, a3.upd us (by omega), fun i e dv b1 b2 => ⟨fun h => by omega, fun _ => ((a4 i e dv b1 b2).below HB2.out).upd us (fun k hk hl e => by have e1 : k = d := e; have := HZ.out k hk; omega)⟩⟩
  rw [← hw3]
  clear hw3 e0 e2 f2 hce HX1 HX2 HY1
  have e3 : w3.cell? ⟨d, 6, none⟩ = some (.slice pe m.es.length ce) := H3.out.x.cell 6
  go_wp2
  go_loopg [3, 4, 12] (m.es.length + 1) (fun kx _s3 _s4 s12 wq => ∃ j : Nat, s12 = .int .i64 j ∧ kx + j = m.es.length + 1 ∧ j ≤ m.es.length ∧ Hid (Cl w wq d G Z (mrow m (.slice pe m.es.length ce) (.slice pv0 m.vs.length cv0) (.slice pd0 m.data.length cd0)) m pe j))
  case atStart => exact ⟨0, rfl, rfl, Nat.zero_le _, H3⟩
  case round =>
    obtain ⟨j, rfl, hk, hj, HW⟩ := hrel
    clear e3
    by_cases hlt : j < m.es.length
    · obtain ⟨ds, hpe, hdl, hgr, hdd⟩ := HW.out.g (by omega)
      subst hpe
      obtain ⟨x, hx⟩ : ∃ x, m.es[j]? = some x := ⟨_, List.getElem?_eq_getElem hlt⟩
      obtain ⟨dv, hdv⟩ : ∃ dv, ds[j]? = some dv := ⟨_, List.getElem?_eq_getElem (by omega)⟩
      have hbs := (hdd j x dv hx hdv).2 (Nat.le_refl _)
      obtain ⟨p1, c1, rfl⟩ := hbs.slice
      obtain ⟨a0, a1, a2, a3⟩ := ecells_get m.es ds j x _ hx hdv
      have q0 : wr.cell? ⟨G, j * 4, none⟩ = some (iv x.i) := (hgr.cell _).trans (by simpa using a0)
      have q1 : wr.cell? ⟨G, j * 4 + 1, none⟩ = some (iv x.t) := (hgr.cell _).trans (by simpa using a1)
      have q2 : wr.cell? ⟨G, j * 4 + 2, none⟩ = some (iv x.k) := (hgr.cell _).trans (by simpa using a2)
      have q3 : wr.cell? ⟨G, j * 4 + 3, none⟩ = some (.slice p1 x.d.length c1) := (hgr.cell _).trans (by simpa using a3)
      have HDD := Hid.mkW (And.intro hdl (And.intro hgr (And.intro hdd (And.intro hx hdv))))
      have hxd : x.d.length ≤ 1000000 := by have h1 := entsN_mem hx; have h2 := HSM.out; omega
      have HA3 : Hid ((ecells m.es ds).toArray[j * 4 + 3]? = some (.slice p1 x.d.length c1)) := by show _ = _; simpa using a3
      clear a0 a1 a2 a3 hdl hdd hx hdv
      go_upto_region 5 with fail
      obtain ⟨g4, hg4⟩ : ∃ g4, g4 = wr.heap.size := ⟨_, rfl⟩
      obtain ⟨w4, hw4⟩ : ∃ w4, w4 = wr.alloc (.cells #[iv x.i, iv x.t, iv x.k, .slice p1 x.d.length c1] 58) := ⟨_, rfl⟩
      have hb4 : Below wr.heap.size wr w4 := by rw [hw4]; exact (Below.refl _ _).alloc (Nat.le_refl _) _
      have HE4 : Bx g4 #[iv x.i, iv x.t, iv x.k, .slice p1 x.d.length c1] 58 w4 := by rw [hw4, hg4]; exact row_alloc wr _ 58
      rw [← hw4, ← hg4]
      have hb4d : Below wr.heap.size wr w4.drew := hb4.drew
      have hcl := cloneB (hbs.below hb4d) hxd
      have HC4 := Hid.mkW (HW.out.below hb4d)
      have HB4d := Hid.mkW hb4d
      have c6 : ∀ W', Bx d (mrow m (.slice (some ⟨G, 0, none⟩) m.es.length ce) (.slice pv0 m.vs.length cv0) (.slice pd0 m.data.length cd0)) 28 W' → W'.cell? ⟨d, 6, none⟩ = some (Value.slice (some ⟨G, 0, none⟩) m.es.length ce) := fun W' h => h.cell 6
      have HXr : Bx d (mrow m (.slice (some ⟨G, 0, none⟩) m.es.length ce) (.slice pv0 m.vs.length cv0) (.slice pd0 m.data.length cd0)) 28 w4.drew := HC4.out.x
      have e43 : w4.drew.cell? ⟨g4, 3, none⟩ = some (.slice p1 x.d.length c1) := HE4.cell 3
      have hgr4 := hgr.below hb4d
      clear hw4 hg4 hb4 hb4d HE4 q0 q1 q2 q3 hbs hgr
      go_region_law (first
        | (go_simp; go_at_call 80; (with_reducible refine hcl.mono ?_); rintro e w5 ⟨p5, c5, rfl, hs5, hb5⟩; have HXa := HXr.below hb5; have hg5 := hgr4.below hb5; have y5 : ∃ u, w5.cell? ⟨G, j * 4 + 3, none⟩ = some u := ⟨_, (hg5.cell _).trans HA3.out⟩; obtain ⟨u5, y5⟩ := y5; have z5 := hg5.free (j * 4 + 3); have HS5 := Hid.mkW (And.intro hs5 hb5); clear hs5 hb5))
      all_goals
        go_wp2
        go_roundg (m.es.length - j)
        case measure => omega
        case rel =>
          refine ⟨j + 1, by congr 1, by omega, by omega, ?_⟩
          obtain ⟨hdl, hgr, hdd, hx, hdv⟩ := HDD.out
          obtain ⟨hs5, hb5⟩ := HS5.out
          have C5 := HC4.out.below hb5
          have hdG := C5.hG
          have hdw := C5.hd
          have us : Upd w5 (w5.setCell ⟨G, j * 4 + 3, none⟩ (.slice p5 x.d.length c5)) (fun k => k = G) := (Upd.refl w5 (fun k => k = G)).setCell (p := ⟨G, j * 4 + 3, none⟩) (.inr rfl) _
          have hGlt : G < wr.heap.size := hgr.lt
          have h45 := HB4d.out.size
          refine ⟨C5.x.upd us (by omega), C5.z.upd us (by omega), C5.u.trans (us.below C5.u.size (fun k hk e => by have e1 : k = G := e; omega)), hdw, hdG, fun _ => ⟨ds.set j (.slice p5 x.d.length c5), rfl, by simp [hdl], ?_, fun i e dv' b1 b2 => ?_⟩⟩
          · refine (((hgr.below HB4d.out).below hb5).set (j * 4 + 3) (.slice p5 x.d.length c5) ?_)
            rw [ecells_set _ _ _ _ hdl hlt]
            simp [Array.set!_eq_setIfInBounds]
          · by_cases hij : j = i
            · subst hij
              have hv : dv' = .slice p5 x.d.length c5 := by
                rw [List.getElem?_set_self (by omega)] at b2
                exact (Option.some.inj b2).symm
              have he : e = x := Option.some.inj (b1.symm.trans hx)
              subst hv he
              refine ⟨fun _ => ((hs5.strong).upd us (fun k hk _ e1 => ?_)).mono (fun k hk => ?_), fun h => by omega⟩
              · have e2 : k = G := e1
                have := hk.1
                omega
              · have := hk.1
                omega
            · rw [List.getElem?_set_ne hij] at b2
              obtain ⟨g1, g2⟩ := hdd i e dv' b1 b2
              refine ⟨fun h => (((g1 (by omega)).below HB4d.out).below hb5).upd us (fun k hk _ e1 => ?_), fun h => (((g2 (by omega)).below HB4d.out).below hb5).upd us (fun k hk _ e1 => ?_)⟩
              · have e2 : k = G := e1
                omega
              · have e2 : k = G := e1
                have := HZ.out k hk
                omega
    · obtain rfl : j = m.es.length := by omega
      have HES := Hid.mkW (HW.out.es HE.out.1 HE.out.2.1)
      have HXr := HW.out.x
      have HYr := Hid.mkW HW.out.z
      have HUr := Hid.mkW HW.out.u
      have hdw : d = w.heap.size := HW.out.hd
      have HDW := Hid.mkW hdw
      have hci := cloneI (HM.out.v.below HW.out.u) (by omega)
      have e13 : wr.cell? ⟨d, 13, none⟩ = some (.slice pv0 m.vs.length cv0) := HXr.cell 13
      clear hdw HW
      go_upto_region 8 with (go_at_call 81; refine hci.mono ?_; rintro e w5 ⟨pv, cv, rfl, hi5, hb5⟩; have HX5 := HXr.below hb5; have e5 := HX5.cell 13; have f5 := HX5.free 13; have HI5 := Hid.mkW (And.intro hi5 hb5); clear hi5 hb5)
      obtain ⟨w6, hw6⟩ : ∃ w6, w6 = w5.setCell ⟨d, 13, none⟩ (.slice pv m.vs.length cv) := ⟨_, rfl⟩
      have us : Upd w5 w6 (fun k => k = d) := by rw [hw6]; exact (Upd.refl w5 (fun k => k = d)).setCell (p := ⟨d, 13, none⟩) (.inr rfl) _
      have HX6 : Bx d (mrow m (.slice pe m.es.length ce) (.slice pv m.vs.length cv) (.slice pd0 m.data.length cd0)) 28 w6 := by rw [hw6]; exact HX5.set 13 _ rfl
      have HU6 := Hid.mkW us
      rw [← hw6]
      have HB6 : Hid (Below w.heap.size w w6) := by
        have h1 := HUr.out.trans (HI5.out.2.mono HUr.out.size)
        exact h1.trans (us.below h1.size (fun k hk e => by have e1 : k = d := e; have := HDW.out; omega))
      have HY6 := Hid.mkW ((HYr.out.below HI5.out.2).upd us (by omega))
      have HES6 := Hid.mkW ((HES.out.below HI5.out.2).upd us (fun k hk _ e => by have e1 : k = d := e; omega))
      have HIS6 := Hid.mkW ((HI5.out.1.upd us (fun k hk _ e => by have e1 : k = d := e; have h2 : wr.heap.size ≤ k := hk; have := HYr.out.lt; omega)).mono (Z' := fun k => d + 1 < k) (fun k hk => by have h2 : wr.heap.size ≤ k := hk; have := HYr.out.lt; omega))
      have hcb := cloneB (HM.out.d.below HB6.out) (by omega)
      have e14 : w6.cell? ⟨d, 14, none⟩ = some (.slice pd0 m.data.length cd0) := HX6.cell 14
      clear hw6 us e5 f5 e13 hci HXr HX5
      go_upto_region 9 with (go_at_call 80; refine hcb.mono ?_; rintro e w7 ⟨pd, cd, rfl, hs7, hb7⟩; have HX7 := HX6.below hb7; have e7 := HX7.cell 14; have f7 := HX7.free 14; have HS7 := Hid.mkW (And.intro hs7 hb7); clear hs7 hb7)
      obtain ⟨w8, hw8⟩ : ∃ w8, w8 = w7.setCell ⟨d, 14, none⟩ (.slice pd m.data.length cd) := ⟨_, rfl⟩
      have us : Upd w7 w8 (fun k => k = d) := by rw [hw8]; exact (Upd.refl w7 (fun k => k = d)).setCell (p := ⟨d, 14, none⟩) (.inr rfl) _
      have HX8 : Bx d (mrow m (.slice pe m.es.length ce) (.slice pv m.vs.length cv) (.slice pd m.data.length cd)) 28 w8 := by rw [hw8]; exact HX7.set 14 _ rfl
      rw [← hw8]
      have HB8 : Hid (Below w.heap.size w w8) := by
        have h1 := HB6.out.trans (HS7.out.2.mono HB6.out.size)
        exact h1.trans (us.below h1.size (fun k hk e => by have e1 : k = d := e; have := HDW.out; omega))
      have hy8 := (HY6.out.below HS7.out.2).upd us (by omega)
      have HMS8 : Hid (Ms (fun k => d + 1 < k) w8 (.slice pe m.es.length ce) (.slice pv m.vs.length cv) (.slice pd m.data.length cd) m) := by
        have hl := HY6.out.lt
        exact ⟨(HES6.out.below HS7.out.2).upd us (fun k hk _ e => by have e1 : k = d := e; omega), (HIS6.out.below HS7.out.2).upd us (fun k hk _ e => by have e1 : k = d := e; omega),
          (HS7.out.1.upd us (fun k hk _ e => by have e1 : k = d := e; omega)).mono (fun k hk => by omega)⟩
      clear hw8 us e7 f7 e14 hcb HX6 HX7
      obtain ⟨R8, hR8⟩ : ∃ R8, R8 = mrow m (.slice pe m.es.length ce) (.slice pv m.vs.length cv) (.slice pd m.data.length cd) := ⟨_, rfl⟩
      rw [← hR8] at HX8
      have HR8 := Hid.mkW hR8
      have HR8s : Hid (R8.size = 15) := by show _ = _; rw [hR8]; rfl
      have HR8a : R8.all (·.oneCell') = true := by rw [hR8]; kernel_rfl
      clear hR8
      go_wp2_with (first
        | (refine wpList_load_row rfl 28 _ rfl d rfl 28 _ (0, 0) _ HX8 Tryd.underlying28 rfl (by rw [HR8s.out]; kernel_rfl) ?_)
        | (refine wpList_store_row rfl 28 _ _ rfl (d + 1) R8 rfl rfl 28 zrow hy8 (by rw [HR8s.out]; kernel_rfl) (by rw [HR8s.out]; rfl) HR8a ?_))
      obtain ⟨HXF, uF⟩ := hy8.fill (row' := R8)
      refine bodyPost_ret (results_c1 rfl _ _ (d + 1) 28 R8 (0, 0) _ rfl HXF Tryd.underlying28 rfl (by rw [HR8s.out]; kernel_rfl)) rfl ?_
      have hdw := HDW.out
      exact ⟨pe, ce, pv, cv, pd, cd, congrArg (fun r => Ending.returned (.agg r)) HR8.out, (HMS8.out.upd uF (fun k hk _ e => by have e1 : k = d + 1 := e; omega)).mono (fun k hk => by omega), HB8.out.trans (uF.below HB8.out.size (fun k hk e => by have e1 : k = d + 1 := e; omega))⟩
end Go.Proofs.YtamgoknoapcnjaaDoor
