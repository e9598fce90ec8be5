/- slices.DeleteFunc and slices.Clone of a row of changes. -/
import Derived.Test.YtjdmgmnndfhmgaaGreatGRN
namespace Go.Proofs.YtjdmgmnndfhmgaaGreat
open Go Go.RowKit

theorem row_set {w : World} {B e s g c n : Nat} {xs : List Value} (h : w.ownsRow B e s (.slice (some ⟨g, 0, none⟩) n c) n xs) (j : Nat) (u : Value) : (w.setCell ⟨g, j, none⟩ u).ownsRow B e s (.slice (some ⟨g, 0, none⟩) n c) n (xs.set j u) := by
  refine ⟨by rw [List.length_set]; exact h.1, .inr ?_⟩
  rcases h.2 with ⟨e, _⟩ | ⟨g', cap, cur, e, hbg, hh, h1, h2, h3, h4⟩
  · cases e
  · cases e
    refine ⟨g, c, _, rfl, hbg, heap_setCell_row hh u, h1, h2, by simpa using h3, ?_⟩
    rw [Array.set!_eq_setIfInBounds, Array.toList_setIfInBounds, List.take_set, h4]
theorem evL_len (e : Evd) : (evL e).length = 8 := by simp [evL, evC]
/-- Eight cells of a row are laid anew. -/
theorem evsC_set (e : Evd) (a0 a1 a2 a3 a4 a5 a6 a7 : Value) (he : evL e = [a0, a1, a2, a3, a4, a5, a6, a7]) : ∀ {L : List Evd} {k : Nat}, k < L.length →
    ((((((((evsC L).set (k * 8) a0).set (k * 8 + 1) a1).set (k * 8 + 2) a2).set (k * 8 + 3) a3).set (k * 8 + 4) a4).set (k * 8 + 5) a5).set (k * 8 + 6) a6).set (k * 8 + 7) a7 = evsC (L.set k e)
  | [], k, h => by simp at h
  | x :: L, 0, h => by
    show ((((((((evL x ++ evsC L).set 0 _).set 1 _).set 2 _).set 3 _).set 4 _).set 5 _).set 6 _).set 7 _ = evL e ++ evsC L
    rw [he]
    simp [evL, evC]
  | x :: L, k + 1, h => by
    have ih := evsC_set e a0 a1 a2 a3 a4 a5 a6 a7 he (L := L) (k := k) (by simpa using h)
    show ((((((((evL x ++ evsC L).set _ _).set _ _).set _ _).set _ _).set _ _).set _ _).set _ _).set _ _ = evL x ++ evsC (L.set k e)
    have hl := evL_len x
    rw [← ih, List.set_append_right _ _ (by rw [hl]; omega), List.set_append_right _ _ (by rw [hl]; omega), List.set_append_right _ _ (by rw [hl]; omega), List.set_append_right _ _ (by rw [hl]; omega), List.set_append_right _ _ (by rw [hl]; omega), List.set_append_right _ _ (by rw [hl]; omega), List.set_append_right _ _ (by rw [hl]; omega), List.set_append_right _ _ (by rw [hl]; omega), hl]
    rw [show (k + 1) * 8 - 8 = k * 8 by omega, show (k + 1) * 8 + 1 - 8 = k * 8 + 1 by omega, show (k + 1) * 8 + 2 - 8 = k * 8 + 2 by omega, show (k + 1) * 8 + 3 - 8 = k * 8 + 3 by omega, show (k + 1) * 8 + 4 - 8 = k * 8 + 4 by omega, show (k + 1) * 8 + 5 - 8 = k * 8 + 5 by omega, show (k + 1) * 8 + 6 - 8 = k * 8 + 6 by omega, show (k + 1) * 8 + 7 - 8 = k * 8 + 7 by omega]
theorem evsC_one {l : List Evd} {u : Value} (hu : u ∈ evsC l) : u.oneCell' = true := by
  obtain ⟨y, _, h⟩ := List.mem_flatMap.1 hu
  simp [evL, evC] at h
  rcases h with rfl | rfl | rfl | rfl | rfl | rfl | rfl | rfl <;> rfl
theorem evsC_app (a b : List Evd) : evsC (a ++ b) = evsC a ++ evsC b := by unfold evsC; rw [List.flatMap_append]
theorem evsC_take : ∀ (l : List Evd) (k : Nat), (evsC l).take (k * 8) = evsC (l.take k)
  | [], k => by simp [evsC]
  | x :: l, 0 => by simp [evsC]
  | x :: l, k + 1 => by
    show (evL x ++ evsC l).take _ = evL x ++ evsC (l.take k)
    rw [List.take_append, evL_len, List.take_of_length_le (by rw [evL_len]; omega), show (k + 1) * 8 - 8 = k * 8 by omega, evsC_take l k]
theorem evsC_drop : ∀ (l : List Evd) (k : Nat), (evsC l).drop (k * 8) = evsC (l.drop k)
  | [], k => by simp [evsC]
  | x :: l, 0 => by simp [evsC]
  | x :: l, k + 1 => by
    show (evL x ++ evsC l).drop _ = evsC (l.drop k)
    rw [List.drop_append, evL_len, List.drop_of_length_le (by rw [evL_len]; omega), show (k + 1) * 8 - 8 = k * 8 by omega, evsC_drop l k, List.nil_append]
theorem EVs.raw {w : World} {g n c : Nat} {l : List Evd} (h : EVs w (.slice (some ⟨g, 0, none⟩) n c) l) (j : Nat) (u : Value) (hj : (evsC l)[j]? = some u) : w.cell? ⟨g, j, none⟩ = some u := by
  obtain ⟨p, c', e, _, h2⟩ := h
  have hlt := (List.getElem?_eq_some_iff.1 hj).1
  rw [evsC_len] at hlt
  have hi : j / 8 < l.length := by omega
  obtain ⟨g', hp, _, h3⟩ := h2 (j / 8) _ (List.getElem?_eq_getElem hi)
  have e1 : j / 8 * 8 + j % 8 = j := by omega
  have hj' : (evsC l)[j / 8 * 8 + j % 8]? = some u := by rw [e1]; exact hj
  have := evsC_at (List.getElem?_eq_getElem hi) (j % 8) (by omega)
  rw [hj'] at this
  have h4 := h3 (j % 8) u (by omega) this.symm
  cases e
  cases hp
  rw [e1] at h4
  exact h4
theorem EVs.take {w : World} {p : Option Addr} {n c : Nat} {l : List Evd} (h : EVs w (.slice p n c) l) (k : Nat) (hk : k ≤ l.length) : EVs w (.slice p k c) (l.take k) := by
  obtain ⟨p', c', e, h1, h2⟩ := h
  cases e
  have hl : (l.take k).length = k := by rw [List.length_take]; omega
  refine ⟨p, c, by rw [hl], by omega, fun i x hi => ?_⟩
  rw [List.getElem?_take] at hi
  split at hi
  · exact h2 i x hi
  · cases hi
theorem EVs.src {w : World} {p : Option Addr} {n c : Nat} {l : List Evd} (h : EVs w (.slice p n c) l) (hp : p = none ∨ ∃ g, p = some ⟨g, 0, none⟩) : Src Tryz.prog 8 28 (.slice p n c) n (evsC l) w := by
  have hn : n = l.length := by obtain ⟨p', c', e, _⟩ := h; cases e; rfl
  subst hn
  rcases hp with rfl | ⟨g, rfl⟩
  · have : l = [] := by
      cases l with
      | nil => rfl
      | cons x r =>
        obtain ⟨p', c', e, _, h2⟩ := h
        obtain ⟨g, hg, _⟩ := h2 0 x rfl
        rw [hg] at e
        cases e
    subst this
    exact Src.ofNil _ Tryz.underlying28 c
  · exact Src.ofSlice _ Tryz.underlying28 ⟨g, 0, none⟩ _ c _ (evsC_len l) (fun j u hj => by rw [Addr.add_lit, Nat.zero_add]; exact h.raw j u hj) (fun u hu => evsC_one hu)
set_option maxRecDepth 100000 in
set_option maxHeartbeats 1000000 in
theorem clone_any (w : World) (p : Option Addr) (n c : Nat) (l : List Evd) (h : EVs w (.slice p n c) l) (hp : p = none ∨ ∃ g, p = some ⟨g, 0, none⟩) (hl : l.length ≤ 1000000) :
    Calls Tryz.prog 79 #[.slice p n c] w fun r w' => ∃ p' c', r = .returned (.slice p' n c') ∧ ER w w' (.slice p' n c') l := by
  have hn : n = l.length := by obtain ⟨p', c', e, _⟩ := h; cases e; rfl
  subst hn
  rcases hp with rfl | ⟨g, rfl⟩
  · have : l = [] := by
      cases l with
      | nil => rfl
      | cons x r =>
        obtain ⟨p', c', e, _, h2⟩ := h
        obtain ⟨g, hg, _⟩ := h2 0 x rfl
        rw [hg] at e
        cases e
    subst this
    clear h
    have hnil := fun (w' : World) (n' c' : Nat) => Lib.run_eql_slice_nil (P := Tryz.prog) w' 28 63 none n' c' 0 0 Tryz.underlying28
    go_enter Tryz.func79, Tryz.ntmps79
    go_wp2
    go_ret
    exact ⟨none, 0, rfl, World.ownsRow_nil _ _ _ _, Below.refl _ _⟩
  · obtain ⟨t9, hti, hz0, hz1, hz2⟩ := info_parts info85
    have hb : Below w.heap.size w (w.alloc (.cells #[] 63)) := (Below.refl _ w).alloc (Nat.le_refl _) _
    have hsrc := (h.below hb (Nat.le_refl _)).src (.inr ⟨g, rfl⟩)
    have hown : (w.alloc (.cells #[] 63)).ownsRow w.heap.size 63 8 (.slice (some ⟨w.heap.size, 0, none⟩) 0 0) 0 [] := ⟨rfl, .inr ⟨w.heap.size, 0, #[], rfl, Nat.le_refl _, row_alloc w _ _, Nat.le_refl _, Nat.zero_le _, rfl, rfl⟩⟩
    have hsz : w.heap.size ≤ (w.alloc (.cells #[] 63)).heap.size := hb.size
    clear h
    have hnil := fun (w' : World) (n' c' : Nat) => Lib.run_eql_slice_nil (P := Tryz.prog) w' 28 63 (some ⟨g, 0, none⟩) n' c' 0 0 Tryz.underlying28
    go_enter Tryz.func79, Tryz.ntmps79
    go_wp2_with (at_builtin; refine wpList_appS _ rfl (.tmp 5) (.tmp 6) 28 28 rfl w.heap.size 63 t9 _ 8 Tryz.underlying28 hti hz0 hz1 rfl (by rw [hz2]; decide) _ 0 [] rfl hown _ rfl l.length (evsC l) hsrc (by omega) hsz ?_; intro v' w' q1 q2 q3 q4; obtain ⟨np, nc, hnv⟩ := owns_formB0 q1; subst hnv; clear q3 q4)
    go_ret
    refine ⟨np, nc, by simp, ?_, ?_⟩
    · simpa using q1
    · exact hb.trans (q2.below hsz (fun k hk e => by have e' : some k = some w.heap.size := e; cases e'; omega))
theorem filter_step {p : Evd → Bool} {l : List Evd} {j : Nat} {e : Evd} (h : l[j]? = some e) : (l.take (j + 1)).filter p = (l.take j).filter p ++ (if p e then [e] else []) := by
  rw [List.take_add_one, h, List.filter_append]
  cases hp : p e <;> simp [hp]
theorem drop_step {l : List Evd} {j : Nat} {e : Evd} (h : l[j]? = some e) : l.drop j = e :: l.drop (j + 1) := by
  obtain ⟨hlt, he⟩ := List.getElem?_eq_some_iff.1 h
  rw [List.drop_eq_getElem_cons hlt, he]
set_option maxRecDepth 100000 in
set_option maxHeartbeats 4000000 in
theorem deleteFunc_any (w : World) (B q : Nat) (p : Evd → Bool) (v : Value) (l : List Evd) (hO : w.ownsRow B 63 8 v l.length (evsC l)) (hA : Asks w (fun k => some k = v.ownBlock) q p) (hl : l.length ≤ 1000000) :
    Calls Tryz.prog 77 #[v, .func (.func 78) #[] #[ptr q]] w fun r w' => ∃ p' c', r = .returned (.slice p' (l.filter p).length c') ∧ w'.ownsRow B 63 8 (.slice p' (l.filter p).length c') (l.filter p).length (evsC (l.filter p)) ∧ Upd w w' (fun k => some k = v.ownBlock) ∧ ∀ k, (Value.slice p' (l.filter p).length c').ownBlock = some k → v.ownBlock = some k := by
  have hidx := indexFunc_any w _ q p v l (EVs.of hO) hA hl
  have HA := Hid.mkW hA
  obtain ⟨v0, hv0⟩ : ∃ v0, v0 = v := ⟨_, rfl⟩
  have HV := Hid.mkW hv0
  rw [← hv0] at HA
  clear hA
  rcases hO.2 with ⟨e, h0⟩ | ⟨g, c, cur, e, hbg, hh, hnc, hcm, hcs, htk⟩
  · have : l = [] := List.eq_nil_of_length_eq_zero h0
    subst this
    subst e
    clear hv0
    have HO := Hid.mkW hO
    clear hO
    go_enter Tryz.func77, Tryz.ntmps77
    go_wp2_with (go_at_call 106; refine hidx.mono ?_; rintro e w3 ⟨x, rfl, hx, hb3⟩; rcases hx with ⟨rfl, -⟩ | ⟨i, -, hi, -⟩; rotate_left; (exfalso; simp at hi))
    go_ret
    exact ⟨none, 0, rfl, ownsRow_upd HO.out (Upd.ofBelow (S := fun _ => False) hb3) (fun _ _ h => h), Upd.ofBelow hb3, fun k hk => hk⟩
  · subst e
    subst hv0
    have HO := Hid.mkW hO
    have HH := Hid.mkW hh
    have HT := Hid.mkW htk
    clear hO hh htk
    obtain ⟨ti, hti, hz0, hz1, hz2⟩ := info_parts info85
    go_enter Tryz.func77, Tryz.ntmps77
    go_upto_region 2 with (go_at_call 106; refine hidx.mono ?_; rintro e w3 ⟨x, rfl, hx, hb3⟩; have HX := Hid.mkW hx; clear hx)
    rcases HX.out with ⟨rfl, hf⟩ | ⟨i, rfl, hi, hbf, hat⟩
    · have HF := Hid.mkW hf
      clear HX hf
      go_wp2
      go_ret
      rw [HF.out]
      exact ⟨_, _, rfl, ownsRow_upd HO.out (Upd.ofBelow (S := fun _ => False) hb3) (fun _ _ h => h), Upd.ofBelow hb3, fun k hk => hk⟩
    · obtain ⟨ei, hei⟩ : ∃ ei, l[i]? = some ei := ⟨_, List.getElem?_eq_getElem hi⟩
      have hpi := hat ei hei
      have hfi : (l.take i).filter p = l.take i := List.filter_eq_self.2 fun x hx => by
        obtain ⟨j, hj, hj'⟩ := List.getElem_of_mem hx
        rw [List.length_take] at hj
        refine hbf j x (by omega) ?_
        rw [List.getElem_take] at hj'
        rw [List.getElem?_eq_getElem (by omega), hj']
      have HST : Hid (∃ G : List Evd, i = ((l.take (i + 1)).filter p).length ∧ G.length = 1 ∧ w3.ownsRow B 63 8 (.slice (some ⟨g, 0, none⟩) l.length c) l.length (evsC ((l.take (i + 1)).filter p ++ G ++ l.drop (i + 1))) ∧ Upd w w3 (fun k => k = g)) := by
        refine ⟨[ei], ?_, rfl, ?_, Upd.ofBelow hb3⟩
        · rw [filter_step hei, hpi, hfi]; simp; omega
        · rw [filter_step hei, hpi, hfi]
          have : l.take i ++ (if false = true then [ei] else []) ++ [ei] ++ l.drop (i + 1) = l := by
            simp only [Bool.false_eq_true, if_false, List.append_nil, List.append_assoc, List.singleton_append]
            rw [← drop_step hei, List.take_append_drop]
          rw [this]
          exact ownsRow_upd HO.out (Upd.ofBelow (S := fun _ => False) hb3) (fun _ _ h => h)
      clear HX hbf hat hei hpi hfi hb3 hidx
      have hi0 : (i : Int) ≤ 1000000 := by omega
      have hine : ¬ ((i : Int) = -1) := by omega
      have HKP : Hid ((∀ k, some k = (Value.slice (some ⟨g, 0, none⟩) l.length c).ownBlock ↔ k = g) ∧ g < w.heap.size) := ⟨fun k => ⟨fun e => by have e' : some k = some g := e; cases e'; rfl, fun e => by rw [e]; rfl⟩, (Array.getElem?_eq_some_iff.1 HH.out).1⟩
      clear HO HT HH
      go_wp2
      go_loopg [5, 6] (l.length - i) (fun kx s5 s6 wr => ∃ (j k : Nat), s5 = .int .i64 k ∧ s6 = .int .i64 j ∧ kx + j = l.length + 1 ∧ j ≤ l.length ∧ k < j ∧ Hid (∃ G : List Evd, k = ((l.take j).filter p).length ∧ k + G.length = j ∧ wr.ownsRow B 63 8 (.slice (some ⟨g, 0, none⟩) l.length c) l.length (evsC ((l.take j).filter p ++ G ++ l.drop j)) ∧ Upd w wr (fun k => k = g)))
      case atStart =>
        obtain ⟨G, q1, q2, q3, q4⟩ := HST.out
        exact ⟨i + 1, i, rfl, by congr 1, by omega, by omega, by omega, G, q1, by omega, q3, q4⟩
      case round =>
        obtain ⟨j, k, rfl, rfl, hkx, hj, hkj, HM⟩ := hrel
        by_cases hlt : j < l.length
        · obtain ⟨ev, hev⟩ : ∃ ev, l[j]? = some ev := ⟨_, List.getElem?_eq_getElem hlt⟩
          obtain ⟨G, hk1, hG, hrow, hupd⟩ := HM.out
          obtain ⟨M, hM⟩ : ∃ M, M = (l.take j).filter p ++ G ++ l.drop j := ⟨_, rfl⟩
          rw [← hM] at hrow
          have hMl : M.length = l.length := by have := hrow.1; rw [evsC_len] at this; omega
          have hMj : M[j]? = some ev := by rw [hM, List.getElem?_append_right (by rw [List.length_append]; omega), List.length_append, ← hk1, hG, Nat.sub_self, List.getElem?_drop, Nat.add_zero]; exact hev
          have hgl : g < wr.heap.size := Nat.lt_of_lt_of_le HKP.out.2 hupd.size
          have hE : EVs wr (.slice (some ⟨g, 0, none⟩) l.length c) M := EVs.of (l := M) (by rw [hMl]; exact hrow)
          obtain ⟨ap, ac, hav, -, hcells⟩ := hE
          simp only [Value.slice.injEq] at hav
          obtain ⟨rfl, -, rfl⟩ := hav
          obtain ⟨g', hg', -, hcell⟩ := hcells j ev hMj
          cases hg'
          have e0 := hcell 0 _ (by omega) rfl
          have e1 := hcell 1 _ (by omega) rfl
          have e2 := hcell 2 _ (by omega) rfl
          have e3 := hcell 3 _ (by omega) rfl
          have e4 := hcell 4 _ (by omega) rfl
          have e5 := hcell 5 _ (by omega) rfl
          have e6 := hcell 6 _ (by omega) rfl
          have e7 := hcell 7 _ (by omega) rfl
          have hEL : evL ev = _ := rfl
          have HASK : Hid (∀ W, Upd w W (fun k => k = g) → Calls Tryz.prog 78 #[.agg (evC ev.1 ev.2.2.isNone (evKV ev.1 ev.2.1 ev.2.2)), ptr q] W fun r w' => r = .returned (.bool (!p ev)) ∧ Below W.heap.size W w') := fun W hW => HA.out W ev (hW.mono (fun k _ e => (HKP.out.1 k).2 e))
          have HFS := Hid.mkW (filter_step (p := p) hev)
          have HDS := Hid.mkW (drop_step hev)
          have HEL : Hid (evL ev = (evC ev.1 ev.2.2.isNone (evKV ev.1 ev.2.1 ev.2.2)).toList) := rfl
          have HHM := Hid.mkW hM
          obtain ⟨pe, hpe⟩ : ∃ pe, pe = p ev := ⟨_, rfl⟩
          rw [← hpe] at HASK HFS
          clear hpe
          generalize evKV ev.1 ev.2.1 ev.2.2 = kv at *
          generalize ev.2.2.isNone = dl at *
          generalize ev.1 = r at *
          obtain ⟨xk, xv, xc, xm, xe, xl⟩ := kv
          simp only [Nat.add_zero] at e0
          dsimp only [evC] at HASK HEL
          dsimp only at e2 e3 e4 e5 e6 e7
          have HROW := Hid.mkW hrow
          have HUPD := Hid.mkW hupd
          have HK1 := Hid.mkW hk1
          have HGL := Hid.mkW hG
          have HMj := Hid.mkW hMj
          clear hcell hcells hM hrow hupd hMj hEL hk1 hG HM hev
          go_upto_region 8 with fail
          obtain ⟨V, hV⟩ : ∃ V, V = wr.alloc (.cells #[.int .i64 r, .bool dl, .string xk, .string xv, .int .i64 xc, .int .i64 xm, .int .i64 xe, .int .i64 xl] 63) := ⟨_, rfl⟩
          rw [← hV]
          have rV : V.heap[wr.heap.size]? = some (.cells #[.int .i64 r, .bool dl, .string xk, .string xv, .int .i64 xc, .int .i64 xm, .int .i64 xe, .int .i64 xl] 63 (0, 0)) := by rw [hV]; exact row_alloc wr _ _
          have bV : Below wr.heap.size wr V := by rw [hV]; exact (Below.refl _ wr).alloc (Nat.le_refl _) _
          clear hV
          obtain ⟨b, hb⟩ : ∃ b, b = wr.heap.size := ⟨_, rfl⟩
          rw [← hb] at rV ⊢
          have hbl : b < V.heap.size := (Array.getElem?_eq_some_iff.1 rV).1
          have hcall := HASK.out V (HUPD.out.trans (Upd.ofBelow (S := fun _ => False) bV) (fun _ _ h => h.elim))
          obtain ⟨⟨x0, x1, x2, x3, x4, x5, x6, x7⟩, -⟩ := box8 rV
          have HAFT : Hid (∀ W, Below V.heap.size V W → W.ownsRow B 63 8 (.slice (some ⟨g, 0, none⟩) l.length c) l.length (evsC M) ∧ Upd w W (fun k => k = g) ∧ W.heap[b]? = some (.cells #[.int .i64 r, .bool dl, .string xk, .string xv, .int .i64 xc, .int .i64 xm, .int .i64 xe, .int .i64 xl] 63 (0, 0)) ∧ Below wr.heap.size wr W) := fun W hW => ⟨ownsRow_upd HROW.out (Upd.ofBelow (S := fun _ => False) (bV.trans (hW.mono bV.size))) (fun _ _ h => h), HUPD.out.trans (Upd.ofBelow (S := fun _ => False) (bV.trans (hW.mono bV.size))) (fun _ _ h => h.elim), (hW.block b hbl).trans rV, bV.trans (hW.mono bV.size)⟩
          have HBV : Hid (b = wr.heap.size) := hb
          clear hb bV rV hbl e0 e1 e2 e3 e4 e5 e6 e7 HASK HROW HUPD
          cases pe with
          | false =>
            go_wp2_with (go_at_call 78; refine hcall.mono ?_; rintro e w4 ⟨rfl, hb4⟩)
            go_roundg (l.length - j)
            case measure => omega
            case rel =>
              obtain ⟨q1, q2, -, -⟩ := HAFT.out w4 hb4
              refine ⟨j + 1, k, rfl, by congr 1, by omega, by omega, by omega, G ++ [ev], ?_, ?_, ?_, q2⟩
              · rw [HFS.out]; simpa using HK1.out
              · rw [List.length_append]; have := HGL.out; simp; omega
              · rw [HFS.out]
                have : (l.take j).filter p ++ (if false = true then [ev] else []) ++ (G ++ [ev]) ++ l.drop (j + 1) = M := by
                  rw [HHM.out, HDS.out]; simp
                rw [this]; exact q1
          | true =>
            go_upto_region 9 with (go_at_call 78; refine hcall.mono ?_; rintro e w4 ⟨rfl, hb4⟩)
            obtain ⟨q1, q2, q3, q4⟩ := HAFT.out w4 hb4
            obtain ⟨⟨y0, y1, y2, y3, y4, y5, y6, y7⟩, -⟩ := box8 q3
            have HQ1 := Hid.mkW q1
            have HQ2 := Hid.mkW q2
            have hfr : ∀ t, w4.frozen? ⟨g, t, none⟩ = false := fun t => by
              rcases q1.2 with ⟨e, _⟩ | ⟨g', cap', cur', e, _, hh, _⟩
              · cases e
              · cases e
                exact frozen_of_row _ _ _ _ _ hh
            have hkl : k < l.length := by omega
            have hML : ∀ t, t < 8 → ∃ u', w4.cell? ⟨g, k * 8 + t, none⟩ = some u' := fun t ht => by
              have hk' : k < M.length := by omega
              have hx : (evsC M)[k * 8 + t]? = some ((evsC M)[k * 8 + t]'(by rw [evsC_len]; omega)) := List.getElem?_eq_getElem _
              have := (EVs.of (l := M) (B := B) (by rw [hMl]; exact q1)).raw (k * 8 + t) _ hx
              exact ⟨_, this⟩
            clear q1 q2 q3 q4 hb4 hcall x0 x1 x2 x3 x4 x5 x6 x7 HAFT
            obtain ⟨z0, d0⟩ := hML 0 (by omega)
            obtain ⟨z1, d1⟩ := hML 1 (by omega)
            obtain ⟨z2, d2⟩ := hML 2 (by omega)
            obtain ⟨z3, d3⟩ := hML 3 (by omega)
            obtain ⟨z4, d4⟩ := hML 4 (by omega)
            obtain ⟨z5, d5⟩ := hML 5 (by omega)
            obtain ⟨z6, d6⟩ := hML 6 (by omega)
            obtain ⟨z7, d7⟩ := hML 7 (by omega)
            simp only [Nat.add_zero] at d0
            have f0 := hfr (k * 8)
            have f1 := hfr (k * 8 + 1)
            have f2 := hfr (k * 8 + 2)
            have f3 := hfr (k * 8 + 3)
            have f4 := hfr (k * 8 + 4)
            have f5 := hfr (k * 8 + 5)
            have f6 := hfr (k * 8 + 6)
            have f7 := hfr (k * 8 + 7)
            clear hML hfr
            go_wp2
            go_roundg (l.length - j)
            case measure => omega
            case rel =>
              have hs := row_set (row_set (row_set (row_set (row_set (row_set (row_set (row_set HQ1.out (k * 8) (.int .i64 r)) (k * 8 + 1) (.bool dl)) (k * 8 + 2) (.string xk)) (k * 8 + 3) (.string xv)) (k * 8 + 4) (.int .i64 xc)) (k * 8 + 5) (.int .i64 xm)) (k * 8 + 6) (.int .i64 xe)) (k * 8 + 7) (.int .i64 xl)
              rw [evsC_set ev _ _ _ _ _ _ _ _ HEL.out (by omega)] at hs
              refine ⟨j + 1, k + 1, by congr 1, by congr 1, by omega, by omega, by omega, G.drop 1 ++ [ev], ?_, ?_, ?_, ?_⟩
              · rw [HFS.out, List.length_append]; have := HK1.out; simp; omega
              · rw [List.length_append, List.length_drop]; have := HGL.out; simp; omega
              · have hGc : ∃ x r, G = x :: r := by
                  cases G with
                  | nil => have := HGL.out; simp at this; omega
                  | cons x r => exact ⟨x, r, rfl⟩
                obtain ⟨x, rr, rfl⟩ := hGc
                have : (l.take j).filter p ++ [ev] ++ ((x :: rr).drop 1 ++ [ev]) ++ l.drop (j + 1) = M.set k ev := by
                  have e1 : M = (l.take j).filter p ++ ((x :: rr) ++ ev :: l.drop (j + 1)) := by rw [HHM.out, HDS.out, List.append_assoc]
                  rw [e1, List.set_append_right _ _ (by rw [← HK1.out]; omega), ← HK1.out, Nat.sub_self]
                  simp
                rw [HFS.out, if_pos trivial, this]
                exact hs
              · exact (((((((HQ2.out.setCell (.inr rfl) _).setCell (.inr rfl) _).setCell (.inr rfl) _).setCell (.inr rfl) _).setCell (.inr rfl) _).setCell (.inr rfl) _).setCell (.inr rfl) _).setCell (.inr rfl) _
        · obtain rfl : j = l.length := by omega
          obtain ⟨G, hk1, hG, hrow, hupd⟩ := HM.out
          rw [List.take_length] at hk1 hrow
          rw [List.drop_length, List.append_nil] at hrow
          rcases hrow.2 with ⟨e, _⟩ | ⟨g', cap', cur', e, _, hh, _, _, hcs', htk'⟩
          · cases e
          cases e
          obtain ⟨zs, hzl, hcl⟩ := run_clearS (P := Tryz.prog) wr 28 0 63 63 ti _ Tryz.underlying28 hti hz0 g (k * 8) (l.length - k) (c - k) cur' hh (by show _ + (l.length - k) * 8 ≤ _; rw [hcs']; omega) (fun v hv => by
            simp only [Builtin.zeroCells, Array.toList_map, List.mem_map] at hv
            obtain ⟨k, _, rfl⟩ := hv
            have hk : k % 8 < 8 := Nat.mod_lt _ (by decide)
            show ((Value.cells (.agg #[.int .i64 0, .bool false, .string ⟨#[]⟩, .string ⟨#[]⟩, .int .i64 0, .int .i64 0, .int .i64 0, .int .i64 0]))[k % 8]!).oneCell' = true
            rcases (show k % 8 = 0 ∨ k % 8 = 1 ∨ k % 8 = 2 ∨ k % 8 = 3 ∨ k % 8 = 4 ∨ k % 8 = 5 ∨ k % 8 = 6 ∨ k % 8 = 7 by omega) with h | h | h | h | h | h | h | h <;> rw [h] <;> rfl)
          rw [if_neg (by omega)] at hcl
          have hcl' : ∀ ty k', k' = c - k → (Builtin.clear_ #[28] ty #[.slice (some ⟨g, k * 8, none⟩) (l.length - k) k']).run Tryz.prog wr = _ := fun ty k' hk' => by subst hk'; exact hcl
          have HF : Hid (∀ w' : World, w' = wr.setRow g (cur'.toList.take (k * 8) ++ zs ++ cur'.toList.drop (k * 8 + (l.length - k) * (Value.cells (.agg #[.int .i64 0, .bool false, .string ⟨#[]⟩, .string ⟨#[]⟩, .int .i64 0, .int .i64 0, .int .i64 0, .int .i64 0])).size)).toArray → w'.ownsRow B 63 8 (.slice (some ⟨g, 0, none⟩) k c) k (evsC (l.filter p)) ∧ Upd w w' (fun k => some k = (Value.slice (some ⟨g, 0, none⟩) l.length c).ownBlock)) := fun w' hw' => by
            subst hw'
            have hzl' : zs.length = (l.length - k) * 8 := hzl
            have hcl : cur'.toList.length = c * 8 := by rw [← hcs']; simp
            refine ⟨⟨by rw [evsC_len, hk1], .inr ⟨g, c, _, rfl, hbg, setRow_heap wr g cur' _ 63 _ hh, by omega, hcm, ?_, ?_⟩⟩, ?_⟩
            · rw [List.size_toArray, List.length_append, List.length_append, List.length_take, List.length_drop, hzl', hcl]
              show min (k * 8) (c * 8) + (l.length - k) * 8 + (c * 8 - (k * 8 + (l.length - k) * 8)) = c * 8
              omega
            · rw [List.toList_toArray, List.append_assoc, List.take_append_of_le_length (by rw [List.length_take, hcl]; omega), List.take_take, Nat.min_self]
              have h1 : cur'.toList.take (k * 8) = (cur'.toList.take (l.length * 8)).take (k * 8) := by rw [List.take_take]; congr 1; omega
              rw [h1, htk', evsC_take, hk1]
              congr 1
              rw [List.take_append_of_le_length (Nat.le_refl _), List.take_length]
            · refine (hupd.trans (upd_setRow wr g _ (fun k => k = g) rfl) (fun _ _ h => h)).mono (fun k _ e => (HKP.out.1 k).2 e)
          have HK1 := Hid.mkW hk1
          have hkn : k ≤ l.length := by omega
          have hq1 : (k : Int) ≤ (l.length : Int) := by omega
          have hq2 : (k : Int) ≤ (c : Int) := by omega
          have hq3 : ¬ (c = k) := by omega
          clear hcl hh hcs' htk' hrow hupd hG hk1 HM HA
          go_wp2_with (at_builtin; refine wpList_clear_run _ rfl _ 28 rfl _ rfl (hcl' _ _ (by omega)) ?_)
          go_ret
          rw [← HK1.out]
          exact ⟨_, _, rfl, (HF.out _ (by rw [List.append_assoc]; rfl)).1, (HF.out _ (by rw [List.append_assoc]; rfl)).2, fun j hj => hj⟩
end Go.Proofs.YtjdmgmnndfhmgaaGreat
/- The log behind a Done; the text behind all keys. -/
namespace Go.Proofs.YtjdmgmnndfhmgaaGreat
open Go Go.RowKit

theorem LgOk.done {S : Sto} {W : Wri} {g g' : Sg} {h : Wg} (H : LgOk S g) (hnd : W.keys.Nodup) (hlv : g'.lv = doneLv S W g h) : LgOk (doneS S W) g' := by
  by_cases hk : W.keys = []
  · have e1 : doneS S W = S := if_pos hk
    have e2 : g'.lv = g.lv := hlv.trans (if_pos hk)
    rw [e1]
    intro r h1 h2
    rw [e2]
    exact H r h1 h2
  · have e1 : doneS S W = takeS S W W.keys.length := if_neg hk
    have e2 : g'.lv = setF g.lv ((S.rev : Int) + 1) h.v := hlv.trans (if_neg hk)
    obtain ⟨t1, t2, t3⟩ := takeS_rev S W W.keys.length
    rw [e1]
    intro r h1 h2
    rw [t2] at h1
    rw [t1] at h2
    rw [e2, t3]
    have hin : ∀ k, k ∈ W.keys → (takeS S W W.keys.length).kh k = S.kh k ++ [((S.rev : Int) + 1, chG W k)] := fun k hm => by
      unfold takeS
      rw [List.take_length]
      exact layAll_in _ _ hnd hm
    have hout : ∀ k, k ∉ W.keys → (takeS S W W.keys.length).kh k = S.kh k := fun k hm => by
      unfold takeS
      rw [List.take_length]
      exact layAll_not _ _ hm
    by_cases hr : r = (S.rev : Int) + 1
    · subst hr
      refine ⟨⟨h.v, setF_same _ _ _⟩, fun k hm => ?_⟩
      rw [nextS_lg] at hm
      rw [hin k hm]
      exact ⟨chG W k, List.mem_append_right _ (List.mem_singleton.2 rfl)⟩
    · have hr2 : r ≤ S.rev := by
        have : r ≤ ((S.rev + 1 : Nat) : Int) := h2
        omega
      obtain ⟨⟨v, hv⟩, hks⟩ := H r h1 hr2
      refine ⟨⟨v, by rw [setF_other _ _ hr]; exact hv⟩, fun k hm => ?_⟩
      have hm2 : k ∈ S.lg r := by
        have e : (nextS S W.keys).lg r = S.lg r := by simp [nextS, hr]
        rwa [e] at hm
      obtain ⟨c, hc⟩ := hks k hm2
      by_cases hkm : k ∈ W.keys
      · rw [hin k hkm]; exact ⟨c, List.mem_append_left _ hc⟩
      · rw [hout k hkm]; exact ⟨c, hc⟩
/-- Bytes behind all keys. -/
def topN (n : Nat) : ByteArray := ⟨(List.replicate n 255).toArray⟩
theorem topN_succ (n : Nat) : topN n ++ ⟨#[255]⟩ = topN (n + 1) := by
  apply bytes_ext
  simp [topN, ByteArray.data_append, List.replicate_succ']
theorem topN_size (n : Nat) : (topN n).size = n := by show (List.replicate n (255 : UInt8)).toArray.size = n; simp
end Go.Proofs.YtjdmgmnndfhmgaaGreat
/- What a watcher has yet to hear: news. -/
namespace Go.Proofs.YtjdmgmnndfhmgaaGreat
open Go Go.RowKit

/-- The changes from a revision on. -/
def sinceL (S : Sto) (p : Int) : List Evd := evN S p ((S.rev : Int) + 1 - p).toNat
/-- Those in a range. -/
def heard (lo hi : ByteArray) (e : Evd) : Bool := inR lo hi (evKV e.1 e.2.1 e.2.2).key
def newsL (S : Sto) (lo hi : ByteArray) (p : Int) : List Evd := (sinceL S p).filter (heard lo hi)
/-- A store that can be asked. -/
structure Sk (n : Nat) (w : World) (s : Nat) (S : Sto) (g : Sg) (o : Value) : Prop where
  st : St n w s S g o
  lg : LgOk S g
  rev : S.rev ≤ 100000
  few : ∀ p, 1 ≤ p → (sinceL S p).length ≤ 1000000
theorem Sk.upd {n : Nat} {w w' : World} {s : Nat} {S : Sto} {g : Sg} {o : Value} {T : Nat → Prop} (h : Sk n w s S g o) (hu : Upd w w' T) (hT : ∀ k, ftS s g k → ¬ T k) : Sk n w' s S g o := ⟨h.st.upd hu hT, h.lg, h.rev, h.few⟩
theorem Sk.below {n : Nat} {w w' : World} {s : Nat} {S : Sto} {g : Sg} {o : Value} (h : Sk n w s S g o) (hb : Below w.heap.size w w') : Sk n w' s S g o := ⟨h.st.below hb, h.lg, h.rev, h.few⟩
set_option maxRecDepth 100000 in
set_option maxHeartbeats 1000000 in
theorem news_past {n : Nat} {w : World} {s : Nat} {S : Sto} {g : Sg} {o : Value} (H : Sk n w s S g o) (t b : Nat) (lo hi : ByteArray) (p : Int) (E : Ear w t b lo hi p) (h1 : 1 ≤ p) (hp : p ≤ S.past) :
    Calls Tryz.prog 65 #[ptr s, .iface t (ptr b)] w fun r w' => ∃ p' c', r = .returned (.tuple #[.slice p' 0 c', .int .i64 16]) ∧ Below w.heap.size w w' := by
  obtain ⟨w1, hw1⟩ : ∃ w1, w1 = w.alloc (.cells #[.iface t (ptr b)] 100) := ⟨_, rfl⟩
  have hb1 : Below w.heap.size w w1 := by rw [hw1]; exact (Below.refl _ w).alloc (Nat.le_refl _) _
  have r1 : w1.heap[w.heap.size]? = some (.cells #[.iface t (ptr b)] 100 (0, 0)) := by rw [hw1]; exact row_alloc w _ _
  have E1 := E.below hb1
  have c0 : w1.cell? ⟨w.heap.size, 0, none⟩ = some (.iface t (ptr b)) := cell_of_row _ _ _ _ _ _ r1
  have hfrom := from_any b p w1 E1.place
  have hsince := since_past (H.below hb1).st p (by omega) hp
  have hdel := deleteFunc_any w1 0 w.heap.size (heard lo hi) (.slice none 0 0) [] (World.ownsRow_nil _ _ _ _) (fun W e hW => deaf_any W t b w.heap.size lo hi p (E1.upd hW (by simp [Value.ownBlock])) ((hW.cell (p := ⟨w.heap.size, 0, none⟩) (World.block_lt_of_cell? _ _ c0) (by simp [Value.ownBlock])).trans c0) _ _ _) (by simp)
  have HB := Hid.mkW hb1
  rcases E.ty with rfl | rfl
  all_goals
    clear H E E1 hb1 r1
    go_enter Tryz.func65, Tryz.ntmps65
    go_upto_region 1 with fail
    rw [← hw1]
    obtain ⟨q, hq⟩ : ∃ q, q = w.heap.size := ⟨_, rfl⟩
    rw [← hq] at c0 hdel ⊢
    clear hw1 hq
    go_wp2_with (first | (go_at_call 163; refine hfrom.mono ?_; rintro e w' ⟨rfl, hw'⟩; obtain rfl := hw'.symm) | (go_at_call 32; refine hsince.mono ?_; rintro e w' ⟨rfl, hw'⟩; obtain rfl := hw'.symm) | (go_at_call 77; refine hdel.mono ?_; rintro e w' ⟨p', c', rfl, q1, q2, -⟩))
    refine bodyPost_ret (results_tmp2 rfl _ _ _) rfl ?_
    exact ⟨p', c', rfl, HB.out.trans (q2.below HB.out.size (fun k _ e => by cases e))⟩
set_option maxRecDepth 100000 in
set_option maxHeartbeats 1000000 in
theorem news_ok {n : Nat} {w : World} {s : Nat} {S : Sto} {g : Sg} {o : Value} (H : Sk n w s S g o) (t b : Nat) (lo hi : ByteArray) (p : Int) (E : Ear w t b lo hi p) (h1 : 1 ≤ p) (hp : ¬ p ≤ S.past) (hpm : p ≤ 1000000000) :
    Calls Tryz.prog 65 #[ptr s, .iface t (ptr b)] w fun r w' => ∃ p' c', r = .returned (.tuple #[.slice p' (newsL S lo hi p).length c', .int .i64 0]) ∧ ER w w' (.slice p' (newsL S lo hi p).length c') (newsL S lo hi p) := by
  obtain ⟨w1, hw1⟩ : ∃ w1, w1 = w.alloc (.cells #[.iface t (ptr b)] 100) := ⟨_, rfl⟩
  have hb1 : Below w.heap.size w w1 := by rw [hw1]; exact (Below.refl _ w).alloc (Nat.le_refl _) _
  have hs1 : w1.heap.size = w.heap.size + 1 := by rw [hw1]; simp
  have r1 : w1.heap[w.heap.size]? = some (.cells #[.iface t (ptr b)] 100 (0, 0)) := by rw [hw1]; exact row_alloc w _ _
  have E1 := E.below hb1
  have c0 : w1.cell? ⟨w.heap.size, 0, none⟩ = some (.iface t (ptr b)) := cell_of_row _ _ _ _ _ _ r1
  have hfrom := from_any b p w1 E1.place
  have hlen := H.few p h1
  have hsince : Calls Tryz.prog 32 #[ptr s, .int .i64 p] w1 fun e w' => ∃ p' c', e = .returned (.tuple #[.slice p' (sinceL S p).length c', .int .i64 0]) ∧ ER w1 w' (.slice p' (sinceL S p).length c') (sinceL S p) := since_any (H.below hb1).st p (by omega) hp hpm (by have := H.rev; omega) H.lg hlen
  have hbl : b < w.heap.size := World.block_lt_of_cell? _ _ E.lo
  have HDEL : Hid (∀ w2 p' c', ER w1 w2 (.slice p' (sinceL S p).length c') (sinceL S p) → Calls Tryz.prog 77 #[.slice p' (sinceL S p).length c', .func (.func 78) #[] #[ptr w.heap.size]] w2 fun r w' => ∃ p'' c'', r = .returned (.slice p'' (newsL S lo hi p).length c'') ∧ ER w w' (.slice p'' (newsL S lo hi p).length c'') (newsL S lo hi p)) := fun w2 p' c' hE => by
    have hge : ∀ k, some k = (Value.slice p' (sinceL S p).length c').ownBlock → w1.heap.size ≤ k := fun k hk => (hE.1.lt k hk.symm).1
    have E2 := E1.below hE.2
    have c2 : w2.cell? ⟨w.heap.size, 0, none⟩ = some (.iface t (ptr b)) := (hE.2.cell (p := ⟨w.heap.size, 0, none⟩) (World.block_lt_of_cell? _ _ c0)).trans c0
    refine (deleteFunc_any w2 w1.heap.size w.heap.size (heard lo hi) _ (sinceL S p) hE.1 (fun W e hW => deaf_any W t b w.heap.size lo hi p (E2.upd hW (fun e => by have := hge _ e; omega)) ((hW.cell (p := ⟨w.heap.size, 0, none⟩) (World.block_lt_of_cell? _ _ c2) (fun e => by have := hge _ e; simp at this; omega)).trans c2) _ _ _) hlen).mono ?_
    rintro r w' ⟨p'', c'', rfl, q1, q2, -⟩
    exact ⟨p'', c'', rfl, ownsRow_base q1 (by omega), (hb1.trans (hE.2.mono (by omega))).trans (q2.below (by have := hE.2.size; omega) (fun k hk e => by have := hge _ e; omega))⟩
  rcases E.ty with rfl | rfl
  all_goals
    clear H E E1 hb1 r1 hlen
    go_enter Tryz.func65, Tryz.ntmps65
    go_upto_region 1 with fail
    rw [← hw1]
    obtain ⟨q, hq⟩ : ∃ q, q = w.heap.size := ⟨_, rfl⟩
    rw [← hq] at c0 HDEL ⊢
    clear hw1 hq hs1
    go_wp2_with (first | (go_at_call 163; refine hfrom.mono ?_; rintro e w' ⟨rfl, hw'⟩; obtain rfl := hw'.symm) | (go_at_call 32; refine hsince.mono ?_; rintro e w2 ⟨p2, c2, rfl, hE2⟩; have HE2 := Hid.mkW hE2; clear hE2) | (go_at_call 77; refine (HDEL.out _ _ _ HE2.out).mono ?_; rintro e w' ⟨p', c', rfl, q1⟩))
    refine bodyPost_ret (results_tmp2 rfl _ _ _) rfl ?_
    exact ⟨p', c', rfl, q1⟩
end Go.Proofs.YtjdmgmnndfhmgaaGreat
/- Revisions as whole ones; a watcher that is behind catches up. -/
namespace Go.Proofs.YtjdmgmnndfhmgaaGreat
open Go Go.RowKit

/-- Is a change its revision's last one? -/
def lastOf (e : Evd) : List Evd → Bool
  | [] => true
  | x :: _ => decide (¬ x.1 = e.1)
def wholeGo (most : Int) : List Evd → Nat → Nat → Nat
  | [], _, n => n
  | e :: r, i, n => if lastOf e r = true then (if 0 < n ∧ most ≤ (i : Int) then n else wholeGo most r (i + 1) (i + 1)) else wholeGo most r (i + 1) n
/-- How many changes the first revisions have, most in all, or the first one. -/
def wholeN (most : Int) (l : List Evd) : Nat := wholeGo most l 0 0
theorem wholeGo_le (most : Int) : ∀ (r : List Evd) (i n : Nat), n ≤ i → wholeGo most r i n ≤ i + r.length
  | [], i, n, h => by simpa [wholeGo] using h
  | e :: r, i, n, h => by
    unfold wholeGo
    have h1 := wholeGo_le most r (i + 1) (i + 1) (Nat.le_refl _)
    have h2 := wholeGo_le most r (i + 1) n (by omega)
    rw [List.length_cons]
    split
    · split <;> omega
    · omega
theorem wholeGo_pos (most : Int) : ∀ (r : List Evd) (i n : Nat), (r = [] → n = i) → wholeGo most r i n = i + r.length ∨ 0 < wholeGo most r i n
  | [], i, n, h => .inl (by simpa [wholeGo] using h rfl)
  | e :: r, i, n, h => by
    unfold wholeGo
    rw [List.length_cons]
    split
    · split
      · rename_i h2; exact .inr h2.1
      · rcases wholeGo_pos most r (i + 1) (i + 1) (fun _ => rfl) with h1 | h1
        · exact .inl (by omega)
        · exact .inr h1
    · rename_i h2
      have hr : r = [] → n = i + 1 := fun e => by subst e; exact absurd rfl h2
      rcases wholeGo_pos most r (i + 1) n hr with h1 | h1
      · exact .inl (by omega)
      · exact .inr h1
theorem wholeN_le (most : Int) (l : List Evd) : wholeN most l ≤ l.length := by have := wholeGo_le most l 0 0 (Nat.le_refl _); unfold wholeN; omega
theorem wholeN_pos (most : Int) (l : List Evd) (h : wholeN most l < l.length) : 0 < wholeN most l := by
  rcases wholeGo_pos most l 0 0 (fun _ => rfl) with h1 | h1
  · unfold wholeN at h; omega
  · exact h1
set_option maxRecDepth 100000 in
set_option maxHeartbeats 2000000 in
theorem whole_any (w : World) (p : Option Addr) (n c : Nat) (l : List Evd) (most : Int) (h : EVs w (.slice p n c) l) (hl : l.length ≤ 1000000) :
    Calls Tryz.prog 81 #[.slice p n c, .int .i64 most] w fun r w' => r = .returned (.int .i64 (wholeN most l)) ∧ Below w.heap.size w w' := by
  have hn : n = l.length := by obtain ⟨p', c', e, _⟩ := h; cases e; rfl
  subst hn
  obtain ⟨p', c', e, hc, hh⟩ := h
  cases e
  have HH := Hid.mkW hh
  clear hh
  go_enter Tryz.func81, Tryz.ntmps81
  go_wp2
  go_loopg [5, 6, 7, 10] (l.length + 1) (fun kx s5 s6 s7 s10 wq => ∃ i m : Nat, s5 = .int .i64 m ∧ s10 = .int .i64 i ∧ kx + i = l.length + 1 ∧ i ≤ l.length ∧ m ≤ i ∧ Hid (Below w.heap.size w wq) ∧ Hid (wholeGo most (l.drop i) i m = wholeN most l))
  case atStart => exact ⟨0, 0, rfl, rfl, rfl, Nat.zero_le _, Nat.le_refl _, Below.refl _ _, rfl⟩
  case round =>
    obtain ⟨i, m, rfl, rfl, hkx, hi, hmi, HB, HW⟩ := hrel
    by_cases hlt : i < l.length
    · obtain ⟨ev, hev⟩ : ∃ ev, l[i]? = some ev := ⟨_, List.getElem?_eq_getElem hlt⟩
      obtain ⟨g, hg, hgl, hcell⟩ := HH.out i ev hev
      subst hg
      have e0 := (HB.out.cell (p := ⟨g, i * 8 + 0, none⟩) hgl).trans (hcell 0 _ (by omega) rfl)
      simp only [Nat.add_zero] at e0
      have hds := drop_step hev
      obtain ⟨la, hla⟩ : ∃ la, la = lastOf ev (l.drop (i + 1)) := ⟨_, rfl⟩
      have HW2 : Hid ((if la = true then (if 0 < m ∧ most ≤ (i : Int) then m else wholeGo most (l.drop (i + 1)) (i + 1) (i + 1)) else wholeGo most (l.drop (i + 1)) (i + 1) m) = wholeN most l) := by
        have := HW.out
        rw [hds, wholeGo, ← hla] at this
        exact this
      have key : (i + 1 = l.length ∧ la = true) ∨ (∃ x : Evd, i + 1 < l.length ∧ wr.cell? ⟨g, (i + 1) * 8, none⟩ = some (.int .i64 x.1) ∧ la = decide (¬ x.1 = ev.1)) := by
        rcases Nat.lt_or_ge (i + 1) l.length with h1 | h1
        · right
          obtain ⟨x, hx⟩ : ∃ x, l[i + 1]? = some x := ⟨_, List.getElem?_eq_getElem h1⟩
          obtain ⟨g', hg', hgl', hcell'⟩ := HH.out (i + 1) x hx
          cases hg'
          have c0 := (HB.out.cell (p := ⟨g, (i + 1) * 8 + 0, none⟩) hgl').trans (hcell' 0 _ (by omega) rfl)
          simp only [Nat.add_zero] at c0
          exact ⟨x, h1, c0, by rw [hla, drop_step hx]; rfl⟩
        · left
          have e : l.drop (i + 1) = [] := List.drop_of_length_le h1
          exact ⟨by omega, by rw [hla, e]; rfl⟩
      have HYES : Hid (la = true → 0 < m → most ≤ (i : Int) → m = wholeN most l) := fun h1 h2 h3 => by have := HW2.out; rw [if_pos h1, if_pos ⟨h2, h3⟩] at this; exact this
      have HNEW : Hid (la = true → ¬ (0 < m ∧ most ≤ (i : Int)) → wholeGo most (l.drop (i + 1)) (i + 1) (i + 1) = wholeN most l) := fun h1 h2 => by have := HW2.out; rw [if_pos h1, if_neg h2] at this; exact this
      have HOLD : Hid (la = false → wholeGo most (l.drop (i + 1)) (i + 1) m = wholeN most l) := fun h1 => by have := HW2.out; rw [h1] at this; exact this
      have HLA : Hid (la = la) := rfl
      clear hla HW hds hcell HW2 hev HH
      rcases key with ⟨h1, hl1⟩ | ⟨x, h1, e8, hxl⟩
      · rw [hl1] at HYES HNEW
        clear HOLD HLA
        subst hl1
        have HY : Hid (0 < m → most ≤ (i : Int) → m = wholeN most l) := HYES.out rfl
        have HN : Hid (¬ (0 < m ∧ most ≤ (i : Int)) → wholeGo most (l.drop (i + 1)) (i + 1) (i + 1) = wholeN most l) := HNEW.out rfl
        clear HYES HNEW
        have hq1 : (((i : Int) + 1) == (l.length : Int)) = true := by simp; omega
        go_upto_region 5 with fail
        go_quiet (fail)
        by_cases hm : 0 < m
        · have hm1 : (0 : Int) < (m : Int) := by omega
          by_cases hmo : most ≤ (i : Int)
          · go_wp2
            go_ret
            exact ⟨by rw [← HY.out hm hmo]; rfl, below_drewN HB.out _⟩
          · go_wp2
            go_roundg (l.length - i)
            case measure => omega
            case rel => exact ⟨i + 1, i + 1, by congr 1, by congr 1, by omega, by omega, Nat.le_refl _, below_drewN HB.out _, HN.out (fun e => by omega)⟩
        · have hm1 : ¬ (0 : Int) < (m : Int) := by omega
          go_wp2
          go_roundg (l.length - i)
          case measure => omega
          case rel => exact ⟨i + 1, i + 1, by congr 1, by congr 1, by omega, by omega, Nat.le_refl _, below_drewN HB.out _, HN.out (fun e => by omega)⟩
      · have hq1 : (((i : Int) + 1) == (l.length : Int)) = false := by simp; omega
        generalize ev.1 = ra at *
        generalize x.1 = rb at *
        by_cases hr : rb = ra
        · subst hr
          have hlf : la = false := by rw [hxl]; simp
          have HO : Hid (wholeGo most (l.drop (i + 1)) (i + 1) m = wholeN most l) := HOLD.out hlf
          clear HYES HNEW HOLD hlf hxl HLA
          go_upto_region 5 with fail
          go_quiet (fail)
          go_wp2
          go_roundg (l.length - i)
          case measure => omega
          case rel => exact ⟨i + 1, m, rfl, by congr 1, by omega, by omega, by omega, below_drewN HB.out _, HO⟩
        · have hlt2 : la = true := by rw [hxl]; simpa using hr
          have HY : Hid (0 < m → most ≤ (i : Int) → m = wholeN most l) := HYES.out hlt2
          have HN : Hid (¬ (0 < m ∧ most ≤ (i : Int)) → wholeGo most (l.drop (i + 1)) (i + 1) (i + 1) = wholeN most l) := HNEW.out hlt2
          have hrb : (rb != ra) = true := by simp [hr]
          clear HYES HNEW HOLD hlt2 hxl HLA
          go_upto_region 5 with fail
          go_quiet (fail)
          by_cases hm : 0 < m
          · have hm1 : (0 : Int) < (m : Int) := by omega
            by_cases hmo : most ≤ (i : Int)
            · go_wp2
              go_ret
              exact ⟨by rw [← HY.out hm hmo]; rfl, below_drewN HB.out _⟩
            · go_wp2
              go_roundg (l.length - i)
              case measure => omega
              case rel => exact ⟨i + 1, i + 1, by congr 1, by congr 1, by omega, by omega, Nat.le_refl _, below_drewN HB.out _, HN.out (fun e => by omega)⟩
          · have hm1 : ¬ (0 : Int) < (m : Int) := by omega
            go_wp2
            go_roundg (l.length - i)
            case measure => omega
            case rel => exact ⟨i + 1, i + 1, by congr 1, by congr 1, by omega, by omega, Nat.le_refl _, below_drewN HB.out _, HN.out (fun e => by omega)⟩
    · obtain rfl : i = l.length := by omega
      go_wp2
      go_ret
      have := HW.out
      rw [List.drop_length] at this
      refine ⟨?_, HB.out⟩
      rw [← this]
      rfl
end Go.Proofs.YtjdmgmnndfhmgaaGreat
