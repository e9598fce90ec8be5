/- slices.DeleteFunc and slices.Clone of a row of changes. -/
import Derived.Test.YtjdmgmnndfhmgaaGRG
import Derived.Test.YtjdmgmnndfhmgaaGRE
import Derived.Deep.LoopGhost
import Derived.Test.YtjdmgmnndfhmgaaGRA
import Derived.Maps.OwnSet
import Derived.WalkSpells
namespace Go.Proofs.Ytjdmgmnndfhmgaa
open Go Go.RowKit

theorem row_set {w : World} {B e s g c n : Nat} {xs : List Value} (h : w.ownsRow B e s (.slice (some ⟨g, 0, none⟩) n c) n xs) (j : Nat) (u : Value) : (w.setCell ⟨g, j, none⟩ u).ownsRow B e s (.slice (some ⟨g, 0, none⟩) n c) n (xs.set j u) := by
  refine ⟨by rw [List.length_set]; exact h.1, .inr ?_⟩
  rcases h.2 with ⟨e, _⟩ | ⟨g', cap, cur, e, hbg, hh, h1, h2, h3, h4⟩
  · cases e
  · cases e
    refine ⟨g, c, _, rfl, hbg, heap_setCell_row hh u, h1, h2, by simpa using h3, ?_⟩
    rw [Array.set!_eq_setIfInBounds, Array.toList_setIfInBounds, List.take_set, h4]
theorem evL_len (e : Evd) : (evL e).length = 8 := by simp [evL, evC]
/-- Eight cells of a row are laid anew. -/
theorem evsC_set (e : Evd) (a0 a1 a2 a3 a4 a5 a6 a7 : Value) (he : evL e = [a0, a1, a2, a3, a4, a5, a6, a7]) : ∀ {L : List Evd} {k : Nat}, k < L.length →
    ((((((((evsC L).set (k * 8) a0).set (k * 8 + 1) a1).set (k * 8 + 2) a2).set (k * 8 + 3) a3).set (k * 8 + 4) a4).set (k * 8 + 5) a5).set (k * 8 + 6) a6).set (k * 8 + 7) a7 = evsC (L.set k e)
  | [], k, h => by simp at h
  | x :: L, 0, h => by
    show ((((((((evL x ++ evsC L).set 0 _).set 1 _).set 2 _).set 3 _).set 4 _).set 5 _).set 6 _).set 7 _ = evL e ++ evsC L
    rw [he]
    simp [evL, evC]
  | x :: L, k + 1, h => by
    have ih := evsC_set e a0 a1 a2 a3 a4 a5 a6 a7 he (L := L) (k := k) (by simpa using h)
    show ((((((((evL x ++ evsC L).set _ _).set _ _).set _ _).set _ _).set _ _).set _ _).set _ _).set _ _ = evL x ++ evsC (L.set k e)
    have hl := evL_len x
    rw [← ih, List.set_append_right _ _ (by rw [hl]; omega), List.set_append_right _ _ (by rw [hl]; omega), List.set_append_right _ _ (by rw [hl]; omega), List.set_append_right _ _ (by rw [hl]; omega), List.set_append_right _ _ (by rw [hl]; omega), List.set_append_right _ _ (by rw [hl]; omega), List.set_append_right _ _ (by rw [hl]; omega), List.set_append_right _ _ (by rw [hl]; omega), hl]
    rw [show (k + 1) * 8 - 8 = k * 8 by omega, show (k + 1) * 8 + 1 - 8 = k * 8 + 1 by omega, show (k + 1) * 8 + 2 - 8 = k * 8 + 2 by omega, show (k + 1) * 8 + 3 - 8 = k * 8 + 3 by omega, show (k + 1) * 8 + 4 - 8 = k * 8 + 4 by omega, show (k + 1) * 8 + 5 - 8 = k * 8 + 5 by omega, show (k + 1) * 8 + 6 - 8 = k * 8 + 6 by omega, show (k + 1) * 8 + 7 - 8 = k * 8 + 7 by omega]
theorem evsC_one {l : List Evd} {u : Value} (hu : u ∈ evsC l) : u.oneCell' = true := by
  obtain ⟨y, _, h⟩ := List.mem_flatMap.1 hu
  simp [evL, evC] at h
  rcases h with rfl | rfl | rfl | rfl | rfl | rfl | rfl | rfl <;> rfl
theorem evsC_app (a b : List Evd) : evsC (a ++ b) = evsC a ++ evsC b := by unfold evsC; rw [List.flatMap_append]
theorem evsC_take : ∀ (l : List Evd) (k : Nat), (evsC l).take (k * 8) = evsC (l.take k)
  | [], k => by simp [evsC]
  | x :: l, 0 => by simp [evsC]
  | x :: l, k + 1 => by
    show (evL x ++ evsC l).take _ = evL x ++ evsC (l.take k)
    rw [List.take_append, evL_len, List.take_of_length_le (by rw [evL_len]; omega), show (k + 1) * 8 - 8 = k * 8 by omega, evsC_take l k]
theorem evsC_drop : ∀ (l : List Evd) (k : Nat), (evsC l).drop (k * 8) = evsC (l.drop k)
  | [], k => by simp [evsC]
  | x :: l, 0 => by simp [evsC]
  | x :: l, k + 1 => by
    show (evL x ++ evsC l).drop _ = evsC (l.drop k)
    rw [List.drop_append, evL_len, List.drop_of_length_le (by rw [evL_len]; omega), show (k + 1) * 8 - 8 = k * 8 by omega, evsC_drop l k, List.nil_append]
theorem EVs.raw {w : World} {g n c : Nat} {l : List Evd} (h : EVs w (.slice (some ⟨g, 0, none⟩) n c) l) (j : Nat) (u : Value) (hj : (evsC l)[j]? = some u) : w.cell? ⟨g, j, none⟩ = some u := by
  obtain ⟨p, c', e, _, h2⟩ := h
  have hlt := (List.getElem?_eq_some_iff.1 hj).1
  rw [evsC_len] at hlt
  have hi : j / 8 < l.length := by omega
  obtain ⟨g', hp, _, h3⟩ := h2 (j / 8) _ (List.getElem?_eq_getElem hi)
  have e1 : j / 8 * 8 + j % 8 = j := by omega
  have hj' : (evsC l)[j / 8 * 8 + j % 8]? = some u := by rw [e1]; exact hj
  have := evsC_at (List.getElem?_eq_getElem hi) (j % 8) (by omega)
  rw [hj'] at this
  have h4 := h3 (j % 8) u (by omega) this.symm
  cases e
  cases hp
  rw [e1] at h4
  exact h4
theorem EVs.take {w : World} {p : Option Addr} {n c : Nat} {l : List Evd} (h : EVs w (.slice p n c) l) (k : Nat) (hk : k ≤ l.length) : EVs w (.slice p k c) (l.take k) := by
  obtain ⟨p', c', e, h1, h2⟩ := h
  cases e
  have hl : (l.take k).length = k := by rw [List.length_take]; omega
  refine ⟨p, c, by rw [hl], by omega, fun i x hi => ?_⟩
  rw [List.getElem?_take] at hi
  split at hi
  · exact h2 i x hi
  · cases hi
theorem EVs.src {w : World} {p : Option Addr} {n c : Nat} {l : List Evd} (h : EVs w (.slice p n c) l) (hp : p = none ∨ ∃ g, p = some ⟨g, 0, none⟩) : Src Try.prog 8 28 (.slice p n c) n (evsC l) w := by
  have hn : n = l.length := by obtain ⟨p', c', e, _⟩ := h; cases e; rfl
  subst hn
  rcases hp with rfl | ⟨g, rfl⟩
  · have : l = [] := by
      cases l with
      | nil => rfl
      | cons x r =>
        obtain ⟨p', c', e, _, h2⟩ := h
        obtain ⟨g, hg, _⟩ := h2 0 x rfl
        rw [hg] at e
        cases e
    subst this
    exact Src.ofNil _ Try.underlying28 c
  · exact Src.ofSlice _ Try.underlying28 ⟨g, 0, none⟩ _ c _ (evsC_len l) (fun j u hj => by rw [Addr.add_lit, Nat.zero_add]; exact h.raw j u hj) (fun u hu => evsC_one hu)
set_option maxRecDepth 100000 in
set_option maxHeartbeats 1000000 in
theorem clone_any (w : World) (p : Option Addr) (n c : Nat) (l : List Evd) (h : EVs w (.slice p n c) l) (hp : p = none ∨ ∃ g, p = some ⟨g, 0, none⟩) (hl : l.length ≤ 1000000) :
    Calls Try.prog 36 #[.slice p n c] w fun r w' => ∃ p' c', r = .returned (.slice p' n c') ∧ ER w w' (.slice p' n c') l := by
  have hn : n = l.length := by obtain ⟨p', c', e, _⟩ := h; cases e; rfl
  subst hn
  rcases hp with rfl | ⟨g, rfl⟩
  · have : l = [] := by
      cases l with
      | nil => rfl
      | cons x r =>
        obtain ⟨p', c', e, _, h2⟩ := h
        obtain ⟨g, hg, _⟩ := h2 0 x rfl
        rw [hg] at e
        cases e
    subst this
    clear h
    have hnil := fun (w' : World) (n' c' : Nat) => Lib.run_eql_slice_nil (P := Try.prog) w' 28 37 none n' c' 0 0 Try.underlying28
    go_enter Try.func36, Try.ntmps36
    go_wp2
    go_ret
    exact ⟨none, 0, rfl, World.ownsRow_nil _ _ _ _, Below.refl _ _⟩
  · obtain ⟨t9, hti, hz0, hz1, hz2⟩ := info_parts info85
    have hb : Below w.heap.size w (w.alloc (.cells #[] 37)) := (Below.refl _ w).alloc (Nat.le_refl _) _
    have hsrc := (h.below hb (Nat.le_refl _)).src (.inr ⟨g, rfl⟩)
    have hown : (w.alloc (.cells #[] 37)).ownsRow w.heap.size 37 8 (.slice (some ⟨w.heap.size, 0, none⟩) 0 0) 0 [] := ⟨rfl, .inr ⟨w.heap.size, 0, #[], rfl, Nat.le_refl _, row_alloc w _ _, Nat.le_refl _, Nat.zero_le _, rfl, rfl⟩⟩
    have hsz : w.heap.size ≤ (w.alloc (.cells #[] 37)).heap.size := hb.size
    clear h
    have hnil := fun (w' : World) (n' c' : Nat) => Lib.run_eql_slice_nil (P := Try.prog) w' 28 37 (some ⟨g, 0, none⟩) n' c' 0 0 Try.underlying28
    go_enter Try.func36, Try.ntmps36
    go_wp2_with (at_builtin; refine wpList_appS _ rfl (.tmp 5) (.tmp 6) 28 28 rfl w.heap.size 37 t9 _ 8 Try.underlying28 hti hz0 hz1 rfl (by rw [hz2]; decide) _ 0 [] rfl hown _ rfl l.length (evsC l) hsrc (by omega) hsz ?_; intro v' w' q1 q2 q3 q4; obtain ⟨np, nc, hnv⟩ := owns_formB0 q1; subst hnv; clear q3 q4)
    go_ret
    refine ⟨np, nc, by simp, ?_, ?_⟩
    · simpa using q1
    · exact hb.trans (q2.below hsz (fun k hk e => by have e' : some k = some w.heap.size := e; cases e'; omega))
theorem filter_step {p : Evd → Bool} {l : List Evd} {j : Nat} {e : Evd} (h : l[j]? = some e) : (l.take (j + 1)).filter p = (l.take j).filter p ++ (if p e then [e] else []) := by
  rw [List.take_add_one, h, List.filter_append]
  cases hp : p e <;> simp [hp]
theorem drop_step {l : List Evd} {j : Nat} {e : Evd} (h : l[j]? = some e) : l.drop j = e :: l.drop (j + 1) := by
  obtain ⟨hlt, he⟩ := List.getElem?_eq_some_iff.1 h
  rw [List.drop_eq_getElem_cons hlt, he]
set_option maxRecDepth 100000 in
set_option maxHeartbeats 4000000 in
theorem deleteFunc_any (w : World) (B q : Nat) (p : Evd → Bool) (v : Value) (l : List Evd) (hO : w.ownsRow B 37 8 v l.length (evsC l)) (hA : Asks w (fun k => some k = v.ownBlock) q p) (hl : l.length ≤ 1000000) :
    Calls Try.prog 40 #[v, .func (.func 41) #[] #[ptr q]] w fun r w' => ∃ p' c', r = .returned (.slice p' (l.filter p).length c') ∧ w'.ownsRow B 37 8 (.slice p' (l.filter p).length c') (l.filter p).length (evsC (l.filter p)) ∧ Upd w w' (fun k => some k = v.ownBlock) ∧ ∀ k, (Value.slice p' (l.filter p).length c').ownBlock = some k → v.ownBlock = some k := by
  have hidx := indexFunc_any w _ q p v l (EVs.of hO) hA hl
  have HA := Hid.mkW hA
  obtain ⟨v0, hv0⟩ : ∃ v0, v0 = v := ⟨_, rfl⟩
  have HV := Hid.mkW hv0
  rw [← hv0] at HA
  clear hA
  rcases hO.2 with ⟨e, h0⟩ | ⟨g, c, cur, e, hbg, hh, hnc, hcm, hcs, htk⟩
  · have : l = [] := List.eq_nil_of_length_eq_zero h0
    subst this
    subst e
    clear hv0
    have HO := Hid.mkW hO
    clear hO
    go_enter Try.func40, Try.ntmps40
    go_wp2_with (go_at_call 46; refine hidx.mono ?_; rintro e w3 ⟨x, rfl, hx, hb3⟩; rcases hx with ⟨rfl, -⟩ | ⟨i, -, hi, -⟩; rotate_left; (exfalso; simp at hi))
    go_ret
    exact ⟨none, 0, rfl, ownsRow_upd HO.out (Upd.ofBelow (S := fun _ => False) hb3) (fun _ _ h => h), Upd.ofBelow hb3, fun k hk => hk⟩
  · subst e
    subst hv0
    have HO := Hid.mkW hO
    have HH := Hid.mkW hh
    have HT := Hid.mkW htk
    clear hO hh htk
    obtain ⟨ti, hti, hz0, hz1, hz2⟩ := info_parts info85
    go_enter Try.func40, Try.ntmps40
    go_upto_region 2 with (go_at_call 46; refine hidx.mono ?_; rintro e w3 ⟨x, rfl, hx, hb3⟩; have HX := Hid.mkW hx; clear hx)
    rcases HX.out with ⟨rfl, hf⟩ | ⟨i, rfl, hi, hbf, hat⟩
    · have HF := Hid.mkW hf
      clear HX hf
      go_wp2
      go_ret
      rw [HF.out]
      exact ⟨_, _, rfl, ownsRow_upd HO.out (Upd.ofBelow (S := fun _ => False) hb3) (fun _ _ h => h), Upd.ofBelow hb3, fun k hk => hk⟩
    · obtain ⟨ei, hei⟩ : ∃ ei, l[i]? = some ei := ⟨_, List.getElem?_eq_getElem hi⟩
      have hpi := hat ei hei
      have hfi : (l.take i).filter p = l.take i := List.filter_eq_self.2 fun x hx => by
        obtain ⟨j, hj, hj'⟩ := List.getElem_of_mem hx
        rw [List.length_take] at hj
        refine hbf j x (by omega) ?_
        rw [List.getElem_take] at hj'
        rw [List.getElem?_eq_getElem (by omega), hj']
      have HST : Hid (∃ G : List Evd, i = ((l.take (i + 1)).filter p).length ∧ G.length = 1 ∧ w3.ownsRow B 37 8 (.slice (some ⟨g, 0, none⟩) l.length c) l.length (evsC ((l.take (i + 1)).filter p ++ G ++ l.drop (i + 1))) ∧ Upd w w3 (fun k => k = g)) := by
        refine ⟨[ei], ?_, rfl, ?_, Upd.ofBelow hb3⟩
        · rw [filter_step hei, hpi, hfi]; simp; omega
        · rw [filter_step hei, hpi, hfi]
          have : l.take i ++ (if false = true then [ei] else []) ++ [ei] ++ l.drop (i + 1) = l := by
            simp only [Bool.false_eq_true, if_false, List.append_nil, List.append_assoc, List.singleton_append]
            rw [← drop_step hei, List.take_append_drop]
          rw [this]
          exact ownsRow_upd HO.out (Upd.ofBelow (S := fun _ => False) hb3) (fun _ _ h => h)
      clear HX hbf hat hei hpi hfi hb3 hidx
      have hi0 : (i : Int) ≤ 1000000 := by omega
      have hine : ¬ ((i : Int) = -1) := by omega
      have HKP : Hid ((∀ k, some k = (Value.slice (some ⟨g, 0, none⟩) l.length c).ownBlock ↔ k = g) ∧ g < w.heap.size) := ⟨fun k => ⟨fun e => by have e' : some k = some g := e; cases e'; rfl, fun e => by rw [e]; rfl⟩, (Array.getElem?_eq_some_iff.1 HH.out).1⟩
      clear HO HT HH
      go_wp2
      go_loopg [5, 6] (l.length - i) (fun kx s5 s6 wr => ∃ (j k : Nat), s5 = .int .i64 k ∧ s6 = .int .i64 j ∧ kx + j = l.length + 1 ∧ j ≤ l.length ∧ k < j ∧ Hid (∃ G : List Evd, k = ((l.take j).filter p).length ∧ k + G.length = j ∧ wr.ownsRow B 37 8 (.slice (some ⟨g, 0, none⟩) l.length c) l.length (evsC ((l.take j).filter p ++ G ++ l.drop j)) ∧ Upd w wr (fun k => k = g)))
      case atStart =>
        obtain ⟨G, q1, q2, q3, q4⟩ := HST.out
        exact ⟨i + 1, i, rfl, by congr 1, by omega, by omega, by omega, G, q1, by omega, q3, q4⟩
      case round =>
        obtain ⟨j, k, rfl, rfl, hkx, hj, hkj, HM⟩ := hrel
        by_cases hlt : j < l.length
        · obtain ⟨ev, hev⟩ : ∃ ev, l[j]? = some ev := ⟨_, List.getElem?_eq_getElem hlt⟩
          obtain ⟨G, hk1, hG, hrow, hupd⟩ := HM.out
          obtain ⟨M, hM⟩ : ∃ M, M = (l.take j).filter p ++ G ++ l.drop j := ⟨_, rfl⟩
          rw [← hM] at hrow
          have hMl : M.length = l.length := by have := hrow.1; rw [evsC_len] at this; omega
          have hMj : M[j]? = some ev := by rw [hM, List.getElem?_append_right (by rw [List.length_append]; omega), List.length_append, ← hk1, hG, Nat.sub_self, List.getElem?_drop, Nat.add_zero]; exact hev
          have hgl : g < wr.heap.size := Nat.lt_of_lt_of_le HKP.out.2 hupd.size
          have hE : EVs wr (.slice (some ⟨g, 0, none⟩) l.length c) M := EVs.of (l := M) (by rw [hMl]; exact hrow)
          obtain ⟨ap, ac, hav, -, hcells⟩ := hE
          simp only [Value.slice.injEq] at hav
          obtain ⟨rfl, -, rfl⟩ := hav
          obtain ⟨g', hg', -, hcell⟩ := hcells j ev hMj
          cases hg'
          have e0 := hcell 0 _ (by omega) rfl
          have e1 := hcell 1 _ (by omega) rfl
          have e2 := hcell 2 _ (by omega) rfl
          have e3 := hcell 3 _ (by omega) rfl
          have e4 := hcell 4 _ (by omega) rfl
          have e5 := hcell 5 _ (by omega) rfl
          have e6 := hcell 6 _ (by omega) rfl
          have e7 := hcell 7 _ (by omega) rfl
          have hEL : evL ev = _ := rfl
          have HASK : Hid (∀ W, Upd w W (fun k => k = g) → Calls Try.prog 41 #[.agg (evC ev.1 ev.2.2.isNone (evKV ev.1 ev.2.1 ev.2.2)), ptr q] W fun r w' => r = .returned (.bool (!p ev)) ∧ Below W.heap.size W w') := fun W hW => HA.out W ev (hW.mono (fun k _ e => (HKP.out.1 k).2 e))
          have HFS := Hid.mkW (filter_step (p := p) hev)
          have HDS := Hid.mkW (drop_step hev)
          have HEL : Hid (evL ev = (evC ev.1 ev.2.2.isNone (evKV ev.1 ev.2.1 ev.2.2)).toList) := rfl
          have HHM := Hid.mkW hM
          obtain ⟨pe, hpe⟩ : ∃ pe, pe = p ev := ⟨_, rfl⟩
          rw [← hpe] at HASK HFS
          clear hpe
          generalize evKV ev.1 ev.2.1 ev.2.2 = kv at *
          generalize ev.2.2.isNone = dl at *
          generalize ev.1 = r at *
          obtain ⟨xk, xv, xc, xm, xe, xl⟩ := kv
          simp only [Nat.add_zero] at e0
          dsimp only [evC] at HASK HEL
          dsimp only at e2 e3 e4 e5 e6 e7
          have HROW := Hid.mkW hrow
          have HUPD := Hid.mkW hupd
          have HK1 := Hid.mkW hk1
          have HGL := Hid.mkW hG
          have HMj := Hid.mkW hMj
          clear hcell hcells hM hrow hupd hMj hEL hk1 hG HM hev
          go_upto_region 8 with fail
          obtain ⟨V, hV⟩ : ∃ V, V = wr.alloc (.cells #[.int .i64 r, .bool dl, .string xk, .string xv, .int .i64 xc, .int .i64 xm, .int .i64 xe, .int .i64 xl] 37) := ⟨_, rfl⟩
          rw [← hV]
          have rV : V.heap[wr.heap.size]? = some (.cells #[.int .i64 r, .bool dl, .string xk, .string xv, .int .i64 xc, .int .i64 xm, .int .i64 xe, .int .i64 xl] 37 (0, 0)) := by rw [hV]; exact row_alloc wr _ _
          have bV : Below wr.heap.size wr V := by rw [hV]; exact (Below.refl _ wr).alloc (Nat.le_refl _) _
          clear hV
          obtain ⟨b, hb⟩ : ∃ b, b = wr.heap.size := ⟨_, rfl⟩
          rw [← hb] at rV ⊢
          have hbl : b < V.heap.size := (Array.getElem?_eq_some_iff.1 rV).1
          have hcall := HASK.out V (HUPD.out.trans (Upd.ofBelow (S := fun _ => False) bV) (fun _ _ h => h.elim))
          obtain ⟨⟨x0, x1, x2, x3, x4, x5, x6, x7⟩, -⟩ := box8 rV
          have HAFT : Hid (∀ W, Below V.heap.size V W → W.ownsRow B 37 8 (.slice (some ⟨g, 0, none⟩) l.length c) l.length (evsC M) ∧ Upd w W (fun k => k = g) ∧ W.heap[b]? = some (.cells #[.int .i64 r, .bool dl, .string xk, .string xv, .int .i64 xc, .int .i64 xm, .int .i64 xe, .int .i64 xl] 37 (0, 0)) ∧ Below wr.heap.size wr W) := fun W hW => ⟨ownsRow_upd HROW.out (Upd.ofBelow (S := fun _ => False) (bV.trans (hW.mono bV.size))) (fun _ _ h => h), HUPD.out.trans (Upd.ofBelow (S := fun _ => False) (bV.trans (hW.mono bV.size))) (fun _ _ h => h.elim), (hW.block b hbl).trans rV, bV.trans (hW.mono bV.size)⟩
          have HBV : Hid (b = wr.heap.size) := hb
          clear hb bV rV hbl e0 e1 e2 e3 e4 e5 e6 e7 HASK HROW HUPD
          cases pe with
          | false =>
            go_wp2_with (go_at_call 41; refine hcall.mono ?_; rintro e w4 ⟨rfl, hb4⟩)
            go_roundg (l.length - j)
            case measure => omega
            case rel =>
              obtain ⟨q1, q2, -, -⟩ := HAFT.out w4 hb4
              refine ⟨j + 1, k, rfl, by congr 1, by omega, by omega, by omega, G ++ [ev], ?_, ?_, ?_, q2⟩
              · rw [HFS.out]; simpa using HK1.out
              · rw [List.length_append]; have := HGL.out; simp; omega
              · rw [HFS.out]
                have : (l.take j).filter p ++ (if false = true then [ev] else []) ++ (G ++ [ev]) ++ l.drop (j + 1) = M := by
                  rw [HHM.out, HDS.out]; simp
                rw [this]; exact q1
          | true =>
            go_upto_region 9 with (go_at_call 41; refine hcall.mono ?_; rintro e w4 ⟨rfl, hb4⟩)
            obtain ⟨q1, q2, q3, q4⟩ := HAFT.out w4 hb4
            obtain ⟨⟨y0, y1, y2, y3, y4, y5, y6, y7⟩, -⟩ := box8 q3
            have HQ1 := Hid.mkW q1
            have HQ2 := Hid.mkW q2
            have hfr : ∀ t, w4.frozen? ⟨g, t, none⟩ = false := fun t => by
              rcases q1.2 with ⟨e, _⟩ | ⟨g', cap', cur', e, _, hh, _⟩
              · cases e
              · cases e
                exact frozen_of_row _ _ _ _ _ hh
            have hkl : k < l.length := by omega
            have hML : ∀ t, t < 8 → ∃ u', w4.cell? ⟨g, k * 8 + t, none⟩ = some u' := fun t ht => by
              have hk' : k < M.length := by omega
              have hx : (evsC M)[k * 8 + t]? = some ((evsC M)[k * 8 + t]'(by rw [evsC_len]; omega)) := List.getElem?_eq_getElem _
              have := (EVs.of (l := M) (B := B) (by rw [hMl]; exact q1)).raw (k * 8 + t) _ hx
              exact ⟨_, this⟩
            clear q1 q2 q3 q4 hb4 hcall x0 x1 x2 x3 x4 x5 x6 x7 HAFT
            obtain ⟨z0, d0⟩ := hML 0 (by omega)
            obtain ⟨z1, d1⟩ := hML 1 (by omega)
            obtain ⟨z2, d2⟩ := hML 2 (by omega)
            obtain ⟨z3, d3⟩ := hML 3 (by omega)
            obtain ⟨z4, d4⟩ := hML 4 (by omega)
            obtain ⟨z5, d5⟩ := hML 5 (by omega)
            obtain ⟨z6, d6⟩ := hML 6 (by omega)
            obtain ⟨z7, d7⟩ := hML 7 (by omega)
            simp only [Nat.add_zero] at d0
            have f0 := hfr (k * 8)
            have f1 := hfr (k * 8 + 1)
            have f2 := hfr (k * 8 + 2)
            have f3 := hfr (k * 8 + 3)
            have f4 := hfr (k * 8 + 4)
            have f5 := hfr (k * 8 + 5)
            have f6 := hfr (k * 8 + 6)
            have f7 := hfr (k * 8 + 7)
            clear hML hfr
            go_wp2
            go_roundg (l.length - j)
            case measure => omega
            case rel =>
              have hs := row_set (row_set (row_set (row_set (row_set (row_set (row_set (row_set HQ1.out (k * 8) (.int .i64 r)) (k * 8 + 1) (.bool dl)) (k * 8 + 2) (.string xk)) (k * 8 + 3) (.string xv)) (k * 8 + 4) (.int .i64 xc)) (k * 8 + 5) (.int .i64 xm)) (k * 8 + 6) (.int .i64 xe)) (k * 8 + 7) (.int .i64 xl)
              rw [evsC_set ev _ _ _ _ _ _ _ _ HEL.out (by omega)] at hs
              refine ⟨j + 1, k + 1, by congr 1, by congr 1, by omega, by omega, by omega, G.drop 1 ++ [ev], ?_, ?_, ?_, ?_⟩
              · rw [HFS.out, List.length_append]; have := HK1.out; simp; omega
              · rw [List.length_append, List.length_drop]; have := HGL.out; simp; omega
              · have hGc : ∃ x r, G = x :: r := by
                  cases G with
                  | nil => have := HGL.out; simp at this; omega
                  | cons x r => exact ⟨x, r, rfl⟩
                obtain ⟨x, rr, rfl⟩ := hGc
                have : (l.take j).filter p ++ [ev] ++ ((x :: rr).drop 1 ++ [ev]) ++ l.drop (j + 1) = M.set k ev := by
                  have e1 : M = (l.take j).filter p ++ ((x :: rr) ++ ev :: l.drop (j + 1)) := by rw [HHM.out, HDS.out, List.append_assoc]
                  rw [e1, List.set_append_right _ _ (by rw [← HK1.out]; omega), ← HK1.out, Nat.sub_self]
                  simp
                rw [HFS.out, if_pos trivial, this]
                exact hs
              · exact (((((((HQ2.out.setCell (.inr rfl) _).setCell (.inr rfl) _).setCell (.inr rfl) _).setCell (.inr rfl) _).setCell (.inr rfl) _).setCell (.inr rfl) _).setCell (.inr rfl) _).setCell (.inr rfl) _
        · obtain rfl : j = l.length := by omega
          obtain ⟨G, hk1, hG, hrow, hupd⟩ := HM.out
          rw [List.take_length] at hk1 hrow
          rw [List.drop_length, List.append_nil] at hrow
          rcases hrow.2 with ⟨e, _⟩ | ⟨g', cap', cur', e, _, hh, _, _, hcs', htk'⟩
          · cases e
          cases e
          obtain ⟨zs, hzl, hcl⟩ := run_clearS (P := Try.prog) wr 28 0 37 37 ti _ Try.underlying28 hti hz0 g (k * 8) (l.length - k) (c - k) cur' hh (by show _ + (l.length - k) * 8 ≤ _; rw [hcs']; omega) (fun v hv => by
            simp only [Builtin.zeroCells, Array.toList_map, List.mem_map] at hv
            obtain ⟨k, _, rfl⟩ := hv
            have hk : k % 8 < 8 := Nat.mod_lt _ (by decide)
            show ((Value.cells (.agg #[.int .i64 0, .bool false, .string ⟨#[]⟩, .string ⟨#[]⟩, .int .i64 0, .int .i64 0, .int .i64 0, .int .i64 0]))[k % 8]!).oneCell' = true
            rcases (show k % 8 = 0 ∨ k % 8 = 1 ∨ k % 8 = 2 ∨ k % 8 = 3 ∨ k % 8 = 4 ∨ k % 8 = 5 ∨ k % 8 = 6 ∨ k % 8 = 7 by omega) with h | h | h | h | h | h | h | h <;> rw [h] <;> rfl)
          rw [if_neg (by omega)] at hcl
          have hcl' : ∀ ty k', k' = c - k → (Builtin.clear_ #[28] ty #[.slice (some ⟨g, k * 8, none⟩) (l.length - k) k']).run Try.prog wr = _ := fun ty k' hk' => by subst hk'; exact hcl
          have HF : Hid (∀ w' : World, w' = wr.setRow g (cur'.toList.take (k * 8) ++ zs ++ cur'.toList.drop (k * 8 + (l.length - k) * (Value.cells (.agg #[.int .i64 0, .bool false, .string ⟨#[]⟩, .string ⟨#[]⟩, .int .i64 0, .int .i64 0, .int .i64 0, .int .i64 0])).size)).toArray → w'.ownsRow B 37 8 (.slice (some ⟨g, 0, none⟩) k c) k (evsC (l.filter p)) ∧ Upd w w' (fun k => some k = (Value.slice (some ⟨g, 0, none⟩) l.length c).ownBlock)) := fun w' hw' => by
            subst hw'
            have hzl' : zs.length = (l.length - k) * 8 := hzl
            have hcl : cur'.toList.length = c * 8 := by rw [← hcs']; simp
            refine ⟨⟨by rw [evsC_len, hk1], .inr ⟨g, c, _, rfl, hbg, setRow_heap wr g cur' _ 37 _ hh, by omega, hcm, ?_, ?_⟩⟩, ?_⟩
            · rw [List.size_toArray, List.length_append, List.length_append, List.length_take, List.length_drop, hzl', hcl]
              show min (k * 8) (c * 8) + (l.length - k) * 8 + (c * 8 - (k * 8 + (l.length - k) * 8)) = c * 8
              omega
            · rw [List.toList_toArray, List.append_assoc, List.take_append_of_le_length (by rw [List.length_take, hcl]; omega), List.take_take, Nat.min_self]
              have h1 : cur'.toList.take (k * 8) = (cur'.toList.take (l.length * 8)).take (k * 8) := by rw [List.take_take]; congr 1; omega
              rw [h1, htk', evsC_take, hk1]
              congr 1
              rw [List.take_append_of_le_length (Nat.le_refl _), List.take_length]
            · refine (hupd.trans (upd_setRow wr g _ (fun k => k = g) rfl) (fun _ _ h => h)).mono (fun k _ e => (HKP.out.1 k).2 e)
          have HK1 := Hid.mkW hk1
          have hkn : k ≤ l.length := by omega
          have hq1 : (k : Int) ≤ (l.length : Int) := by omega
          have hq2 : (k : Int) ≤ (c : Int) := by omega
          have hq3 : ¬ (c = k) := by omega
          clear hcl hh hcs' htk' hrow hupd hG hk1 HM HA
          go_wp2_with (at_builtin; refine wpList_clear_run _ rfl _ 28 rfl _ rfl (hcl' _ _ (by omega)) ?_)
          go_ret
          rw [← HK1.out]
          exact ⟨_, _, rfl, (HF.out _ (by rw [List.append_assoc]; rfl)).1, (HF.out _ (by rw [List.append_assoc]; rfl)).2, fun j hj => hj⟩
end Go.Proofs.Ytjdmgmnndfhmgaa
/- An index by what it says; texts that come in, keys that are told. -/
namespace Go.Proofs.Ytjdmgmnndfhmgaa
open Go Go.RowKit

abbrev MAsc (ms : List Mk) : Prop := ms.Pairwise fun a b => a.1 < b.1
theorem mem_dat {R : List IM} {r : IM} (h : r ∈ R) : (r.it.key, r.ms) ∈ dat R := List.mem_map.2 ⟨r, h, rfl⟩
/-- An index in memory that says D. -/
def Xd (w : World) (x : Nat) (D : Dat) (F : List Nat) : Prop := ∃ R, Ix w x R F ∧ dat R = D
/-- Its keys and marks are at most n; marks rise. -/
structure Bd (n : Nat) (D : Dat) : Prop where
  len : D.length ≤ n
  ms : ∀ p ∈ D, p.2.length ≤ n ∧ MAsc p.2 ∧ 0 < p.2.length
  asc : Asc (D.map Prod.fst)
theorem Xd.upd {w w' : World} {S : Nat → Prop} (hu : Upd w w' S) {x : Nat} {D : Dat} {F : List Nat} (h : Xd w x D F) (hS : ∀ k ∈ F, ¬ S k) : Xd w' x D F := by
  obtain ⟨R, h1, h2⟩ := h
  exact ⟨R, h1.upd hu hS, h2⟩
theorem Xd.below {w w' : World} (hb : Below w.heap.size w w') {x : Nat} {D : Dat} {F : List Nat} (h : Xd w x D F) : Xd w' x D F := h.upd (S := fun _ => False) (Upd.ofBelow hb) (fun _ _ h => h)
theorem Xd.lt {w : World} {x : Nat} {D : Dat} {F : List Nat} (h : Xd w x D F) : ∀ k ∈ F, k < w.heap.size := by
  obtain ⟨R, h1, _⟩ := h
  exact h1.lt
theorem Xd.nd {w : World} {x : Nat} {D : Dat} {F : List Nat} (h : Xd w x D F) : F.Nodup := by
  obtain ⟨R, h1, _⟩ := h
  exact h1.nd
theorem Bd.nil : Bd 0 [] := ⟨Nat.le_refl _, fun p hp => (by cases hp), trivial⟩
theorem Bd.mono {n m : Nat} {D : Dat} (h : Bd n D) (hm : n ≤ m) : Bd m D := ⟨Nat.le_trans h.len hm, fun p hp => ⟨Nat.le_trans (h.ms p hp).1 hm, (h.ms p hp).2⟩, h.asc⟩
theorem setD_mem : ∀ {D : Dat} {key : ByteArray} {ms : List Mk} {p : ByteArray × List Mk}, p ∈ setD D key ms → p = (key, ms) ∨ p ∈ D
  | [], key, ms, p, h => by simp [setD] at h; exact .inl h
  | (k, m) :: D, key, ms, p, h => by
    unfold setD at h
    split at h
    · rcases List.mem_cons.1 h with rfl | h
      · exact .inr (by simp)
      · exact (setD_mem h).imp id (List.mem_cons_of_mem _)
    · split at h
      · rcases List.mem_cons.1 h with rfl | h
        · exact .inl rfl
        · exact .inr (List.mem_cons_of_mem _ h)
      · rcases List.mem_cons.1 h with rfl | h
        · exact .inl rfl
        · exact .inr h
theorem setD_len : ∀ (D : Dat) (key : ByteArray) (ms : List Mk), (setD D key ms).length ≤ D.length + 1
  | [], _, _ => by simp [setD]
  | (k, m) :: D, key, ms => by
    unfold setD
    have := setD_len D key ms
    split
    · simp; omega
    · split <;> simp
theorem setD_asc : ∀ {D : Dat} {key : ByteArray} {ms : List Mk}, Asc (D.map Prod.fst) → Asc ((setD D key ms).map Prod.fst)
  | [], _, _, _ => by simp [setD, Asc]
  | (k, m) :: D, key, ms, h => by
    obtain ⟨h1, h2⟩ : (∀ j ∈ D.map Prod.fst, klt k j = true) ∧ Asc (D.map Prod.fst) := h
    unfold setD
    split
    · rename_i hk
      refine ⟨fun j hj => ?_, setD_asc h2⟩
      obtain ⟨p, hp, rfl⟩ := List.mem_map.1 hj
      rcases setD_mem hp with rfl | hp
      · exact hk
      · exact h1 _ (List.mem_map_of_mem hp)
    · rename_i hk
      split
      · rename_i e
        subst e
        exact ⟨h1, h2⟩
      · rename_i hne
        have hkk : klt key k = true := by
          cases hq : klt key k
          · exact absurd (klt_tri (by simpa using hk) hq) hne
          · rfl
        refine ⟨fun j hj => ?_, h1, h2⟩
        rcases List.mem_cons.1 hj with rfl | hj
        · exact hkk
        · exact klt_trans hkk (h1 j hj)
theorem lookD_mem : ∀ {D : Dat} {key : ByteArray} {ms : List Mk}, lookD D key = some ms → (key, ms) ∈ D
  | [], _, _, h => by cases h
  | (k, m) :: D, key, ms, h => by
    unfold lookD at h
    split at h
    · rename_i e; cases h; rw [← e]; simp
    · exact List.mem_cons_of_mem _ (lookD_mem h)
theorem masc_snoc {ms : List Mk} {m : Mk} (h : MAsc ms) (hm : ms ≠ [] → (lastM ms).1 < m.1) : MAsc (ms ++ [m]) := by
  refine List.pairwise_append.2 ⟨h, by simp, fun a ha b hb => ?_⟩
  obtain rfl : b = m := by simpa using hb
  have hne : ms ≠ [] := fun e => by rw [e] at ha; cases ha
  have hl := hm hne
  obtain ⟨ini, l, rfl⟩ : ∃ ini l, ms = ini ++ [l] := ⟨ms.dropLast, ms.getLast hne, (List.dropLast_concat_getLast _).symm⟩
  have e : lastM (ini ++ [l]) = l := by simp [lastM]
  rw [e] at hl
  rcases List.mem_append.1 ha with ha | ha
  · have := (List.pairwise_append.1 h).2.2 a ha l (by simp)
    omega
  · obtain rfl : a = l := by simpa using ha
    exact hl
theorem Bd.put {n : Nat} {D : Dat} (h : Bd n D) (key : ByteArray) (rev : Int) (del : Bool) : Bd (n + 1) (putD D key rev del) := by
  unfold putD
  split
  · rename_i he
    refine ⟨Nat.le_trans (setD_len _ _ _) (by have := h.len; omega), fun p hp => ?_, setD_asc h.asc⟩
    rcases setD_mem hp with rfl | hp
    · cases hl : lookD D key with
      | none => simp
      | some ms =>
        obtain ⟨q1, q2, q3⟩ := h.ms _ (lookD_mem hl)
        dsimp only at q1 q2 q3
        refine ⟨by simp; omega, masc_snoc q2 (fun _ => ?_), by simp⟩
        unfold putE at he
        rw [hl] at he
        split at he
        · cases he
        · dsimp only at he
          split at he
          · cases he
          · show (lastM ms).1 < rev
            omega
    · exact ⟨Nat.le_succ_of_le (h.ms p hp).1, (h.ms p hp).2⟩
  · exact h.mono (Nat.le_succ _)
def SeesS (w : World) (v : Value) (zs : List ByteArray) : Prop :=
  (zs = [] ∧ ∃ ao cap, v = .slice ao 0 cap) ∨ ∃ b off cap, v = .slice (some ⟨b, off, none⟩) zs.length cap ∧ 0 < zs.length ∧ b < w.heap.size ∧ ∀ i, i < zs.length → w.cell? ⟨b, off + i, none⟩ = some (.string (zs.getD i ByteArray.empty)) ∧ (zs.getD i ByteArray.empty).size ≤ 9223372036854775807
theorem SeesS.form {w : World} {v : Value} {zs : List ByteArray} (h : SeesS w v zs) : ∃ ao cap, v = .slice ao zs.length cap := by
  rcases h with ⟨rfl, ao, cap, rfl⟩ | ⟨b, off, cap, rfl, _⟩ <;> exact ⟨_, _, rfl⟩
theorem SeesS.at {w : World} {a : Option Addr} {cap : Nat} {zs : List ByteArray} (h : SeesS w (.slice a zs.length cap) zs) {j : Nat} (hj : j < zs.length) : ∃ b off, a = some ⟨b, off, none⟩ ∧ b < w.heap.size ∧ w.cell? ⟨b, off + j, none⟩ = some (.string (zs.getD j ByteArray.empty)) ∧ (zs.getD j ByteArray.empty).size ≤ 9223372036854775807 := by
  rcases h with ⟨h, _⟩ | ⟨b, off, c, he, _, hb, hc⟩
  · subst h; simp at hj
  · cases he; exact ⟨b, off, rfl, hb, (hc j hj).1, (hc j hj).2⟩
/-- A row of texts that the program made. -/
structure Row (w : World) (v : Value) (ks : List ByteArray) : Prop where
  form : ∃ p c, v = .slice p ks.length c
  at_ : ∀ j k, ks[j]? = some k → ∃ g c, v = .slice (some ⟨g, 0, none⟩) ks.length c ∧ g < w.heap.size ∧ w.cell? ⟨g, j, none⟩ = some (.string k)
theorem Row.below {w w' : World} (hb : Below w.heap.size w w') {v : Value} {ks : List ByteArray} (h : Row w v ks) : Row w' v ks :=
  ⟨h.form, fun j k hj => by
    obtain ⟨g, c, h1, h2, h3⟩ := h.at_ j k hj
    exact ⟨g, c, h1, Nat.lt_of_lt_of_le h2 hb.size, (hb.cell (p := ⟨g, j, none⟩) h2).trans h3⟩⟩
theorem lookD_not {D : Dat} (ha : Asc (D.map Prod.fst)) {key : ByteArray} (h : lookD D key = none) : key ∉ D.map Prod.fst := fun hm => by
  obtain ⟨p, hp, rfl⟩ := List.mem_map.1 hm
  obtain ⟨A, B, hAB⟩ := List.append_of_mem hp
  rw [hAB] at ha h
  rw [lookD_at (X := A) (Z := B) (key := p.1) (ms := p.2) ha] at h
  cases h
theorem putD_len {D : Dat} (ha : Asc (D.map Prod.fst)) {key : ByteArray} {rev : Int} {del : Bool} (h : lookD D key = none) (he : putE D key rev del = 0) : (putD D key rev del).length = D.length + 1 := by
  unfold putD
  rw [if_pos he, setD_new (lookD_not ha h)]
  have := congrArg List.length (List.takeWhile_append_dropWhile (p := fun p : ByteArray × List Mk => klt p.1 key) (l := D))
  simp only [List.length_append] at this
  simp; omega
theorem bd_pos {n : Nat} {D : Dat} (h : Bd n D) {key : ByteArray} {ms : List Mk} (hl : lookD D key = some ms) : 0 < ms.length := (h.ms _ (lookD_mem hl)).2.2
end Go.Proofs.Ytjdmgmnndfhmgaa
/- A map in memory as a function: look-up, store, delete, len, for keys of any kind. -/
namespace Go.Proofs.Ytjdmgmnndfhmgaa
open Go Go.RowKit

def findA {K : Type} [DecidableEq K] (k : K) : List (K × Value) → Nat → Option (Nat × Value)
  | [], _ => none
  | p :: L, i => if k = p.1 then some (i, p.2) else findA k L (i + 1)
/-- Keys of a kind: how they are laid, and that a look among them goes by equality. -/
structure KLaw (P : Program) (kt : TypeId) {K : Type} [DecidableEq K] (enc : K → Value) : Prop where
  chk : ∀ (e : Bool) (k : K) (w : World), (Instr.checkKey e 10000 kt (enc k)).run P w = .ok () w
  fnd : ∀ (k : K) (es : List MapEntry) (L : List (K × Value)) (w : World), es.map (fun e => (e.key, e.val)) = L.map (fun p => (enc p.1, p.2)) → (Instr.findKey kt (enc k) es).run P w = .ok (findA k L 0) w
  bits : ∀ k, Instr.sameBits 10000 (enc k) (enc k) = true
section
variable {K : Type} [DecidableEq K]
def getA (L : List (K × Value)) (k : K) : Option Value := (L.find? (fun p => decide (p.1 = k))).map Prod.snd
/-- Where a key stands, and all others do not. -/
theorem findA_split (k : K) : ∀ (L : List (K × Value)) (i : Nat), (L.map Prod.fst).Nodup → (findA k L i = none ∧ k ∉ L.map Prod.fst) ∨ ∃ A v B, L = A ++ (k, v) :: B ∧ findA k L i = some (i + A.length, v) ∧ k ∉ A.map Prod.fst ∧ k ∉ B.map Prod.fst
  | [], _, _ => .inl ⟨rfl, by simp⟩
  | p :: L, i, hn => by
    obtain ⟨h1, h2⟩ := List.nodup_cons.1 (by simpa using hn : (p.1 :: L.map Prod.fst).Nodup)
    by_cases hk : k = p.1
    · subst hk
      exact .inr ⟨[], p.2, L, rfl, by simp [findA], by simp, h1⟩
    · rcases findA_split k L (i + 1) h2 with ⟨e, hm⟩ | ⟨A, v, B, e, h3, h4, h5⟩
      · exact .inl ⟨by rw [findA, if_neg hk, e], by simp only [List.map_cons, List.mem_cons, not_or]; exact ⟨hk, hm⟩⟩
      · refine .inr ⟨p :: A, v, B, by rw [e]; rfl, ?_, ?_, h5⟩
        · rw [findA, if_neg hk, h3, List.length_cons]
          congr 2
          omega
        · simp only [List.map_cons, List.mem_cons, not_or]; exact ⟨hk, h4⟩
theorem getA_not {L : List (K × Value)} {k : K} (h : k ∉ L.map Prod.fst) : getA L k = none := by
  unfold getA
  rw [List.find?_eq_none.2]
  · rfl
  · intro p hp e
    exact h (List.mem_map.2 ⟨p, hp, by simpa using e⟩)
theorem getA_mid {A B : List (K × Value)} {k : K} {v : Value} (h : k ∉ A.map Prod.fst) : getA (A ++ (k, v) :: B) k = some v := by
  unfold getA
  rw [List.find?_append, List.find?_eq_none.2]
  · simp
  · intro p hp e
    exact h (List.mem_map.2 ⟨p, hp, by simpa using e⟩)
theorem getA_skip {A B : List (K × Value)} {k j : K} {v : Value} (h : j ≠ k) : getA (A ++ (k, v) :: B) j = getA (A ++ B) j := by
  unfold getA
  rw [List.find?_append, List.find?_append, List.find?_cons_of_neg (by simpa using Ne.symm h)]
theorem getA_end {A : List (K × Value)} {k j : K} {v : Value} (h : j ≠ k) : getA (A ++ [(k, v)]) j = getA A j := by
  rw [getA_skip h, List.append_nil]
/-- A map in memory, as a function of its keys, and how many it has. -/
def MapF (w : World) (enc : K → Value) (b : Nat) (f : K → Option Value) (n : Nat) : Prop :=
  ∃ (es : Array MapEntry) (clock : Nat) (L : List (K × Value)), w.heap[b]? = some (.map es clock) ∧ es.toList.map (fun e => (e.key, e.val)) = L.map (fun p => (enc p.1, p.2)) ∧ (L.map Prod.fst).Nodup ∧ L.length = n ∧ ∀ k, f k = getA L k
def setF (f : K → Option Value) (k : K) (v : Value) : K → Option Value := fun j => if j = k then some v else f j
def delF (f : K → Option Value) (k : K) : K → Option Value := fun j => if j = k then none else f j
theorem setF_same (f : K → Option Value) (k : K) (v : Value) : setF f k v k = some v := if_pos rfl
theorem setF_other (f : K → Option Value) {k j : K} (v : Value) (h : j ≠ k) : setF f k v j = f j := if_neg h
theorem delF_same (f : K → Option Value) (k : K) : delF f k k = none := if_pos rfl
theorem delF_other (f : K → Option Value) {k j : K} (h : j ≠ k) : delF f k j = f j := if_neg h
variable {P : Program} {w : World} {enc : K → Value} {b n : Nat} {f : K → Option Value} {t kt et : TypeId}
theorem MapF.lt (h : MapF w enc b f n) : b < w.heap.size := by
  obtain ⟨es, clock, L, h1, _⟩ := h
  exact (Array.getElem?_eq_some_iff.1 h1).1
theorem MapF.agree {w' : World} (h : MapF w enc b f n) (hb : w'.heap[b]? = w.heap[b]?) : MapF w' enc b f n := by
  obtain ⟨es, clock, L, h1, h2⟩ := h
  exact ⟨es, clock, L, hb.trans h1, h2⟩
theorem MapF.upd {w' : World} {S : Nat → Prop} (h : MapF w enc b f n) (hu : Upd w w' S) (hS : ¬ S b) : MapF w' enc b f n := h.agree (hu.block b h.lt hS)
theorem MapF.below {w' : World} (h : MapF w enc b f n) (hb : Below w.heap.size w w') : MapF w' enc b f n := h.agree (hb.block b h.lt)
theorem MapF.congr {g : K → Option Value} (h : MapF w enc b f n) (hg : ∀ k, g k = f k) : MapF w enc b g n := by
  obtain ⟨es, clock, L, h1, h2, h3, h4, h5⟩ := h
  exact ⟨es, clock, L, h1, h2, h3, h4, fun k => (hg k).trans (h5 k)⟩
theorem MapF.made (w : World) (enc : K → Value) : MapF (w.alloc (.map #[] 0)) enc w.heap.size (fun _ => none) 0 := ⟨#[], 0, [], by rw [← World.alloc_eq]; simp, rfl, List.nodup_nil, rfl, fun _ => rfl⟩
theorem MapF.look (h : MapF w enc b f n) (K' : KLaw P kt enc) (ht : P.underlying t = some (.map kt et)) {z : Value} (hz : (zeroValue et).run P w = .ok z w) (k : K) (c : Bool) :
    (Instr.lookup t (.map (some b)) (enc k) c).run P w = .ok (if c then .tuple #[(f k).getD z, .bool (f k).isSome] else (f k).getD z) w := by
  obtain ⟨es, clock, L, h1, h2, h3, h4, h5⟩ := h
  have hf := K'.fnd k es.toList L w h2
  rcases findA_split k L 0 h3 with ⟨e, hm⟩ | ⟨A, v, B, e, e2, hA, hB⟩
  · rw [e] at hf
    have : f k = none := by rw [h5]; exact getA_not hm
    rw [this]
    cases c <;> simp [Instr.lookup, run_underlying ht, MapKept.run_getObj_map h1, K'.chk, hf, hz, Result.andThen]
  · rw [e2] at hf
    have : f k = some v := by rw [h5, e]; exact getA_mid hA
    rw [this]
    cases c <;> simp [Instr.lookup, run_underlying ht, MapKept.run_getObj_map h1, K'.chk, hf, Result.andThen]
theorem MapF.len (h : MapF w enc b f n) (ht : P.underlying t = some (.map kt et)) (ty : TypeId) : (Builtin.len_ #[t] ty #[.map (some b)]).run P w = .ok (.int .i64 n) w := by
  obtain ⟨es, clock, L, h1, h2, h3, h4, h5⟩ := h
  have : es.size = n := by
    have := congrArg List.length h2
    simpa [h4] using this
  simp [Builtin.len_, run_underlying ht, MapKept.run_getObj_map h1, goInt, Result.andThen, this]
theorem upd_turned {w w' : World} {b : Nat} (h : w.mapTurned w' b) : Upd w w' (fun k => k = b) := by
  obtain ⟨es, clock, es', clock', h1, rfl⟩ := h
  exact ⟨rfl, rfl, rfl, by simp [ChangeMaps.setBlock], fun k hk hS => by simp [ChangeMaps.setBlock, Array.getElem?_setIfInBounds_ne (Ne.symm hS)]⟩
theorem heap_set {w : World} {b : Nat} {o o' : Obj} (h : w.heap[b]? = some o) : (ChangeMaps.setBlock w b o').heap[b]? = some o' := by
  simp [ChangeMaps.setBlock, (Array.getElem?_eq_some_iff.1 h).1]
theorem MapF.set (h : MapF w enc b f n) (K' : KLaw P kt enc) (ht : P.underlying t = some (.map kt et)) (k : K) (v : Value) :
    ∃ w', (Instr.mapUpdate t (.map (some b)) (enc k) v).run P w = .ok () w' ∧ MapF w' enc b (setF f k v) (if (f k).isSome then n else n + 1) ∧ Upd w w' (fun j => j = b) := by
  obtain ⟨es, clock, L, h1, h2, h3, h4, h5⟩ := h
  have hf := K'.fnd k es.toList L w h2
  rcases findA_split k L 0 h3 with ⟨e, hm⟩ | ⟨A, u, B, rfl, e2, hA, hB⟩
  · rw [e] at hf
    have hk : f k = none := by rw [h5]; exact getA_not hm
    refine ⟨ChangeMaps.setBlock w b (.map (es.push ⟨enc k, v, clock⟩) (clock + 1)), ?_, ⟨_, _, L ++ [(k, v)], heap_set h1, by simp [h2], ?_, ?_, ?_⟩, upd_turned ⟨_, _, _, _, h1, rfl⟩⟩
    · simp [Instr.mapUpdate, run_underlying ht, MapKept.run_getObj_map h1, K'.chk, hf, MapKept.run_setObj_map _ h1, Result.andThen, ChangeMaps.setBlock]
    · rw [List.map_append, List.nodup_append]
      refine ⟨h3, by simp, ?_⟩
      intro x hx y hy
      have : y = k := by simpa using hy
      subst this
      exact fun e' => hm (e' ▸ hx)
    · rw [hk]; simp [h4]
    · intro j
      by_cases hj : j = k
      · subst hj; rw [setF_same, getA_mid hm]
      · rw [setF_other _ _ hj, getA_end hj, h5]
  · rw [e2] at hf
    have hk : f k = some u := by rw [h5]; exact getA_mid hA
    have hAl : ((es.toList.map (fun e => (e.key, e.val)))[A.length]?) = some (enc k, u) := by rw [h2]; simp
    rw [List.getElem?_map] at hAl
    obtain ⟨e0, he0, hee⟩ := Option.map_eq_some_iff.1 hAl
    have hj : es[A.length]? = some e0 := by simpa using he0
    have hke : e0.key = enc k := congrArg Prod.fst hee
    have hst : (Instr.keyThatStays (enc k) (enc k)).run P w = .ok (enc k) w := by simp [Instr.keyThatStays, K'.bits]
    refine ⟨ChangeMaps.setBlock w b (.map (es.modify A.length (fun e' => { e' with key := enc k, val := v })) clock), ?_, ⟨_, _, A ++ (k, v) :: B, heap_set h1, ?_, ?_, ?_, ?_⟩, upd_turned ⟨_, _, _, _, h1, rfl⟩⟩
    · simp [Instr.mapUpdate, run_underlying ht, MapKept.run_getObj_map h1, K'.chk, hf, hj, hke, hst, MapKept.run_setObj_map _ h1, Result.andThen, ChangeMaps.setBlock]
    · rw [Array.toList_modify, ChangeMaps.modify_eq_set _ _ _ _ he0, List.map_set, h2]
      simp
    · simpa using h3
    · rw [hk]; simpa using h4
    · intro j
      by_cases hj : j = k
      · subst hj; rw [setF_same, getA_mid hA]
      · rw [setF_other _ _ hj, h5, getA_skip hj, getA_skip hj]
theorem MapF.del (h : MapF w enc b f n) (K' : KLaw P kt enc) (ht : P.underlying t = some (.map kt et)) (k : K) (ty : TypeId) :
    ∃ w', (Builtin.delete_ #[t, kt] ty #[.map (some b), enc k]).run P w = .ok (.tuple #[]) w' ∧ MapF w' enc b (delF f k) (if (f k).isSome then n - 1 else n) ∧ Upd w w' (fun j => j = b) := by
  obtain ⟨es, clock, L, h1, h2, h3, h4, h5⟩ := h
  have hf := K'.fnd k es.toList L w h2
  rcases findA_split k L 0 h3 with ⟨e, hm⟩ | ⟨A, u, B, rfl, e2, hA, hB⟩
  · rw [e] at hf
    have hk : f k = none := by rw [h5]; exact getA_not hm
    refine ⟨ChangeMaps.setBlock w b (.map es clock), ?_, ⟨_, _, L, heap_set h1, h2, h3, ?_, ?_⟩, upd_turned ⟨_, _, _, _, h1, rfl⟩⟩
    · simp [Builtin.delete_, run_underlying ht, MapKept.run_getObj_map h1, K'.chk, hf, MapKept.run_setObj_map _ h1, Result.andThen, ChangeMaps.setBlock]
    · rw [hk]; simp [h4]
    · intro j
      by_cases hj : j = k
      · subst hj; rw [delF_same, getA_not hm]
      · rw [delF_other _ hj, h5]
  · rw [e2] at hf
    have hk : f k = some u := by rw [h5]; exact getA_mid hA
    have hlen : A.length < es.size := by
      have := congrArg List.length h2
      simp at this
      omega
    refine ⟨ChangeMaps.setBlock w b (.map (es.eraseIdxIfInBounds A.length) clock), ?_, ⟨_, _, A ++ B, heap_set h1, ?_, ?_, ?_, ?_⟩, upd_turned ⟨_, _, _, _, h1, rfl⟩⟩
    · simp [Builtin.delete_, run_underlying ht, MapKept.run_getObj_map h1, K'.chk, hf, MapKept.run_setObj_map _ h1, Result.andThen, ChangeMaps.setBlock]
    · have e3 : (es.eraseIdxIfInBounds A.length).toList = es.toList.eraseIdx A.length := by simp [Array.eraseIdxIfInBounds, hlen]
      rw [e3, ChangeMaps.map_eraseIdx, h2]
      simp [List.eraseIdx_append_of_length_le]
    · simp only [List.map_append, List.map_cons] at h3 ⊢
      exact h3.sublist ((List.Sublist.refl _).append (List.sublist_cons_self _ _))
    · rw [hk]
      simp at h4 ⊢
      omega
    · intro j
      by_cases hj : j = k
      · subst hj
        rw [delF_same, getA_not]
        simp only [List.map_append, List.mem_append, not_or]
        exact ⟨hA, hB⟩
      · rw [delF_other _ hj, h5, getA_skip hj]
end

/-- A look where keys are told apart at once. -/
theorem KLaw.now {P : Program} {kt : TypeId} {K : Type} [DecidableEq K] {enc : K → Value} {d : TypeDesc} (hd : P.underlying kt = some d) (h1 : ∀ k j, Instr.sameNow d (enc k) (enc j) = some (decide (k = j))) (h2 : ∀ k, Instr.sameBits 10000 (enc k) (enc k) = true) (h3 : ∀ (e : Bool) (k : K) (w : World), (Instr.checkKey e 10000 kt (enc k)).run P w = .ok () w) : KLaw P kt enc where
  chk := h3
  bits := h2
  fnd := fun k es L w he => by
    refine MapKept.run_findKey hd ?_
    have : ∀ (es : List MapEntry) (L : List (K × Value)) (i : Nat), es.map (fun e => (e.key, e.val)) = L.map (fun p => (enc p.1, p.2)) → Instr.findNow d (enc k) es i = some (findA k L i) := by
      intro es
      induction es with
      | nil =>
        intro L i he
        cases L with
        | nil => rfl
        | cons p L => cases he
      | cons e es ih =>
        intro L i he
        cases L with
        | nil => cases he
        | cons p L =>
          obtain ⟨q1, q2⟩ := List.cons.inj he
          have k1 : e.key = enc p.1 := congrArg Prod.fst q1
          have k2 : e.val = p.2 := congrArg Prod.snd q1
          rw [Instr.findNow, k1, h1, findA]
          by_cases hk : k = p.1
          · simp [hk, k2]
          · simp [hk, ih L (i + 1) q2]
    exact this es L 0 he
/-- A look where == is asked. -/
theorem KLaw.asks {P : Program} {kt : TypeId} {K : Type} [DecidableEq K] {enc : K → Value} {d : TypeDesc} (hd : P.underlying kt = some d) (h0 : ∀ k j, Instr.sameNow d (enc k) (enc j) = none) (h1 : ∀ k j w, (Op.equal kt (enc k) (enc j)).run P w = .ok (decide (k = j)) w) (h2 : ∀ k, Instr.sameBits 10000 (enc k) (enc k) = true) (h3 : ∀ (e : Bool) (k : K) (w : World), (Instr.checkKey e 10000 kt (enc k)).run P w = .ok () w) : KLaw P kt enc where
  chk := h3
  bits := h2
  fnd := fun k es L w he => by
    have ha : ∀ (es : List MapEntry) (L : List (K × Value)) (i : Nat), es.map (fun e => (e.key, e.val)) = L.map (fun p => (enc p.1, p.2)) → (Instr.findAsking kt (enc k) es i).run P w = .ok (findA k L i) w := by
      intro es
      induction es with
      | nil =>
        intro L i he
        cases L with
        | nil => rfl
        | cons p L => cases he
      | cons e es ih =>
        intro L i he
        cases L with
        | nil => cases he
        | cons p L =>
          obtain ⟨q1, q2⟩ := List.cons.inj he
          have k1 : e.key = enc p.1 := congrArg Prod.fst q1
          have k2 : e.val = p.2 := congrArg Prod.snd q1
          rw [Instr.findAsking, k1, findA]
          by_cases hk : k = p.1
          · simp [h1, hk, k2, Result.andThen]
          · simp [h1, hk, ih L (i + 1) q2, Result.andThen]
    cases es with
    | nil =>
      cases L with
      | nil => simp [Instr.findKey, run_underlying hd, Instr.findNow, Result.andThen, findA]
      | cons p L => cases he
    | cons e es =>
      have hn : Instr.findNow d (enc k) (e :: es) 0 = none := by
        cases L with
        | nil => cases he
        | cons p L =>
          have k1 : e.key = enc p.1 := congrArg Prod.fst (List.cons.inj he).1
          rw [Instr.findNow, k1, h0]
      simp only [Instr.findKey, Sem.run_bind, run_underlying hd, Result.andThen, hn]
      exact ha _ _ _ he
theorem KLaw.plain {P : Program} {kt : TypeId} {K : Type} [DecidableEq K] {enc : K → Value} {d : TypeDesc} (hd : P.underlying kt = some d) (hk : ∀ k, MapKept.IsKey d (enc k)) (inj : ∀ k j, enc k = enc j → k = j) (h2 : ∀ k, Instr.sameBits 10000 (enc k) (enc k) = true) : KLaw P kt enc :=
  KLaw.now hd (fun k j => by
    obtain ⟨r, h, hr⟩ := MapKept.sameNow_of_keys (hk k) (hk j)
    rw [h]
    congr 1
    by_cases e : k = j
    · subst e; simp [hr.2 rfl]
    · have : ¬ r = true := fun h' => e (inj _ _ (hr.1 h'))
      simp [e, this]) h2 (fun e k w => MapKept.run_checkKey hd (hk k) e 9999)
theorem law_string {P : Program} {kt : TypeId} (hk : P.underlying kt = some .string) : KLaw P kt (fun s : ByteArray => Value.string s) :=
  KLaw.plain hk (fun _ => trivial) (fun k j h => by cases h; rfl) (fun k => by simp only [Instr.sameBits]; exact (MapKept.bytes_beq k k).2 rfl)
theorem law_int {P : Program} {kt : TypeId} (hk : P.underlying kt = some (.int .i64)) : KLaw P kt (fun a : Int => Value.int .i64 a) :=
  KLaw.plain hk (fun _ => rfl) (fun k j h => by cases h; rfl) (fun k => by simp [Instr.sameBits])
end Go.Proofs.Ytjdmgmnndfhmgaa
/- A store in memory, and a write of it. -/
namespace Go.Proofs.Ytjdmgmnndfhmgaa
open Go Go.RowKit

/-- The kinds of blocks that the index has. -/
def Kind (w : World) (k : Nat) (ts : List Nat) : Prop := ∃ c t f, w.heap[k]? = some (.cells c t f) ∧ t ∈ ts
abbrev own7 : List Nat := [84, 127, 119, 82, 107]
theorem Kind.of_row {w : World} {B e s n : Nat} {v : Value} {xs : List Value} (h : w.ownsRow B e s v n xs) {k : Nat} (hk : v.ownBlock = some k) {ts : List Nat} (he : e ∈ ts) : Kind w k ts := by
  obtain ⟨_, c, f, hh⟩ := ownBlock_ge h hk
  exact ⟨c, e, f, hh, he⟩
theorem Nod.kind {w : World} {b : Nat} {iv kv : Value} {its : List Itm} {ks : List Nat} (h : Nod w b iv kv its ks) : ∀ k ∈ nf b iv kv, Kind w k own7 := fun k hk => by
  simp only [nf, List.mem_cons, List.mem_append, Option.mem_toList] at hk
  rcases hk with rfl | hk | hk
  · exact ⟨_, _, _, h.blk, by simp⟩
  · exact Kind.of_row h.items hk (by simp)
  · exact Kind.of_row h.kids hk (by simp)
theorem Tre.kind {w : World} : ∀ {h b : Nat} {its L : List Itm} {F : List Nat}, Tre w h b its L F → ∀ k ∈ F, Kind w k own7
  | 0, _, _, _, _, ⟨iv, kv, hN, _, hF⟩, k, hk => hN.kind k (by rw [← hF]; exact hk)
  | h + 1, _, _, _, _, ⟨iv, kv, ks, hN, hl, hks, hL, hF⟩, k, hk => by
    rw [hF, List.mem_append] at hk
    rcases hk with hk | hk
    · exact hN.kind k hk
    · obtain ⟨a, ha, hk⟩ := List.mem_flatMap.1 hk
      exact (hks a ha).1.kind k hk
theorem Xd.kind {w : World} {x : Nat} {D : Dat} {F : List Nat} (h : Xd w x D F) : ∀ k ∈ F, Kind w k own7 := fun k hk => by
  obtain ⟨R, h1, _⟩ := h
  obtain ⟨rp, Ft, hx, hR, hF⟩ := h1.ex
  rw [hF] at hk
  rcases List.mem_cons.1 hk with rfl | hk
  · exact ⟨_, _, _, hx, by simp⟩
  · rcases List.mem_append.1 hk with hk | hk
    · rcases hR with ⟨_, _, rfl⟩ | ⟨h, b, its, _, ht, _⟩
      · cases hk
      · exact ht.kind k hk
    · obtain ⟨r, hr, hk⟩ := List.mem_flatMap.1 hk
      simp only [ownM, Option.mem_toList] at hk
      exact Kind.of_row (h1.mks r hr).1 hk (by simp)
theorem Kind.ne {w : World} {k : Nat} (h : Kind w k own7) {c : Array Value} {t : Nat} {f : Nat × Nat} {b : Nat} (hb : w.heap[b]? = some (.cells c t f)) (ht : t ∉ own7) : k ≠ b := fun e => by
  obtain ⟨c', t', f', h1, h2⟩ := h
  rw [e, hb] at h1
  cases h1
  exact ht h2
theorem Kind.ne_map {w : World} {k : Nat} (h : Kind w k own7) {es : Array MapEntry} {c b : Nat} (hb : w.heap[b]? = some (.map es c)) : k ≠ b := fun e => by
  obtain ⟨c', t', f', h1, h2⟩ := h
  rw [e, hb] at h1
  cases h1

abbrev encB : ByteArray → Value := fun k => .string k
abbrev encI : Int → Value := fun r => .int .i64 r
abbrev encP : Int × ByteArray → Value := fun p => .agg #[.int .i64 p.1, .string p.2]
/-- A change as it is kept: a put, or a deletion. -/
def encC (k : ByteArray) : Option KVd → Value
  | some kv => .iface 80 (encKV kv)
  | none => .iface 7979 (.agg #[.string k])
/-- A store as data: its revisions, the keys that it knows (rising), what was done to each, the keys of each revision, how many are there. -/
structure Sto where
  rev : Nat
  past : Nat
  ks : List ByteArray
  kh : ByteArray → Hs
  lg : Int → List ByteArray
  nth : Nat
def markOf (p : Int × Option KVd) : Mk := (p.1, p.2.isNone)
def datS (S : Sto) : Dat := S.ks.map fun k => (k, (S.kh k).map markOf)
def chF (S : Sto) : Int × ByteArray → Option Value := fun p => ((S.kh p.2).find? fun q => decide (q.1 = p.1)).map fun q => encC p.2 q.2
def thF (S : Sto) : ByteArray → Option Value := fun k => (thereH (S.kh k)).map fun kv => .int .i64 kv.mod
/-- Its blocks: the index, three maps, the rows of its log. -/
structure Sg where
  x : Nat
  bc : Nat
  bl : Nat
  bt : Nat
  Fi : List Nat
  lv : Int → Option Value
  nc : Nat
  nl : Nat
structure St (n : Nat) (w : World) (s : Nat) (S : Sto) (g : Sg) (o : Value) : Prop where
  blk : w.heap[s]? = some (.cells #[.int .i64 S.rev, .int .i64 S.past, ptr g.x, .map (some g.bc), .map (some g.bl), .map (some g.bt), o] 53 (0, 0))
  ix : Xd w g.x (datS S) g.Fi
  bd : Bd n (datS S)
  ch : MapF w encP g.bc (chF S) g.nc
  lg : MapF w encI g.bl g.lv g.nl
  th : MapF w encB g.bt (thF S) S.nth
  ne : g.bc ≠ g.bl ∧ g.bc ≠ g.bt ∧ g.bl ≠ g.bt
  rows : ∀ r v, g.lv r = some v → r ≤ S.rev ∧ w.ownsRow 0 9 1 v (S.lg r).length (strs (S.lg r))
  hok : ∀ k, HOk k S.rev (S.kh k)
  mem : ∀ k, k ∈ S.ks ↔ S.kh k ≠ []
  sz : ∀ k ∈ S.ks, 0 < k.size ∧ k.size ≤ 100
  past : S.past ≤ S.rev
/-- A store's blocks. -/
def ftS (s : Nat) (g : Sg) (k : Nat) : Prop := k = s ∨ k = g.bc ∨ k = g.bl ∨ k = g.bt ∨ k ∈ g.Fi ∨ ∃ r v, g.lv r = some v ∧ v.ownBlock = some k
theorem St.upd {n : Nat} {w w' : World} {s : Nat} {S : Sto} {g : Sg} {o : Value} {T : Nat → Prop} (h : St n w s S g o) (hu : Upd w w' T) (hT : ∀ k, ftS s g k → ¬ T k) : St n w' s S g o :=
  ⟨(hu.block s (Array.getElem?_eq_some_iff.1 h.blk).1 (hT s (.inl rfl))).trans h.blk, h.ix.upd hu (fun k hk => hT k (.inr (.inr (.inr (.inr (.inl hk)))))), h.bd,
   h.ch.upd hu (hT _ (.inr (.inl rfl))), h.lg.upd hu (hT _ (.inr (.inr (.inl rfl)))), h.th.upd hu (hT _ (.inr (.inr (.inr (.inl rfl))))), h.ne,
   fun r v hv => ⟨(h.rows r v hv).1, ownsRow_upd (h.rows r v hv).2 hu (fun k hk => hT k (.inr (.inr (.inr (.inr (.inr ⟨r, v, hv, hk⟩))))))⟩, h.hok, h.mem, h.sz, h.past⟩
theorem St.below {n : Nat} {w w' : World} {s : Nat} {S : Sto} {g : Sg} {o : Value} (h : St n w s S g o) (hb : Below w.heap.size w w') : St n w' s S g o := h.upd (T := fun _ => False) (Upd.ofBelow hb) (fun _ _ h => h)
theorem St.lt {n : Nat} {w : World} {s : Nat} {S : Sto} {g : Sg} {o : Value} (h : St n w s S g o) {k : Nat} (hk : ftS s g k) : k < w.heap.size := by
  rcases hk with rfl | rfl | rfl | rfl | hk | ⟨r, v, hv, hk⟩
  · exact (Array.getElem?_eq_some_iff.1 h.blk).1
  · exact h.ch.lt
  · exact h.lg.lt
  · exact h.th.lt
  · exact h.ix.lt k hk
  · exact ((h.rows r v hv).2.lt k hk).2
/-- A write as data: the keys that it changed, in order; their changes; how many keys there will be. -/
structure Wri where
  keys : List ByteArray
  ch : ByteArray → Option (Option KVd)
  count : Int
def wcF (W : Wri) : ByteArray → Option Value := fun k => (W.ch k).map (encC k)
structure Wg where
  bw : Nat
  v : Value
  nw : Nat
structure Wm (w : World) (b s : Nat) (W : Wri) (h : Wg) : Prop where
  blk : w.heap[b]? = some (.cells #[ptr s, h.v, .map (some h.bw), .int .i64 W.count] 73 (0, 0))
  mp : MapF w encB h.bw (wcF W) h.nw
  row : w.ownsRow 0 9 1 h.v W.keys.length (strs W.keys)
  cov : ∀ k, W.ch k ≠ none ↔ k ∈ W.keys
  nd : W.keys.Nodup
def ftW (b : Nat) (h : Wg) (k : Nat) : Prop := k = b ∨ k = h.bw ∨ h.v.ownBlock = some k
theorem Wm.upd {w w' : World} {b s : Nat} {W : Wri} {h : Wg} {T : Nat → Prop} (H : Wm w b s W h) (hu : Upd w w' T) (hT : ∀ k, ftW b h k → ¬ T k) : Wm w' b s W h :=
  ⟨(hu.block b (Array.getElem?_eq_some_iff.1 H.blk).1 (hT b (.inl rfl))).trans H.blk, H.mp.upd hu (hT _ (.inr (.inl rfl))), ownsRow_upd H.row hu (fun k hk => hT k (.inr (.inr hk))), H.cov, H.nd⟩
theorem Wm.below {w w' : World} {b s : Nat} {W : Wri} {h : Wg} (H : Wm w b s W h) (hb : Below w.heap.size w w') : Wm w' b s W h := H.upd (T := fun _ => False) (Upd.ofBelow hb) (fun _ _ h => h)
theorem Wm.lt {w : World} {b s : Nat} {W : Wri} {h : Wg} (H : Wm w b s W h) {k : Nat} (hk : ftW b h k) : k < w.heap.size := by
  rcases hk with rfl | rfl | hk
  · exact (Array.getElem?_eq_some_iff.1 H.blk).1
  · exact H.mp.lt
  · exact (H.row.lt k hk).2
/-- A store with its open write. -/
structure Ow (n : Nat) (w : World) (s b : Nat) (S : Sto) (W : Wri) (g : Sg) (h : Wg) : Prop where
  st : St n w s S g (ptr b)
  wr : Wm w b s W h
  ap : ∀ k, ftS s g k → ¬ ftW b h k
theorem Ow.below {n : Nat} {w w' : World} {s b : Nat} {S : Sto} {W : Wri} {g : Sg} {h : Wg} (H : Ow n w s b S W g h) (hb : Below w.heap.size w w') : Ow n w' s b S W g h := ⟨H.st.below hb, H.wr.below hb, H.ap⟩
theorem law65 : KLaw Try.prog 9 encB := law_string Try.underlying9
theorem law61 : KLaw Try.prog 3 encI := law_int Try.underlying3
theorem zero71 (w : World) : (zeroValue 76).run Try.prog w = .ok .nilIface w := by kernel_rfl
theorem zero3 (w : World) : (zeroValue 3).run Try.prog w = .ok (.int .i64 0) w := by kernel_rfl
theorem zero66 (w : World) : (zeroValue 71).run Try.prog w = .ok (.slice none 0 0) w := by kernel_rfl
theorem stood88 : Try.prog.stoodInHeld 96 = false := by kernel_rfl
theorem part0 (a k : Value) (w : World) : (part 3 #[a, k] 0).run Try.prog w = .ok a w := by kernel_rfl
theorem part1 (a k : Value) (w : World) : (part 9 #[a, k] 1).run Try.prog w = .ok k w := by kernel_rfl
theorem eqInt (n : Nat) (a b : Int) (w : World) : (Op.equalIn (n + 1) 3 (.int .i64 a) (.int .i64 b)).run Try.prog w = .ok (a == b) w := by
  unfold Op.equalIn
  simp [run_underlying Try.underlying3, Result.andThen]
theorem eqStr (n : Nat) (a b : ByteArray) (w : World) : (Op.equalIn (n + 1) 9 (.string a) (.string b)).run Try.prog w = .ok (a == b) w := by
  unfold Op.equalIn
  simp [run_underlying Try.underlying9, Result.andThen]
theorem eq88 (p q : Int × ByteArray) (w : World) : (Op.equal 96 (encP p) (encP q)).run Try.prog w = .ok (decide (p = q)) w := by
  obtain ⟨a, k⟩ := p
  obtain ⟨b, j⟩ := q
  show (Op.equalIn (9999 + 1) 96 _ _).run Try.prog w = _
  unfold Op.equalIn
  simp only [Sem.run_bind, run_underlying Try.underlying96, Result.andThen, run_program, stood88]
  simp [part0, eqInt, Result.andThen]
  by_cases h : a = b
  · have e9 := eqStr 9998 k j w
    by_cases hk : k = j
    · subst hk
      have hb : (k == k) = true := (MapKept.bytes_beq k k).2 rfl
      simp [h, part1, e9, hb, Result.andThen]
    · have hb : (k == j) = false := Bool.eq_false_iff.2 (fun e => hk ((MapKept.bytes_beq k j).1 e))
      simp [h, hk, part1, e9, hb, Result.andThen]
  · simp [h]
theorem chk88 (e : Bool) (p : Int × ByteArray) (w : World) : (Instr.checkKey e 10000 96 (encP p)).run Try.prog w = .ok () w := by
  obtain ⟨a, k⟩ := p
  show (Instr.checkKey e (9999 + 1) 96 _).run Try.prog w = _
  have c3 : ∀ a, (Instr.checkKey e 9999 3 (.int .i64 a)).run Try.prog w = .ok () w := fun a => MapKept.run_checkKey (k := .int .i64 a) Try.underlying3 rfl e 9998
  have c9 : ∀ k, (Instr.checkKey e 9999 9 (.string k)).run Try.prog w = .ok () w := fun k => MapKept.run_checkKey (k := .string k) Try.underlying9 trivial e 9998
  unfold Instr.checkKey
  simp [run_underlying Try.underlying96, Result.andThen, part0, part1, c3, c9]
theorem law60 : KLaw Try.prog 96 encP :=
  KLaw.asks Try.underlying96 (fun k j => rfl) eq88 (fun k => by simp [Instr.sameBits]; exact (MapKept.bytes_beq _ _).2 rfl) chk88
end Go.Proofs.Ytjdmgmnndfhmgaa
