/- What Ready has not told yet of the log. -/
import Derived.Test.YtfhdenobldkaiaaRL
namespace Go.Proofs.Ytfhdenobldkaiaa
open Go Go.RowKit
/-- A row's end, from the m-th entry on. -/
def tailV (p : Option Addr) (n cv m : Nat) : Value := .slice (if cv = m then p else p.map (·.add (m * 4))) (n - m) (cv - m)
set_option maxRecDepth 100000 in
theorem between_q {w : World} {d n m cv : Nat} {p : Option Addr} {a : Nd} (h : Nod w d a) (hv : a.ents = .slice p n cv) (hc : n ≤ cv) (hm : m ≤ n) (hn : n ≤ 1000000) : Calls Try.prog 23 #[ptrT d, iv m, iv n] w fun e w' => e = .returned (tailV p n cv m) ∧ ∃ q, w' = w.drewN q := by
  have c7 : w.cell? ⟨d, 7, none⟩ = some (iv 0) := h.cell 7 rfl
  have c11 : w.cell? ⟨d, 11, none⟩ = some (.slice p n cv) := by have := h.cell 11 (u := a.ents) rfl; rwa [hv] at this
  have hsl := slice_two p n cv m n hm (Nat.le_refl _) hc
  obtain ⟨N, hN⟩ : ∃ N : Int, N = (n : Int) := ⟨_, rfl⟩
  obtain ⟨M, hM⟩ : ∃ M : Int, M = (m : Int) := ⟨_, rfl⟩
  have hw0 : IntKind.i64.wrap (N - 0) = N := by rw [IntKind.wrap_i64]; omega
  have hw1 : IntKind.i64.wrap (M - 0) = M := by rw [IntKind.wrap_i64]; omega
  have hwn : IntKind.i64.wrap N = N := by rw [IntKind.wrap_i64]; omega
  have hwm : IntKind.i64.wrap M = M := by rw [IntKind.wrap_i64]; omega
  unfold tailV
  generalize (if cv = m then p else p.map (·.add (m * 4))) = p0 at *
  rw [← hN, ← hM] at hsl
  rw [← hN, ← hM]
  have hsl2 : ∀ W, (Instr.sliceAt 36 (.slice p n cv) (some (.int .i64 (IntKind.i64.wrap (M - 0)))) (some (.int .i64 (IntKind.i64.wrap (N - 0)))) none).run Try.prog W = .ok (.slice p0 (n - m) (cv - m)) W := fun W => by rw [hw0, hw1]; exact hsl W
  clear h hv hc hm hn hN hM
  go_enter Try.func23, Try.ntmps23
  go_wp2
  go_quiet (fail)
  go_wp2
  go_ret
  exact ⟨rfl, _, rfl⟩
set_option maxRecDepth 100000 in
set_option maxHeartbeats 1000000 in
theorem news_one {w : World} {d l n m cv : Nat} {p : Option Addr} {a : Nd} {xs : List Value} (h : Ln w d l n a xs) (hv : a.ents = .slice p n cv) (hc : n ≤ cv) (hm : m ≤ n) (hn : n ≤ 1000) (ho : a.old = m) : Calls Try.prog 22 #[ptrT d] w fun e w' => e = .returned (tailV p n cv m) ∧ Ln w' d l n { a with old := n } xs ∧ Upd w w' (fun z => z = d) := by
  have HH := Hid.mkW h
  have c7 : w.cell? ⟨d, 7, none⟩ = some (iv 0) := h.nod.cell 7 rfl
  have c14 : w.cell? ⟨d, 14, none⟩ = some (iv a.old) := h.nod.cell 14 rfl
  have hmax : ∀ ty W, (Builtin.max_ #[3, 3] ty #[iv a.old, iv 0]).run Try.prog W = .ok (iv m) W := fun ty W => by
    rw [ho, run_max, Int.max_eq_left (by omega)]
  have hmin : ∀ ty W, (Builtin.min_ #[3, 3] ty #[iv m, iv n]).run Try.prog W = .ok (iv m) W := fun ty W => by
    rw [run_min, Int.min_eq_left (by omega)]
  clear h ho
  go_enter Try.func22, Try.ntmps22
  go_wp2
  go_quiet (fail)
  have b1 : Below w.heap.size w (w.drewN nq) := below_drewF nq w
  obtain ⟨w1, hw1⟩ : ∃ w1, w1 = w.drewN nq := ⟨_, rfl⟩
  rw [← hw1] at b1
  rw [← hw1]
  have h1 := HH.out.below b1
  have hlast := last_nod h1.nod h1.ents (by omega)
  have HB1 := Hid.mkW b1
  clear hmax c7 c14 b1 h1 hw1
  go_upto_region 2 with fail
  go_upto_region 3 with (go_at_call 20; refine hlast.mono ?_; rintro e w2 ⟨rfl, q, hw2⟩; have f14 : w2.frozen? ⟨d, 14, none⟩ = false := (by rw [hw2]; exact (HH.out.below HB1.out).nod.free 14); have c14 : w2.cell? ⟨d, 14, none⟩ = some (iv a.old) := (by rw [hw2]; exact (HH.out.below HB1.out).nod.cell 14 rfl); have HW2 := Hid.mkW hw2; clear hw2)
  have h2 : Ln w2 d l n a xs := by rw [HW2.out]; exact (HH.out.below HB1.out).below (below_drewF q w1)
  obtain ⟨w3, hw3⟩ : ∃ w3, w3 = w2.setCell ⟨d, 14, none⟩ (iv n) := ⟨_, rfl⟩
  have n3 : Nod w3 d { a with old := n } := by rw [hw3]; exact h2.nod.set 14 _ rfl
  have u3 : Upd w2 w3 (fun z => z = d) := by rw [hw3]; exact (Upd.refl w2 (fun z => z = d)).setCell (p := ⟨d, 14, none⟩) (.inr rfl) _
  have h3 : Ln w3 d l n { a with old := n } xs := ⟨n3, h2.role, ownsRow_upd h2.vot u3 (fun k hk e => own_block h2.vot h2.nod (by decide) (e ▸ hk)), ownsRow_upd h2.ents u3 (fun k hk e => own_block h2.ents h2.nod (by decide) (e ▸ hk))⟩
  have U3 : Upd w w3 (fun z => z = d) := (Upd.ofBelow (HB1.out.trans (show Below w.heap.size w1 w2 by rw [HW2.out]; exact (below_drewF q w1).mono HB1.out.size))).trans u3 (fun _ _ e => e)
  rw [← hw3]
  have hl3 := last_nod h3.nod h3.ents (by omega)
  have HL : Hid (∀ W, Below w3.heap.size w3 W → (Calls Try.prog 20 #[ptrT d] W fun e w' => e = .returned (iv n) ∧ ∃ q, w' = W.drewN q) ∧ (Calls Try.prog 23 #[ptrT d, iv m, iv n] W fun e w' => e = .returned (tailV p n cv m) ∧ ∃ q, w' = W.drewN q) ∧ Ln W d l n { a with old := n } xs ∧ Upd w W (fun z => z = d)) := fun W hb => ⟨last_nod (h3.below hb).nod (h3.below hb).ents (by omega), between_q (h3.below hb).nod hv hc hm (by omega), h3.below hb, U3.trans (Upd.ofBelow (S := fun _ => False) hb) (fun _ _ e => e.elim)⟩
  clear h2 n3 u3 h3 U3 hw3 c14 f14 hlast
  go_wp2_with (first
    | (go_at_call 20; refine hl3.mono ?_; rintro e w4 ⟨rfl, q4, hw4⟩; have hl4 := (HL.out w4 (by rw [hw4]; exact below_drewF q4 w3)).1; have HW4 := Hid.mkW hw4; clear hw4)
    | (go_at_call 20; refine hl4.mono ?_; rintro e w5 ⟨rfl, q5, hw5⟩; have hb5 := (HL.out w5 (by rw [hw5, HW4.out]; exact ⟨rfl, rfl, rfl, Nat.le_refl _, fun _ _ => rfl⟩)).2.1; have HW5 := Hid.mkW hw5; clear hw5)
    | (go_at_call 23; refine hb5.mono ?_; rintro e w6 ⟨rfl, q6, hw6⟩; have HW6 := Hid.mkW hw6; clear hw6))
  go_ret
  exact ⟨rfl, (HL.out w6 (by rw [HW6.out, HW5.out, HW4.out]; exact ⟨rfl, rfl, rfl, Nat.le_refl _, fun _ _ => rfl⟩)).2.2⟩
/-- What Ready tells of the log: nothing, or its last entry. -/
def Told (w : World) (lo hi : Nat) (v : Value) (n m : Nat) (t k : Int) (bs : List Int) : Prop := ∃ p c, v = .slice p (n - m) c ∧ (n = m + 1 → SeesL w lo hi v n t k bs)
theorem Told.upd {w w' : World} {lo hi : Nat} {v : Value} {n m : Nat} {t k : Int} {bs : List Int} {S : Nat → Prop} (h : Told w lo hi v n m t k bs) (hu : Upd w w' S) (hS : ∀ z, lo ≤ z → z < hi → ¬ S z) : Told w' lo hi v n m t k bs := by
  obtain ⟨p, c, e, h1⟩ := h
  exact ⟨p, c, e, fun e => (h1 e).upd hu hS⟩
/-- The last entry lies in the row. -/
structure Las (w : World) (n : Nat) (xs : List Value) (t k : Int) (dv : Value) (bs : List Int) : Prop where
  c0 : xs[(n - 1) * 4]? = some (iv n)
  c1 : xs[(n - 1) * 4 + 1]? = some (iv t)
  c2 : xs[(n - 1) * 4 + 2]? = some (iv k)
  c3 : xs[(n - 1) * 4 + 3]? = some dv
  sees : Sees w dv bs
theorem copies_tail {w : World} {n m cv : Nat} {p : Option Addr} {xs : List Value} {t k : Int} {dv : Value} {bs : List Int} (ho : w.ownsRow 0 43 4 (.slice p n cv) n xs) (hc : n ≤ cv) (hm : n = m ∨ n = m + 1) (hl : Las w n xs t k dv bs) (hbs : bs.length ≤ 1000) :
    Calls Try.prog 21 #[tailV p n cv m] w fun e w' => ∃ v', e = .returned v' ∧ Told w' w.heap.size w'.heap.size v' n m t k bs ∧ Below w.heap.size w w' := by
  rcases hm with rfl | rfl
  · unfold tailV
    rw [Nat.sub_self]
    refine (copies_none w _ _).mono ?_
    rintro e w' ⟨p', c', rfl, hb⟩
    exact ⟨_, rfl, ⟨p', c', by rw [Nat.sub_self], fun e => by omega⟩, hb⟩
  · obtain ⟨g, cv', hv, _⟩ := owns_formB ho (by omega)
    cases hv
    unfold tailV
    rw [if_neg (by omega), show m + 1 - m = 1 by omega]
    have hcell : ∀ j u, xs[m * 4 + j]? = some u → w.cell? ⟨g, m * 4 + j, none⟩ = some u := fun j u hu => by
      have := ho.cells (g := g) rfl _ _ hu
      rwa [Addr.add_lit, Nat.zero_add] at this
    have e0 := hl.c0
    have e1 := hl.c1
    have e2 := hl.c2
    have e3 := hl.c3
    rw [Nat.add_sub_cancel] at e0 e1 e2 e3
    have hs : SeesE w (.slice (some ⟨g, m * 4, none⟩) 1 (cv - m)) ((m + 1 : Nat) : Int) t k bs := ⟨g, m * 4, cv - m, dv, rfl, by omega, hcell 0 _ e0, hcell 1 _ e1, hcell 2 _ e2, hcell 3 _ e3, hl.sees⟩
    have : (Option.map (fun x => x.add (m * 4)) (some (⟨g, 0, none⟩ : Addr))) = some ⟨g, m * 4, none⟩ := by
      rw [Option.map_some, Addr.add_lit, Nat.zero_add]
    rw [this]
    refine (copies_one hs (by omega)).mono ?_
    rintro e w' ⟨v', rfl, hs', hb⟩
    obtain ⟨g', o', c', dv', hv', _⟩ := hs'.ex
    exact ⟨v', rfl, ⟨some ⟨g', o', none⟩, c', by rw [hv', show m + 1 - m = 1 by omega], fun _ => hs'⟩, hb⟩
end Go.Proofs.Ytfhdenobldkaiaa
