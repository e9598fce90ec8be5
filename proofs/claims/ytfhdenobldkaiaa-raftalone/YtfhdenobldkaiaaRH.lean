/- lay and extend: one entry of the node's own behind its log. -/
import Derived.Test.YtfhdenobldkaiaaRG
namespace Go.Proofs.Ytfhdenobldkaiaa
open Go Go.RowKit
theorem run_max (a b : Int) (ty : TypeId) (w : World) : (Builtin.max_ #[3, 3] ty #[.int .i64 a, .int .i64 b]).run Try.prog w = .ok (.int .i64 (max a b)) w := by
  have e : (if b > a then b else a) = max a b := by split <;> omega
  show Result.ok (Value.int .i64 (if b > a then b else a)) w = _
  rw [e]
theorem run_min (a b : Int) (ty : TypeId) (w : World) : (Builtin.min_ #[3, 3] ty #[.int .i64 a, .int .i64 b]).run Try.prog w = .ok (.int .i64 (min a b)) w := by
  have e : (if b < a then b else a) = min a b := by split <;> omega
  show Result.ok (Value.int .i64 (if b < a then b else a)) w = _
  rw [e]
/-- What laying an entry leaves. -/
def Laid (w w' : World) (d : Nat) (a : Nd) (n : Nat) (xs : List Value) (t k : Int) (dv : Value) : Prop := ∃ v', Nod w' d { a with ents := v' } ∧ w'.ownsRow 0 43 4 v' (n + 1) (xs ++ entC ((n : Int) + 1) t k dv) ∧ Upd w w' (fun z => z = d ∨ a.ents.ownBlock = some z) ∧ (v'.ownBlock = a.ents.ownBlock ∨ ∃ z, v'.ownBlock = some z ∧ w.heap.size ≤ z)
theorem row_types {w : World} {k : Nat} {r r' : Array Value} {t t' : TypeId} (h : w.heap[k]? = some (.cells r t (0, 0))) (h' : w.heap[k]? = some (.cells r' t' (0, 0))) : t = t' := by
  have e := Option.some.inj (h.symm.trans h')
  simp only [Obj.cells.injEq] at e
  exact e.2.1
theorem own_kind {w : World} {B : Nat} {v : Value} {n : Nat} {xs : List Value} {d : Nat} {a : Nd} (h : Nod w d a) (ho : w.ownsRow B 43 4 v n xs) : v.ownBlock ≠ some d := fun e => by
  rcases ho.2 with ⟨rfl, _⟩ | ⟨g, cap, cur, rfl, hb, hh, _⟩
  · cases e
  · cases e
    exact absurd (row_types hh h) (by decide)
set_option maxRecDepth 100000 in
set_option maxHeartbeats 400000 in
theorem lay_one {w : World} {d n x c : Nat} {a : Nd} {xs : List Value} {t k : Int} {dv : Value} (h : Nod w d a) (ho : w.ownsRow 0 43 4 a.ents n xs) (hl : Lone w x ((n : Int) + 1) t k dv) (hk : k ≠ 2) (hn : n ≤ 1000) (hold : a.old ≤ n) :
    Calls Try.prog 38 #[ptrT d, .slice (some ⟨x, 0, none⟩) 1 c] w fun e w' => e = .returned (.tuple #[]) ∧ Laid w w' d a n xs t k dv := by
  obtain ⟨p, cv, hv⟩ := owns_formB0 ho
  have HALL : ∀ W, Below w.heap.size w W → Nod W d a ∧ W.ownsRow 0 43 4 a.ents n xs ∧ Lone W x ((n : Int) + 1) t k dv := fun W hb => ⟨h.below hb h.lt, ownsRow_upd ho (Upd.ofBelow (S := fun _ => False) hb) (fun _ _ h => h), hl.below hb⟩
  have HH := Hid.mkW HALL
  have hne := Hid.mkW (own_kind h ho)
  clear HALL
  rw [hv] at HH
  have hw0 : IntKind.i64.wrap ((n : Int) + 1 - 1) = n := by rw [IntKind.wrap_i64]; omega
  have e0 : w.cell? ⟨x, 0, none⟩ = some (iv ((n : Int) + 1)) := cell_of_row _ _ _ _ _ _ hl.row
  have hlast := last_at w d 7 0 p n cv (h.cell 7 rfl) (by have := h.cell 11 (u := a.ents) rfl; rwa [hv] at this) ⟨by decide, by decide⟩ (by omega)
  simp only [Int.zero_add] at hlast
  have hvot : ∀ W, Below w.heap.size w W → Calls Try.prog 44 #[.slice (some ⟨x, 0, none⟩) 1 c, .func (.func 45) #[] #[]] W fun e w' => e = .returned (.bool false) ∧ Below W.heap.size W w' := fun W hb => by
    obtain ⟨_, _, h3⟩ := HH.out W hb
    exact voters_no (cell_of_row _ _ _ _ _ _ h3.row) (cell_of_row _ _ _ _ _ _ h3.row) (cell_of_row _ _ _ _ _ _ h3.row) (cell_of_row _ _ _ _ _ _ h3.row) hk h3.sl
  have HV := Hid.mkW hvot
  have hmin : ∀ ty W, (Builtin.min_ #[3, 3] ty #[iv a.old, iv n]).run Try.prog W = .ok (iv a.old) W := fun ty W => by
    rw [run_min, Int.min_eq_left hold]
  clear hvot h ho hl
  go_enter Try.func38, Try.ntmps38
  go_upto_region 3 with (first
    | (go_at_call 20; refine hlast.mono ?_; rintro e w1 ⟨rfl, hb1⟩; have hvot := HV.out w1 hb1)
    | (go_at_call 44; refine hvot.mono ?_; rintro e w2 ⟨rfl, hb2⟩))
  have b02 : Below w.heap.size w w2 := hb1.trans (hb2.mono hb1.size)
  obtain ⟨n2, o2, l2⟩ := HH.out w2 b02
  obtain ⟨W3, hW3⟩ : ∃ W3, W3 = w2.setCell ⟨d, 14, none⟩ (iv a.old) := ⟨_, rfl⟩
  have n3 : Nod W3 d a := by
    rw [hW3]
    exact n2.set 14 _ rfl
  have u3 : Upd w2 W3 (fun z => z = d) := by rw [hW3]; exact (Upd.refl w2 (fun z => z = d)).setCell (p := ⟨d, 14, none⟩) (.inr rfl) _
  have o3 : W3.ownsRow 0 43 4 (.slice p n cv) n xs := ownsRow_upd o2 u3 (fun z hz e => hne.out (by rw [hv, hz, e]))
  have l3 : Lone W3 x ((n : Int) + 1) t k dv := ⟨(u3.block x (Array.getElem?_eq_some_iff.1 l2.row).1 (fun e => by
    have h1 := l2.row
    rw [e] at h1
    exact absurd (row_types h1 n2) (by decide))).trans l2.row, l2.sl⟩
  have c14 : w2.cell? ⟨d, 14, none⟩ = some (iv a.old) := n2.cell 14 rfl
  have f14 := n2.free 14
  have hrep := replace_end (w := W3.drew) (c := c) (o3.drew) (⟨l3.row, l3.sl⟩ : Lone W3.drew x ((n : Int) + 1) t k dv) (by omega)
  have d11 : W3.cell? ⟨d, 11, none⟩ = some (.slice p n cv) := by have := n3.cell 11 (u := a.ents) rfl; rwa [hv] at this
  have d7 : W3.cell? ⟨d, 7, none⟩ = some (iv 0) := n3.cell 7 rfl
  have hw1 : IntKind.i64.wrap (n : Int) = n := by rw [IntKind.wrap_i64]; omega
  have HV2 := Hid.mkW hv
  have HP := Hid.mkW (And.intro b02 (And.intro u3 n3))
  clear hb1 hb2 b02 n2 o2 l2 n3 o3 l3 u3 hlast hvot HV HH e0 hold
  go_upto_region 4 with fail
  rw [← hW3]
  clear hW3 c14 f14 hmin hv hw0
  have hfin : ∀ w4 v4, App W3.drew w4 (.slice p n cv) v4 n xs (entC ((n : Int) + 1) t k dv) → (w4.cell? ⟨d, 11, none⟩ = some (.slice p n cv) ∧ w4.cell? ⟨d, 7, none⟩ = some (iv 0) ∧ w4.frozen? ⟨d, 11, none⟩ = false ∧ ∃ np nc, v4 = .slice np (n + 1) nc) ∧ Hid (Laid w (w4.setCell ⟨d, 11, none⟩ v4) d a n xs t k dv) := fun w4 v4 HA => by
    have hd : ¬ some d = (Value.slice p n cv).ownBlock := fun e => hne.out (by rw [HV2.out]; exact e.symm)
    have n4 : Nod w4 d a := (show Nod W3.drew d a from HP.out.2.2).upd HA.upd hd
    have o4 := own_kind n4 HA.own
    have hs3 := HP.out.2.1.size
    have hs4 := HP.out.1.size
    refine ⟨⟨by have := n4.cell 11 (u := a.ents) rfl; rwa [HV2.out] at this, n4.cell 7 rfl, n4.free 11, owns_formB0 HA.own⟩, v4, n4.set 11 v4 rfl, ownsRow_upd HA.own ((Upd.refl w4 (fun z => z = d)).setCell (p := ⟨d, 11, none⟩) (.inr rfl) _) (fun z hz e => o4 (by rw [hz, e])), ?_, ?_⟩
    · have u1 : Upd w W3 (fun z => z = d ∨ a.ents.ownBlock = some z) := (Upd.ofBelow HP.out.1).trans HP.out.2.1 (fun _ _ e => .inl e)
      have u2 : Upd w w4 (fun z => z = d ∨ a.ents.ownBlock = some z) := u1.trans (show Upd W3 w4 _ from ⟨HA.upd.os, HA.upd.tape, HA.upd.output, HA.upd.size, HA.upd.block⟩) (fun z _ e => .inr (by rw [HV2.out]; exact e.symm))
      exact u2.setCell (p := ⟨d, 11, none⟩) (.inr (.inl rfl)) _
    · rw [HV2.out]
      rcases HA.at_ with e | e
      · exact .inl e
      · exact .inr ⟨_, e, by show w.heap.size ≤ W3.heap.size; omega⟩
  have HST := Hid.mkW hfin
  clear hfin
  go_region_law (go_simp; go_at_call 49; with_reducible refine hrep.mono ?_; rintro e w4 ⟨v4, rfl, HA⟩; have HB := Hid.mkW HA; clear HA; obtain ⟨⟨g11, g7, f11, np, nc, hv4⟩, HL⟩ := HST.out _ _ HB.out; subst hv4)
  all_goals
    go_wp2
    first | go_end0 | refine bodyPost_ret (results_none rfl _ _ _) rfl ?_
    exact ⟨rfl, HL.out⟩
end Go.Proofs.Ytfhdenobldkaiaa
