/- A leader that is the only voter commits. -/
import Derived.Test.YtfhdenobldkaiaaRJ
namespace Go.Proofs.Ytfhdenobldkaiaa
open Go Go.RowKit
/-- A leader that is the only voter: its log, n entries, the last one of its term. -/
structure Ld (w : World) (d l n : Nat) (a : Nd) (xs : List Value) : Prop where
  nod : Nod w d a
  role : a.role = .iface 73 (ptr l)
  one : One w a.voters a.id
  ents : w.ownsRow 0 43 4 a.ents n xs
  term : xs[(n - 1) * 4 + 1]? = some (iv a.term)
  pos : 1 ≤ n
  few : n ≤ 1000
theorem one_kind {w : World} {d : Nat} {a _b : Nd} {v : Value} {id : Int} (h : Nod w d a) (hv : w.ownsRow 0 3 1 v 1 [iv id]) : v.ownBlock ≠ some d := fun e => by
  rcases hv.2 with ⟨_, h0⟩ | ⟨g, cap, cur, rfl, hb, hh, _⟩
  · cases h0
  · cases e
    exact absurd (row_types hh h) (by decide)
set_option maxRecDepth 100000 in
set_option maxHeartbeats 1000000 in
theorem commit_one {w : World} {d l n : Nat} {a : Nd} {xs : List Value} (h : Ld w d l n a xs) (hvd : a.voters.ownBlock ≠ some d) (hc : a.commit = (n : Int) - 1) :
    Calls Try.prog 30 #[ptr d] w fun e w' => e = .returned (.tuple #[]) ∧ Nod w' d { a with commit := n } ∧ Upd w w' (fun z => z = d) := by
  have HH := Hid.mkW h
  obtain ⟨p, cv, hv⟩ := owns_formB0 h.ents
  have hlast := last_at w d 7 0 p n cv (h.nod.cell 7 rfl) (by have := h.nod.cell 11 (u := a.ents) rfl; rwa [hv] at this) ⟨by decide, by decide⟩ (by have := h.few; omega)
  simp only [Int.zero_add] at hlast
  have HA : Hid (∀ W, Below w.heap.size w W → Nod W d a ∧ One W a.voters a.id ∧ W.ownsRow 0 43 4 a.ents n xs) := fun W hb => ⟨h.nod.below hb h.nod.lt, h.one.below hb, ownsRow_upd h.ents (Upd.ofBelow (S := fun _ => False) hb) (fun _ _ h => h)⟩
  have HT : Hid (∀ W, Below w.heap.size w W → Calls Try.prog 19 #[ptrT d, iv n] W fun e w' => e = .returned (iv a.term) ∧ Below W.heap.size W w') := fun W hb => term_at (HA.out W hb).1 (HA.out W hb).2.2 h.term h.pos (by have := h.few; omega)
  have HC := Hid.mkW hc
  have hle : decide ((n : Int) ≤ a.commit) = false := decide_eq_false (by omega)
  have htt : (a.term != a.term) = false := by simp
  have hlt := h.nod.lt
  clear h hv hc
  go_enter Try.func30, Try.ntmps30
  go_upto_region 1 with (first
    | (go_at_call 20; refine hlast.mono ?_; rintro e w1 ⟨rfl, hb1⟩; have hre := reached_one (f := .func (.func 42) #[] #[]) (own := n) (HA.out w1 hb1).1 HH.out.role (HA.out w1 hb1).2.1)
    | (go_at_call 41; refine hre.mono ?_; rintro e w2 ⟨rfl, hb2⟩))
  have b02 : Below w.heap.size w w2 := hb1.trans (hb2.mono hb1.size)
  have n2 := (HA.out w2 b02).1
  have HB := Hid.mkW b02
  have hS : w2.drew.cell? ⟨d, 3, none⟩ = some (iv a.commit) ∧ w2.drew.cell? ⟨d, 1, none⟩ = some (iv a.term) ∧ Hid (Below w.heap.size w w2.drew) := ⟨n2.cell 3 rfl, n2.cell 1 rfl, b02.drew⟩
  have hterm := HT.out w2.drew b02.drew
  have HS : Hid (∀ W, Below w.heap.size w W → W.cell? ⟨d, 3, none⟩ = some (iv a.commit) ∧ W.cell? ⟨d, 1, none⟩ = some (iv a.term) ∧ Hid (Below w.heap.size w W)) := fun W hb => by
    have nW := (HA.out W hb).1
    exact ⟨nW.cell 3 rfl, nW.cell 1 rfl, hb⟩
  clear hb1 hb2 b02 hlast hre n2
  go_region_held_law (fun V => V.cell? ⟨d, 3, none⟩ = some (iv a.commit) ∧ V.cell? ⟨d, 1, none⟩ = some (iv a.term) ∧ Hid (Below w.heap.size w V)) (first | with_reducible assumption | (show _ ∧ _ ∧ _; with_reducible assumption)) (first | (go_at_call 19; (with_reducible refine hterm.mono ?_); rintro e w3 ⟨rfl, hb3⟩; have hS3 := HS.out w3 (HB.out.drew.trans (hb3.mono HB.out.size)); have HB3 := Hid.mkW (HB.out.drew.trans (hb3.mono HB.out.size)); clear hb3))
  obtain ⟨n3, v3, e3⟩ := HA.out w3 HB3.out
  obtain ⟨w4, hw4⟩ : ∃ w4, w4 = w3.setCell ⟨d, 3, none⟩ (iv n) := ⟨_, rfl⟩
  have n4 : Nod w4 d { a with commit := n } := by rw [hw4]; exact n3.set 3 _ rfl
  have u4 : Upd w3 w4 (fun z => z = d) := by rw [hw4]; exact (Upd.refl w3 (fun z => z = d)).setCell (p := ⟨d, 3, none⟩) (.inr rfl) _
  have v4 : One w4 a.voters a.id := v3.upd u4 (fun k hk e => hvd (by rw [hk, e]))
  have hsend := sendToAll_none n4 v4
  have c3 : w3.cell? ⟨d, 3, none⟩ = some (iv a.commit) := hS3.1
  have f3 : w3.frozen? ⟨d, 3, none⟩ = false := n3.free 3
  have HU := Hid.mkW (And.intro n4 (And.intro v4 ((Upd.ofBelow (S := fun z => z = d) HB3.out).trans u4 (fun _ _ e => e))))
  clear hS hS3 hterm HS HT HA HH n3 v3 e3 n4 u4 v4 hvd HB hlt
  go_upto_region 3 with fail
  rw [← hw4]
  clear hw4 c3 f3
  go_upto_region 4 with (go_at_call 29; refine hsend.mono ?_; rintro e w5 ⟨rfl, hb5⟩)
  have n5 := HU.out.1.below hb5 HU.out.1.lt
  have v5 := HU.out.2.1.below hb5
  have c13 : w5.cell? ⟨d, 13, none⟩ = some a.voters := n5.cell 13 rfl
  have c0 : w5.cell? ⟨d, 0, none⟩ = some (iv a.id) := n5.cell 0 rfl
  have hcon : ∀ q, Calls Try.prog 43 #[a.voters, iv a.id] (w5.drewN q) fun e w' => e = .returned (.bool true) ∧ w' = w5.drewN q := fun q => contains_one (v5.below (below_drewF q _))
  have HF : Hid (∀ q, Nod (w5.drewN q) d { a with commit := n } ∧ Upd w (w5.drewN q) (fun z => z = d)) := fun q => ⟨n5, (HU.out.2.2.trans (Upd.ofBelow (S := fun _ => False) (hb5.trans ((below_drewF q w5).mono hb5.size))) (fun _ _ e => e.elim))⟩
  clear n5 v5 hb5 hsend
  go_quiet (exact Calls.quiet_of_same (hcon _))
  go_wp2
  first | go_end0 | refine bodyPost_ret (results_none rfl _ _ _) rfl ?_
  exact ⟨rfl, HF.out _⟩
end Go.Proofs.Ytfhdenobldkaiaa
