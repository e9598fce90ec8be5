/- A leader that is the only voter: Propose. -/
import Derived.Test.YtfhdenobldkaiaaRK
namespace Go.Proofs.Ytfhdenobldkaiaa
open Go Go.RowKit
theorem last_draw (w : World) (b o : Nat) (m : Int) (p : Option Addr) (n c : Nat) (h0 : w.cell? ⟨b, o, none⟩ = some (iv m)) (h4 : w.cell? ⟨b, o + 4, none⟩ = some (.slice p n c)) (hm : 0 ≤ m ∧ m ≤ 1000000000) (hn : n ≤ 1000000000) :
    Calls Try.prog 20 #[.pointer (some ⟨b, o, none⟩)] w fun e w' => e = .returned (iv (m + n)) ∧ ∃ q, w' = w.drewN q := by
  have hw : IntKind.i64.wrap (m + (n : Int)) = m + n := by rw [IntKind.wrap_i64]; omega
  go_enter Try.func20, Try.ntmps20
  go_wp2
  go_quiet (fail)
  go_wp2
  go_ret
  exact ⟨rfl, _, rfl⟩
theorem last_nod {w : World} {d n : Nat} {a : Nd} {xs : List Value} (h : Nod w d a) (ho : w.ownsRow 0 43 4 a.ents n xs) (hn : n ≤ 1000000) : Calls Try.prog 20 #[ptrT d] w fun e w' => e = .returned (iv n) ∧ ∃ q, w' = w.drewN q := by
  obtain ⟨p, cv, hv⟩ := owns_formB0 ho
  have := last_draw w d 7 0 p n cv (h.cell 7 rfl) (by have := h.cell 11 (u := a.ents) rfl; rwa [hv] at this) ⟨by decide, by decide⟩ (by omega)
  simp only [Int.zero_add] at this
  exact this
/-- The only voter, leading: all that there is. -/
structure Ln (w : World) (d l n : Nat) (a : Nd) (xs : List Value) : Prop where
  nod : Nod w d a
  role : a.role = .iface 73 (ptr l)
  vot : w.ownsRow 0 3 1 a.voters 1 [iv a.id]
  ents : w.ownsRow 0 43 4 a.ents n xs
theorem Ln.one {w : World} {d l n : Nat} {a : Nd} {xs : List Value} (h : Ln w d l n a xs) : One w a.voters a.id := One.of h.vot
theorem own_types {w : World} {B B' : Nat} {v u : Value} {n m s t : Nat} {xs ys : List Value} {e f : TypeId} (hv : w.ownsRow B e s v n xs) (hu : w.ownsRow B' f t u m ys) (hef : e ≠ f) {k : Nat} (h1 : v.ownBlock = some k) (h2 : u.ownBlock = some k) : False := by
  rcases hv.2 with ⟨rfl, _⟩ | ⟨g, cap, cur, rfl, hb, hh, _⟩
  · cases h1
  · cases h1
    rcases hu.2 with ⟨rfl, _⟩ | ⟨g', cap', cur', rfl, hb', hh', _⟩
    · cases h2
    · cases h2
      exact hef (row_types hh hh')
theorem own_block {w : World} {B : Nat} {v : Value} {n s : Nat} {xs : List Value} {e t : TypeId} {d : Nat} {r : Array Value} (hv : w.ownsRow B e s v n xs) (hd : w.heap[d]? = some (.cells r t (0, 0))) (hef : e ≠ t) : v.ownBlock ≠ some d := fun h1 => by
  rcases hv.2 with ⟨rfl, _⟩ | ⟨g, cap, cur, rfl, hb, hh, _⟩
  · cases h1
  · cases h1
    exact hef (row_types hh hd)
theorem Ln.below {w w' : World} {d l n : Nat} {a : Nd} {xs : List Value} (h : Ln w d l n a xs) (hb : Below w.heap.size w w') : Ln w' d l n a xs :=
  ⟨h.nod.below hb h.nod.lt, h.role, ownsRow_upd h.vot (Upd.ofBelow (S := fun _ => False) hb) (fun _ _ h => h), ownsRow_upd h.ents (Upd.ofBelow (S := fun _ => False) hb) (fun _ _ h => h)⟩
/-- What Propose leaves. -/
structure Pd (w w' : World) (d l n : Nat) (a : Nd) (xs : List Value) (bs : List Int) : Prop where
  ex : ∃ v' dv, Ln w' d l (n + 1) { a with ents := v', commit := (n : Int) + 1 } (xs ++ entC ((n : Int) + 1) a.term 0 dv) ∧ Sees w' dv bs ∧ dv.ownBlock ≠ some d ∧ (v'.ownBlock = a.ents.ownBlock ∨ ∃ z, v'.ownBlock = some z ∧ w.heap.size ≤ z)
  upd : Upd w w' (fun z => z = d ∨ a.ents.ownBlock = some z)
set_option maxRecDepth 100000 in
set_option maxHeartbeats 1000000 in
theorem propose_one {w : World} {d l n : Nat} {a : Nd} {xs : List Value} {v : Value} {bs : List Int} (h : Ln w d l n a xs) (hs : Sees w v bs) (hxs : xs.length = n * 4) (hbs : bs.length ≤ 1000) (hn : n ≤ 900) (hc : a.commit = n) (ho : a.old ≤ n) :
    Calls Try.prog 9 #[ptr d, v] w fun e w' => e = .returned (.tuple #[iv ((n : Int) + 1), iv a.term, iv 0]) ∧ Pd w w' d l n a xs bs := by
  have HH := Hid.mkW h
  have hle := leads_yes h.nod h.role
  obtain ⟨vp, vn, vc, hvv⟩ := sees_slice hs
  have hvn : vn = bs.length := by
    rcases hs with ⟨rfl, ao, cap, e, _⟩ | ⟨b, off, cap, e, _⟩
    · rw [hvv] at e; cases e; rfl
    · rw [hvv] at e; cases e; rfl
  subst hvn
  subst hvv
  have hlen : ¬ (65536 : Int) < (bs.length : Int) := by omega
  have c3 : w.cell? ⟨d, 3, none⟩ = some (iv a.commit) := h.nod.cell 3 rfl
  have hlast : ∀ q, Calls Try.prog 20 #[ptrT d] (w.drewN q) fun e w' => e = .returned (iv n) ∧ ∃ m, w' = (w.drewN q).drewN m := fun q => last_nod (h.below (below_drewF q w)).nod (h.below (below_drewF q w)).ents (by omega)
  have hw0 : IntKind.i64.wrap ((n : Int) - a.commit) = 0 := by rw [hc, IntKind.wrap_i64]; omega
  have hcl := fun q => clone_any (.slice vp bs.length vc) bs (w.drewN q) (hs.below (below_drewF q w)) (by omega)
  clear h hs c3
  have c3 : w.cell? ⟨d, 3, none⟩ = some (iv a.commit) := HH.out.nod.cell 3 rfl
  go_enter Try.func9, Try.ntmps9
  go_upto_region 6 with (first
    | (go_at_call 27; refine hle.mono ?_; rintro e w1 ⟨rfl, hw1⟩; obtain rfl := hw1.symm))
  go_quiet (exact Calls.quiet_of (hlast _))
  clear hlast hle c3 hw0 hlen hw1
  have hcl1 := hcl nq
  have hb0 : Below w.heap.size w (w.drewN nq) := below_drewF nq w
  obtain ⟨W0, hW0⟩ : ∃ W0, W0 = w.drewN nq := ⟨_, rfl⟩
  rw [← hW0] at hcl1 hb0
  rw [← hW0]
  have HB0 := Hid.mkW hb0
  have HC := Hid.mkW hc
  have HO := Hid.mkW ho
  clear hcl hW0 hb0 hc ho
  go_upto_region 9 with (first
    | (go_at_call 26; refine hcl1.mono ?_; rintro e w3 ⟨v3, rfl, ho3, hb3⟩; obtain ⟨np, nc, hnv⟩ := owns_formB0 ho3; subst hnv; have b03 := HB0.out.trans (hb3.mono HB0.out.size); have hext := extend_one (HH.out.below b03).nod (HH.out.below b03).ents (k := 0) (dv := .slice np bs.length nc) ⟨_, _, _, rfl⟩ (by decide) (by omega) HO.out)
    | (go_at_call 28; refine hext.mono ?_; rintro e w4 ⟨rfl, v', n4, e4, u4, k4⟩))
  have h3 := HH.out.below b03
  have hnd : ∀ k, (Value.slice np bs.length nc).ownBlock = some k → ¬ (k = d ∨ a.ents.ownBlock = some k) := fun k hk e => by
    rcases e with rfl | e
    · exact own_block ho3 h3.nod (by decide) hk
    · exact own_types ho3 h3.ents (by decide) hk e
  have ho4 : w4.ownsRow W0.heap.size 5 1 (.slice np bs.length nc) bs.length (u8s bs) := ownsRow_upd ho3 u4 hnd
  have vd3 : ∀ k, a.voters.ownBlock = some k → ¬ (k = d ∨ a.ents.ownBlock = some k) := fun k hk e => by
    rcases e with rfl | e
    · exact own_block h3.vot h3.nod (by decide) hk
    · exact own_types h3.vot h3.ents (by decide) hk e
  have h4 : Ln w4 d l (n + 1) { a with ents := v' } (xs ++ entC ((n : Int) + 1) a.term 0 (.slice np bs.length nc)) := ⟨n4, h3.role, ownsRow_upd h3.vot u4 vd3, e4⟩
  have U4 : Upd w w4 (fun z => z = d ∨ a.ents.ownBlock = some z) := (Upd.ofBelow b03).trans u4 (fun _ _ e => e)
  have HN := Hid.mkW (And.intro h4 (And.intro ho4 (And.intro U4 k4)))
  have hsz := b03.size
  have hlast : ∀ q, Calls Try.prog 20 #[ptrT d] (w4.drewN q) fun e w' => e = .returned (iv ((n : Int) + 1)) ∧ ∃ m, w' = (w4.drewN q).drewN m := fun q => by
    have := last_nod (h4.below (below_drewF q w4)).nod (h4.below (below_drewF q w4)).ents (by omega)
    rwa [show (((n + 1 : Nat)) : Int) = (n : Int) + 1 by omega] at this
  have c1 : w4.cell? ⟨d, 1, none⟩ = some (iv a.term) := h4.nod.cell 1 rfl
  clear h3 hnd ho4 vd3 h4 U4 k4 n4 e4 u4 hext hcl1 ho3 hb3
  go_quiet (exact Calls.quiet_of (hlast _))
  obtain ⟨h4, ho4, U4, k4⟩ := HN.out
  have b45 : Below w4.heap.size w4 (w4.drewN nq) := below_drewF nq w4
  obtain ⟨w5, hw5⟩ : ∃ w5, w5 = w4.drewN nq := ⟨_, rfl⟩
  rw [← hw5] at b45
  rw [← hw5]
  have h5 := h4.below b45
  have hsend := sendToAll_none h5.nod h5.one
  have HB5 := Hid.mkW b45
  clear hw5 b45 h5 h4 ho4 U4 k4 hlast c1
  go_upto_region 11 with (go_at_call 29; refine hsend.mono ?_; rintro e w6 ⟨rfl, hb6⟩)
  obtain ⟨h4, ho4, U4, k4⟩ := HN.out
  have b46 : Below w4.heap.size w4 w6 := HB5.out.trans (hb6.mono HB5.out.size)
  have h6 := h4.below b46
  have hcom := commit_one (n := n + 1) ⟨h6.nod, h6.role, h6.one, h6.ents, (by
    rw [Nat.add_sub_cancel, List.getElem?_append_right (by omega), hxs, Nat.add_sub_cancel_left]
    rfl), by omega, by omega⟩ (own_block h6.vot h6.nod (by decide)) (by
    show a.commit = _
    rw [HC.out]; omega)
  have HB6 := Hid.mkW b46
  clear hsend hb6 b46 h6 h4 ho4 U4 k4
  go_wp2_with (go_at_call 30; refine hcom.mono ?_; rintro e w7 ⟨rfl, n7, u7⟩)
  go_ret3
  obtain ⟨h4, ho4, U4, k4⟩ := HN.out
  have h6 := h4.below HB6.out
  have hs4 := U4.size
  have d4 : Upd w4 w7 (fun z => z = d) := (Upd.ofBelow HB6.out).trans u7 (fun _ _ e => e)
  refine ⟨rfl, ⟨v', .slice np bs.length nc, ⟨?_, h6.role, ownsRow_upd h6.vot u7 (fun k hk e => own_block h6.vot h6.nod (by decide) (e ▸ hk)), ownsRow_upd h6.ents u7 (fun k hk e => own_block h6.ents h6.nod (by decide) (e ▸ hk))⟩, sees_own (ownsRow_upd ho4 d4 (fun k hk e => own_block ho4 h4.nod (by decide) (e ▸ hk))), own_block ho4 h4.nod (by decide), ?_⟩, U4.trans d4 (fun _ _ e => .inl e)⟩
  · rw [show (((n + 1 : Nat)) : Int) = (n : Int) + 1 by omega] at n7
    exact n7
  · exact k4.imp id (fun ⟨z, e, hz⟩ => ⟨z, e, by omega⟩)
end Go.Proofs.Ytfhdenobldkaiaa
