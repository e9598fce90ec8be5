/- Copies of entries: of none, of one. -/
import Derived.Test.YtfhdenobldkaiaaRD
namespace Go.Proofs.Ytfhdenobldkaiaa
open Go Go.RowKit
/-- One entry, seen through a slice. -/
structure SeesE (w : World) (v : Value) (i t k : Int) (bs : List Int) : Prop where
  ex : ∃ g o c dv, v = .slice (some ⟨g, o, none⟩) 1 c ∧ 1 ≤ c ∧ w.cell? ⟨g, o, none⟩ = some (iv i) ∧ w.cell? ⟨g, o + 1, none⟩ = some (iv t) ∧ w.cell? ⟨g, o + 2, none⟩ = some (iv k) ∧ w.cell? ⟨g, o + 3, none⟩ = some dv ∧ Sees w dv bs
theorem SeesE.below {w w' : World} {v : Value} {i t k : Int} {bs : List Int} (h : SeesE w v i t k bs) (hb : Below w.heap.size w w') : SeesE w' v i t k bs := by
  obtain ⟨g, o, c, dv, rfl, h1, a0, a1, a2, a3, hs⟩ := h.ex
  have hl := World.block_lt_of_cell? _ _ a0
  exact ⟨g, o, c, dv, rfl, h1, (hb.cell (p := ⟨g, o, none⟩) hl).trans a0, (hb.cell (p := ⟨g, o + 1, none⟩) hl).trans a1, (hb.cell (p := ⟨g, o + 2, none⟩) hl).trans a2, (hb.cell (p := ⟨g, o + 3, none⟩) hl).trans a3, hs.below hb⟩
/-- One entry that was made between two moments: its blocks lie between lo and hi. -/
structure SeesL (w : World) (lo hi : Nat) (v : Value) (i t k : Int) (bs : List Int) : Prop where
  ex : ∃ g o c dv, v = .slice (some ⟨g, o, none⟩) 1 c ∧ 1 ≤ c ∧ w.cell? ⟨g, o, none⟩ = some (iv i) ∧ w.cell? ⟨g, o + 1, none⟩ = some (iv t) ∧ w.cell? ⟨g, o + 2, none⟩ = some (iv k) ∧ w.cell? ⟨g, o + 3, none⟩ = some dv ∧ Sees w dv bs ∧ lo ≤ g ∧ g < hi ∧ (∀ z, dv.ownBlock = some z → lo ≤ z ∧ z < hi) ∧ hi ≤ w.heap.size
theorem SeesL.upd {w w' : World} {lo hi : Nat} {v : Value} {i t k : Int} {bs : List Int} {S : Nat → Prop} (h : SeesL w lo hi v i t k bs) (hu : Upd w w' S) (hS : ∀ z, lo ≤ z → z < hi → ¬ S z) : SeesL w' lo hi v i t k bs := by
  obtain ⟨g, o, c, dv, rfl, h1, a0, a1, a2, a3, hs, hl, hh, hd, hz⟩ := h.ex
  have hn := hS g hl hh
  have hg : g < w.heap.size := by omega
  exact ⟨g, o, c, dv, rfl, h1, (hu.cell (p := ⟨g, o, none⟩) hg hn).trans a0, (hu.cell (p := ⟨g, o + 1, none⟩) hg hn).trans a1, (hu.cell (p := ⟨g, o + 2, none⟩) hg hn).trans a2, (hu.cell (p := ⟨g, o + 3, none⟩) hg hn).trans a3, hs.upd hu (fun z hz _ => hS z (hd z hz).1 (hd z hz).2), hl, hh, hd, Nat.le_trans hz hu.size⟩
theorem sees_slice {w : World} {v : Value} {bs : List Int} (h : Sees w v bs) : ∃ p n c, v = .slice p n c := by
  rcases h with ⟨_, ao, cap, rfl, _⟩ | ⟨b, off, cap, rfl, _⟩ <;> exact ⟨_, _, _, rfl⟩
theorem cloneE_one {w : World} {g o c : Nat} {i t k : Int} {dv : Value} (a0 : w.cell? ⟨g, o, none⟩ = some (iv i)) (a1 : w.cell? ⟨g, o + 1, none⟩ = some (iv t)) (a2 : w.cell? ⟨g, o + 2, none⟩ = some (iv k)) (a3 : w.cell? ⟨g, o + 3, none⟩ = some dv) (hd : ∃ p n c, dv = .slice p n c) :
    Calls Try.prog 37 #[.slice (some ⟨g, o, none⟩) 1 c] w fun e w' => ∃ v', e = .returned v' ∧ w'.ownsRow w.heap.size 43 4 v' 1 [iv i, iv t, iv k, dv] ∧ Below w.heap.size w w' := by
  obtain ⟨dp, dn, dc, rfl⟩ := hd
  have hl := World.block_lt_of_cell? _ _ a0
  obtain ⟨t9, hti, hz0, hz1, hz2⟩ := info_parts infoE
  have hb : Below w.heap.size w (w.alloc (.cells #[] 43)) := (Below.refl _ w).alloc (Nat.le_refl _) _
  have hsrc : Src Try.prog 4 36 (.slice (some ⟨g, o, none⟩) 1 c) 1 [iv i, iv t, iv k, .slice dp dn dc] (w.alloc (.cells #[] 43)) :=
    Src.ofSlice _ Try.underlying36 ⟨g, o, none⟩ 1 c _ rfl (fun j u hj => by
      rw [Addr.add_lit]
      rcases j with _ | _ | _ | _ | j
      · simp at hj; subst hj; exact (hb.cell (p := ⟨g, o, none⟩) hl).trans a0
      · simp at hj; subst hj; exact (hb.cell (p := ⟨g, o + 1, none⟩) hl).trans a1
      · simp at hj; subst hj; exact (hb.cell (p := ⟨g, o + 2, none⟩) hl).trans a2
      · simp at hj; subst hj; exact (hb.cell (p := ⟨g, o + 3, none⟩) hl).trans a3
      · simp at hj) (fun u hu => by
      simp at hu
      rcases hu with rfl | rfl | rfl | rfl <;> rfl)
  have hown : (w.alloc (.cells #[] 43)).ownsRow w.heap.size 43 4 (.slice (some ⟨w.heap.size, 0, none⟩) 0 0) 0 [] := ⟨rfl, .inr ⟨w.heap.size, 0, #[], rfl, Nat.le_refl _, row_alloc w _ _, Nat.le_refl _, Nat.zero_le _, rfl, rfl⟩⟩
  have hsz : w.heap.size ≤ (w.alloc (.cells #[] 43)).heap.size := hb.size
  have hnil := fun (w' : World) (n' c' : Nat) => Lib.run_eql_slice_nil (P := Try.prog) w' 36 43 (some ⟨g, o, none⟩) n' c' 0 0 Try.underlying36
  clear a0 a1 a2 a3
  go_enter Try.func37, Try.ntmps37
  go_wp2_with (at_builtin; refine wpList_appS _ rfl (.tmp 5) (.tmp 6) 36 36 rfl w.heap.size 43 t9 _ 4 Try.underlying36 hti hz0 hz1 rfl (by rw [hz2]; decide) _ 0 [] rfl hown _ rfl 1 _ hsrc (by omega) hsz ?_; intro v' w' q1 q2 q3 q4; obtain ⟨np, nc, hnv⟩ := owns_formB0 q1; subst hnv; clear q3 q4)
  go_ret
  refine ⟨_, rfl, by simpa using q1, hb.trans (q2.below hsz (fun k hk e => by have e' : some k = some w.heap.size := e; cases e'; omega))⟩
theorem cloneE_none (w : World) (p : Option Addr) (c : Nat) :
    Calls Try.prog 37 #[.slice p 0 c] w fun e w' => ∃ p' c', e = .returned (.slice p' 0 c') ∧ Below w.heap.size w w' := by
  obtain ⟨t9, hti, hz0, hz1, hz2⟩ := info_parts infoE
  have hb : Below w.heap.size w (w.alloc (.cells #[] 43)) := (Below.refl _ w).alloc (Nat.le_refl _) _
  have hown : (w.alloc (.cells #[] 43)).ownsRow w.heap.size 43 4 (.slice (some ⟨w.heap.size, 0, none⟩) 0 0) 0 [] := ⟨rfl, .inr ⟨w.heap.size, 0, #[], rfl, Nat.le_refl _, row_alloc w _ _, Nat.le_refl _, Nat.zero_le _, rfl, rfl⟩⟩
  have hsz : w.heap.size ≤ (w.alloc (.cells #[] 43)).heap.size := hb.size
  have hnil := fun (w' : World) (n' c' : Nat) => Lib.run_eql_slice_nil (P := Try.prog) w' 36 43 p n' c' 0 0 Try.underlying36
  cases p with
  | none =>
    go_enter Try.func37, Try.ntmps37
    go_wp2
    go_ret
    exact ⟨none, 0, rfl, Below.refl _ _⟩
  | some a =>
    have hsrc : Src Try.prog 4 36 (.slice (some a) 0 c) 0 [] (w.alloc (.cells #[] 43)) := Src.ofSlice _ Try.underlying36 a 0 c _ rfl (fun j u hj => by simp at hj) (fun u hu => by cases hu)
    go_enter Try.func37, Try.ntmps37
    go_wp2_with (at_builtin; refine wpList_appS _ rfl (.tmp 5) (.tmp 6) 36 36 rfl w.heap.size 43 t9 _ 4 Try.underlying36 hti hz0 hz1 rfl (by rw [hz2]; decide) _ 0 [] rfl hown _ rfl 0 _ hsrc (by omega) hsz ?_; intro v' w' q1 q2 q3 q4; obtain ⟨np, nc, hnv⟩ := owns_formB0 q1; subst hnv; clear q3 q4)
    go_ret
    exact ⟨np, nc, by simp, hb.trans (q2.below hsz (fun k hk e => by have e' : some k = some w.heap.size := e; cases e'; omega))⟩
theorem copies_none (w : World) (p : Option Addr) (c : Nat) :
    Calls Try.prog 21 #[.slice p 0 c] w fun e w' => ∃ p' c', e = .returned (.slice p' 0 c') ∧ Below w.heap.size w w' := by
  have hcl := cloneE_none w p c
  go_enter Try.func21, Try.ntmps21
  go_wp2_with (go_at_call 37; refine hcl.mono ?_; rintro e w1 ⟨p1, c1, rfl, hb1⟩)
  go_loopg [3, 9] 1 (fun kx s3 s9 wq => s9 = iv 0 ∧ kx = 1 ∧ wq = w1)
  case atStart => exact ⟨rfl, rfl, rfl⟩
  case round =>
    obtain ⟨rfl, rfl, hwr⟩ := hrel
    obtain rfl := hwr.symm
    go_wp2
    go_ret
    exact ⟨⟨p1, c1, rfl⟩, hb1⟩
theorem copies_one {w : World} {v : Value} {i t k : Int} {bs : List Int} (h : SeesE w v i t k bs) (hbs : bs.length ≤ 1000000) :
    Calls Try.prog 21 #[v] w fun e w' => ∃ v', e = .returned v' ∧ SeesL w' w.heap.size w'.heap.size v' i t k bs ∧ Below w.heap.size w w' := by
  obtain ⟨g, o, c, dv, rfl, h1, a0, a1, a2, a3, hs⟩ := h.ex
  have hcl := cloneE_one (c := c) a0 a1 a2 a3 (sees_slice hs)
  have HS := Hid.mkW hs
  obtain ⟨dp, dn, dc, hdv⟩ := sees_slice hs
  subst hdv
  clear h a0 a1 a2 a3 hs
  go_enter Try.func21, Try.ntmps21
  go_wp2_with (go_at_call 37; refine hcl.mono ?_; rintro e w1 ⟨v1, rfl, ho1, hb1⟩; obtain ⟨q, c1, hv1, hc1, hq1⟩ := owns_formB ho1 (by decide); subst hv1)
  have HO := Hid.mkW (And.intro ho1 hb1)
  have hlq : q < w1.heap.size := by
    rcases ho1.2 with ⟨e, _⟩ | ⟨g', cap, cur, e, hbg, hh, _⟩
    · cases e
    · cases e
      exact (Array.getElem?_eq_some_iff.1 hh).1
  clear hcl ho1 hb1
  go_loopg [3, 9] 2 (fun kx s3 s9 wq => ∃ j : Nat, s9 = .int .i64 j ∧ kx + j = 2 ∧ j ≤ 1 ∧ Hid ((j = 0 → wq = w1) ∧ (j = 1 → ∃ dv', wq.ownsRow w.heap.size 43 4 (.slice (some ⟨q, 0, none⟩) 1 c1) 1 [iv i, iv t, iv k, dv'] ∧ Sees wq dv' bs ∧ Below w.heap.size w wq ∧ (∀ z, dv'.ownBlock = some z → w.heap.size ≤ z ∧ z < wq.heap.size))))
  case atStart => exact ⟨0, rfl, rfl, by omega, fun _ => rfl, fun e => by omega⟩
  case round =>
    obtain ⟨j, rfl, hk, hj, HJ⟩ := hrel
    by_cases h0 : j = 0
    · subst h0
      have hwr := HJ.out.1 rfl
      obtain rfl := hwr.symm
      obtain ⟨ho1, hb1⟩ := HO.out
      have e0 : w1.cell? ⟨q, 0, none⟩ = some (iv i) := by have := ho1.cells (g := q) rfl 0 _ rfl; rwa [Addr.add_lit] at this
      have e1 : w1.cell? ⟨q, 1, none⟩ = some (iv t) := by have := ho1.cells (g := q) rfl 1 _ rfl; rwa [Addr.add_lit] at this
      have e2 : w1.cell? ⟨q, 2, none⟩ = some (iv k) := by have := ho1.cells (g := q) rfl 2 _ rfl; rwa [Addr.add_lit] at this
      have e3 : w1.cell? ⟨q, 3, none⟩ = some (.slice dp dn dc) := by have := ho1.cells (g := q) rfl 3 _ rfl; rwa [Addr.add_lit] at this
      have f3 : w1.frozen? ⟨q, 3, none⟩ = false := by
        rcases ho1.2 with ⟨e, _⟩ | ⟨g', cap, cur, e, hbg, hh, _⟩
        · cases e
        · cases e
          exact frozen_of_row _ _ _ _ _ hh
      obtain ⟨w2, hw2⟩ : ∃ w2, w2 = w1.alloc (.cells #[iv i, iv t, iv k, .slice dp dn dc] 43) := ⟨_, rfl⟩
      have b12 : Below w1.heap.size w1 w2 := by rw [hw2]; exact (Below.refl _ _).alloc (Nat.le_refl _) _
      have b02 : Below w.heap.size w w2 := hb1.trans (b12.mono hb1.size)
      have hdc := clone_any (.slice dp dn dc) bs w2 (HS.out.below b02) hbs
      have e23 : w2.cell? ⟨w1.heap.size, 3, none⟩ = some (.slice dp dn dc) := by
        rw [hw2, cell_of_row _ _ _ _ _ _ (row_alloc w1 _ 43)]
        rfl
      have HB := Hid.mkW (And.intro b12 b02)
      have hf2 : ∀ W, Below w2.heap.size w2 W → W.frozen? ⟨q, 3, none⟩ = false := fun W hW => by
        rw [hW.frozen (p := ⟨q, 3, none⟩) (by have := HB.out.1.size; show q < w2.heap.size; omega), HB.out.1.frozen (p := ⟨q, 3, none⟩) hlq]
        exact f3
      have HF := Hid.mkW hf2
      have hE2 : ∀ W, Below w2.heap.size w2 W → W.cell? ⟨q, 3, none⟩ = some (.slice dp dn dc) := fun W hW => by
        rw [hW.cell (p := ⟨q, 3, none⟩) (by have := HB.out.1.size; show q < w2.heap.size; omega), HB.out.1.cell (p := ⟨q, 3, none⟩) hlq]
        exact e3
      have HE := Hid.mkW hE2
      clear hE2
      clear hf2 HJ b12 b02 ho1 hb1 f3
      go_upto_region 5 with fail
      rw [← hw2]
      have hrow := Hid.mkW hw2
      clear hw2
      generalize hbx : w1.heap.size = bx at *
      have HX := Hid.mkW hbx
      clear hbx
      go_wp2_with (go_at_call 26; refine hdc.mono ?_; rintro e w3 ⟨dv3, rfl, ho3, hb3⟩; obtain ⟨np, nc, hnv⟩ := owns_formB0 ho3; subst hnv; have f3 := HF.out w3 hb3; have g3 := HE.out w3 hb3)
      go_roundg 1
      case measure => omega
      case rel =>
        refine ⟨1, rfl, by omega, by omega, fun e => by omega, fun _ => ⟨.slice np bs.length nc, ?_, ?_, ?_, fun z hz => ?_⟩⟩
        · have h1 := ownsRow_upd HO.out.1 (Upd.ofBelow (S := fun _ => False) ((HX.out.symm ▸ HB.out.1 : Below w1.heap.size w1 w2).trans (hb3.mono HB.out.1.size))) (fun _ _ h => h)
          exact row_set h1 3 _
        · exact (sees_own ho3).upd (S := fun z => z = q) ((Upd.refl w3 (fun z => z = q)).setCell (p := ⟨q, 3, none⟩) (.inr rfl) _) (fun z hz _ e => by
            have := (ho3.lt z hz).1
            have := HB.out.1.size
            have := HX.out
            omega)
        · have h1 : Below w.heap.size w w3 := HB.out.2.trans (hb3.mono HB.out.2.size)
          exact h1.setCell (p := ⟨q, 3, none⟩) hq1 _
        · have h1 := ho3.lt z hz
          have h2 := HB.out.2.size
          have h3 : (w3.setCell ⟨q, 3, none⟩ (.slice np bs.length nc)).heap.size = w3.heap.size := by simp
          omega
    · obtain rfl : j = 1 := by omega
      obtain ⟨dv', ho, hs', hb', hzz⟩ := HJ.out.2 rfl
      clear HJ
      go_wp2
      go_ret
      have hqz := (ho.lt q rfl).2
      refine ⟨_, rfl, ⟨q, 0, c1, dv', rfl, hc1, ?_, ?_, ?_, ?_, hs', hq1, hqz, hzz, Nat.le_refl _⟩, hb'⟩
      · have := ho.cells (g := q) rfl 0 _ rfl; rwa [Addr.add_lit] at this
      · have := ho.cells (g := q) rfl 1 _ rfl; rwa [Addr.add_lit] at this
      · have := ho.cells (g := q) rfl 2 _ rfl; rwa [Addr.add_lit] at this
      · have := ho.cells (g := q) rfl 3 _ rfl; rwa [Addr.add_lit] at this
end Go.Proofs.Ytfhdenobldkaiaa
