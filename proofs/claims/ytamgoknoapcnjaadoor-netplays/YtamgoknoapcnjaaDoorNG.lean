/- Lists are read: of entries, of numbers. -/
import Derived.Test.YtamgoknoapcnjaaDoorNF
import Derived.Deep.CutRange
namespace Go.Proofs.YtamgoknoapcnjaaDoor
open Go Go.RowKit
set_option maxRecDepth 100000 in
theorem readEntry_any {B b : Nat} {w0 W : World} {v : Value} {xs : List Int} {s : St} (h : Rd B w0 W b v xs s) (hb0 : b < W.heap.size) :
    Calls Tryd.prog 70 #[ptr b] W fun e w' => ∃ p c, e = .returned (.agg #[iv (rE xs s).1.i, iv (rE xs s).1.t, iv (rE xs s).1.k, .slice p (rE xs s).1.d.length c]) ∧ Bs (fun k => W.heap.size ≤ k) w' (.slice p (rE xs s).1.d.length c) (rE xs s).1.d ∧ Rd B w0 w' b v xs (rE xs s).2 ∧ Upd W w' (fun k => k = b) := by
  obtain ⟨w1, hw1⟩ : ∃ w1, w1 = W.alloc (.cells #[iv 0, iv 0, iv 0, .slice none 0 0] 58) := ⟨_, rfl⟩
  have hb1 : Below W.heap.size W w1 := by rw [hw1]; exact (Below.refl _ _).alloc (Nat.le_refl _) _
  obtain ⟨d, hd⟩ : ∃ d, d = W.heap.size := ⟨_, rfl⟩
  have HX1 : Bx d #[iv 0, iv 0, iv 0, .slice none 0 0] 58 w1 := by rw [hd, hw1]; exact row_alloc W _ 58
  have H1 := h.below hb1
  have HB1 := Hid.mkW hb1
  have hdb : d ≠ b := by omega
  have HD := Hid.mkW hd
  have HV : Hid (∀ k, v.ownBlock = some k → k < W.heap.size) := fun k hk => (h.r.own.lt k hk).2
  have HU0 : Hid (w0.heap.size ≤ W.heap.size) := h.u.size
  have HS1 : Hid (w1.heap.size = W.heap.size + 1) := by show _ = _; rw [hw1]; simp
  clear h hb1
  go_enter Tryd.func70, Tryd.ntmps70
  go_upto_region 1 with fail
  rw [← hw1, ← hd]
  clear hw1 hd
  have k1 := yInt H1
  have HR1 := Hid.mkW H1
  clear H1
  go_wp2_with (fail)
  refine k1.mono ?_
  rintro e w2 ⟨rfl, h2, u2⟩
  have HX2 := HX1.upd u2 hdb
  have k2 := yInt h2
  have HU2 := Hid.mkW (And.intro h2 u2)
  clear k1 h2 u2 HX1
  go_wp2_with (fail)
  refine k2.mono ?_
  rintro e w3 ⟨rfl, h3, u3⟩
  have HX3 := HX2.upd u3 hdb
  have k3 := yU8 h3
  have HU3 := Hid.mkW (And.intro h3 (HU2.out.2.trans u3 (fun _ _ h => h)))
  clear k2 h3 u3 HX2 HU2
  go_wp2_with (fail)
  refine k3.mono ?_
  rintro e w4 ⟨rfl, h4, u4⟩
  have HX4 := HX3.upd u4 hdb
  have k4 := readData_any h4
  have HU4 := Hid.mkW (And.intro h4 (HU3.out.2.trans u4 (fun _ _ h => h)))
  clear k3 h4 u4 HX3 HU3
  go_wp2_with (fail)
  refine k4.mono ?_
  rintro e w5 ⟨v5, rfl, hv5, h5, u5⟩
  obtain ⟨p5, c5, rfl⟩ := hv5.slice
  have HX5 := HX4.upd u5 hdb
  have HU5 := Hid.mkW (And.intro hv5 (And.intro h5 (HU4.out.2.trans u5 (fun _ _ h => h))))
  have HS := Hid.mkW HU4.out.2.size
  clear k4 h5 u5 HX4 HU4 hv5
  have f0 := HX5.free 0
  have f1 := HX5.free 1
  have f2 := HX5.free 2
  have f3 := HX5.free 3
  have e0 : w5.cell? ⟨d, 0, none⟩ = some (iv 0) := HX5.cell 0
  have e1 : w5.cell? ⟨d, 1, none⟩ = some (iv 0) := HX5.cell 1
  have e2 : w5.cell? ⟨d, 2, none⟩ = some (iv 0) := HX5.cell 2
  have e3 : w5.cell? ⟨d, 3, none⟩ = some (.slice none 0 0) := HX5.cell 3
  have HX := Hid.mkW HX5
  clear HX5
  go_wp2
  obtain ⟨w6, hw6⟩ : ∃ w6, w6 = (((w5.setCell ⟨d, 0, none⟩ (iv (rI xs s).1)).setCell ⟨d, 1, none⟩ (iv (rI xs (rI xs s).2).1)).setCell ⟨d, 2, none⟩ (iv (rU xs (rI xs (rI xs s).2).2).1)).setCell ⟨d, 3, none⟩ (.slice p5 (rT xs (rU xs (rI xs (rI xs s).2).2).2).1.length c5) := ⟨_, rfl⟩
  have HX6 : Bx d #[iv (rI xs s).1, iv (rI xs (rI xs s).2).1, iv (rU xs (rI xs (rI xs s).2).2).1, .slice p5 (rT xs (rU xs (rI xs (rI xs s).2).2).2).1.length c5] 58 w6 := by
    rw [hw6]
    exact (((HX.out.set 0 _ rfl).set 1 _ rfl).set 2 _ rfl).set 3 _ rfl
  have hu6 : Upd w5 w6 (fun k => k = d) := by
    rw [hw6]
    exact ((((Upd.refl w5 (fun k => k = d)).setCell (.inr rfl) _).setCell (.inr rfl) _).setCell (.inr rfl) _).setCell (.inr rfl) _
  rw [← hw6]
  clear hw6 e0 e1 e2 e3 f0 f1 f2 f3
  have g0 : w6.cell? ⟨d, 0, none⟩ = some (iv (rI xs s).1) := HX6.cell 0
  have g1 : w6.cell? ⟨d, 1, none⟩ = some (iv (rI xs (rI xs s).2).1) := HX6.cell 1
  have g2 : w6.cell? ⟨d, 2, none⟩ = some (iv (rU xs (rI xs (rI xs s).2).2).1) := HX6.cell 2
  have g3 : w6.cell? ⟨d, 3, none⟩ = some (.slice p5 (rT xs (rU xs (rI xs (rI xs s).2).2).2).1.length c5) := HX6.cell 3
  refine bodyPost_ret (v := .agg #[iv (rI xs s).1, iv (rI xs (rI xs s).2).1, iv (rU xs (rI xs (rI xs s).2).2).1, .slice p5 (rT xs (rU xs (rI xs (rI xs s).2).2).2).1.length c5]) (by simp [results, Tryd.results70, go_sem, g0, g1, g2, g3]) rfl ?_
  obtain ⟨hv5, h5, u5⟩ := HU5.out
  have hdl : d < w4.heap.size := by
    have h1 := HS1.out
    have h2 := HS.out
    have h3 := HD.out
    omega
  refine ⟨p5, c5, rfl, (hv5.upd hu6 (fun k hk _ e => by omega)).mono (fun k hk => by have := HD.out; omega), ?_, ?_⟩
  · refine h5.upd hu6 (fun e => hdb e.symm) (fun k hk e => ?_) (fun k hk e => ?_)
    · have := HV.out k hk
      have := HD.out
      omega
    · have := HD.out
      have := HU0.out
      omega
  · exact ((Upd.ofBelow (S := fun k => k = b) HB1.out).trans u5 (fun j hj e => e)).trans hu6 (fun j hj e => by have := HD.out; omega)

theorem infoE : (Tryd.prog.info? 58).map (fun i => (i.zero, i.size, i.bytes)) = some (some (.agg #[iv 0, iv 0, iv 0, .slice none 0 0]), 4, 48) := by kernel_rfl
/-- Cells of entries, one behind the other. -/
def ecells : List Ent → List Value → List Value
  | e :: l, d :: ds => iv e.i :: iv e.t :: iv e.k :: d :: ecells l ds
  | _, _ => []
theorem ecells_snoc : ∀ (l : List Ent) (ds : List Value) (e : Ent) (d : Value), l.length = ds.length → ecells (l ++ [e]) (ds ++ [d]) = ecells l ds ++ [iv e.i, iv e.t, iv e.k, d]
  | [], [], e, d, _ => rfl
  | a :: l, c :: ds, e, d, h => by simp only [List.cons_append, ecells]; rw [ecells_snoc l ds e d (by simpa using h)]
  | [], _ :: _, _, _, h => by simp at h
  | _ :: _, [], _, _, h => by simp at h
theorem ecells_get : ∀ (l : List Ent) (ds : List Value) (i : Nat) (e : Ent) (d : Value), l[i]? = some e → ds[i]? = some d → (ecells l ds)[i * 4]? = some (iv e.i) ∧ (ecells l ds)[i * 4 + 1]? = some (iv e.t) ∧ (ecells l ds)[i * 4 + 2]? = some (iv e.k) ∧ (ecells l ds)[i * 4 + 3]? = some d
  | [], _, i, e, d, h, _ => by simp at h
  | _ :: _, [], i, e, d, _, h => by simp at h
  | a :: l, c :: ds, 0, e, d, h1, h2 => by simp at h1 h2; subst h1 h2; exact ⟨rfl, rfl, rfl, rfl⟩
  | a :: l, c :: ds, i + 1, e, d, h1, h2 => by
    have := ecells_get l ds i e d (by simpa using h1) (by simpa using h2)
    simp only [ecells]
    rw [show (i + 1) * 4 = i * 4 + 4 by omega]
    exact this
/-- Entries in a row that the call owns; their bytes lie in blocks of its own. -/
structure EsO (base : Nat) (w : World) (vl : Value) (l : List Ent) (ds : List Value) : Prop where
  len : l.length = ds.length
  own : w.ownsRow base 58 4 vl l.length (ecells l ds)
  d : ∀ (i : Nat) (e : Ent) (d : Value), l[i]? = some e → ds[i]? = some d → Bs (fun k => base ≤ k ∧ k < w.heap.size ∧ some k ≠ vl.ownBlock) w d e.d
theorem EsO.nil (base : Nat) (w : World) : EsO base w (.slice none 0 0) [] [] := ⟨rfl, World.ownsRow_nil _ _ _ _, fun i e d h => by simp at h⟩
theorem EsO.upd {base : Nat} {w w' : World} {vl : Value} {l : List Ent} {ds : List Value} {S : Nat → Prop} (h : EsO base w vl l ds) (hu : Upd w w' S) (hS : ∀ k, base ≤ k → k < w.heap.size → ¬ S k) : EsO base w' vl l ds :=
  ⟨h.len, ownsRow_upd h.own hu (fun k hk => hS k (h.own.lt k hk).1 (h.own.lt k hk).2), fun i e d h1 h2 => ((h.d i e d h1 h2).upd hu (fun k hk hl => hS k hk.1 hl)).mono (fun _k hk => ⟨hk.1, Nat.lt_of_lt_of_le hk.2.1 hu.size, hk.2.2⟩)⟩
theorem EsO.es {base : Nat} {w : World} {vl : Value} {l : List Ent} {ds : List Value} (h : EsO base w vl l ds) : Es (fun k => base ≤ k) w vl l := by
  obtain ⟨p, c, rfl⟩ := owns_formB0 h.own
  by_cases h0 : l.length = 0
  · obtain rfl := List.eq_nil_of_length_eq_zero h0
    rcases h.own.2 with ⟨e, _⟩ | ⟨g, cap, cur, e, hb, hh, h1, h2, h3, h4⟩
    · cases e
      exact ⟨none, 0, rfl, Nat.le_refl _, by decide, fun i e hi => by simp at hi⟩
    · cases e
      exact ⟨_, _, rfl, h1, h2, fun i e hi => by simp at hi⟩
  · obtain ⟨g, c', e, hnc, hg⟩ := owns_formB h.own (by omega)
    cases e
    have hcm : c ≤ maxLen := by
      rcases h.own.2 with ⟨e, _⟩ | ⟨g, cap, cur, e, hb, hh, h1, h2, h3, h4⟩
      · cases e
      · cases e; exact h2
    refine ⟨_, _, rfl, hnc, hcm, fun i e hi => ⟨g, 0, rfl, hg, ?_⟩⟩
    have hil := (List.getElem?_eq_some_iff.1 hi).1
    obtain ⟨d, hd⟩ : ∃ d, ds[i]? = some d := ⟨_, List.getElem?_eq_getElem (by rw [← h.len]; exact hil)⟩
    obtain ⟨a0, a1, a2, a3⟩ := ecells_get l ds i e d hi hd
    have hc := fun j u hu => h.own.cells (g := g) rfl j u hu
    have b0 := hc _ _ a0
    have b1 := hc _ _ a1
    have b2 := hc _ _ a2
    have b3 := hc _ _ a3
    rw [Addr.add_lit] at b0 b1 b2 b3
    rw [Nat.zero_add]
    exact ⟨by simpa using b0, by simpa [Nat.add_assoc] using b1, by simpa [Nat.add_assoc] using b2, d, by simpa [Nat.add_assoc] using b3, (h.d i e d hi hd).mono (fun k hk => hk.1)⟩
end Go.Proofs.YtamgoknoapcnjaaDoor
