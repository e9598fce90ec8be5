/- The document's reader, call behind call; its small functions. -/
import Derived.Test.YtamgoknoapcnjaaDoorNG
import Derived.Deep.QuietTactic
import Derived.BigQuiet
namespace Go.Proofs.YtamgoknoapcnjaaDoor
open Go Go.RowKit
theorem flag_any (o : Bool) (w : World) : Calls Tryd.prog 31 #[.bool o] w fun e w' => e = .returned (iv (flagI o)) ∧ w' = w := by
  cases o <;> (go_enter Tryd.func31, Tryd.ntmps31; go_wp2; go_ret; exact ⟨rfl, rfl⟩)
/-- A reader of the document, since the world w0: only it has turned. -/
structure Rg (w0 W : World) (b : Nat) (v : Value) (xs : List Int) (s : St) : Prop where
  r : Rf W b v xs s.1 s.2
  u : Upd w0 W (fun k => k = b)
theorem Rg.step {w0 W W' : World} {b : Nat} {v : Value} {xs : List Int} {s s' : St} (h : Rg w0 W b v xs s) (hp : RfPost W W' b v xs s'.1 s'.2) : Rg w0 W' b v xs s' :=
  ⟨hp.1, h.u.trans hp.2 (fun _ _ h => h)⟩
theorem Rg.below {w0 W W' : World} {b : Nat} {v : Value} {xs : List Int} {s : St} (h : Rg w0 W b v xs s) (hb : Below W.heap.size W W') : Rg w0 W' b v xs s :=
  ⟨h.r.upd (Upd.ofBelow (S := fun _ => False) hb) (fun h => h) (fun _ _ _ h => h), h.u.trans (Upd.ofBelow (S := fun _ => False) hb) (fun _ _ h => h.elim)⟩
theorem Rg.upd {w0 W W' : World} {b : Nat} {v : Value} {xs : List Int} {s : St} {S : Nat → Prop} (h : Rg w0 W b v xs s) (hu : Upd W W' S) (h1 : ¬ S b) (h2 : ∀ k, v.ownBlock = some k → 0 < xs.length → ¬ S k) (h3 : ∀ k, k < w0.heap.size → ¬ S k) : Rg w0 W' b v xs s :=
  ⟨h.r.upd hu h1 h2, h.u.trans hu (fun j hj hs => absurd hs (h3 j hj))⟩
theorem zInt {b : Nat} {w0 W : World} {v : Value} {xs : List Int} {s : St} (h : Rg w0 W b v xs s) :
    Calls Tryd.prog 39 #[ptr b] W fun e w' => e = .returned (iv (rI xs s).1) ∧ Rg w0 w' b v xs (rI xs s).2 ∧ Upd W w' (fun k => k = b) := by
  refine (fInt b v xs s.1 s.2 W h.r).mono ?_
  rintro e w' ⟨rfl, hp⟩
  exact ⟨rfl, h.step (s' := (rI xs s).2) hp, hp.2⟩
theorem zU8 {b : Nat} {w0 W : World} {v : Value} {xs : List Int} {s : St} (h : Rg w0 W b v xs s) :
    Calls Tryd.prog 38 #[ptr b] W fun e w' => e = .returned (iv (rU xs s).1) ∧ Rg w0 w' b v xs (rU xs s).2 ∧ Upd W w' (fun k => k = b) := by
  refine (fU8 b v xs s.1 s.2 W h.r).mono ?_
  rintro e w' ⟨rfl, hp⟩
  exact ⟨rfl, h.step (s' := (rU xs s).2) hp, hp.2⟩
theorem zText {b : Nat} {w0 W : World} {v : Value} {xs : List Int} {s : St} (h : Rg w0 W b v xs s) :
    Calls Tryd.prog 40 #[ptr b] W fun e w' => e = .returned (.string (strOfNums (rT xs s).1)) ∧ Rg w0 w' b v xs (rT xs s).2 ∧ Upd W w' (fun k => k = b) := by
  refine (fText b v xs s.1 s.2 W h.r).mono ?_
  rintro e w' ⟨rfl, hp⟩
  exact ⟨rfl, h.step (s' := (rT xs s).2) hp, hp.2⟩
/-- Bytes that were told, as a slice of one's own. -/
theorem zData {b : Nat} {w0 W : World} {v : Value} {xs : List Int} {s : St} (h : Rg w0 W b v xs s) :
    Calls Tryd.prog 40 #[ptr b] W fun e w' => e = .returned (.string (strOfNums (rT xs s).1)) ∧ Hid (Rg w0 w' b v xs (rT xs s).2 ∧ Upd W w' (fun k => k = b)) ∧ ∃ c W', (convert 9 26 (.string (strOfNums (rT xs s).1))).run Tryd.prog w' = .ok (.slice (some ⟨w'.heap.size, 0, none⟩) (rT xs s).1.length c) W' ∧ Hid (Sees W' (.slice (some ⟨w'.heap.size, 0, none⟩) (rT xs s).1.length c) (rT xs s).1 ∧ Below w'.heap.size w' W') := by
  refine (zText h).mono ?_
  rintro e w' ⟨rfl, hp, hu⟩
  obtain ⟨c, W', h1, h2, h3⟩ := conv_back (rT_isB h.r.bytes s) (Nat.le_trans (rT_len xs s) h.r.small) w'
  exact ⟨rfl, ⟨hp, hu⟩, c, W', h1, h2, h3⟩
/-- The bytes of a literal's numbers: the document's writer, call behind call. -/
theorem OwPost.then {B : Nat} {w0 W w' : World} {v0 v v' : Value} {xs ys : List Int} (h : OwPost B w0 W v0 v xs) (k : OwPost B W w' v v' ys) : OwPost B w0 w' v0 v' ys := h.trans k
theorem zU8w {B : Nat} {w0 W : World} {v0 v : Value} {xs : List Int} (h : OwPost B w0 W v0 v xs) (hB : B ≤ w0.heap.size) (hl : xs.length ≤ 800000) (n : Int) :
    Calls Tryd.prog 28 #[v, iv n] W fun e w' => ∃ v', e = .returned v' ∧ OwPost B w0 w' v0 v' (xs ++ b1 n) := by
  refine (fU8w B v xs n W h.1 (by omega) (Nat.le_trans hB h.2.1.size)).mono ?_
  rintro e w' ⟨v', rfl, k⟩
  exact ⟨v', rfl, h.trans k⟩
theorem zIntw {B : Nat} {w0 W : World} {v0 v : Value} {xs : List Int} (h : OwPost B w0 W v0 v xs) (hB : B ≤ w0.heap.size) (hl : xs.length ≤ 800000) (n : Int) :
    Calls Tryd.prog 29 #[v, iv n] W fun e w' => ∃ v', e = .returned v' ∧ OwPost B w0 w' v0 v' (xs ++ b8 n) := by
  refine (fIntw B v xs n W h.1 (by omega) (Nat.le_trans hB h.2.1.size)).mono ?_
  rintro e w' ⟨v', rfl, k⟩
  exact ⟨v', rfl, h.trans k⟩
theorem zTextw {B : Nat} {w0 W : World} {v0 v : Value} {xs ds : List Int} (h : OwPost B w0 W v0 v xs) (hB : B ≤ w0.heap.size) (hl : xs.length ≤ 800000) (hd : isB ds) (hdl : ds.length ≤ 30000) :
    Calls Tryd.prog 30 #[v, .string (strOfNums ds)] W fun e w' => ∃ v', e = .returned v' ∧ OwPost B w0 w' v0 v' (xs ++ btx ds) := by
  have hs : strB (strOfNums ds) = ds := strB_nums hd
  have hz : (strOfNums ds).size = ds.length := by rw [← strB_len, hs]
  refine (fTextw B v xs (strOfNums ds) W h.1 hl (Nat.le_trans hB h.2.1.size) (by omega)).mono ?_
  rintro e w' ⟨v', rfl, k⟩
  rw [hs, hz] at k
  exact ⟨v', rfl, h.trans k⟩
end Go.Proofs.YtamgoknoapcnjaaDoor
