/- A message is read: as data, and what the program's small readers do. -/
import Derived.Test.YtamgoknoapcnjaaDoorNB
import Derived.Laws.IdiomStrings
namespace Go.Proofs.YtamgoknoapcnjaaDoor
open Go Go.RowKit
/-- Where a reader stands: how many bytes were read, and the error that is kept. -/
abbrev St := Nat × Int
def rI (xs : List Int) (s : St) : Int × St := (wrap64 (rd (takeB xs s.1 s.2 8)), (takeA xs s.1 s.2 8, takeE xs s.1 s.2 8))
def rU (xs : List Int) (s : St) : Int × St := (wrap64 (rd (takeB xs s.1 s.2 1)), (takeA xs s.1 s.2 1, takeE xs s.1 s.2 1))
def rT (xs : List Int) (s : St) : List Int × St := (textB xs s.1 s.2, (textA xs s.1 s.2, textE xs s.1 s.2))
def rE (xs : List Int) (s : St) : Ent × St :=
  (⟨(rI xs s).1, (rI xs (rI xs s).2).1, (rU xs (rI xs (rI xs s).2).2).1, (rT xs (rU xs (rI xs (rI xs s).2).2).2).1⟩, (rT xs (rU xs (rI xs (rI xs s).2).2).2).2)
/-- So many, one behind the other, till bytes lack. -/
def rMany {α : Type} (one : St → α × St) : Nat → St → List α × St
  | 0, s => ([], s)
  | n + 1, s => if s.2 = 0 then ((one s).1 :: (rMany one n (one s).2).1, (rMany one n (one s).2).2) else ([], s)
def rList {α : Type} (one : St → α × St) (xs : List Int) (s : St) : List α × St := rMany one (rU xs s).1.toNat (rU xs s).2
theorem rU_bd {xs : List Int} (h : isB xs) (s : St) : 0 ≤ (rU xs s).1 ∧ (rU xs s).1 ≤ 255 := by
  unfold rU
  have h1 := rd_bd _ _ rfl (takeB_isB h s.1 s.2 1)
  have h2 := takeB_len xs s.1 s.2 1
  have : (takeB xs s.1 s.2 1).length = 0 ∨ (takeB xs s.1 s.2 1).length = 1 := by omega
  rcases this with h3 | h3 <;> (rw [h3] at h1; simp only [Int.reducePow] at h1; unfold wrap64; omega)
theorem rI_isI (xs : List Int) (s : St) : isI (rI xs s).1 := by unfold rI isI wrap64; omega
theorem rT_len (xs : List Int) (s : St) : (rT xs s).1.length ≤ xs.length := by
  unfold rT textB takeB
  dsimp only
  split
  · simp; omega
  · simp
theorem rT_isB {xs : List Int} (h : isB xs) (s : St) : isB (rT xs s).1 := takeB_isB h _ _ _
theorem conv_back {d : List Int} (hd : isB d) (hl : d.length ≤ 1000000) (w : World) : ∃ c W', (convert 9 26 (.string (strOfNums d))).run Tryd.prog w = .ok (.slice (some ⟨w.heap.size, 0, none⟩) d.length c) W' ∧ Sees W' (.slice (some ⟨w.heap.size, 0, none⟩) d.length c) d ∧ Below w.heap.size w W' := by
  have hz : (strOfNums d).size = d.length := strOfNums_size d
  have hr := run_bytes_of_string (P := Tryd.prog) w 9 26 5 (strOfNums d) Tryd.underlying9 Tryd.underlying26 Tryd.underlying5
  rw [hz] at hr
  have hcap := grownCap_ge w d.length 0 5
  have hcm := grownCap_le_maxLen w d.length 0 5 (by unfold maxLen; omega)
  refine ⟨_, _, hr, ?_, ?_⟩
  · by_cases h0 : d.length = 0
    · exact .inl ⟨List.eq_nil_of_length_eq_zero h0, _, _, congrArg (fun n => Value.slice _ n _) h0, (fun e => by cases e), hcm⟩
    · refine .inr ⟨w.heap.size, 0, _, rfl, by omega, hcap, hcm, fun i hi => ?_⟩
      rw [Nat.zero_add]
      refine (cell_of_row _ _ _ _ _ _ (heap_alloc_new w.drew _)).trans ?_
      have hdi := hd d[i] (List.getElem_mem hi)
      unfold bytesRow
      rw [Array.getElem?_append_left (by simp only [Array.size_map]; show i < (strOfNums d).size; omega), Array.getElem?_map]
      simp only [strOfNums, List.getElem?_toArray, List.getElem?_map, List.getElem?_eq_getElem hi, Option.map_some, List.getD_eq_getElem?_getD, Option.getD_some, UInt8.toNat_ofNat', Option.some.injEq, Value.int.injEq, true_and]
      omega
  · exact ((Below.refl _ w).drew).alloc (Nat.le_refl _) _
/-- A reader of the program, since the world w0: only it has turned. -/
structure Rd (B : Nat) (w0 W : World) (b : Nat) (v : Value) (xs : List Int) (s : St) : Prop where
  r : Re B W b v xs s.1 s.2
  u : Upd w0 W (fun k => k = b)
theorem Rd.step {B : Nat} {w0 W W' : World} {b : Nat} {v : Value} {xs : List Int} {s s' : St} (h : Rd B w0 W b v xs s) (hp : RePost B W W' b v xs s'.1 s'.2) : Rd B w0 W' b v xs s' :=
  ⟨hp.1, h.u.trans hp.2 (fun _ _ h => h)⟩
theorem Rd.below {B : Nat} {w0 W W' : World} {b : Nat} {v : Value} {xs : List Int} {s : St} (h : Rd B w0 W b v xs s) (hb : Below W.heap.size W W') : Rd B w0 W' b v xs s :=
  ⟨h.r.upd (Upd.ofBelow (S := fun _ => False) hb) (fun h => h) (fun _ _ h => h), h.u.trans (Upd.ofBelow (S := fun _ => False) hb) (fun _ _ h => h.elim)⟩
theorem Rd.upd {B : Nat} {w0 W W' : World} {b : Nat} {v : Value} {xs : List Int} {s : St} {S : Nat → Prop} (h : Rd B w0 W b v xs s) (hu : Upd W W' S) (h1 : ¬ S b) (h2 : ∀ k, v.ownBlock = some k → ¬ S k) (h3 : ∀ k, k < w0.heap.size → ¬ S k) : Rd B w0 W' b v xs s :=
  ⟨h.r.upd hu h1 h2, h.u.trans hu (fun j hj hs => absurd hs (h3 j hj))⟩
theorem yInt {B b : Nat} {w0 W : World} {v : Value} {xs : List Int} {s : St} (h : Rd B w0 W b v xs s) :
    Calls Tryd.prog 68 #[ptr b] W fun e w' => e = .returned (iv (rI xs s).1) ∧ Rd B w0 w' b v xs (rI xs s).2 ∧ Upd W w' (fun k => k = b) := by
  refine (rInt B b v xs s.1 s.2 W h.r).mono ?_
  rintro e w' ⟨rfl, hp⟩
  exact ⟨rfl, h.step (s' := (rI xs s).2) hp, hp.2⟩
theorem yU8 {B b : Nat} {w0 W : World} {v : Value} {xs : List Int} {s : St} (h : Rd B w0 W b v xs s) :
    Calls Tryd.prog 66 #[ptr b] W fun e w' => e = .returned (iv (rU xs s).1) ∧ Rd B w0 w' b v xs (rU xs s).2 ∧ Upd W w' (fun k => k = b) := by
  refine (rU8 B b v xs s.1 s.2 W h.r).mono ?_
  rintro e w' ⟨rfl, hp⟩
  exact ⟨rfl, h.step (s' := (rU xs s).2) hp, hp.2⟩
theorem yErr {B b : Nat} {w0 W : World} {v : Value} {xs : List Int} {s : St} (h : Rd B w0 W b v xs s) :
    Calls Tryd.prog 67 #[ptr b] W fun e w' => e = .returned (iv s.2) ∧ W = w' := rErr B b v xs s.1 s.2 W h.r
theorem yLeft {B b : Nat} {w0 W : World} {v : Value} {xs : List Int} {s : St} (h : Rd B w0 W b v xs s) :
    Calls Tryd.prog 74 #[ptr b] W fun e w' => e = .returned (iv ((xs.length : Int) - s.1)) ∧ ∃ n, w' = W.drewN n := left_any B b v xs s.1 s.2 W h.r
set_option maxRecDepth 100000 in
theorem readInt_any {B b : Nat} {w0 W : World} {v : Value} {xs : List Int} {s : St} (h : Rd B w0 W b v xs s) :
    Calls Tryd.prog 72 #[ptr b] W fun e w' => e = .returned (iv (rI xs s).1) ∧ Rd B w0 w' b v xs (rI xs s).2 ∧ Upd W w' (fun k => k = b) := by
  have hc := yInt h
  clear h
  go_enter Tryd.func72, Tryd.ntmps72
  go_wp2_with (go_at_call 68; refine hc.mono ?_; rintro e w2 ⟨rfl, h1, h2⟩)
  go_ret
  exact ⟨rfl, h1, h2⟩
theorem Re.big {B : Nat} {w : World} {b : Nat} {v : Value} {xs : List Int} {a : Nat} {e : Int} (h : Re B w b v xs a e) : xs.length ≤ 1000000 ∧ isB xs := ⟨h.small, h.bytes⟩
set_option maxRecDepth 100000 in
theorem readData_any {B b : Nat} {w0 W : World} {v : Value} {xs : List Int} {s : St} (h : Rd B w0 W b v xs s) :
    Calls Tryd.prog 73 #[ptr b] W fun e w' => ∃ v', e = .returned v' ∧ Bs (fun k => W.heap.size ≤ k) w' v' (rT xs s).1 ∧ Rd B w0 w' b v xs (rT xs s).2 ∧ Upd W w' (fun k => k = b) := by
  have hc : Calls Tryd.prog 86 #[ptr b] W fun e w' => e = .returned (.string (strOfNums (rT xs s).1)) ∧ Hid (Rd B w0 w' b v xs (rT xs s).2 ∧ Upd W w' (fun k => k = b)) ∧ ∃ c W', (convert 9 26 (.string (strOfNums (rT xs s).1))).run Tryd.prog w' = .ok (.slice (some ⟨w'.heap.size, 0, none⟩) (rT xs s).1.length c) W' ∧ Hid (Sees W' (.slice (some ⟨w'.heap.size, 0, none⟩) (rT xs s).1.length c) (rT xs s).1 ∧ Below w'.heap.size w' W') := by
    refine (rText B b v xs s.1 s.2 W h.r).mono ?_
    rintro e w' ⟨rfl, hp⟩
    obtain ⟨c, W', h1, h2, h3⟩ := conv_back (rT_isB h.r.bytes s) (Nat.le_trans (rT_len xs s) h.r.small) w'
    exact ⟨rfl, ⟨h.step (s' := (rT xs s).2) hp, hp.2⟩, c, W', h1, h2, h3⟩
  clear h
  go_enter Tryd.func73, Tryd.ntmps73
  go_wp2_with (go_at_call 86; refine hc.mono ?_; rintro e w2 ⟨rfl, h1, c, w3, h2, h3⟩)
  go_ret
  obtain ⟨h4, h5⟩ := h3.out
  refine ⟨_, rfl, ⟨h4, fun k hk _ => ?_⟩, h1.out.1.below h5, h1.out.2.trans (Upd.ofBelow (S := fun _ => False) h5) (fun _ _ h => h.elim)⟩
  have : w2.heap.size = k := by simpa [Value.ownBlock] using hk
  have := h1.out.2.size
  omega
end Go.Proofs.YtamgoknoapcnjaaDoor
