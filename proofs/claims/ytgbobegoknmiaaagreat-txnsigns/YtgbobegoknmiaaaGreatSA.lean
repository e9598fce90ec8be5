/- TxnSigns: the store of three puts. -/
import Derived.Test.YtgbobegoknmiaaaGreatTK
namespace Go.Proofs.YtgbobegoknmiaaaGreat
open Go Go.RowKit

def sOp (a : ByteArray) : Opd := ⟨0, ⟨#[107]⟩, ⟨#[]⟩, a, 4, 0⟩
structure SQ (w0 w : World) (s : Nat) (g : Sg) (S : Sto) (a : ByteArray) (i : Nat) : Prop where
  q : Q9 w0 w s i S g
  rev : S.rev = i
  ks : S.ks.length ≤ i
  nth : S.nth ≤ i
  no : S.kh ⟨#[110, 111]⟩ = []
  at_ : (i = 0 ∧ thereH (S.kh ⟨#[107]⟩) = none) ∨ thereH (S.kh ⟨#[107]⟩) = some ⟨⟨#[107]⟩, a, 1, i, i, 4⟩
theorem SQ.below {w0 w w' : World} {s : Nat} {g : Sg} {S : Sto} {a : ByteArray} {i : Nat} (H : SQ w0 w s g S a i) (hb : Below w.heap.size w w') : SQ w0 w' s g S a i := ⟨H.q.below hb, H.rev, H.ks, H.nth, H.no, H.at_⟩
theorem SQ.put {w0 w w1 : World} {s : Nat} {g : Sg} {S : Sto} {a : ByteArray} {i : Nat} (H : SQ w0 w s g S a i) (hi : i < 3) (ha : a.size ≤ 1000) (B q r : Nat) (hw1 : w1 = ((w.alloc (.cells #[.int .i64 4] 3)).alloc (.cells #[.slice (some ⟨B, 0, none⟩) 1 1] 47)).alloc (.cells #[.int .i64 0, .string ⟨#[107]⟩, .string ⟨#[]⟩, .string a, .int .i64 4, .int .i64 0] 57)) (hB : B = w.heap.size) (hq : q = B + 1) (hr : r = B + 1 + 1) :
    Calls Tryz.prog 16 #[ptr s, .iface 45 (ptr q), .agg #[.slice none 0 0, .slice (some ⟨r, 0, none⟩) 1 1, .slice none 0 0]] w1 fun e w' => ∃ v, e = .returned v ∧ ∃ S' g', Hid (SQ w0 w' s g' S' a (i + 1)) := by
  obtain ⟨a1, h1⟩ : ∃ a1, a1 = w.alloc (.cells #[.int .i64 4] 3) := ⟨_, rfl⟩
  rw [← h1] at hw1
  obtain ⟨a2, h2⟩ : ∃ a2, a2 = a1.alloc (.cells #[.slice (some ⟨B, 0, none⟩) 1 1] 47) := ⟨_, rfl⟩
  rw [← h2] at hw1
  have s1 : a1.heap.size = B + 1 := by rw [h1, hB]; simp
  have s2 : a2.heap.size = B + 1 + 1 := by rw [h2]; simp [s1]
  have s3 : w1.heap.size = B + 3 := by rw [hw1]; simp [s2]
  have hb : Below w.heap.size w w1 := by
    rw [hw1, h2, h1]
    exact (((Below.refl _ w).alloc (Nat.le_refl _) _).alloc (by rw [← h1]; omega) _).alloc (by rw [← h1, ← h2]; omega) _
  have r1 : w1.heap[B]? = some (.cells #[.int .i64 4] 3 (0, 0)) := by
    rw [hw1]; refine (heap_alloc_old a2 _ (by omega)).trans ?_; rw [h2]; refine (heap_alloc_old a1 _ (by omega)).trans ?_; rw [h1, hB]; exact row_alloc w _ _
  have r2 : w1.heap[q]? = some (.cells #[.slice (some ⟨B, 0, none⟩) 1 1] 47 (0, 0)) := by
    rw [hw1]; refine (heap_alloc_old a2 _ (by omega)).trans ?_; rw [h2, hq, ← s1]; exact row_alloc a1 _ _
  have r3 : w1.heap[r]? = some (.cells #[.int .i64 0, .string ⟨#[107]⟩, .string ⟨#[]⟩, .string a, .int .i64 4, .int .i64 0] 57 (0, 0)) := by rw [hw1, hr, ← s2]; exact row_alloc a2 _ _
  have hft : ∀ k, ftS s g k → k < B := fun k hk => by have := H.q.lt hk; omega
  have hLs : LsP q [4] (fun k => k = B) w1 := ⟨some ⟨B, 0, none⟩, 1, r2, fun j x hj => by
    have hj0 : j = 0 := by have := (List.getElem?_eq_some_iff.1 hj).1; simp at this; exact this
    subst hj0
    obtain rfl : 4 = x := by simpa using hj
    exact ⟨B, 0, rfl, rfl, by omega, cell_of_row _ _ _ _ _ _ r1⟩⟩
  have hQ := H.q.below hb
  have h4 := H.rev
  have h5 := H.ks
  have h6 := H.nth
  have hv : HasT (fun k => k < w1.heap.size ∧ ¬ ftS s g k) w1 (.slice none 0 0) (.slice (some ⟨r, 0, none⟩) 1 1) (.slice none 0 0) ⟨[], [sOp a], []⟩ := ⟨IFs.nil _ _, ops_one r3 ⟨by omega, fun e => by have := hft r e; omega⟩ (by decide) (by decide) (by omega), OPs.nil _ _⟩
  have hop : opE (sOp a) = 0 := by
    unfold opE
    rw [if_pos (show (sOp a).kind = 0 from rfl), if_neg (by rintro (h | h); exact h rfl; exact absurd h (by decide : ¬ (4 : Int) < 0)), if_neg (show ¬ isK (sOp a).key = false from (by decide : ¬ isK ⟨#[107]⟩ = false)), if_neg (by show ¬ 4096 < a.size; omega)]
  refine (hQ.first [4] (fun k => k = B) (by simp) hLs (fun k hk => by rcases hk with rfl | rfl; exact ⟨by omega, fun e => by have := hft _ e; omega⟩; exact ⟨by omega, fun e => by have := hft _ e; omega⟩) [] (sOp a) [] _ _ _ hv ⟨by simp, rfl⟩ rfl hop ⟨rfl, rfl, (by decide : ¬ (4 : Int) < 0), by show ¬ 4096 < a.size; omega, by omega, .inr (by decide : decide ((4 : Int) ∈ ([4] : List Int)) = true)⟩ ⟨by simp, rfl, rfl⟩ (by omega) (by omega) (by omega)).mono ?_
  rintro e w' ⟨p, c, rfl, S', g', HG⟩
  obtain ⟨G, t1, t2, t3, t4, t5, t6⟩ := HG.out
  refine ⟨_, rfl, S', g', G.q, by omega, by omega, by omega, (t2 ⟨#[110, 111]⟩ (fun e => by have : (⟨#[110, 111]⟩ : ByteArray).size = (⟨#[107]⟩ : ByteArray).size := congrArg ByteArray.size e; exact absurd this (by decide))).trans H.no, .inr ?_⟩
  have t1' : thereH (S'.kh ⟨#[107]⟩) = some (newKV S (sOp a)) := t1
  rw [t1']
  unfold newKV
  rcases H.at_ with ⟨h0, h7⟩ | h7
  · rw [show (sOp a).key = ⟨#[107]⟩ from rfl, h7, h4, h0]
    rfl
  · rw [show (sOp a).key = ⟨#[107]⟩ from rfl, h7, h4]
    rfl
/-- Whether one comparison holds, asked of a row that was just built. -/
theorem SQ.holds {w0 w w1 : World} {s : Nat} {g : Sg} {S : Sto} {a : ByteArray} {i : Nat} (H : SQ w0 w s g S a i) (hi : i ≤ 3) (hb : Below w.heap.size w w1) (k x : ByteArray) (t sg n : Int) (hk : k.size ≤ 1000) (hx : x.size ≤ 100000) :
    Calls Tryz.prog 14 #[ptr s, .slice (some ⟨w1.heap.size, 0, none⟩) 1 1] (w1.alloc (.cells #[.string k, .int .i64 t, .int .i64 sg, .int .i64 n, .string x] 55)) fun e w' => e = .returned (.bool (holdsC S ⟨k, t, sg, n, x⟩)) ∧ Below w1.heap.size w1 w' := by
  have hba : Below w1.heap.size w1 (w1.alloc (.cells #[.string k, .int .i64 t, .int .i64 sg, .int .i64 n, .string x] 55)) := (Below.refl _ _).alloc (Nat.le_refl _) _
  obtain ⟨o, hst⟩ := ((H.q.below hb).below hba).st
  refine (Holds_any (Z := fun _ => True) hst (by omega) [⟨k, t, sg, n, x⟩] _ (ifs_one (row_alloc w1 _ _) trivial (by omega) (by omega)) (by simp)).mono ?_
  rintro e w' ⟨rfl, hb'⟩
  exact ⟨ret_bool (by simp), hba.trans (hb'.mono (by simp))⟩
theorem SQ.zero {w0 w : World} {s : Nat} {g : Sg} {S : Sto} {a : ByteArray} {i : Nat} (H : SQ w0 w s g S a i) (hi : i ≤ 3) : Calls Tryz.prog 14 #[ptr s, .slice none 0 0] w fun e w' => e = .returned (.bool true) ∧ Below w.heap.size w w' := by
  obtain ⟨o, hst⟩ := H.q.st
  exact Holds_any (Z := fun _ => True) hst (by omega) [] _ (IFs.nil _ _) (by simp)
/-- Signs. -/
def sgn (sg r : Int) : Bool := if sg = 0 then decide (r = 0) else if sg = 1 then !decide (r = 0) else if sg = 2 then decide (r < 0) else if sg = 3 then decide (0 < r) else false
theorem SQ.val {w0 w : World} {s : Nat} {g : Sg} {S : Sto} {a : ByteArray} (H : SQ w0 w s g S a 3) (sg : Int) (b : ByteArray) : holdsC S ⟨⟨#[107]⟩, 4, sg, 0, b⟩ = sgn sg (cmpT a b) := by
  have h : thereH (S.kh ⟨#[107]⟩) = some ⟨⟨#[107]⟩, a, 1, 3, 3, 4⟩ := H.at_.resolve_left (fun h => absurd h.1 (by decide))
  unfold holdsC
  dsimp only
  rw [h]
  rfl
theorem SQ.num {w0 w : World} {s : Nat} {g : Sg} {S : Sto} {a : ByteArray} (H : SQ w0 w s g S a 3) (sg n : Int) : holdsC S ⟨⟨#[107]⟩, 0, sg, n, ⟨#[]⟩⟩ = sgn sg (cmpN 3 n) ∧ holdsC S ⟨⟨#[107]⟩, 1, sg, n, ⟨#[]⟩⟩ = sgn sg (cmpN 1 n) ∧ holdsC S ⟨⟨#[107]⟩, 2, sg, n, ⟨#[]⟩⟩ = sgn sg (cmpN 3 n) ∧ holdsC S ⟨⟨#[107]⟩, 3, sg, n, ⟨#[]⟩⟩ = sgn sg (cmpN 4 n) := by
  have h : thereH (S.kh ⟨#[107]⟩) = some ⟨⟨#[107]⟩, a, 1, 3, 3, 4⟩ := H.at_.resolve_left (fun h => absurd h.1 (by decide))
  unfold holdsC
  dsimp only
  rw [h]
  exact ⟨rfl, rfl, rfl, rfl⟩
theorem SQ.none_num {w0 w : World} {s : Nat} {g : Sg} {S : Sto} {a : ByteArray} (H : SQ w0 w s g S a 3) (sg n : Int) : holdsC S ⟨⟨#[110, 111]⟩, 0, sg, n, ⟨#[]⟩⟩ = sgn sg (cmpN 0 n) ∧ holdsC S ⟨⟨#[110, 111]⟩, 1, sg, n, ⟨#[]⟩⟩ = sgn sg (cmpN 0 n) ∧ holdsC S ⟨⟨#[110, 111]⟩, 2, sg, n, ⟨#[]⟩⟩ = sgn sg (cmpN 0 n) ∧ holdsC S ⟨⟨#[110, 111]⟩, 3, sg, n, ⟨#[]⟩⟩ = sgn sg (cmpN 0 n) := by
  unfold holdsC
  dsimp only
  rw [H.no]
  exact ⟨rfl, rfl, rfl, rfl⟩
end Go.Proofs.YtgbobegoknmiaaaGreat
