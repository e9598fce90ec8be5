/- What a text, a new writer, its bytes and a frame are: pen.Text, pen.NewWriter, pen.Done, pen.Frame. -/
import Derived.Test.YtamgoknoapcnjaaDoorWrite
namespace Go.Proofs.YtamgoknoapcnjaaDoor
open Go Go.RowKit
/-- A string's bytes, as numbers. -/
def strB (s : ByteArray) : List Int := s.data.toList.map fun b => (b.toNat : Int)
theorem strB_len (s : ByteArray) : (strB s).length = s.size := by simp [strB]
theorem byteCells_eq (s : ByteArray) : byteCells s = u8s (strB s) := by simp [byteCells, strB, u8s]

theorem wpost_name {B : Nat} {w w1 : World} {b : Nat} {v : Value} {xs : List Int} {n : Int} (h : WrPost B w w1 b v (xs ++ (be n).drop 4)) :
    ∃ ys v1, Hid (ys = xs ++ (be n).drop 4) ∧ ys.length ≤ xs.length + 4 ∧ Wr B w1 b v1 ys ∧ Upd w w1 (fun k => k = b ∨ some k = v.ownBlock) ∧ (v1.ownBlock = v.ownBlock ∨ ∃ g, w.heap.size ≤ g ∧ v1.ownBlock = some g) := by
  obtain ⟨v1, h1, h2, h3⟩ := h
  exact ⟨_, v1, rfl, by simp [be_len], h1, h2, h3⟩
set_option maxRecDepth 100000 in
set_option maxHeartbeats 1000000 in
theorem wText (B : Nat) (b : Nat) (v : Value) (xs : List Int) (s : ByteArray) (w : World) (hw : Wr B w b v xs) (hl : xs.length ≤ 900000) (hs : s.size ≤ 30000) (hB : B ≤ w.heap.size) :
    Calls Tryd.prog 57 #[.pointer (some ⟨b, 0, none⟩), .string s] w fun e w' => e = .returned (.tuple #[]) ∧ WrPost B w w' b v (xs ++ ((be (IntKind.u64.wrap s.size)).drop 4 ++ strB s)) := by
  obtain ⟨i0, hi, hz0, hz1, hz2⟩ := info_parts info5
  go_enter Tryd.func57, Tryd.ntmps57
  go_wp2_with (first | (go_at_call 59; refine (wU32 B b v xs _ _ hw (by omega) hB).mono ?_; rintro e w1 ⟨rfl, hp⟩; obtain ⟨ys, v1, HY, hyl, hw1, hu1, ho1⟩ := wpost_name hp; have hc := hw1.cell; have hf := hw1.free) | (at_builtin; refine wpList_app _ rfl (.tmp 12) (.tmp 13) 26 9 rfl B 5 i0 Tryd.underlying26 hi hz0 hz1 hz2 v1 ys.length (u8s ys) rfl hw1.own _ rfl _ _ (Src.ofString _ Tryd.underlying9 s) (by omega) (by have := hu1.size; omega) ?_; intro v' w' h1 h2 h3 h4; obtain ⟨ao', c', rfl⟩ := owns_form h1; have hc' := (h2.cell (p := ⟨b, 0, none⟩) hw1.lt (fun e => hw1.ne e.symm)).trans hc; have hf' := (h2.frozen (p := ⟨b, 0, none⟩) hw1.lt (fun e => hw1.ne e.symm)).trans hf))
  go_end0
  refine ⟨rfl, WrPost.next hu1 ho1 ?_⟩
  rw [byteCells_eq] at h1
  have h := wr_stored (ys := strB s) hw1 (Below.refl _ _) (strB_len s) h1 h2 h3
  have e : ys ++ strB s = xs ++ (List.drop 4 (be (IntKind.u64.wrap ↑s.size)) ++ strB s) := by rw [HY.out, List.append_assoc]
  rw [e] at h
  exact h

set_option maxRecDepth 100000 in
set_option maxHeartbeats 1000000 in
theorem wNew (w : World) :
    Calls Tryd.prog 24 #[] w fun e w' => e = .returned (.pointer (some ⟨w.heap.size, 0, none⟩)) ∧ w' = w.alloc (.cells #[.slice none 0 0] 99) := by
  go_enter Tryd.func24, Tryd.ntmps24
  go_wp2
  go_ret
  exact ⟨rfl, rfl⟩
theorem sees_own {B : Nat} {w : World} {v : Value} {xs : List Int} (h : w.ownsRow B 5 1 v xs.length (u8s xs)) : Sees w v xs := by
  rcases h.2 with ⟨rfl, h0⟩ | ⟨g, cap, cur, rfl, hb, hg, hnc, hcm, hcs, ht⟩
  · exact .inl ⟨List.eq_nil_of_length_eq_zero h0, _, _, rfl, fun _ => rfl, by decide⟩
  · by_cases h0 : xs.length = 0
    · exact .inl ⟨List.eq_nil_of_length_eq_zero h0, some ⟨g, 0, none⟩, cap, by rw [h0], (fun e => by cases e), hcm⟩
    · refine .inr ⟨g, 0, cap, rfl, by omega, hnc, hcm, fun i hi => ?_⟩
      have := h.cellAt i (by omega)
      rw [Nat.zero_add, this]
      simp [u8s, List.getD_eq_getElem?_getD, List.getElem?_eq_getElem hi]
set_option maxRecDepth 100000 in
set_option maxHeartbeats 1000000 in
theorem wDone (B : Nat) (b : Nat) (v : Value) (xs : List Int) (w : World) (hw : Wr B w b v xs) (hl : xs.length ≤ 1000000) :
    Calls Tryd.prog 27 #[.pointer (some ⟨b, 0, none⟩)] w fun e w' => ∃ v', e = .returned v' ∧ w'.ownsRow w.heap.size 5 1 v' xs.length (u8s xs) ∧ Below w.heap.size w w' := by
  have hc := hw.cell
  have hsee := sees_own hw.own
  go_enter Tryd.func27, Tryd.ntmps27
  go_wp2_with (go_at_call 61; refine (clone_any _ xs _ hsee hl).mono ?_; rintro e w1 ⟨v', rfl, h1, h2⟩)
  go_ret
  exact ⟨_, rfl, h1, h2⟩

theorem Sees.form {w : World} {v : Value} {zs : List Int} (h : Sees w v zs) : ∃ ao cap, v = .slice ao zs.length cap ∧ cap ≤ maxLen ∧ zs.length ≤ cap := by
  rcases h with ⟨rfl, ao, cap, rfl, _, h⟩ | ⟨b, off, cap, rfl, _, h1, h2, _⟩
  · exact ⟨_, _, rfl, h, Nat.zero_le _⟩
  · exact ⟨_, _, rfl, h2, h1⟩
theorem Upd.belowWr {B : Nat} {w w' : World} {b : Nat} {v : Value} {xs : List Int} (hu : Upd w w' (fun k => k = b ∨ some k = v.ownBlock)) (hw : Wr B w b v xs) (hB : B ≤ w.heap.size) : Below B w w' :=
  hu.below hB (fun k hk h => by
    rcases h with h | h
    · have := hw.base; omega
    · have := (hw.own.lt k h.symm).1; omega)
theorem wrap_small (n : Nat) (h : n < 9223372036854775808) : IntKind.u64.wrap (n : Int) = (n : Int) := by rw [IntKind.wrap_u64]; omega
theorem crc_lt (zs : List Int) : crc zs < 4294967296 := by unfold crc; omega
/-- A frame, as numbers. -/
def frameB (zs : List Int) : List Int := (be zs.length).drop 4 ++ ((be (crc zs : Nat)).drop 4 ++ zs)

set_option maxRecDepth 100000 in
set_option maxHeartbeats 1000000 in
theorem frame_any (v : Value) (zs : List Int) (w : World) (hT : HasTab w) (hb : isB zs) (hl : zs.length ≤ 100000) (hv : Sees w v zs) :
    Calls Tryd.prog 26 #[v] w fun e w' => ∃ v', e = .returned v' ∧ w'.ownsRow w.heap.size 5 1 v' (frameB zs).length (u8s (frameB zs)) ∧ Below w.heap.size w w' := by
  obtain ⟨i0, hi, hz0, hz1, hz2⟩ := info_parts info5
  obtain ⟨ao, cap, rfl, _, _⟩ := hv.form
  go_enter Tryd.func26, Tryd.ntmps26
  go_wp2_with (refine wpList_make_own _ rfl _ _ 26 rfl w.heap.size 5 i0 (.int .u8 0) 1 Tryd.underlying26 hi hz0 hz1 .i64 .i64 _ (8 + zs.length) rfl rfl (by omega) (by rw [hz2]; omega) (by unfold maxLen; omega) (Nat.le_refl _) ?_; intro w1 h1 h2)
  have hs1 := h2.size
  have hlt1 : w.heap.size < w1.heap.size := (h1.lt _ rfl).2
  have hb1 : Below w.heap.size w w1 := (Below.refl _ _).grown h2 (Nat.le_refl _) (fun k hk => by cases hk)
  have hw0 : Wr w.heap.size (w1.alloc (.cells #[.slice (some ⟨w.heap.size, 0, none⟩) 0 (8 + zs.length)] 99)) w1.heap.size (.slice (some ⟨w.heap.size, 0, none⟩) 0 (8 + zs.length)) [] :=
    ⟨by simp, by simp, h1.alloc _, fun e => by have := Option.some.inj (show some w.heap.size = some w1.heap.size from e); omega, hs1⟩
  refine (wU32 _ _ _ _ _ _ hw0 (by simp) (by simp; omega)).mono ?_
  rintro e w2 ⟨rfl, hp⟩
  obtain ⟨ys, v1, HY, hyl, hw1, hu1, ho1⟩ := wpost_name hp
  have hb2 : Below w.heap.size w w2 := (hb1.alloc hs1 _).trans (hu1.belowWr hw0 (by simp; omega))
  clear hp h1 h2 hw0 hu1 ho1
  simp only [List.length_nil] at hyl
  have hcrc := crc_lt zs
  go_wp2_with (go_at_call 60; refine (sum_any _ zs _ (hT.below hb2) hb (by omega) (hv.below hb2)).mono ?_; rintro e w3 ⟨rfl, rfl⟩)
  refine (wU32 _ _ _ _ _ _ hw1 (by omega) (by have := hb2.size; omega)).mono ?_
  rintro e w4 ⟨rfl, hp⟩
  obtain ⟨ts, v2, HZ, htl, hw2, hu2, ho2⟩ := wpost_name hp
  have hb3 : Below w.heap.size w w4 := hb2.trans (hu2.belowWr hw1 (by have := hb2.size; omega))
  have hsrc := Src_sees (hv.below hb3)
  have hc2 := hw2.cell
  clear hp hw1 hb2 hb1 hu2 ho2
  go_wp2_with (at_builtin; refine wpList_app _ rfl (.tmp 17) (.tmp 18) 26 26 rfl w.heap.size 5 i0 Tryd.underlying26 hi hz0 hz1 hz2 v2 ts.length (u8s ts) rfl hw2.own _ rfl _ _ hsrc (by omega) (by have := hb3.size; omega) ?_; intro v' w' h1 h2 h3 h4)
  go_ret
  refine ⟨_, rfl, ?_, ?_⟩
  · have e : frameB zs = ts ++ zs := by
      rw [HZ.out, HY.out, wrap_small _ (by omega), wrap_small _ (by omega), List.nil_append, List.append_assoc]; rfl
    rw [e, List.length_append]
    simpa using h1
  · exact hb3.trans (h2.below (by have := hb3.size; omega) (fun k hk h => by have := (hw2.own.lt k h.symm).1; omega))
theorem frame_known : frameB [49, 50, 51, 52, 53, 54, 55, 56, 57] = [0, 0, 0, 9, 203, 244, 57, 38, 49, 50, 51, 52, 53, 54, 55, 56, 57] := by
  unfold frameB
  rw [crc_known]
  decide
end Go.Proofs.YtamgoknoapcnjaaDoor
