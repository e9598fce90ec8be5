/- Pieces that came in; 'few' of them; what a writer is given. -/
import Derived.Test.YtjcdjignfjkgaaaDoorRefUnframe
import Derived.Deep.LoopGhost
namespace Go.Proofs.YtjcdjignfjkgaaaDoor
open Go Go.RowKit
/-- A piece: its kind, its number, its text. -/
abbrev Pc := Int × Int × ByteArray
def noPc : Pc := (0, 0, ByteArray.empty)
/-- A slice value through which pieces are seen. -/
def SeesP (w : World) (v : Value) (ps : List Pc) : Prop :=
  (ps = [] ∧ ∃ ao cap, v = .slice ao 0 cap) ∨
  ∃ b off cap, v = .slice (some ⟨b, off, none⟩) ps.length cap ∧ 0 < ps.length ∧ b < w.heap.size ∧ ∀ i, i < ps.length →
    w.cell? ⟨b, off + i * 3, none⟩ = some (.int .i64 (ps.getD i noPc).1) ∧ w.cell? ⟨b, off + i * 3 + 1, none⟩ = some (.int .i64 (ps.getD i noPc).2.1) ∧ w.cell? ⟨b, off + i * 3 + 2, none⟩ = some (.string (ps.getD i noPc).2.2) ∧
    (-9223372036854775808 ≤ (ps.getD i noPc).2.1 ∧ (ps.getD i noPc).2.1 ≤ 9223372036854775807) ∧ (ps.getD i noPc).2.2.size ≤ maxLen
theorem SeesP.form {w : World} {v : Value} {zs : List Pc} (h : SeesP w v zs) : ∃ ao cap, v = .slice ao zs.length cap := by
  rcases h with ⟨rfl, ao, cap, rfl⟩ | ⟨b, off, cap, rfl, _⟩ <;> exact ⟨_, _, rfl⟩
theorem SeesP.below {w w' : World} {v : Value} {ps : List Pc} (h : SeesP w v ps) (hb : Below w.heap.size w w') : SeesP w' v ps := by
  rcases h with h | ⟨b, off, cap, rfl, h0, hl, hc⟩
  · exact .inl h
  · refine .inr ⟨b, off, cap, rfl, h0, Nat.lt_of_lt_of_le hl hb.size, fun i hi => ?_⟩
    obtain ⟨c1, c2, c3, c4⟩ := hc i hi
    exact ⟨(hb.cell (p := ⟨b, _, none⟩) hl).trans c1, (hb.cell (p := ⟨b, _, none⟩) hl).trans c2, (hb.cell (p := ⟨b, _, none⟩) hl).trans c3, c4⟩
theorem SeesP.at {w : World} {a : Option Addr} {cap : Nat} {ps : List Pc} (h : SeesP w (.slice a ps.length cap) ps) {j : Nat} (hj : j < ps.length) :
    ∃ b off, a = some ⟨b, off, none⟩ ∧ b < w.heap.size ∧ w.cell? ⟨b, off + j * 3, none⟩ = some (.int .i64 (ps.getD j noPc).1) ∧ w.cell? ⟨b, off + j * 3 + 1, none⟩ = some (.int .i64 (ps.getD j noPc).2.1) ∧ w.cell? ⟨b, off + j * 3 + 2, none⟩ = some (.string (ps.getD j noPc).2.2) ∧
      (-9223372036854775808 ≤ (ps.getD j noPc).2.1 ∧ (ps.getD j noPc).2.1 ≤ 9223372036854775807) ∧ (ps.getD j noPc).2.2.size ≤ maxLen := by
  rcases h with ⟨h, _⟩ | ⟨b, off, c, he, _, hb, hc⟩
  · subst h; simp at hj
  · cases he; exact ⟨b, off, rfl, hb, hc j hj⟩
theorem ret_bool {a b : Bool} (h : a = b) : Ending.returned (.bool a) = .returned (.bool b) := by rw [h]
/-- The pieces are few. -/
def fewB (ps : List Pc) : Bool := ps.all (fun p => decide (p.2.2.size ≤ 500)) && decide (ps.length ≤ 40)

set_option maxHeartbeats 400000 in
theorem few_any (v : Value) (ps : List Pc) (w : World) (hv : SeesP w v ps) (hl : ps.length ≤ maxLen) :
    Calls Tryd.prog 10 #[v] w fun e w' => e = .returned (.bool (fewB ps)) ∧ w = w' := by
  obtain ⟨a, cap, rfl⟩ := hv.form
  unfold maxLen at hl
  have HV := Hid.mk' hv
  clear hv
  go_enter Tryd.func10, Tryd.ntmps10
  go_wp2
  go_loop [3] (fun i => ∃ k : Nat, k ≤ ps.length ∧ i = .int .i64 k ∧ (ps.take k).all (fun p => decide (p.2.2.size ≤ 500)) = true) (fun i => ps.length - (intOf i).toNat)
  case atStart => exact ⟨0, Nat.zero_le _, rfl, rfl⟩
  case round =>
    obtain ⟨k, hk, rfl, hall⟩ := hrel
    have HALL := Hid.mk' hall
    clear hall
    by_cases hlt : k < ps.length
    · obtain ⟨b, off, rfl, _, _, _, c3, _, hsm⟩ := HV.out.at hlt
      have HP : Hid (ps.getD k noPc = ps[k]) := by show _ = _; simp [List.getD_eq_getElem?_getD, List.getElem?_eq_getElem hlt]
      rw [HP.out] at c3 hsm
      unfold maxLen at hsm
      by_cases hs : ps[k].2.2.size ≤ 500
      · go_wp2
        go_round
        case rel => exact ⟨k + 1, by omega, by go_num, by rw [List.take_succ_eq_append_getElem hlt, List.all_append, HALL.out]; simpa using hs⟩
        case measure => simp [intOf]; omega
      · have HF : Hid (fewB ps = false) := by
          show _ = _
          have : ps.all (fun p => decide (p.2.2.size ≤ 500)) = false := by
            rw [List.all_eq_false]
            exact ⟨ps[k], List.getElem_mem hlt, by simpa using hs⟩
          rw [fewB, this]; rfl
        go_wp2
        go_ret
        exact ⟨ret_bool HF.out.symm, rfl⟩
    · have HF : Hid (fewB ps = decide ((ps.length : Int) ≤ 40)) := by
        show _ = _
        have := HALL.out
        rw [List.take_of_length_le (by omega)] at this
        rw [fewB, this, Bool.true_and]
        simp; omega
      go_wp2
      go_ret
      exact ⟨ret_bool HF.out.symm, rfl⟩

/-- A piece's bytes. -/
def pcB (p : Pc) : List Int :=
  if p.1.tmod 4 = 0 then (be (IntKind.u64.wrap p.2.1)).drop 7 else if p.1.tmod 4 = 1 then (be (IntKind.u64.wrap p.2.1)).drop 4 else if p.1.tmod 4 = 2 then (be (IntKind.u64.wrap p.2.1)).drop 0
  else (be (IntKind.u64.wrap p.2.2.size)).drop 4 ++ strB p.2.2
def encB (ps : List Pc) : List Int := ps.flatMap pcB
theorem encB_snoc (ps : List Pc) (p : Pc) : encB (ps ++ [p]) = encB ps ++ pcB p := by simp [encB]
theorem pcB_len {p : Pc} (h : p.2.2.size ≤ 500) : (pcB p).length ≤ 504 := by
  unfold pcB; split
  · simp [be_len]
  · split
    · simp [be_len]
    · split
      · simp [be_len]
      · simp [be_len, strB_len]; omega
theorem encB_len : ∀ (ps : List Pc), (∀ p ∈ ps, p.2.2.size ≤ 500) → (encB ps).length ≤ 504 * ps.length
  | [], _ => by simp [encB]
  | p :: ps, h => by
    have h1 := encB_len ps (fun q hq => h q (by simp [hq]))
    have h2 := pcB_len (h p (by simp))
    have e : encB (p :: ps) = pcB p ++ encB ps := by simp [encB]
    rw [e, List.length_append, List.length_cons]
    omega
theorem fewB_sizes {ps : List Pc} (h : fewB ps = true) : (∀ p ∈ ps, p.2.2.size ≤ 500) ∧ ps.length ≤ 40 := by
  simp only [fewB, Bool.and_eq_true, List.all_eq_true, decide_eq_true_eq] at h
  exact h

theorem pcB_0 {k n : Int} {t : ByteArray} (h : (k.tmod 4 == 0) = true) : pcB (k, n, t) = (be (IntKind.u64.wrap n)).drop 7 := by
  unfold pcB; rw [if_pos (by simpa using h)]
theorem pcB_1 {k n : Int} {t : ByteArray} (h0 : (k.tmod 4 == 0) = false) (h : (k.tmod 4 == 1) = true) : pcB (k, n, t) = (be (IntKind.u64.wrap n)).drop 4 := by
  unfold pcB; rw [if_neg (by simpa using h0), if_pos (by simpa using h)]
theorem pcB_2 {k n : Int} {t : ByteArray} (h0 : (k.tmod 4 == 0) = false) (h1 : (k.tmod 4 == 1) = false) (h : (k.tmod 4 == 2) = true) : pcB (k, n, t) = (be (IntKind.u64.wrap n)).drop 0 := by
  unfold pcB; rw [if_neg (by simpa using h0), if_neg (by simpa using h1), if_pos (by simpa using h)]
theorem pcB_3 {k n : Int} {t : ByteArray} (h0 : (k.tmod 4 == 0) = false) (h1 : (k.tmod 4 == 1) = false) (h : (k.tmod 4 == 2) = false) : pcB (k, n, t) = (be (IntKind.u64.wrap t.size)).drop 4 ++ strB t := by
  unfold pcB; rw [if_neg (by simpa using h0), if_neg (by simpa using h1), if_neg (by simpa using h)]

set_option maxRecDepth 100000 in
set_option maxHeartbeats 1000000 in
theorem write_any (B : Nat) (b : Nat) (v vl : Value) (xs : List Int) (ps : List Pc) (W w : World) (hw : Wr B w b v xs) (hl : xs.length ≤ 100000) (hB : B ≤ w.heap.size) (hv : SeesP W vl ps) (hbW : Below W.heap.size W w) (hWB : W.heap.size ≤ B) (hf : fewB ps = true) :
    Calls Tryd.prog 39 #[.pointer (some ⟨b, 0, none⟩), vl] w fun e w' => e = .returned (.tuple #[]) ∧ WrPost B w w' b v (xs ++ encB ps) := by
  obtain ⟨a, cap, rfl⟩ := hv.form
  obtain ⟨hsz, hlen⟩ := fewB_sizes hf
  have HV := Hid.mk' hv
  have HS := Hid.mk' hsz
  have H0 : Hid (WrPost B w w b v (xs ++ encB (ps.take 0))) := ⟨v, by simpa [encB] using hw, Upd.refl _ _, .inl rfl⟩
  clear hv hsz hf
  go_enter Tryd.func39, Tryd.ntmps39
  go_wp2
  go_loopg [4] ps.length (fun g i wx => ∃ k : Nat, k ≤ ps.length ∧ g = ps.length - k ∧ i = .int .i64 k ∧ WrPost B w wx b v (xs ++ encB (ps.take k)))
  case atStart => exact ⟨0, Nat.zero_le _, rfl, rfl, H0.out⟩
  case round =>
    obtain ⟨k, hk, hg, rfl, v1, hw1, hu1, ho1⟩ := hrel
    by_cases hlt : k < ps.length
    · obtain ⟨b1, off, rfl, hbl, c1, c2, c3, _, _⟩ := HV.out.at hlt
      have hbx : Below W.heap.size W wr := hbW.trans ((hu1.belowWr hw hB).mono hWB)
      have d1 := (hbx.cell (p := ⟨b1, off + k * 3, none⟩) hbl).trans c1
      have d2 := (hbx.cell (p := ⟨b1, off + k * 3 + 1, none⟩) hbl).trans c2
      have d3 := (hbx.cell (p := ⟨b1, off + k * 3 + 2, none⟩) hbl).trans c3
      have hyl : (encB (ps.take k)).length ≤ 504 * 40 := Nat.le_trans (encB_len _ (fun p hp => HS.out p (List.mem_of_mem_take hp))) (by simp; omega)
      have hpm : (ps.getD k noPc).2.2.size ≤ 500 := by
        have : ps.getD k noPc = ps[k] := by simp [List.getD_eq_getElem?_getD, List.getElem?_eq_getElem hlt]
        rw [this]; exact HS.out _ (List.getElem_mem hlt)
      have HE : Hid (encB (ps.take (k + 1)) = encB (ps.take k) ++ pcB (ps.getD k noPc)) := by
        show _ = _
        rw [List.take_succ_eq_append_getElem hlt, encB_snoc]
        simp [List.getD_eq_getElem?_getD, List.getElem?_eq_getElem hlt]
      have hB1 : B ≤ wr.heap.size := Nat.le_trans hB hu1.size
      have hyl2 : (xs ++ encB (ps.take k)).length ≤ 200000 := by simp; omega
      clear c1 c2 c3 hyl hbx
      generalize ps.getD k noPc = p at d1 d2 d3 HE hpm
      obtain ⟨kd, n, t⟩ := p
      have hpt : t.size ≤ 500 := hpm
      clear hpm
      generalize encB (ps.take k) = es at hw1 HE hyl2
      obtain ⟨ys, HY⟩ : ∃ ys : List Int, Hid (ys = xs ++ es) := ⟨_, Eq.refl (xs ++ es)⟩
      rw [← HY.out] at hw1 hyl2
      have HU := Hid.mk' hu1
      have HW := Hid.mk' hw1
      clear hu1 hw1
      go_wp2_with (first | (go_at_call 12; refine (wU8 _ _ _ _ _ _ HW.out (by omega) hB1).mono ?_; rintro e w3 ⟨rfl, hp⟩) | (go_at_call 14; refine (wU32 _ _ _ _ _ _ HW.out (by omega) hB1).mono ?_; rintro e w3 ⟨rfl, hp⟩) | (go_at_call 16; refine (wInt _ _ _ _ _ _ HW.out (by omega) hB1).mono ?_; rintro e w3 ⟨rfl, hp⟩) | (go_at_call 18; refine (wText _ _ _ _ _ _ HW.out (by omega) (by omega) hB1).mono ?_; rintro e w3 ⟨rfl, hp⟩))
      all_goals
        go_roundg (ps.length - (k + 1))
        case measure => omega
        case rel =>
          refine ⟨k + 1, by omega, rfl, by go_num, WrPost.next HU.out ho1 ?_⟩
          rw [HE.out, ← List.append_assoc, ← HY.out]
          first
            | (rw [pcB_0 ‹_›]; exact hp)
            | (rw [pcB_1 ‹_› ‹_›]; exact hp)
            | (rw [pcB_2 ‹_› ‹_› ‹_›]; exact hp)
            | (rw [pcB_3 ‹_› ‹_› ‹_›]; exact hp)
    · obtain rfl : k = ps.length := by omega
      go_wp2
      go_end0
      rw [List.take_length] at hw1
      exact ⟨rfl, v1, hw1, hu1, ho1⟩
end Go.Proofs.YtjcdjignfjkgaaaDoor
