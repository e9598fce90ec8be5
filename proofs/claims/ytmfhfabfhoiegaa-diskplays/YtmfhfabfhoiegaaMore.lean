/- What the calls leave, in numbers: how many bytes, how many files, which names; rows of zeros; names of one sign. -/
import Derived.Test.YtmfhfabfhoiegaaPublish
namespace Go.Proofs.Ytmfhfabfhoiegaa
open Go Go.RowKit
theorem Dk.up {B : Nat} {w : World} {d : Nat} {g : Gu} {p : PS} (h : Dk B w d g p) : upK PF.name p.fs := by rw [h.view]; exact upf h.rest.up
theorem put_total {p : PS} {nm : List UInt8} {xs : List Int} {sy : Nat} (hup : upK PF.name p.fs) : total (insK PF.name ⟨nm, xs, sy⟩ (delK PF.name nm p.fs)) + (oldF p nm).xs.length = total p.fs + xs.length := by
  rw [total_ins]
  cases hl : lookK PF.name nm p.fs with
  | none =>
    have ho : oldF p nm = ⟨nm, [], 0⟩ := by unfold oldF PS.look; rw [hl]; rfl
    rw [del_none hl, ho]
    show xs.length + total p.fs + ([] : List Int).length = _
    simp; omega
  | some f =>
    have ho : oldF p nm = f := by unfold oldF PS.look; rw [hl]; rfl
    have := total_del hup hl
    rw [ho]
    show xs.length + _ + _ = _
    omega
theorem put_len {l : List PF} (f : PF) (nm : List UInt8) : (insK PF.name f (delK PF.name nm l)).length ≤ l.length + 1 := by
  rw [(ins_perm f _).length_eq, List.length_cons]
  have := List.length_filter_le (fun g : PF => !(g.name == nm)) l
  unfold delK; omega
theorem mem_put {l : List PF} {f x : PF} {nm : List UInt8} (h : x ∈ insK PF.name f (delK PF.name nm l)) : x = f ∨ (x ∈ l ∧ x.name ≠ nm) := by
  rcases List.mem_cons.1 ((ins_perm f _).mem_iff.1 h) with h | h
  · exact .inl h
  · exact .inr (mem_del h)
theorem begun_go {p : PS} (h : p.stopped = false) : p.begun = { p with stops := if 0 < p.stops then p.stops - 1 else p.stops, ops := p.ops + 1 } := by unfold PS.begun; rw [h]; rfl
theorem app_total {p : PS} {nm : List UInt8} {ys : List Int} (hup : upK PF.name p.fs) (hE : appE p nm ys.length = 0) : total (appP p nm ys).fs = total p.fs + ys.length := by
  rw [appP_yes hE]
  show total (insK PF.name _ (delK PF.name nm p.begun.fs)) = _
  rw [begun_fs]
  have := put_total (p := p) (nm := nm) (xs := (oldF p nm).xs ++ ys) (sy := (oldF p nm).sy) hup
  rw [List.length_append] at this
  omega
theorem app_len (p : PS) (nm : List UInt8) (ys : List Int) : (appP p nm ys).fs.length ≤ p.fs.length + 1 := by
  by_cases hE : appE p nm ys.length = 0
  · rw [appP_yes hE]
    show (insK PF.name _ (delK PF.name nm p.begun.fs)).length ≤ _
    rw [begun_fs]; exact put_len _ _
  · rw [appP_no hE, begun_fs]; omega
theorem app_mem {p : PS} {nm : List UInt8} {ys : List Int} {x : PF} (h : x ∈ (appP p nm ys).fs) : x.name = nm ∨ x ∈ p.fs := by
  by_cases hE : appE p nm ys.length = 0
  · rw [appP_yes hE] at h
    have h : x ∈ insK PF.name _ (delK PF.name nm p.begun.fs) := h
    rw [begun_fs] at h
    rcases mem_put h with rfl | h
    · exact .inl rfl
    · exact .inr h.1
  · rw [appP_no hE, begun_fs] at h; exact .inr h
theorem app_rest (p : PS) (nm : List UInt8) (ys : List Int) : (appP p nm ys).room = p.begun.room ∧ (appP p nm ys).ops = p.begun.ops ∧ (appP p nm ys).stops = p.begun.stops ∧ (appP p nm ys).dead = p.begun.dead := by
  by_cases hE : appE p nm ys.length = 0
  · rw [appP_yes hE]; exact ⟨rfl, rfl, rfl, rfl⟩
  · rw [appP_no hE]; exact ⟨rfl, rfl, rfl, rfl⟩
theorem rem_rest (p : PS) (nm : List UInt8) : (remP p nm).room = p.begun.room ∧ (remP p nm).ops = p.begun.ops ∧ (remP p nm).stops = p.begun.stops ∧ (remP p nm).dead = p.begun.dead := by
  by_cases hE : opE p nm = 0
  · unfold remP; rw [if_pos hE]; exact ⟨rfl, rfl, rfl, rfl⟩
  · rw [remP_no hE]; exact ⟨rfl, rfl, rfl, rfl⟩
theorem rem_fs {p : PS} {nm : List UInt8} (hst : p.stopped = false) (hok : okName nm = true) : (remP p nm).fs = delK PF.name nm p.fs := by
  by_cases hE : opE p nm = 0
  · unfold remP; rw [if_pos hE]
  · rw [remP_no hE, begun_fs]
    rw [opE_go hst] at hE
    unfold PS.fault at hE
    rw [hok] at hE
    cases hl : lookK PF.name nm p.fs with
    | none => exact (del_none hl).symm
    | some f => exact absurd (by unfold PS.look; rw [hl]; rfl) hE
theorem del_total {fs : List PF} (nm : List UInt8) : total (delK PF.name nm fs) ≤ total fs := by
  induction fs with
  | nil => exact Nat.le_refl _
  | cons f r ih =>
    unfold delK at *
    by_cases h : (f.name == nm) = true
    · rw [List.filter_cons_of_neg (by simp [h]), total_cons]; omega
    · rw [List.filter_cons_of_pos (by simp [h]), total_cons, total_cons]; omega
theorem stopped_no {p : PS} (h1 : p.dead = false) (h2 : p.stops = 0) : p.stopped = false := by simp [PS.stopped, h1, h2]
theorem begun_zero {p : PS} (h1 : p.dead = false) (h2 : p.stops = 0) : p.begun.ops = p.ops + 1 ∧ p.begun.stops = 0 ∧ p.begun.dead = false := by
  rw [begun_go (stopped_no h1 h2)]
  exact ⟨rfl, by show ite _ _ _ = _; rw [h2]; rfl, h1⟩
abbrev zeros (n : Nat) : List Int := List.replicate n 0
theorem isB_zeros (n : Nat) : isB (zeros n) := fun x hx => by rw [List.eq_of_mem_replicate hx]; decide
theorem make_zeros (W : World) (n : Nat) (hn : n ≤ 1000000) : (Instr.makeSlice 31 (.int .i64 n) (.int .i64 n)).run Try.prog W = .ok (.slice (some ⟨W.heap.size, 0, none⟩) n n) (W.alloc (.cells (u8s (zeros n)).toArray 5)) := by
  obtain ⟨i0, hi, hz0, hz1, hz2⟩ := info_parts info5
  have := run_make (P := Try.prog) W 31 5 i0 (.int .u8 0) Try.underlying31 hi hz0 .i64 .i64 n n (by omega) (by omega) (by rw [hz2]; omega) (by omega)
  simp only [Int.toNat_natCast] at this
  rw [this, hz1, Nat.mul_one]
  have e : madeCells (Value.int IntKind.u8 0).cells n = (u8s (zeros n)).toArray := by
    have := toList_madeCells_one (.int .u8 0) n
    rw [show u8s (zeros n) = List.replicate n (.int .u8 0) from by simp [u8s, zeros], ← this]
    rfl
  rw [e]
theorem sees_new0 (w : World) (zs : List Int) (hl : zs.length ≤ maxLen) : Sees (w.alloc (.cells (u8s zs).toArray 5)) (.slice (some ⟨w.heap.size, 0, none⟩) zs.length zs.length) zs := by
  by_cases h : 0 < zs.length
  · exact sees_new w zs (0, 0) h hl
  · have h0 : zs = [] := List.eq_nil_of_length_eq_zero (by omega)
    subst h0
    exact .inl ⟨rfl, _, _, rfl, (fun e => by cases e), by decide⟩
/-- A text of one sign. -/
abbrev oneS (r : Nat) : ByteArray := strOfNums [97 + (r : Int)]
theorem oneS_list (r : Nat) (h : r < 26) : (oneS r).data.toList = [97 + UInt8.ofNat r] := by
  rcases (by omega : r = 0 ∨ r = 1 ∨ r = 2 ∨ r = 3 ∨ r = 4 ∨ r = 5 ∨ 6 ≤ r) with rfl | rfl | rfl | rfl | rfl | rfl | h6
  all_goals first | rfl | skip
  rcases (by omega : r = 6 ∨ r = 7 ∨ r = 8 ∨ r = 9 ∨ r = 10 ∨ r = 11 ∨ r = 12 ∨ r = 13 ∨ r = 14 ∨ r = 15 ∨ 16 ≤ r) with rfl | rfl | rfl | rfl | rfl | rfl | rfl | rfl | rfl | rfl | h16
  all_goals first | rfl | skip
  rcases (by omega : r = 16 ∨ r = 17 ∨ r = 18 ∨ r = 19 ∨ r = 20 ∨ r = 21 ∨ r = 22 ∨ r = 23 ∨ r = 24 ∨ r = 25) with rfl | rfl | rfl | rfl | rfl | rfl | rfl | rfl | rfl | rfl
  all_goals rfl
abbrev nmR (r : Nat) : List UInt8 := [97 + UInt8.ofNat r]
theorem nmR_ok (r : Nat) (h : r < 6) : okName (nmR r) = true := by
  rcases (by omega : r = 0 ∨ r = 1 ∨ r = 2 ∨ r = 3 ∨ r = 4 ∨ r = 5) with rfl | rfl | rfl | rfl | rfl | rfl <;> rfl
theorem u8_small (r : Nat) (h : r < 26) : IntKind.u8.wrap (97 + (r : Int)) = 97 + r := by rw [IntKind.wrap_u8]; omega
end Go.Proofs.Ytmfhfabfhoiegaa
