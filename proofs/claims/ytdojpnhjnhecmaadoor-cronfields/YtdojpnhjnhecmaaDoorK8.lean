/- Parse. -/
import Derived.Test.YtdojpnhjnhecmaaDoorK7
import Derived.Test.YtdojpnhjnhecmaaDoorC4
namespace Go.Proofs.YtdojpnhjnhecmaaDoor
open Go Go.RowKit
def setIter (W : World) (It : Nat) (s : ByteArray) (pos : Nat) : World := { W with heap := W.heap.setIfInBounds It (.stringIter s pos) }
theorem next_at {P : Program} {W : World} {It : Nat} {s : ByteArray} {pos : Nat} (h : W.heap[It]? = some (.stringIter s pos)) (hp : pos < s.size) (ty : TypeId) :
    (Instr.next (.pointer (some ⟨It, 0, none⟩)) true ty).run P W = .ok (.tuple #[.bool true, .int .i64 pos, .int .i32 (Utf8.decode s pos).1]) (setIter W It s (pos + (Utf8.decode s pos).2)) := by
  simp only [Instr.next, getObj, setObj, Sem.run_bind, Sem.run, h, Result.andThen, hp, if_true]
  simp [goInt, setIter]
theorem next_over {P : Program} {W : World} {It : Nat} {s : ByteArray} {pos : Nat} (h : W.heap[It]? = some (.stringIter s pos)) (hp : ¬ pos < s.size) (ty : TypeId) :
    (Instr.next (.pointer (some ⟨It, 0, none⟩)) true ty).run P W = .ok (.tuple #[.bool false]) W := by
  simp [Instr.next, getObj, Sem.run, h, hp]
theorem setIter_at {W : World} {It : Nat} {s : ByteArray} {pos : Nat} (h : It < W.heap.size) : (setIter W It s pos).heap[It]? = some (.stringIter s pos) := by
  simp [setIter, h]
theorem setIter_other {W : World} {It k : Nat} {s : ByteArray} {pos : Nat} (h : k ≠ It) : (setIter W It s pos).heap[k]? = W.heap[k]? := by
  simp [setIter, Ne.symm h]
theorem setIter_below {W : World} {It B : Nat} {s : ByteArray} {pos : Nat} (h : B ≤ It) : Below B W (setIter W It s pos) :=
  ⟨rfl, rfl, rfl, by simp [setIter], fun k hk => setIter_other (by omega)⟩
/-- A text's bytes as numbers. -/
def numsOf (s : ByteArray) : List Nat := s.data.toList.map (·.toNat)
theorem numsOf_length (s : ByteArray) : (numsOf s).length = s.size := by simp [numsOf]
theorem numsOf_get (s : ByteArray) (k : Nat) (h : k < s.size) : (numsOf s)[k]? = some (s[k]'h).toNat := by
  have h' : k < s.data.size := h
  have e : s.data[k]? = some (s[k]'h) := Array.getElem?_eq_getElem h'
  simp only [numsOf, List.getElem?_map, Array.getElem?_toList, e, Option.map_some]
theorem run_snoc (p : PSt) (l : List Nat) (k c : Nat) (h : l[k]? = some c) : p.run (l.take (k + 1)) = (p.run (l.take k)).bind (·.take c) := by
  rw [List.take_add_one, h, PSt.run_append]
  congr 1
  funext q
  show (q.take c).bind _ = _
  cases q.take c <;> rfl
theorem run_none (p : PSt) (l : List Nat) (k : Nat) (h : p.run (l.take k) = none) : p.run l = none := by
  rw [← List.take_append_drop k l, PSt.run_append, h]; rfl
theorem exp_ok {p : PSt} (h : p.Ok) : p.exp.Ok := ⟨h.al 0 (by decide), h.al 1 (by decide), h.al 2 (by decide), h.al 3 (by decide), h.al 4 (by decide)⟩
set_option maxHeartbeats 1000000 in
theorem parse_long (s : ByteArray) (w : World) (hs : 100 < s.size) (_hm : s.size ≤ 9223372036854775807) :
    Calls Tryd.prog 10 #[.string s] w fun e w' => e = .returned (.tuple #[exp0, .int .i64 5]) ∧ Below w.heap.size w w' := by
  have HQ := Hid.mk'' (heap_alloc_new w (.cells #[.int .u64 0, .int .u64 0, .int .u64 0, .int .u64 0, .int .u64 0, .bool false, .bool false] 25))
  go_enter Tryd.func10, Tryd.ntmps10
  go_wp2
  refine bodyPost_ret (results_ct rfl _ _ w.heap.size 25 #[.int .u64 0, .int .u64 0, .int .u64 0, .int .u64 0, .int .u64 0, .bool false, .bool false] (0, 0) _ rfl HQ.out Tryd.underlying25 rfl info25) rfl ?_
  exact ⟨rfl, (Below.refl _ _).alloc (Nat.le_refl _) _⟩
/-- What Parse answers. -/
def Parsed (s : ByteArray) (e : Ending) : Prop :=
  match parseL (numsOf s) with
  | some x => e = .returned (.tuple #[expV x, .int .i64 0])
  | none => e = .returned (.tuple #[exp0, .int .i64 25])
def itAt (W : World) (It : Nat) : Nat := match W.heap[It]? with | some (.stringIter _ p) => p | _ => 0
theorem itAt_of {W : World} {It : Nat} {s : ByteArray} {pos : Nat} (h : W.heap[It]? = some (.stringIter s pos)) : itAt W It = pos := by unfold itAt; rw [h]
abbrev zeros : Array Value := #[.int .u64 0, .int .u64 0, .int .u64 0, .int .u64 0, .int .u64 0, .bool false, .bool false]
/-- Parse on its way: so many bytes are read. -/
structure PW (s : ByteArray) (w W : World) (pos : Nat) (q : PSt) : Prop where
  le : pos ≤ s.size
  run : pst0.run ((numsOf s).take pos) = some q
  par : InP W (w.heap.size + 1) q
  iter : W.heap[w.heap.size + 1 + 1]? = some (.stringIter s pos)
  res : W.heap[w.heap.size]? = some (.cells zeros 25)
  bel : Below w.heap.size w W
theorem PW.size {s : ByteArray} {w W : World} {pos : Nat} {q : PSt} (h : PW s w W pos q) : w.heap.size + 1 + 1 < W.heap.size := (Array.getElem?_eq_some_iff.1 h.iter).1
theorem PW.start (s : ByteArray) (w : World) : PW s w (((w.alloc (.cells zeros 25)).alloc (.cells (cellsP pst0) 66)).iter s 0) 0 pst0 := by
  have e1 : (w.alloc (.cells zeros 25)).heap.size = w.heap.size + 1 := by simp
  have e2 : ((w.alloc (.cells zeros 25)).alloc (.cells (cellsP pst0) 66)).heap.size = w.heap.size + 1 + 1 := by simp
  refine ⟨Nat.zero_le _, rfl, ?_, ?_, ?_, ((((Below.refl _ _).alloc (Nat.le_refl _) _).alloc (by simp) _).alloc (by simp; omega) _)⟩
  · unfold InP World.iter
    refine (heap_alloc_old _ _ (by rw [e2]; omega)).trans ?_
    have := heap_alloc_new (w.alloc (.cells zeros 25)) (.cells (cellsP pst0) 66)
    rwa [e1] at this
  · have := World.iter_heap ((w.alloc (.cells zeros 25)).alloc (.cells (cellsP pst0) 66)) s 0
    rwa [e2] at this
  · unfold World.iter
    refine (heap_alloc_old _ _ (by rw [e2]; omega)).trans ((heap_alloc_old _ _ (by rw [e1]; omega)).trans (heap_alloc_new w _))
/-- A rune is read, and the parser has taken it. -/
theorem PW.step {s : ByteArray} {w W W' : World} {pos : Nat} {q q' : PSt} (h : PW s w W pos q) (hp : pos < s.size) (hq : q.take (s[pos]'hp).toNat = some q') (hI : InP W' (w.heap.size + 1) q')
    (hO : Only (w.heap.size + 1) (setIter W (w.heap.size + 1 + 1) s (pos + 1)) W') : PW s w W' (pos + 1) q' := by
  have hsz := h.size
  have hsz' : (setIter W (w.heap.size + 1 + 1) s (pos + 1)).heap.size = W.heap.size := by simp [setIter]
  refine ⟨by omega, ?_, hI, ?_, ?_, ?_⟩
  · rw [run_snoc _ _ _ _ (numsOf_get s pos hp), h.run]; exact hq
  · rw [hO.block _ (by omega) (by omega)]; exact setIter_at hsz
  · rw [hO.block _ (by omega) (by omega), setIter_other (by omega)]; exact h.res
  · exact h.bel.trans ((setIter_below (by omega)).trans (hO.below (by omega) (by omega)))
theorem PW.after {s : ByteArray} {w W W' : World} {pos k : Nat} {q : PSt} (h : PW s w W pos q) (hO : Only (w.heap.size + 1) (setIter W (w.heap.size + 1 + 1) s k) W') :
    Hid (W'.heap[w.heap.size]? = some (.cells zeros 25)) ∧ Hid (Below w.heap.size w W') := by
  have hsz := h.size
  have hsz' : (setIter W (w.heap.size + 1 + 1) s k).heap.size = W.heap.size := by simp [setIter]
  refine ⟨Hid.mk'' ?_, Hid.mk'' ?_⟩
  · rw [hO.block _ (by omega) (by omega), setIter_other (by omega)]; exact h.res
  · exact h.bel.trans ((setIter_below (by omega)).trans (hO.below (by omega) (by omega)))
theorem PW.end {s : ByteArray} {w W W' : World} {pos : Nat} {q : PSt} (h : PW s w W pos q) (hO : Only (w.heap.size + 1) W W') :
    Hid (W'.heap[w.heap.size]? = some (.cells zeros 25)) ∧ Hid (Below w.heap.size w W') := by
  have hsz := h.size
  refine ⟨Hid.mk'' ?_, Hid.mk'' ?_⟩
  · rw [hO.block _ (by omega) (by omega)]; exact h.res
  · exact h.bel.trans (hO.below (by omega) (by omega))
set_option maxHeartbeats 1000000 in
theorem parse_any (s : ByteArray) (w : World) (hT : HasT w) (hs : s.size ≤ 100) :
    Calls Tryd.prog 10 #[.string s] w fun e w' => Parsed s e ∧ Below w.heap.size w w' := by
  have HT : Hid (∀ w3, Below w.heap.size w w3 → HasT w3) := fun w3 h => hT.below h
  have hsz := hT.size
  clear hT
  have HS := Hid.mk'' (PW.start s w)
  go_enter Tryd.func10, Tryd.ntmps10
  go_wp2
  go_loopw [6] (fun _ W => ∃ pos q, Hid (PW s w W pos q)) (fun _ W => s.size - itAt W (w.heap.size + 1 + 1))
  case atStart => exact ⟨0, pst0, HS⟩
  case round =>
    obtain ⟨pos, q, HP⟩ := hrel
    clear HS
    have hq := pst0_ok.run HP.out.run
    have HK : Hid q.Ok := hq
    clear hq
    by_cases hp : pos < s.size
    · have htk : ∀ c : Int, 0 ≤ c → ∀ k, Calls Tryd.prog 25 #[.pointer (some ⟨w.heap.size + 1, 0, none⟩), .int .i32 c] (setIter wr (w.heap.size + 1 + 1) s k) _ := fun c hc k =>
        take_took c hc q (w.heap.size + 1) _ (HT.out _ (HP.out.bel.trans (setIter_below (by omega)))) ((setIter_other (by omega)).trans HP.out.par) (by omega) HK.out
      have hnx : ∀ ty, (Instr.next (.pointer (some ⟨w.heap.size + 1 + 1, 0, none⟩)) true ty).run Tryd.prog wr = _ := fun ty => next_at HP.out.iter hp ty
      by_cases ha : s[pos].toNat < 128
      · rw [decode_ascii s pos hp ha] at hnx
        have htk1 := htk s[pos].toNat (by omega) (pos + 1)
        rw [Int.toNat_natCast] at htk1
        clear htk
        cases ho : q.take s[pos].toNat with
        | none =>
          rw [ho] at htk1
          go_wp2_with fail
          refine htk1.mono ?_
          rintro e w1 ⟨rfl, hO⟩
          obtain ⟨HR, HBW⟩ := HP.out.after hO
          have HN : Hid (parseL (numsOf s) = none) := by
            show _ = _
            unfold parseL
            rw [run_none pst0 _ (pos + 1) (by rw [run_snoc _ _ _ _ (numsOf_get s pos hp), HP.out.run]; exact ho)]; rfl
          clear hO htk1 hnx
          have k0 : w1.cell? ⟨w.heap.size, 0, none⟩ = some (.int .u64 0) := (cell_of_row _ _ _ _ _ _ HR.out).trans rfl
          have f0 := frozen_of_row w1 w.heap.size 0 _ 25 HR.out
          have k1 : w1.cell? ⟨w.heap.size, 1, none⟩ = some (.int .u64 0) := (cell_of_row _ _ _ _ _ _ HR.out).trans rfl
          have f1 := frozen_of_row w1 w.heap.size 1 _ 25 HR.out
          have k2 : w1.cell? ⟨w.heap.size, 2, none⟩ = some (.int .u64 0) := (cell_of_row _ _ _ _ _ _ HR.out).trans rfl
          have f2 := frozen_of_row w1 w.heap.size 2 _ 25 HR.out
          have k3 : w1.cell? ⟨w.heap.size, 3, none⟩ = some (.int .u64 0) := (cell_of_row _ _ _ _ _ _ HR.out).trans rfl
          have f3 := frozen_of_row w1 w.heap.size 3 _ 25 HR.out
          have k4 : w1.cell? ⟨w.heap.size, 4, none⟩ = some (.int .u64 0) := (cell_of_row _ _ _ _ _ _ HR.out).trans rfl
          have f4 := frozen_of_row w1 w.heap.size 4 _ 25 HR.out
          have k5 : w1.cell? ⟨w.heap.size, 5, none⟩ = some (.bool false) := (cell_of_row _ _ _ _ _ _ HR.out).trans rfl
          have f5 := frozen_of_row w1 w.heap.size 5 _ 25 HR.out
          have k6 : w1.cell? ⟨w.heap.size, 6, none⟩ = some (.bool false) := (cell_of_row _ _ _ _ _ _ HR.out).trans rfl
          have f6 := frozen_of_row w1 w.heap.size 6 _ 25 HR.out
          go_wp2_with fail
          have HQ := heap_setCell_row (heap_setCell_row (heap_setCell_row (heap_setCell_row (heap_setCell_row (heap_setCell_row (heap_setCell_row (HR.out) 0 (.int .u64 0)) 1 (.int .u64 0)) 2 (.int .u64 0)) 3 (.int .u64 0)) 4 (.int .u64 0)) 5 (.bool false)) 6 (.bool false)
          refine bodyPost_ret (results_ct rfl _ _ w.heap.size 25 zeros (0, 0) _ rfl HQ Tryd.underlying25 rfl info25) rfl ?_
          exact ⟨by unfold Parsed; rw [HN.out]; rfl, (((((((HBW.out.setCell (Nat.le_refl _) _).setCell (Nat.le_refl _) _).setCell (Nat.le_refl _) _).setCell (Nat.le_refl _) _).setCell (Nat.le_refl _) _).setCell (Nat.le_refl _) _).setCell (Nat.le_refl _) _)⟩
        | some q' =>
          rw [ho] at htk1
          go_wp2_with fail
          refine htk1.mono ?_
          rintro e w1 ⟨⟨rfl, hI1⟩, hO⟩
          have HP1 := Hid.mk'' (HP.out.step hp ho hI1 hO)
          clear hI1 hO htk1 hnx
          go_wp2_with fail
          go_roundw
          case rel => exact ⟨pos + 1, q', HP1⟩
          case measure =>
            simp only [itAt_of HP.out.iter, itAt_of HP1.out.iter]
            omega
      · obtain ⟨hd, hw1⟩ := decode_high s pos hp (by omega)
        have htk1 := htk (Utf8.decode s pos).1 (by omega) (pos + (Utf8.decode s pos).2)
        rw [Int.toNat_natCast, PSt.take_high _ hd] at htk1
        clear htk
        go_wp2_with fail
        refine htk1.mono ?_
        rintro e w1 ⟨rfl, hO⟩
        obtain ⟨HR, HBW⟩ := HP.out.after hO
        have HN : Hid (parseL (numsOf s) = none) := by
          show _ = _
          unfold parseL
          rw [run_none pst0 _ (pos + 1) (by rw [run_snoc _ _ _ _ (numsOf_get s pos hp), HP.out.run]; exact PSt.take_high _ (by omega))]; rfl
        clear hO htk1 hnx
        have k0 : w1.cell? ⟨w.heap.size, 0, none⟩ = some (.int .u64 0) := (cell_of_row _ _ _ _ _ _ HR.out).trans rfl
        have f0 := frozen_of_row w1 w.heap.size 0 _ 25 HR.out
        have k1 : w1.cell? ⟨w.heap.size, 1, none⟩ = some (.int .u64 0) := (cell_of_row _ _ _ _ _ _ HR.out).trans rfl
        have f1 := frozen_of_row w1 w.heap.size 1 _ 25 HR.out
        have k2 : w1.cell? ⟨w.heap.size, 2, none⟩ = some (.int .u64 0) := (cell_of_row _ _ _ _ _ _ HR.out).trans rfl
        have f2 := frozen_of_row w1 w.heap.size 2 _ 25 HR.out
        have k3 : w1.cell? ⟨w.heap.size, 3, none⟩ = some (.int .u64 0) := (cell_of_row _ _ _ _ _ _ HR.out).trans rfl
        have f3 := frozen_of_row w1 w.heap.size 3 _ 25 HR.out
        have k4 : w1.cell? ⟨w.heap.size, 4, none⟩ = some (.int .u64 0) := (cell_of_row _ _ _ _ _ _ HR.out).trans rfl
        have f4 := frozen_of_row w1 w.heap.size 4 _ 25 HR.out
        have k5 : w1.cell? ⟨w.heap.size, 5, none⟩ = some (.bool false) := (cell_of_row _ _ _ _ _ _ HR.out).trans rfl
        have f5 := frozen_of_row w1 w.heap.size 5 _ 25 HR.out
        have k6 : w1.cell? ⟨w.heap.size, 6, none⟩ = some (.bool false) := (cell_of_row _ _ _ _ _ _ HR.out).trans rfl
        have f6 := frozen_of_row w1 w.heap.size 6 _ 25 HR.out
        go_wp2_with fail
        have HQ := heap_setCell_row (heap_setCell_row (heap_setCell_row (heap_setCell_row (heap_setCell_row (heap_setCell_row (heap_setCell_row (HR.out) 0 (.int .u64 0)) 1 (.int .u64 0)) 2 (.int .u64 0)) 3 (.int .u64 0)) 4 (.int .u64 0)) 5 (.bool false)) 6 (.bool false)
        refine bodyPost_ret (results_ct rfl _ _ w.heap.size 25 zeros (0, 0) _ rfl HQ Tryd.underlying25 rfl info25) rfl ?_
        exact ⟨by unfold Parsed; rw [HN.out]; rfl, (((((((HBW.out.setCell (Nat.le_refl _) _).setCell (Nat.le_refl _) _).setCell (Nat.le_refl _) _).setCell (Nat.le_refl _) _).setCell (Nat.le_refl _) _).setCell (Nat.le_refl _) _).setCell (Nat.le_refl _) _)⟩
    · have hnx : ∀ ty, (Instr.next (.pointer (some ⟨w.heap.size + 1 + 1, 0, none⟩)) true ty).run Tryd.prog wr = _ := fun ty => next_over HP.out.iter hp ty
      have htk := take_took 32 (by decide) q (w.heap.size + 1) wr (HT.out _ HP.out.bel) HP.out.par (by omega) HK.out
      have HRun : Hid (parseL (numsOf s) = q.done) := by
        show _ = _
        unfold parseL
        have h1 := HP.out.run
        have h2 := HP.out.le
        rw [List.take_of_length_le (by rw [numsOf_length]; omega)] at h1
        rw [h1]; rfl
      rw [show (32 : Int).toNat = 32 from rfl] at htk
      cases ho : q.take 32 with
      | none =>
        rw [ho] at htk
        go_wp2_with fail
        refine htk.mono ?_
        rintro e w1 ⟨rfl, hO⟩
        obtain ⟨HR, HBW⟩ := HP.out.end hO
        have HN : Hid (parseL (numsOf s) = none) := by show _ = _; rw [HRun.out]; unfold PSt.done; rw [ho]; rfl
        clear hO htk hnx
        have k0 : w1.cell? ⟨w.heap.size, 0, none⟩ = some (.int .u64 0) := (cell_of_row _ _ _ _ _ _ HR.out).trans rfl
        have f0 := frozen_of_row w1 w.heap.size 0 _ 25 HR.out
        have k1 : w1.cell? ⟨w.heap.size, 1, none⟩ = some (.int .u64 0) := (cell_of_row _ _ _ _ _ _ HR.out).trans rfl
        have f1 := frozen_of_row w1 w.heap.size 1 _ 25 HR.out
        have k2 : w1.cell? ⟨w.heap.size, 2, none⟩ = some (.int .u64 0) := (cell_of_row _ _ _ _ _ _ HR.out).trans rfl
        have f2 := frozen_of_row w1 w.heap.size 2 _ 25 HR.out
        have k3 : w1.cell? ⟨w.heap.size, 3, none⟩ = some (.int .u64 0) := (cell_of_row _ _ _ _ _ _ HR.out).trans rfl
        have f3 := frozen_of_row w1 w.heap.size 3 _ 25 HR.out
        have k4 : w1.cell? ⟨w.heap.size, 4, none⟩ = some (.int .u64 0) := (cell_of_row _ _ _ _ _ _ HR.out).trans rfl
        have f4 := frozen_of_row w1 w.heap.size 4 _ 25 HR.out
        have k5 : w1.cell? ⟨w.heap.size, 5, none⟩ = some (.bool false) := (cell_of_row _ _ _ _ _ _ HR.out).trans rfl
        have f5 := frozen_of_row w1 w.heap.size 5 _ 25 HR.out
        have k6 : w1.cell? ⟨w.heap.size, 6, none⟩ = some (.bool false) := (cell_of_row _ _ _ _ _ _ HR.out).trans rfl
        have f6 := frozen_of_row w1 w.heap.size 6 _ 25 HR.out
        go_wp2_with fail
        have HQ := heap_setCell_row (heap_setCell_row (heap_setCell_row (heap_setCell_row (heap_setCell_row (heap_setCell_row (heap_setCell_row (HR.out) 0 (.int .u64 0)) 1 (.int .u64 0)) 2 (.int .u64 0)) 3 (.int .u64 0)) 4 (.int .u64 0)) 5 (.bool false)) 6 (.bool false)
        refine bodyPost_ret (results_ct rfl _ _ w.heap.size 25 zeros (0, 0) _ rfl HQ Tryd.underlying25 rfl info25) rfl ?_
        exact ⟨by unfold Parsed; rw [HN.out]; rfl, (((((((HBW.out.setCell (Nat.le_refl _) _).setCell (Nat.le_refl _) _).setCell (Nat.le_refl _) _).setCell (Nat.le_refl _) _).setCell (Nat.le_refl _) _).setCell (Nat.le_refl _) _).setCell (Nat.le_refl _) _)⟩
      | some q1 =>
        rw [ho] at htk
        go_wp2_with fail
        refine htk.mono ?_
        rintro e w1 ⟨⟨rfl, hI1⟩, hO⟩
        obtain ⟨HR, HBW⟩ := HP.out.end hO
        have k10 : w1.cell? ⟨w.heap.size + 1, 10, none⟩ = some (.int .i64 q1.f) := hI1.cell 10
        by_cases hf : q1.f = 5
        · have HN : Hid (parseL (numsOf s) = some q1.exp) := by show _ = _; rw [HRun.out]; unfold PSt.done; rw [ho]; show (if q1.f = 5 then _ else _) = _; rw [if_pos hf]
          have hex := expr_any q1 (w.heap.size + 1) w1 hI1
          rw [hf] at k10
          have hlt := hI1.lt
          clear hO htk hnx hI1
          go_wp2_with fail
          refine hex.mono ?_
          rintro e w2 ⟨rfl, hb2⟩
          have HR2 : Hid (w2.heap[w.heap.size]? = some (.cells zeros 25)) := (hb2.block _ (by omega)).trans HR.out
          have HB2 : Hid (Below w.heap.size w w2) := HBW.out.trans (hb2.mono (by omega))
          clear hex hb2 HR HBW k10
          have k0 : w2.cell? ⟨w.heap.size, 0, none⟩ = some (.int .u64 0) := (cell_of_row _ _ _ _ _ _ HR2.out).trans rfl
          have f0 := frozen_of_row w2 w.heap.size 0 _ 25 HR2.out
          have k1 : w2.cell? ⟨w.heap.size, 1, none⟩ = some (.int .u64 0) := (cell_of_row _ _ _ _ _ _ HR2.out).trans rfl
          have f1 := frozen_of_row w2 w.heap.size 1 _ 25 HR2.out
          have k2 : w2.cell? ⟨w.heap.size, 2, none⟩ = some (.int .u64 0) := (cell_of_row _ _ _ _ _ _ HR2.out).trans rfl
          have f2 := frozen_of_row w2 w.heap.size 2 _ 25 HR2.out
          have k3 : w2.cell? ⟨w.heap.size, 3, none⟩ = some (.int .u64 0) := (cell_of_row _ _ _ _ _ _ HR2.out).trans rfl
          have f3 := frozen_of_row w2 w.heap.size 3 _ 25 HR2.out
          have k4 : w2.cell? ⟨w.heap.size, 4, none⟩ = some (.int .u64 0) := (cell_of_row _ _ _ _ _ _ HR2.out).trans rfl
          have f4 := frozen_of_row w2 w.heap.size 4 _ 25 HR2.out
          have k5 : w2.cell? ⟨w.heap.size, 5, none⟩ = some (.bool false) := (cell_of_row _ _ _ _ _ _ HR2.out).trans rfl
          have f5 := frozen_of_row w2 w.heap.size 5 _ 25 HR2.out
          have k6 : w2.cell? ⟨w.heap.size, 6, none⟩ = some (.bool false) := (cell_of_row _ _ _ _ _ _ HR2.out).trans rfl
          have f6 := frozen_of_row w2 w.heap.size 6 _ 25 HR2.out
          unfold expV PSt.exp
          go_wp2_with fail
          have HQ := heap_setCell_row (heap_setCell_row (heap_setCell_row (heap_setCell_row (heap_setCell_row (heap_setCell_row (heap_setCell_row (HR2.out) 0 (.int .u64 (q1.al 0))) 1 (.int .u64 (q1.al 1))) 2 (.int .u64 (q1.al 2))) 3 (.int .u64 (q1.al 3))) 4 (.int .u64 (q1.al 4))) 5 (.bool (q1.st 2))) 6 (.bool (q1.st 4))
          refine bodyPost_ret (results_ct rfl _ _ w.heap.size 25 #[.int .u64 (q1.al 0), .int .u64 (q1.al 1), .int .u64 (q1.al 2), .int .u64 (q1.al 3), .int .u64 (q1.al 4), .bool (q1.st 2), .bool (q1.st 4)] (0, 0) _ rfl HQ Tryd.underlying25 rfl info25) rfl ?_
          exact ⟨by unfold Parsed; rw [HN.out]; rfl, (((((((HB2.out.setCell (Nat.le_refl _) _).setCell (Nat.le_refl _) _).setCell (Nat.le_refl _) _).setCell (Nat.le_refl _) _).setCell (Nat.le_refl _) _).setCell (Nat.le_refl _) _).setCell (Nat.le_refl _) _)⟩
        · have HN : Hid (parseL (numsOf s) = none) := by show _ = _; rw [HRun.out]; unfold PSt.done; rw [ho]; show (if q1.f = 5 then _ else _) = _; rw [if_neg hf]
          have hf' : ((q1.f : Int) == 5) = false := by simp; omega
          clear hO htk hnx hI1
          have k0 : w1.cell? ⟨w.heap.size, 0, none⟩ = some (.int .u64 0) := (cell_of_row _ _ _ _ _ _ HR.out).trans rfl
          have f0 := frozen_of_row w1 w.heap.size 0 _ 25 HR.out
          have k1 : w1.cell? ⟨w.heap.size, 1, none⟩ = some (.int .u64 0) := (cell_of_row _ _ _ _ _ _ HR.out).trans rfl
          have f1 := frozen_of_row w1 w.heap.size 1 _ 25 HR.out
          have k2 : w1.cell? ⟨w.heap.size, 2, none⟩ = some (.int .u64 0) := (cell_of_row _ _ _ _ _ _ HR.out).trans rfl
          have f2 := frozen_of_row w1 w.heap.size 2 _ 25 HR.out
          have k3 : w1.cell? ⟨w.heap.size, 3, none⟩ = some (.int .u64 0) := (cell_of_row _ _ _ _ _ _ HR.out).trans rfl
          have f3 := frozen_of_row w1 w.heap.size 3 _ 25 HR.out
          have k4 : w1.cell? ⟨w.heap.size, 4, none⟩ = some (.int .u64 0) := (cell_of_row _ _ _ _ _ _ HR.out).trans rfl
          have f4 := frozen_of_row w1 w.heap.size 4 _ 25 HR.out
          have k5 : w1.cell? ⟨w.heap.size, 5, none⟩ = some (.bool false) := (cell_of_row _ _ _ _ _ _ HR.out).trans rfl
          have f5 := frozen_of_row w1 w.heap.size 5 _ 25 HR.out
          have k6 : w1.cell? ⟨w.heap.size, 6, none⟩ = some (.bool false) := (cell_of_row _ _ _ _ _ _ HR.out).trans rfl
          have f6 := frozen_of_row w1 w.heap.size 6 _ 25 HR.out
          go_wp2_with fail
          have HQ := heap_setCell_row (heap_setCell_row (heap_setCell_row (heap_setCell_row (heap_setCell_row (heap_setCell_row (heap_setCell_row (HR.out) 0 (.int .u64 0)) 1 (.int .u64 0)) 2 (.int .u64 0)) 3 (.int .u64 0)) 4 (.int .u64 0)) 5 (.bool false)) 6 (.bool false)
          refine bodyPost_ret (results_ct rfl _ _ w.heap.size 25 zeros (0, 0) _ rfl HQ Tryd.underlying25 rfl info25) rfl ?_
          exact ⟨by unfold Parsed; rw [HN.out]; rfl, (((((((HBW.out.setCell (Nat.le_refl _) _).setCell (Nat.le_refl _) _).setCell (Nat.le_refl _) _).setCell (Nat.le_refl _) _).setCell (Nat.le_refl _) _).setCell (Nat.le_refl _) _).setCell (Nat.le_refl _) _)⟩
end Go.Proofs.YtdojpnhjnhecmaaDoor
