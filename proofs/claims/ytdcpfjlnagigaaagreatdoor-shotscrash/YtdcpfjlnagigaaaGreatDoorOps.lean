/- What the small calls on a disk do: New, begin, find, Stop, Ops, Used. -/
import Derived.Test.YtdcpfjlnagigaaaGreatDoorDisk
namespace Go.Proofs.YtdcpfjlnagigaaaGreatDoor
open Go Go.RowKit
/-- Numbers of a disk that lie far from the edges. -/
structure PS.sane (p : PS) : Prop where
  room0 : 0 ≤ p.room
  room1 : p.room ≤ 9223372036854775807
  stops0 : -9223372036854775808 ≤ p.stops
  stops1 : p.stops ≤ 9223372036854775807
  ops0 : 0 ≤ p.ops
  ops1 : p.ops ≤ 1000000
  tot : total p.fs ≤ 1000000
  len : p.fs.length < 1000000
abbrev ptr (d : Nat) : Value := .pointer (some ⟨d, 0, none⟩)
theorem new_no (room : Int) (w : World) (h : room < 0) : Calls Tryz.prog 8 #[.int .i64 room] w fun e w' => e = .returned (.tuple #[.pointer none, .int .i64 1]) ∧ w' = w := by
  go_enter Tryz.func8, Tryz.ntmps8
  go_wp2
  go_ret2
  exact ⟨rfl, rfl⟩
theorem new_yes (room : Int) (w : World) (h : 0 ≤ room) : Calls Tryz.prog 8 #[.int .i64 room] w fun e w' => e = .returned (.tuple #[ptr w.heap.size, .int .i64 0]) ∧ w' = w.alloc (.cells #[.map none, .int .i64 room, .int .i64 0, .int .i64 0, .int .i64 0, .bool false] 65) := by
  go_enter Tryz.func8, Tryz.ntmps8
  go_wp2
  go_ret2
  exact ⟨rfl, rfl⟩
theorem Dk.new {B : Nat} {w : World} {room : Int} (hB : B ≤ w.heap.size) : Dk B (w.alloc (.cells #[.map none, .int .i64 room, .int .i64 0, .int .i64 0, .int .i64 0, .bool false] 65)) w.heap.size ⟨none, []⟩ ⟨[], room, 0, 0, false⟩ := by
  refine ⟨rfl, ?_, ⟨.inl ⟨rfl, rfl⟩, List.Pairwise.nil, fun _ h => (by cases h), List.Pairwise.nil, fun _ h => (by cases h), hB⟩⟩
  constructor <;> simp [total]
def PS.begE (p : PS) : Int := if p.stopped then 13 else 0
theorem begE_yes {p : PS} (h : p.stopped = true) : p.begE = 13 := by unfold PS.begE; rw [if_pos h]
theorem begE_no {p : PS} (h : p.stopped = false) : p.begE = 0 := by unfold PS.begE; rw [h]; rfl
def foundP (g : Gu) (p : PS) (nm : List UInt8) : Option Addr := if p.fault nm = 0 then (lookK Fl.nm nm g.fs).map (fun f => ⟨f.blk, 0, none⟩) else none
theorem begun_stopped {p : PS} (h : p.stopped = true) : p.begun = { p with dead := true } := by unfold PS.begun; rw [if_pos h]
theorem begun_fs (p : PS) : p.begun.fs = p.fs := by unfold PS.begun; split <;> rfl
theorem begun_room (p : PS) : p.begun.room = p.room := by unfold PS.begun; split <;> rfl
set_option maxHeartbeats 1000000 in
theorem begin_any (B d : Nat) (g : Gu) (p : PS) (w : World) (hd : Dk B w d g p) (hs : p.sane) :
    Calls Tryz.prog 51 #[ptr d] w fun e w' => e = .returned (.int .i64 p.begE) ∧ Dk B w' d g p.begun ∧ Upd w w' (fun k => k = d) := by
  have hc := hd.cells
  have c3 := hc.c3; have c4 := hc.c4; have c5 := hc.c5; have f3 := hc.f3; have f4 := hc.f4; have f5 := hc.f5
  have s0 := hs.stops0; have s1 := hs.stops1; have o0 := hs.ops0; have o1 := hs.ops1
  have HD := Hid.mk' hd
  clear hs hc hd
  by_cases h1 : p.stops = 1
  · have hst : p.stopped = true := by simp [PS.stopped, h1]
    have HB := Hid.mk' (begun_stopped hst)
    rw [h1] at c4
    go_enter Tryz.func51, Tryz.ntmps51
    go_wp2
    go_ret
    refine ⟨ret_int (begE_yes hst).symm, ?_, upd_cell _ _ _ _⟩
    rw [HB.out]
    exact ⟨HD.out.view, HD.out.cells.set5 _, HD.out.rest.upd (upd_cell _ _ _ _) (fun k hk e => HD.out.rest.ne hk e)⟩
  cases h2 : p.dead with
  | true =>
    have hst : p.stopped = true := by simp [PS.stopped, h2]
    have HB := Hid.mk' (begun_stopped hst)
    rw [h2] at c5
    have h1' : (p.stops == 1) = false := by simp [h1]
    go_enter Tryz.func51, Tryz.ntmps51
    go_wp2
    go_ret
    refine ⟨ret_int (begE_yes hst).symm, ?_, Upd.refl _ _⟩
    rw [HB.out, show ({ p with dead := true } : PS) = p from by rw [← h2]]
    exact HD.out
  | false =>
    have hst : p.stopped = false := by simp [PS.stopped, h1, h2]
    rw [h2] at c5
    have h1' : (p.stops == 1) = false := by simp [h1]
    by_cases h3 : 0 < p.stops
    · have HB : Hid (p.begun = ⟨p.fs, p.room, p.ops + 1, p.stops - 1, p.dead⟩) := by show _ = _; unfold PS.begun; simp [hst, h3]
      go_enter Tryz.func51, Tryz.ntmps51
      go_wp2
      go_ret
      refine ⟨ret_int (begE_no hst).symm, ?_, (upd_cell _ _ _ _).trans (upd_cell _ _ _ _) (fun _ _ h => h)⟩
      rw [HB.out]
      exact ⟨HD.out.view, (HD.out.cells.set4 _).set3 _, (HD.out.rest.upd (upd_cell _ _ _ _) (fun k hk e => HD.out.rest.ne hk e)).upd (upd_cell _ _ _ _) (fun k hk e => HD.out.rest.ne hk e)⟩
    · have HB : Hid (p.begun = ⟨p.fs, p.room, p.ops + 1, p.stops, p.dead⟩) := by show _ = _; unfold PS.begun; simp [hst, h3]
      go_enter Tryz.func51, Tryz.ntmps51
      go_wp2
      go_ret
      refine ⟨ret_int (begE_no hst).symm, ?_, upd_cell _ _ _ _⟩
      rw [HB.out]
      exact ⟨HD.out.view, HD.out.cells.set3 _, HD.out.rest.upd (upd_cell _ _ _ _) (fun k hk e => HD.out.rest.ne hk e)⟩
set_option maxHeartbeats 1000000 in
theorem ops_any (B d : Nat) (g : Gu) (p : PS) (w : World) (hd : Dk B w d g p) : Calls Tryz.prog 24 #[ptr d] w fun e w' => e = .returned (.int .i64 p.ops) ∧ w' = w := by
  have c3 := hd.cells.c3
  clear hd
  go_enter Tryz.func24, Tryz.ntmps24
  go_wp2
  go_ret
  exact ⟨rfl, rfl⟩
theorem used_any (B d : Nat) (g : Gu) (p : PS) (w : World) (hd : Dk B w d g p) : Calls Tryz.prog 25 #[ptr d] w fun e w' => e = .returned (.int .i64 (total p.fs)) ∧ w' = w := by
  have c2 := hd.cells.c2
  clear hd
  go_enter Tryz.func25, Tryz.ntmps25
  go_wp2
  go_ret
  exact ⟨rfl, rfl⟩
theorem stop_any (B d : Nat) (g : Gu) (p : PS) (n : Int) (w : World) (hd : Dk B w d g p) : Calls Tryz.prog 17 #[ptr d, .int .i64 n] w fun e w' => e = .returned (.tuple #[]) ∧ Dk B w' d g { p with stops := n } ∧ Upd w w' (fun k => k = d) := by
  have c4 := hd.cells.c4; have f4 := hd.cells.f4
  have HD := Hid.mk' hd
  clear hd
  go_enter Tryz.func17, Tryz.ntmps17
  go_wp2
  go_end0
  exact ⟨rfl, ⟨HD.out.view, HD.out.cells.set4 _, HD.out.rest.upd (upd_cell _ _ _ _) (fun k hk e => HD.out.rest.ne hk e)⟩, upd_cell _ _ _ _⟩
theorem view_look {B : Nat} {w : World} {d : Nat} {g : Gu} {p : PS} (hd : Dk B w d g p) (nm : List UInt8) : p.look nm = (lookK Fl.nm nm g.fs).map Fl.pf := by
  unfold PS.look
  rw [hd.view]
  exact map_look name_pf nm g.fs
set_option maxHeartbeats 1000000 in
/-- find: the file of a name. -/
theorem find_any (B d : Nat) (g : Gu) (p : PS) (s : ByteArray) (w : World) (hd : Dk B w d g p) :
    Calls Tryz.prog 66 #[ptr d, .string s] w fun e w' => e = .returned (.tuple #[.pointer (foundP g p s.data.toList), .int .i64 (p.fault s.data.toList)]) ∧ Below w.heap.size w w' := by
  cases hok : okName s.data.toList with
  | false =>
    have HF : p.fault s.data.toList = 1 := by unfold PS.fault; rw [hok]; rfl
    have HP : foundP g p s.data.toList = none := by unfold foundP; rw [HF]; rfl
    rw [HF, HP]
    clear hd
    go_enter Tryz.func66, Tryz.ntmps66
    go_wp2_with (go_at_call 52; refine (name_any _ _).mono ?_; rintro e w' ⟨rfl, hb⟩)
    go_ret2
    exact ⟨rfl, hb⟩
  | true =>
    have hsz : s.size ≤ maxLen := by
      have := (okName_len hok).2
      rw [Array.length_toList] at this
      have h2 : s.size ≤ 40 := this
      unfold maxLen; omega
    have hlk := fun (w' : World) (hb : Below w.heap.size w w') => ((hd.below hb).rest).lookup s hsz
    have hc0 := fun (w' : World) (hb : Below w.heap.size w w') => (hd.below hb).cells.c0
    have hv := view_look hd s.data.toList
    cases hl : lookK Fl.nm s.data.toList g.fs with
    | none =>
      have HF : p.fault s.data.toList = 2 := by unfold PS.fault; rw [hok, hv, hl]; rfl
      have HP : foundP g p s.data.toList = none := by unfold foundP; rw [HF]; rfl
      rw [HF, HP]
      rw [hl] at hlk
      simp only [Option.map_none, Option.isSome_none] at hlk
      clear hd hv
      go_enter Tryz.func66, Tryz.ntmps66
      go_wp2_with (go_at_call 52; refine (name_any _ _).mono ?_; rintro e w' ⟨rfl, hb⟩; have hlk := hlk _ hb; have hc0 := hc0 _ hb)
      go_ret2
      exact ⟨rfl, hb⟩
    | some f =>
      have HF : p.fault s.data.toList = 0 := by unfold PS.fault; rw [hok, hv, hl]; rfl
      have HP : foundP g p s.data.toList = some ⟨f.blk, 0, none⟩ := by unfold foundP; rw [HF, hl]; rfl
      rw [HF, HP]
      rw [hl] at hlk
      simp only [Option.map_some, Option.isSome_some] at hlk
      clear hd hv
      go_enter Tryz.func66, Tryz.ntmps66
      go_wp2_with (go_at_call 52; refine (name_any _ _).mono ?_; rintro e w' ⟨rfl, hb⟩; have hlk := hlk _ hb; have hc0 := hc0 _ hb)
      go_ret2
      exact ⟨rfl, hb⟩
end Go.Proofs.YtdcpfjlnagigaaaGreatDoor
