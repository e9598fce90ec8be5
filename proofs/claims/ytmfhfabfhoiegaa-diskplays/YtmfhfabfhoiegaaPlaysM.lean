/- Both disks side by side: the program's and the document's, the call that is played, the bytes that are handed in. -/
import Derived.Test.YtmfhfabfhoiegaaRefH
import Derived.Test.YtmfhfabfhoiegaaRefI
import Derived.Test.YtmfhfabfhoiegaaRefJ
import Derived.Test.YtmfhfabfhoiegaaDeadP
import Derived.Test.YtmfhfabfhoiegaaCall
namespace Go.Proofs.Ytmfhfabfhoiegaa
open Go Go.RowKit
/-- A disk as DiskPlays has it, k calls on. -/
structure PlayAt (p : PS) (rm : Int) (k : Nat) : Prop where
  room : p.room = rm
  room0 : 0 ≤ rm
  room1 : rm ≤ 9223372036854775807
  stops0 : -9223372036854775808 ≤ p.stops
  stops1 : p.stops ≤ 9223372036854775807
  ops0 : 0 ≤ p.ops
  ops1 : p.ops ≤ k
  tot : total p.fs ≤ 1000 * k
  len : p.fs.length ≤ k
theorem PlayAt.sane {p : PS} {room : Int} {k : Nat} (h : PlayAt p room k) (hk : k ≤ 100) : p.sane :=
  ⟨by rw [h.room]; exact h.room0, by rw [h.room]; exact h.room1, h.stops0, h.stops1, h.ops0, by have := h.ops1; omega, by have := h.tot; omega, by have := h.len; omega⟩
theorem PlayAt.more {p : PS} {room : Int} {k : Nat} (h : PlayAt p room k) : PlayAt p room (k + 1) :=
  ⟨h.room, h.room0, h.room1, h.stops0, h.stops1, h.ops0, by have := h.ops1; omega, by have := h.tot; omega, by have := h.len; omega⟩
theorem begun_bd {p : PS} {room : Int} {k : Nat} (h : PlayAt p room k) : p.begun.room = room ∧ -9223372036854775808 ≤ p.begun.stops ∧ p.begun.stops ≤ 9223372036854775807 ∧ 0 ≤ p.begun.ops ∧ p.begun.ops ≤ k + 1 := by
  have h1 := h.ops0; have h2 := h.ops1; have h3 := h.stops0; have h4 := h.stops1
  refine ⟨by rw [begun_room]; exact h.room, ?_⟩
  unfold PS.begun
  split
  · exact ⟨h3, h4, h1, by show p.ops ≤ _; omega⟩
  · refine ⟨?_, ?_, by show 0 ≤ p.ops + 1; omega, by show p.ops + 1 ≤ _; omega⟩
    · show _ ≤ (if 0 < p.stops then p.stops - 1 else p.stops); split <;> omega
    · show (if 0 < p.stops then p.stops - 1 else p.stops) ≤ _; split <;> omega
theorem PlayAt.next {p p' : PS} {room : Int} {k : Nat} (h : PlayAt p room k) (h1 : p'.room = p.begun.room) (h2 : p'.ops = p.begun.ops) (h3 : p'.stops = p.begun.stops) (h5 : total p'.fs ≤ total p.fs + 1000) (h6 : p'.fs.length ≤ p.fs.length + 1) : PlayAt p' room (k + 1) := by
  obtain ⟨b1, b2, b3, b4, b5⟩ := begun_bd h
  have := h.tot; have := h.len
  exact ⟨by rw [h1, b1], h.room0, h.room1, by rw [h3]; exact b2, by rw [h3]; exact b3, by rw [h2]; exact b4, by rw [h2]; omega, by omega, by omega⟩
theorem PlayAt.app {p : PS} {room : Int} {k : Nat} (h : PlayAt p room k) (hup : upK PF.name p.fs) (nm : List UInt8) (ys : List Int) (hy : ys.length ≤ 1000) : PlayAt (appP p nm ys) room (k + 1) := by
  obtain ⟨a1, a2, a3, _⟩ := app_rest p nm ys
  exact h.next a1 a2 a3 (by have := app_total_le (nm := nm) (ys := ys) hup; omega) (app_len _ _ _)
theorem PlayAt.sync {p : PS} {room : Int} {k : Nat} (h : PlayAt p room k) (hup : upK PF.name p.fs) (nm : List UInt8) : PlayAt (syncP p nm) room (k + 1) := by
  obtain ⟨a1, a2, a3, _⟩ := sync_rest p nm
  have := sync_total (nm := nm) hup
  exact h.next a1 a2 a3 (by omega) (by omega)
theorem PlayAt.ren {p : PS} {room : Int} {k : Nat} (h : PlayAt p room k) (hup : upK PF.name p.fs) (a b : List UInt8) : PlayAt (renP p a b) room (k + 1) := by
  obtain ⟨a1, a2, a3, _⟩ := ren_rest p a b
  have := ren_total (a := a) (b := b) hup
  exact h.next a1 a2 a3 (by omega) (by omega)
theorem PlayAt.rem {p : PS} {room : Int} {k : Nat} (h : PlayAt p room k) (nm : List UInt8) : PlayAt (remP p nm) room (k + 1) := by
  obtain ⟨a1, a2, a3, _⟩ := rem_rest p nm
  have := rem_total p nm
  exact h.next a1 a2 a3 (by omega) (by omega)
theorem PlayAt.stop {p : PS} {room : Int} {k : Nat} (h : PlayAt p room k) {n : Int} (h1 : -9223372036854775808 ≤ n) (h2 : n ≤ 9223372036854775807) : PlayAt { p with stops := n } room (k + 1) := by
  have := h.ops1; have := h.tot; have := h.len
  exact ⟨h.room, h.room0, h.room1, h1, h2, h.ops0, by show p.ops ≤ _; omega, by show total p.fs ≤ _; omega, by show p.fs.length ≤ _; omega⟩
theorem PlayAt.crash {p : PS} {room : Int} {k : Nat} (h : PlayAt p room k) (picks : List Int) : PlayAt (crashP p picks) room (k + 1) := by
  have := h.ops1; have := h.tot; have := h.len
  have := crashL_total picks 0 p.fs
  have := crashL_len picks 0 p.fs
  exact ⟨h.room, h.room0, h.room1, by show _ ≤ (0 : Int); decide, by show (0 : Int) ≤ _; decide, h.ops0, by show p.ops ≤ _; omega, by show total (crashL picks 0 p.fs) ≤ _; omega, by show (crashL picks 0 p.fs).length ≤ _; omega⟩
/-- The program's disk is p1, the document's p2; the call lies at y; vm shows zs, and is nobody's. -/
def Mid (B : Nat) (w0 wx : World) (d x y : Nat) (cs : Array Value) (vm : Value) (zs : List Int) (p1 p2 : PS) : Prop :=
  ∃ g h left, Dk B wx d g p1 ∧ Rk B wx x h p2 left ∧ (∀ j, FootX x h j → ¬ Foot d g j) ∧ ((∀ j, wx.cell? ⟨y, j, none⟩ = cs[j]?) ∧ ¬ Foot d g y ∧ ¬ FootX x h y ∧ y < wx.heap.size) ∧ (wx.ownsRow B 5 1 vm zs.length (u8s zs) ∧ ∀ j, vm.ownBlock = some j → ¬ Foot d g j ∧ ¬ FootX x h j ∧ j ≠ y) ∧ Below B w0 wx
section
variable {B d x y : Nat} {w0 wx : World} {cs : Array Value} {vm : Value} {zs : List Int} {p1 p2 : PS}
theorem Mid.cell (q : Mid B w0 wx d x y cs vm zs p1 p2) (j : Nat) : wx.cell? ⟨y, j, none⟩ = cs[j]? := by
  obtain ⟨g, h, left, h1, h2, h3, h4, h5, h6⟩ := q
  exact h4.1 j
theorem Mid.did (q : Mid B w0 wx d x y cs vm zs p1 p2) : wx.cell? ⟨x, 2, none⟩ = some (.int .i64 p2.ops) := by
  obtain ⟨g, h, left, h1, h2, h3, h4, h5, h6⟩ := q
  exact h2.cells.c2
theorem Mid.size (q : Mid B w0 wx d x y cs vm zs p1 p2) : w0.heap.size ≤ wx.heap.size := by
  obtain ⟨g, h, left, h1, h2, h3, h4, h5, h6⟩ := q
  exact h6.size
theorem Mid.row (q : Mid B w0 wx d x y cs vm zs p1 p2) : wx.ownsRow B 5 1 vm zs.length (u8s zs) := by
  obtain ⟨g, h, left, h1, h2, h3, h4, h5, h6⟩ := q
  exact h5.1
theorem Mid.base (q : Mid B w0 wx d x y cs vm zs p1 p2) : Below B w0 wx := by
  obtain ⟨g, h, left, h1, h2, h3, h4, h5, h6⟩ := q
  exact h6
theorem Mid.up (q : Mid B w0 wx d x y cs vm zs p1 p2) : upK PF.name p1.fs := by
  obtain ⟨g, h, left, h1, h2, h3, h4, h5, h6⟩ := q
  rw [h1.view]
  exact upf h1.rest.up
theorem Mid.below {w' : World} (q : Mid B w0 wx d x y cs vm zs p1 p2) (hb : Below wx.heap.size wx w') (hB : B ≤ w0.heap.size) : Mid B w0 w' d x y cs vm zs p1 p2 := by
  obtain ⟨g, h, left, h1, h2, h3, ⟨h4, h4a, h4b, h4c⟩, ⟨h5, h5a⟩, h6⟩ := q
  have := h6.size
  exact ⟨g, h, left, h1.below hb, h2.below hb, h3, ⟨fun j => (hb.cell (p := ⟨y, j, none⟩) h4c).trans (h4 j), h4a, h4b, Nat.lt_of_lt_of_le h4c hb.size⟩, ⟨ownsRow_upd h5 (Upd.ofBelow hb (S := fun _ => False)) (fun _ _ h => h), h5a⟩, h6.trans (hb.mono (by omega))⟩
theorem mid_d {w' : World} {g : Gu} {h : Ru} {left : Int} {p1' : PS} (hB : B ≤ w0.heap.size) (h1 : Dk B wx d g p1) (h2 : Rk B wx x h p2 left) (h3 : ∀ j, FootX x h j → ¬ Foot d g j) (h4 : (∀ j, wx.cell? ⟨y, j, none⟩ = cs[j]?) ∧ ¬ Foot d g y ∧ ¬ FootX x h y ∧ y < wx.heap.size) (h5 : wx.ownsRow B 5 1 vm zs.length (u8s zs) ∧ ∀ j, vm.ownBlock = some j → ¬ Foot d g j ∧ ¬ FootX x h j ∧ j ≠ y) (h6 : Below B w0 wx) (hp : DkPost B wx w' d g p1') : Mid B w0 w' d x y cs vm zs p1' p2 := by
  obtain ⟨g', k1, k2, k3⟩ := hp
  have hs := h6.size
  refine ⟨g', h, left, k1, h2.upd k2 h3, fun j hj hf => ?_, ⟨fun j => (k2.cell (p := ⟨y, j, none⟩) h4.2.2.2 h4.2.1).trans (h4.1 j), fun hf => ?_, h4.2.2.1, Nat.lt_of_lt_of_le h4.2.2.2 k2.size⟩, ⟨ownsRow_upd h5.1 k2 (fun j hj => (h5.2 j hj).1), fun j hj => ⟨fun hf => ?_, (h5.2 j hj).2⟩⟩, h6.trans (h1.toBelow (by omega) k2)⟩
  · rcases k3 j hf with e | e
    · exact h3 j hj e
    · have := h2.lt hj; omega
  · rcases k3 y hf with e | e
    · exact h4.2.1 e
    · omega
  · rcases k3 j hf with e | e
    · exact (h5.2 j hj).1 e
    · have := (h5.1.lt j hj).2; omega
theorem mid_x {w' : World} {g : Gu} {h : Ru} {left : Int} {p2' : PS} (hB : B ≤ w0.heap.size) (h1 : Dk B wx d g p1) (h2 : Rk B wx x h p2 left) (h3 : ∀ j, FootX x h j → ¬ Foot d g j) (h4 : (∀ j, wx.cell? ⟨y, j, none⟩ = cs[j]?) ∧ ¬ Foot d g y ∧ ¬ FootX x h y ∧ y < wx.heap.size) (h5 : wx.ownsRow B 5 1 vm zs.length (u8s zs) ∧ ∀ j, vm.ownBlock = some j → ¬ Foot d g j ∧ ¬ FootX x h j ∧ j ≠ y) (h6 : Below B w0 wx) (hp : RkPost B wx w' x h p2') : Mid B w0 w' d x y cs vm zs p1 p2' := by
  obtain ⟨h', left', k1, k2, k3⟩ := hp
  have hs := h6.size
  refine ⟨g, h', left', h1.upd k2 (fun j hj hf => h3 j hf hj), k1, fun j hj hf => ?_, ⟨fun j => (k2.cell (p := ⟨y, j, none⟩) h4.2.2.2 h4.2.2.1).trans (h4.1 j), h4.2.1, fun hf => ?_, Nat.lt_of_lt_of_le h4.2.2.2 k2.size⟩, ⟨ownsRow_upd h5.1 k2 (fun j hj => (h5.2 j hj).2.1), fun j hj => ⟨(h5.2 j hj).1, fun hf => ?_, (h5.2 j hj).2.2⟩⟩, h6.trans (k2.below (by omega) (fun j hj hf => by have := h2.ge hf; omega))⟩
  · rcases k3 j hj with e | e
    · exact h3 j e hf
    · have := h1.lt hf; omega
  · rcases k3 y hf with e | e
    · exact h4.2.2.1 e
    · omega
  · rcases k3 j hf with e | e
    · exact (h5.2 j hj).2.1 e
    · have := (h5.1.lt j hj).2; omega
/-- The bytes that were handed in are turned. -/
theorem Mid.store (q : Mid B w0 wx d x y cs vm zs p1 p2) (hB : B ≤ w0.heap.size) {g c : Nat} (hv : vm = .slice (some ⟨g, 0, none⟩) zs.length c) (i : Nat) (u : Int) : Mid B w0 (wx.setCell ⟨g, i, none⟩ (.int .u8 u)) d x y cs vm (zs.set i u) p1 p2 := by
  obtain ⟨a, h, left, h1, h2, h3, ⟨h4, h4a, h4b, h4c⟩, ⟨h5, h5a⟩, h6⟩ := q
  have hset := upd_cell wx g i (.int .u8 u)
  have ho := h5a g (by rw [hv]; rfl)
  have hgB := (h5.lt g (by rw [hv]; rfl)).1
  have hs := h6.size
  subst hv
  have hst := (h5.stored i (.int .u8 u)).1
  refine ⟨a, h, left, h1.upd hset (fun k hk e => ho.1 (e ▸ hk)), h2.upd hset (fun k hk e => ho.2.1 (e ▸ hk)), h3, ⟨fun j => (hset.cell (p := ⟨y, j, none⟩) h4c (fun e => ho.2.2 e.symm)).trans (h4 j), h4a, h4b, Nat.lt_of_lt_of_le h4c hset.size⟩, ⟨?_, h5a⟩, h6.trans (hset.below (by omega) (fun k hk e => by omega))⟩
  rw [List.length_set, show u8s (zs.set i u) = (u8s zs).set i (.int .u8 u) from by simp [u8s, List.map_set]]
  exact hst
/-- A new row of bytes is laid beside. -/
theorem mid_mine {w' : World} {v' : Value} {ys : List Int} (q : Mid B w0 wx d x y cs vm zs p1 p2) (hB : B ≤ w0.heap.size) (hb : Below wx.heap.size wx w') (f1 : w'.ownsRow wx.heap.size 5 1 v' ys.length (u8s ys)) : Mid B w0 w' d x y cs v' ys p1 p2 := by
  obtain ⟨g, h, left, h1, h2, h3, ⟨h4, h4a, h4b, h4c⟩, ⟨h5, h5a⟩, h6⟩ := q
  have hs := h6.size
  refine ⟨g, h, left, h1.below hb, h2.below hb, h3, ⟨fun j => (hb.cell (p := ⟨y, j, none⟩) h4c).trans (h4 j), h4a, h4b, Nat.lt_of_lt_of_le h4c hb.size⟩, ⟨?_, fun j hj => ?_⟩, h6.trans (hb.mono (by omega))⟩
  · obtain ⟨a1, a2⟩ := f1
    refine ⟨a1, ?_⟩
    rcases a2 with a2 | ⟨g', cap, cur, rfl, hg, r⟩
    · exact .inl a2
    · exact .inr ⟨g', cap, cur, rfl, by omega, r⟩
  · have hj := (f1.lt j hj).1
    exact ⟨fun hf => by have := h1.lt hf; omega, fun hf => by have := h2.lt hf; omega, by omega⟩
theorem below_sees {v : Value} {ys : List Int} (q : Mid B w0 wx d x y cs vm zs p1 p2) (hv : Sees w0 v ys) (hB : B = w0.heap.size) : Sees wx v ys := by
  obtain ⟨g, h, left, h1, h2, h3, h4, h5, h6⟩ := q
  subst hB
  exact hv.below h6
theorem below_seesI {v : Value} {ys : List Int} (q : Mid B w0 wx d x y cs vm zs p1 p2) (hv : SeesI w0 v ys) (hB : B = w0.heap.size) : SeesI wx v ys := by
  obtain ⟨g, h, left, h1, h2, h3, h4, h5, h6⟩ := q
  subst hB
  exact hv.below h6
theorem sees_lt {w : World} {v : Value} {ys : List Int} (hv : Sees w v ys) {k : Nat} (hk : v.ownBlock = some k) (h0 : 0 < ys.length) : k < w.heap.size := by
  rcases hv with ⟨e, _⟩ | ⟨b, off, cap, e, _, _, _, hc⟩
  · rw [e] at h0; cases h0
  · subst e
    have : b = k := Option.some.inj hk
    subst this
    exact World.block_lt_of_cell? _ _ (hc 0 h0)
theorem seesI_lt {w : World} {v : Value} {ys : List Int} (hv : SeesI w v ys) {k : Nat} (hk : v.ownBlock = some k) (h0 : 0 < ys.length) : k < w.heap.size := by
  rcases hv with ⟨e, _⟩ | ⟨b, off, cap, e, _, hb, hc⟩
  · rw [e] at h0; cases h0
  · subst e
    have : b = k := Option.some.inj hk
    omega
theorem dApp (q : Mid B w0 wx d x y cs vm zs p1 p2) (hs : p1.sane) (hB : B ≤ w0.heap.size) (s : ByteArray) (hy : isB zs) (hl : zs.length ≤ 1000) :
    Calls Try.prog 12 #[ptr d, .string s, vm] wx fun e w' => e = .returned (.int .i64 (appE p1 s.data.toList zs.length)) ∧ Mid B w0 w' d x y cs vm zs (appP p1 s.data.toList zs) p2 := by
  obtain ⟨g, h, left, h1, h2, h3, h4, h5, h6⟩ := q
  have := h6.size
  refine (append_any B d g p1 s vm zs wx h1 hs (by omega) (sees_own h5.1) hy (fun k hk _ => (h5.2 k hk).1) (by omega)).mono ?_
  rintro e w' ⟨rfl, hp⟩
  exact ⟨rfl, mid_d hB h1 h2 h3 h4 h5 h6 hp⟩
theorem xApp (q : Mid B w0 wx d x y cs vm zs p1 p2) (hs : p2.sane) (hB : B = w0.heap.size) (s : ByteArray) (hsl : s.size ≤ 1000000) (v : Value) (ys : List Int) (hv : Sees w0 v ys) (hy : isB ys) (hl : ys.length ≤ 1000) :
    Calls Try.prog 13 #[ptr x, .string s, v] wx fun e w' => e = .returned (.int .i64 (appE p2 s.data.toList ys.length)) ∧ Mid B w0 w' d x y cs vm zs p1 (appP p2 s.data.toList ys) := by
  have hvx := below_sees q hv hB
  obtain ⟨g, h, left, h1, h2, h3, h4, h5, h6⟩ := q
  have := h6.size
  refine (rappend_any B x h p2 left s v ys wx h2 hs hsl hvx hy (by omega) (by omega) (fun k hk h0 hf => by have := sees_lt hv hk h0; have := h2.ge hf; omega)).mono ?_
  rintro e w' ⟨rfl, hp⟩
  exact ⟨rfl, mid_x (by omega) h1 h2 h3 h4 h5 h6 hp⟩
theorem dSync (q : Mid B w0 wx d x y cs vm zs p1 p2) (hs : p1.sane) (hB : B ≤ w0.heap.size) (s : ByteArray) :
    Calls Try.prog 14 #[ptr d, .string s] wx fun e w' => e = .returned (.int .i64 (opE p1 s.data.toList)) ∧ Mid B w0 w' d x y cs vm zs (syncP p1 s.data.toList) p2 := by
  obtain ⟨g, h, left, h1, h2, h3, h4, h5, h6⟩ := q
  refine (sync_any B d g p1 s wx h1 hs).mono ?_
  rintro e w' ⟨rfl, hp⟩
  exact ⟨rfl, mid_d hB h1 h2 h3 h4 h5 h6 hp⟩
theorem xSync (q : Mid B w0 wx d x y cs vm zs p1 p2) (hs : p2.sane) (hB : B ≤ w0.heap.size) (s : ByteArray) (hsl : s.size ≤ 1000000) :
    Calls Try.prog 15 #[ptr x, .string s] wx fun e w' => e = .returned (.int .i64 (opE p2 s.data.toList)) ∧ Mid B w0 w' d x y cs vm zs p1 (syncP p2 s.data.toList) := by
  obtain ⟨g, h, left, h1, h2, h3, h4, h5, h6⟩ := q
  refine (rsync_any B x h p2 left s wx h2 hs hsl).mono ?_
  rintro e w' ⟨rfl, hp⟩
  exact ⟨rfl, mid_x hB h1 h2 h3 h4 h5 h6 hp⟩
theorem dRen (q : Mid B w0 wx d x y cs vm zs p1 p2) (hs : p1.sane) (hB : B ≤ w0.heap.size) (s t : ByteArray) :
    Calls Try.prog 16 #[ptr d, .string s, .string t] wx fun e w' => e = .returned (.int .i64 (renE p1 s.data.toList t.data.toList)) ∧ Mid B w0 w' d x y cs vm zs (renP p1 s.data.toList t.data.toList) p2 := by
  obtain ⟨g, h, left, h1, h2, h3, h4, h5, h6⟩ := q
  refine (rename_any B d g p1 s t wx h1 hs).mono ?_
  rintro e w' ⟨rfl, hp⟩
  exact ⟨rfl, mid_d hB h1 h2 h3 h4 h5 h6 hp⟩
theorem xRen (q : Mid B w0 wx d x y cs vm zs p1 p2) (hs : p2.sane) (hB : B ≤ w0.heap.size) (s t : ByteArray) (hsl : s.size ≤ 1000000) (htl : t.size ≤ 1000000) :
    Calls Try.prog 17 #[ptr x, .string s, .string t] wx fun e w' => e = .returned (.int .i64 (renE p2 s.data.toList t.data.toList)) ∧ Mid B w0 w' d x y cs vm zs p1 (renP p2 s.data.toList t.data.toList) := by
  obtain ⟨g, h, left, h1, h2, h3, h4, h5, h6⟩ := q
  have := h6.size
  refine (rrename_any B x h p2 left s t wx h2 hs hsl htl (by omega)).mono ?_
  rintro e w' ⟨rfl, hp⟩
  exact ⟨rfl, mid_x hB h1 h2 h3 h4 h5 h6 hp⟩
theorem dRem (q : Mid B w0 wx d x y cs vm zs p1 p2) (hs : p1.sane) (hB : B ≤ w0.heap.size) (s : ByteArray) :
    Calls Try.prog 18 #[ptr d, .string s] wx fun e w' => e = .returned (.int .i64 (opE p1 s.data.toList)) ∧ Mid B w0 w' d x y cs vm zs (remP p1 s.data.toList) p2 := by
  obtain ⟨g, h, left, h1, h2, h3, h4, h5, h6⟩ := q
  refine (remove_any B d g p1 s wx h1 hs).mono ?_
  rintro e w' ⟨rfl, hp⟩
  exact ⟨rfl, mid_d hB h1 h2 h3 h4 h5 h6 hp⟩
theorem xRem (q : Mid B w0 wx d x y cs vm zs p1 p2) (hs : p2.sane) (hB : B ≤ w0.heap.size) (s : ByteArray) (hsl : s.size ≤ 1000000) :
    Calls Try.prog 19 #[ptr x, .string s] wx fun e w' => e = .returned (.int .i64 (opE p2 s.data.toList)) ∧ Mid B w0 w' d x y cs vm zs p1 (remP p2 s.data.toList) := by
  obtain ⟨g, h, left, h1, h2, h3, h4, h5, h6⟩ := q
  have := h6.size
  refine (rremove_any B x h p2 left s wx h2 hs hsl (by omega)).mono ?_
  rintro e w' ⟨rfl, hp⟩
  exact ⟨rfl, mid_x hB h1 h2 h3 h4 h5 h6 hp⟩
theorem dRead (q : Mid B w0 wx d x y cs vm zs p1 p2) (hs : p1.sane) (hB : B ≤ w0.heap.size) (s : ByteArray) :
    Calls Try.prog 20 #[ptr d, .string s] wx fun e w' => ∃ v, e = .returned (.tuple #[v, .int .i64 (readE p1 s.data.toList)]) ∧ Sees w' v (readB p1 s.data.toList) ∧ Mid B w0 w' d x y cs vm zs p1 p2 ∧ Below wx.heap.size wx w' := by
  have q' := q
  obtain ⟨g, h, left, h1, h2, h3, h4, h5, h6⟩ := q
  refine (read_any B d g p1 s wx h1 hs.tot).mono ?_
  rintro e w' ⟨v, rfl, ho, hb⟩
  exact ⟨v, rfl, sees_own ho, q'.below hb hB, hb⟩
theorem xRead (q : Mid B w0 wx d x y cs vm zs p1 p2) (hs : p2.sane) (hB : B ≤ w0.heap.size) (s : ByteArray) (hsl : s.size ≤ 1000000) :
    Calls Try.prog 21 #[ptr x, .string s] wx fun e w' => ∃ v, e = .returned (.tuple #[v, .int .i64 (readE p2 s.data.toList)]) ∧ Sees w' v (readB p2 s.data.toList) ∧ Mid B w0 w' d x y cs vm zs p1 p2 ∧ Below wx.heap.size wx w' := by
  have q' := q
  obtain ⟨g, h, left, h1, h2, h3, h4, h5, h6⟩ := q
  refine (rread_any B x h p2 left s wx h2 hs hsl).mono ?_
  rintro e w' ⟨v, rfl, ho, hb⟩
  exact ⟨v, rfl, sees_own ho, q'.below hb hB, hb⟩
theorem dList (q : Mid B w0 wx d x y cs vm zs p1 p2) (hs : p1.sane) (hB : B ≤ w0.heap.size) :
    Calls Try.prog 22 #[ptr d] wx fun e w' => ∃ v, e = .returned (.tuple #[v, .int .i64 (listE p1)]) ∧ w'.ownsRow wx.heap.size 9 1 v (listB p1).length (strs (listB p1)) ∧ Mid B w0 w' d x y cs vm zs p1 p2 ∧ Below wx.heap.size wx w' := by
  have q' := q
  obtain ⟨g, h, left, h1, h2, h3, h4, h5, h6⟩ := q
  refine (list_any B d g p1 wx h1 hs.len).mono ?_
  rintro e w' ⟨v, rfl, ho, hb⟩
  exact ⟨v, rfl, ho, q'.below hb hB, hb⟩
theorem xList (q : Mid B w0 wx d x y cs vm zs p1 p2) (hs : p2.sane) (hB : B ≤ w0.heap.size) :
    Calls Try.prog 23 #[ptr x] wx fun e w' => ∃ v, e = .returned (.tuple #[v, .int .i64 (listE p2)]) ∧ w'.ownsRow wx.heap.size 9 1 v (listB p2).length (strs (listB p2)) ∧ Mid B w0 w' d x y cs vm zs p1 p2 ∧ Below wx.heap.size wx w' := by
  have q' := q
  obtain ⟨g, h, left, h1, h2, h3, h4, h5, h6⟩ := q
  refine (rlist_any B x h p2 left wx h2 hs).mono ?_
  rintro e w' ⟨v, rfl, ho, hb⟩
  exact ⟨v, rfl, ho, q'.below hb hB, hb⟩
theorem dStop (q : Mid B w0 wx d x y cs vm zs p1 p2) (hB : B ≤ w0.heap.size) (n : Int) :
    Calls Try.prog 24 #[ptr d, .int .i64 n] wx fun e w' => e = .returned (.tuple #[]) ∧ Mid B w0 w' d x y cs vm zs { p1 with stops := n } p2 := by
  obtain ⟨g, h, left, h1, h2, h3, h4, h5, h6⟩ := q
  refine (stop_any B d g p1 n wx h1).mono ?_
  rintro e w' ⟨rfl, hd, hu⟩
  exact ⟨rfl, mid_d hB h1 h2 h3 h4 h5 h6 (DkPost.same hd hu)⟩
theorem xStop (q : Mid B w0 wx d x y cs vm zs p1 p2) (hB : B ≤ w0.heap.size) (n : Int) (hn : n ≤ 9223372036854775807) :
    Calls Try.prog 25 #[ptr x, .int .i64 n] wx fun e w' => e = .returned (.tuple #[]) ∧ Mid B w0 w' d x y cs vm zs p1 { p2 with stops := n } := by
  obtain ⟨g, h, left, h1, h2, h3, h4, h5, h6⟩ := q
  refine (rstop_any B x h p2 left n wx h2 hn).mono ?_
  rintro e w' ⟨rfl, hp⟩
  exact ⟨rfl, mid_x hB h1 h2 h3 h4 h5 h6 hp⟩
theorem dCrash (q : Mid B w0 wx d x y cs vm zs p1 p2) (hs : p1.sane) (hB : B = w0.heap.size) (v : Value) (picks : List Int) (hv : SeesI w0 v picks) :
    Calls Try.prog 26 #[ptr d, v] wx fun e w' => e = .returned (.int .i64 (crashN 0 p1.fs)) ∧ Mid B w0 w' d x y cs vm zs (crashP p1 picks) p2 := by
  have hvx := below_seesI q hv hB
  obtain ⟨g, h, left, h1, h2, h3, h4, h5, h6⟩ := q
  refine (crash_any B d g p1 v picks wx h1 hs hvx (fun k hk h0 hf => by have := seesI_lt hv hk h0; have := h1.ge hf; omega)).mono ?_
  rintro e w' ⟨rfl, hp⟩
  exact ⟨rfl, mid_d (by omega) h1 h2 h3 h4 h5 h6 hp⟩
theorem xCrash (q : Mid B w0 wx d x y cs vm zs p1 p2) (hs : p2.sane) (hB : B = w0.heap.size) (v : Value) (picks : List Int) (hv : SeesI w0 v picks) (hl : picks.length ≤ 140737488355328) :
    Calls Try.prog 27 #[ptr x, v] wx fun e w' => e = .returned (.int .i64 (crashN 0 p2.fs)) ∧ Mid B w0 w' d x y cs vm zs p1 (crashP p2 picks) := by
  have hvx := below_seesI q hv hB
  obtain ⟨g, h, left, h1, h2, h3, h4, h5, h6⟩ := q
  refine (rcrash_any B x h p2 left v picks wx h2 hs hvx (fun k hk h0 hf => by have := seesI_lt hv hk h0; have := h2.ge hf; omega) hl).mono ?_
  rintro e w' ⟨rfl, hp⟩
  exact ⟨rfl, mid_x (by omega) h1 h2 h3 h4 h5 h6 hp⟩
theorem dOps (q : Mid B w0 wx d x y cs vm zs p1 p2) : Calls Try.prog 28 #[ptr d] wx fun e w' => e = .returned (.int .i64 p1.ops) ∧ w' = wx := by
  obtain ⟨g, h, left, h1, h2, h3, h4, h5, h6⟩ := q
  exact ops_any _ _ _ _ _ h1
theorem dUsed (q : Mid B w0 wx d x y cs vm zs p1 p2) : Calls Try.prog 29 #[ptr d] wx fun e w' => e = .returned (.int .i64 (total p1.fs)) ∧ w' = wx := by
  obtain ⟨g, h, left, h1, h2, h3, h4, h5, h6⟩ := q
  exact used_any _ _ _ _ _ h1
theorem xUsed (q : Mid B w0 wx d x y cs vm zs p1 p2) (hs : p2.sane) : Calls Try.prog 30 #[ptr x] wx fun e w' => e = .returned (.int .i64 (total p2.fs)) ∧ w' = wx := by
  obtain ⟨g, h, left, h1, h2, h3, h4, h5, h6⟩ := q
  exact rused_any _ _ _ _ _ _ h2 hs.tot hs.len
theorem dName (q : Mid B w0 wx d x y cs vm zs p1 p2) (hB : B ≤ w0.heap.size) (s : ByteArray) : Calls Try.prog 31 #[.string s] wx fun e w' => e = .returned (.bool (okName s.data.toList)) ∧ Mid B w0 w' d x y cs vm zs p1 p2 := by
  refine (name_any s wx).mono ?_
  rintro e w' ⟨rfl, hb⟩
  exact ⟨rfl, q.below hb hB⟩
end
end Go.Proofs.Ytmfhfabfhoiegaa
