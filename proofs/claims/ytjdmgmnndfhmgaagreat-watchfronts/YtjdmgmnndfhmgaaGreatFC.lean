/- Calls that come in; a call that is not too much; a key in a range. -/
import Derived.Test.YtjdmgmnndfhmgaaGreatGRP
import Derived.Deep.LoopGhost
import Derived.Deep.QuietTactic
import Derived.BigQuiet
import Derived.Handy
import Derived.Deep.CutRange
import Derived.Deep.RegionHeldLaw
namespace Go.Proofs.YtjdmgmnndfhmgaaGreat
open Go Go.RowKit
structure Cd where
  kind : Int
  n : Int
  max : Int
  lo : ByteArray
  hi : ByteArray
  keys : List ByteArray
def noCd : Cd := ⟨0, 0, 0, ByteArray.empty, ByteArray.empty, []⟩
def SeesK (w : World) (v : Value) (ks : List ByteArray) : Prop :=
  (ks = [] ∧ ∃ ao cap, v = .slice ao 0 cap) ∨
  ∃ b off cap, v = .slice (some ⟨b, off, none⟩) ks.length cap ∧ 0 < ks.length ∧ b < w.heap.size ∧ ∀ i, i < ks.length → w.cell? ⟨b, off + i, none⟩ = some (.string (ks.getD i ByteArray.empty)) ∧ (ks.getD i ByteArray.empty).size ≤ 140737488355328
theorem SeesK.form {w : World} {v : Value} {zs : List ByteArray} (h : SeesK w v zs) : ∃ ao cap, v = .slice ao zs.length cap := by
  rcases h with ⟨rfl, ao, cap, rfl⟩ | ⟨b, off, cap, rfl, _⟩ <;> exact ⟨_, _, rfl⟩
theorem SeesK.at {w : World} {a : Option Addr} {cap : Nat} {cs : List ByteArray} (h : SeesK w (.slice a cs.length cap) cs) {j : Nat} (hj : j < cs.length) :
    ∃ b off, a = some ⟨b, off, none⟩ ∧ b < w.heap.size ∧ w.cell? ⟨b, off + j, none⟩ = some (.string (cs.getD j ByteArray.empty)) ∧ (cs.getD j ByteArray.empty).size ≤ 140737488355328 := by
  rcases h with ⟨h, _⟩ | ⟨b, off, c, he, _, hb, hc⟩
  · subst h; simp at hj
  · cases he; exact ⟨b, off, rfl, hb, hc j hj⟩
theorem SeesK.below {w w' : World} {v : Value} {ds : List ByteArray} (h : SeesK w v ds) (hb : Below w.heap.size w w') : SeesK w' v ds := by
  rcases h with h | ⟨b, off, cap, e, h1, h2, h3⟩
  · exact .inl h
  · exact .inr ⟨b, off, cap, e, h1, Nat.lt_of_lt_of_le h2 hb.size, fun i hi => ⟨(hb.cell (p := ⟨b, off + i, none⟩) h2).trans (h3 i hi).1, (h3 i hi).2⟩⟩
structure HasC (w : World) (b o : Nat) (c : Cd) : Prop where
  c0 : w.cell? ⟨b, o, none⟩ = some (.int .i64 c.kind)
  c1 : w.cell? ⟨b, o + 1, none⟩ = some (.int .i64 c.n)
  c2 : w.cell? ⟨b, o + 2, none⟩ = some (.int .i64 c.max)
  c3 : w.cell? ⟨b, o + 3, none⟩ = some (.string c.lo)
  c4 : w.cell? ⟨b, o + 4, none⟩ = some (.string c.hi)
  c5 : ∃ v, w.cell? ⟨b, o + 5, none⟩ = some v ∧ SeesK w v c.keys
  s3 : c.lo.size ≤ 140737488355328
  s4 : c.hi.size ≤ 140737488355328
  s5 : c.keys.length ≤ 9223372036854775807
theorem HasC.below {w w' : World} {b o : Nat} {c : Cd} (h : HasC w b o c) (hl : b < w.heap.size) (hb : Below w.heap.size w w') : HasC w' b o c := by
  obtain ⟨v, h1, h2⟩ := h.c5
  exact ⟨(hb.cell (p := ⟨b, _, none⟩) hl).trans h.c0, (hb.cell (p := ⟨b, _, none⟩) hl).trans h.c1, (hb.cell (p := ⟨b, _, none⟩) hl).trans h.c2, (hb.cell (p := ⟨b, _, none⟩) hl).trans h.c3, (hb.cell (p := ⟨b, _, none⟩) hl).trans h.c4, ⟨v, (hb.cell (p := ⟨b, _, none⟩) hl).trans h1, h2.below hb⟩, h.s3, h.s4, h.s5⟩
def SeesC (w : World) (v : Value) (cs : List Cd) : Prop :=
  (cs = [] ∧ ∃ ao cap, v = .slice ao 0 cap) ∨
  ∃ b off cap, v = .slice (some ⟨b, off, none⟩) cs.length cap ∧ 0 < cs.length ∧ b < w.heap.size ∧ ∀ i, i < cs.length → HasC w b (off + i * 6) (cs.getD i noCd)
theorem SeesC.form {w : World} {v : Value} {zs : List Cd} (h : SeesC w v zs) : ∃ ao cap, v = .slice ao zs.length cap := by
  rcases h with ⟨rfl, ao, cap, rfl⟩ | ⟨b, off, cap, rfl, _⟩ <;> exact ⟨_, _, rfl⟩
theorem SeesC.at {w : World} {a : Option Addr} {cap : Nat} {cs : List Cd} (h : SeesC w (.slice a cs.length cap) cs) {j : Nat} (hj : j < cs.length) :
    ∃ b off, a = some ⟨b, off, none⟩ ∧ b < w.heap.size ∧ HasC w b (off + j * 6) (cs.getD j noCd) := by
  rcases h with ⟨h, _⟩ | ⟨b, off, c, he, _, hb, hc⟩
  · subst h; simp at hj
  · cases he; exact ⟨b, off, rfl, hb, hc j hj⟩
def FewP (c : Cd) (e : Ending) : Prop := ∃ bl, e = .returned (.bool bl) ∧ (bl = true → c.keys.length ≤ 30)
set_option maxRecDepth 100000 in
set_option maxHeartbeats 1000000 in
theorem few_any (c : Cd) (v : Value) (w : World) (hD : SeesK w v c.keys) (hl : c.keys.length ≤ 9223372036854775807) (s3 : c.lo.size ≤ 140737488355328) (s4 : c.hi.size ≤ 140737488355328) :
    Calls Tryz.prog 9 #[.agg #[.int .i64 c.kind, .int .i64 c.n, .int .i64 c.max, .string c.lo, .string c.hi, v]] w fun e w' => FewP c e ∧ Below w.heap.size w w' := by
  obtain ⟨ao, cap, rfl⟩ := hD.form
  obtain ⟨w1, hw1⟩ : ∃ w1, w1 = w.alloc (.cells #[.int .i64 c.kind, .int .i64 c.n, .int .i64 c.max, .string c.lo, .string c.hi, .slice ao c.keys.length cap] 39) := ⟨_, rfl⟩
  have hb1 : Below w.heap.size w w1 := by rw [hw1]; exact (Below.refl _ _).alloc (Nat.le_refl _) _
  have k3 : w1.cell? ⟨w.heap.size, 3, none⟩ = some (.string c.lo) := by rw [hw1]; simp
  have k4 : w1.cell? ⟨w.heap.size, 4, none⟩ = some (.string c.hi) := by rw [hw1]; simp
  have k5 : w1.cell? ⟨w.heap.size, 5, none⟩ = some (.slice ao c.keys.length cap) := by rw [hw1]; simp
  have HD := Hid.mkW (hD.below hb1)
  have HB := Hid.mkW hb1
  clear hD hb1
  go_enter Tryz.func9, Tryz.ntmps9
  go_upto_region 1 with fail
  rw [← hw1]
  clear hw1
  obtain ⟨bx, hbx0⟩ : ∃ bx, bx = w.heap.size := ⟨_, rfl⟩
  have HBX := Hid.mkW hbx0
  rw [← hbx0] at k3 k4 k5 ⊢
  clear hbx0
  go_wp2
  have hbx : bx < w1.heap.size := World.block_lt_of_cell? _ _ k5
  go_loopg [3, 4] 51 (fun kx s3 s4 wq => ∃ (m : Int) (i : Nat), s3 = .int .i64 m ∧ s4 = .int .i64 i ∧ kx + i = 51 ∧ i ≤ 50 ∧ i ≤ c.keys.length ∧ Hid (Below w1.heap.size w1 wq))
  case atStart => exact ⟨_, 0, rfl, rfl, rfl, Nat.zero_le _, Nat.zero_le _, Below.refl _ _⟩
  case round =>
    obtain ⟨m, i, rfl, rfl, hk, hi, hil, HW⟩ := hrel
    have e5 := (HW.out.cell (p := ⟨bx, 5, none⟩) hbx).trans k5
    by_cases hlt : i < c.keys.length ∧ i < 50
    · have hl1 : (i : Int) < (c.keys.length : Int) := by omega
      have hl2 : (i : Int) < 50 := by omega
      obtain ⟨b, off, rfl, hbl, hd0, hd1⟩ := HD.out.at hlt.1
      have hd := (HW.out.cell (p := ⟨b, off + i, none⟩) hbl).trans hd0
      generalize c.keys.getD i ByteArray.empty = dd at *
      clear hd0 k5 HD
      go_wp2
      go_roundg (50 - i)
      case measure => omega
      case rel => exact ⟨_, i + 1, rfl, by congr 1, by omega, by omega, by omega, HW⟩
    · have HE : Hid (Below w.heap.size w wr) := HB.out.trans (HW.out.mono HB.out.size)
      by_cases h30 : c.keys.length ≤ 30
      · have h30' : (c.keys.length : Int) ≤ 30 := by omega
        have hl1 : ¬ (i : Int) < (c.keys.length : Int) := by omega
        by_cases hm : m < 3000
        · go_wp2
          go_ret
          exact ⟨⟨_, rfl, fun _ => h30⟩, HE.out⟩
        · go_wp2
          go_ret
          exact ⟨⟨_, rfl, fun _ => h30⟩, HE.out⟩
      · have h30' : ¬ (c.keys.length : Int) ≤ 30 := by omega
        by_cases hl3 : i < c.keys.length
        · have hl1 : (i : Int) < (c.keys.length : Int) := by omega
          have hl2 : ¬ (i : Int) < 50 := by omega
          go_wp2
          go_ret
          exact ⟨⟨false, rfl, fun h => by cases h⟩, HE.out⟩
        · have hl1 : ¬ (i : Int) < (c.keys.length : Int) := by omega
          go_wp2
          go_ret
          exact ⟨⟨false, rfl, fun h => by cases h⟩, HE.out⟩
set_option maxRecDepth 100000 in
set_option maxHeartbeats 1000000 in
theorem in_any (key lo hi : ByteArray) (w : World) : Calls Tryz.prog 33 #[.string key, .string lo, .string hi] w fun e w' => e = .returned (.bool (inR lo hi key)) ∧ w' = w := by
  by_cases hh : hi = ByteArray.empty
  · have e : inR lo hi key = decide (key = lo) := by simp [inR, hh]
    rw [e]
    subst hh
    go_enter Tryz.func33, Tryz.ntmps33
    go_wp2
    go_ret
    refine ⟨?_, rfl⟩
    show Ending.returned (Value.bool (key.toList == lo.toList)) = _
    rw [list_beq]
  · have e : inR lo hi key = (!klt key lo && klt key hi) := by simp [inR, hh]
    have he : hi.toList.isEmpty = false := by rw [isEmpty_list]; simp [hh]
    have hge : Op.bytesLess key.toList lo.toList = klt key lo := bl_data key lo
    have HE := Hid.mkW e
    clear e hh
    cases hk : klt key lo with
    | true =>
      rw [hk] at hge
      go_enter Tryz.func33, Tryz.ntmps33
      go_wp2
      go_ret
      refine ⟨?_, rfl⟩
      rw [HE.out, hk]
      rfl
    | false =>
      rw [hk] at hge
      go_enter Tryz.func33, Tryz.ntmps33
      go_wp2
      go_ret
      refine ⟨?_, rfl⟩
      rw [HE.out, hk]
      rw [← bl_data key hi]
      rfl
end Go.Proofs.YtjdmgmnndfhmgaaGreat
