/- The chapter's example, as the statements ask it first: it holds. -/
import Derived.Test.YtmfhfabfhoiegaaCrash
namespace Go.Proofs.Ytmfhfabfhoiegaa
open Go Go.RowKit
theorem Dk.toBelow {B : Nat} {w w' : World} {d : Nat} {g : Gu} {p : PS} (h : Dk B w d g p) (hB : B ≤ w.heap.size) (hu : Upd w w' (Foot d g)) : Below B w w' :=
  hu.below hB (fun k hk hf => by have := h.ge hf; omega)
theorem DkPost.go {B : Nat} {w w' : World} {d : Nat} {g : Gu} {p p' : PS} (h : DkPost B w w' d g p') (hd : Dk B w d g p) (hB : B ≤ w.heap.size) : ∃ g', Dk B w' d g' p' ∧ Below B w w' := by
  obtain ⟨g', h1, h2, _⟩ := h
  exact ⟨g', h1, hd.toBelow hB h2⟩
theorem seesI_new (w : World) (x : Int) : SeesI (w.alloc (.cells #[.int .i64 x] 3)) (.slice (some ⟨w.heap.size, 0, none⟩) 1 1) [x] := by
  refine .inr ⟨w.heap.size, 0, 1, rfl, by simp, by simp, fun i hi => ?_⟩
  have : i = 0 := by simpa using hi
  subst this
  simp
abbrev nmA : List UInt8 := [97]
def q0 (room : Int) : PS := ⟨[], room, 0, 0, false⟩
theorem sane_q0 {room : Int} (h0 : 0 ≤ room) (h1 : room ≤ 9223372036854775807) : (q0 room).sane := ⟨h0, h1, by simp [q0], by simp [q0], by simp [q0], by simp [q0], by simp [q0, total], by simp [q0]⟩
theorem k1 : appP (q0 100) [97] [120, 121, 122] = ⟨[⟨[97], [120, 121, 122], 0⟩], 100, 1, 0, false⟩ := rfl
theorem k2 : syncP ⟨[⟨[97], [120, 121, 122], 0⟩], 100, 1, 0, false⟩ [97] = ⟨[⟨[97], [120, 121, 122], 3⟩], 100, 2, 0, false⟩ := rfl
theorem k3 : appP ⟨[⟨[97], [120, 121, 122], 3⟩], 100, 2, 0, false⟩ [97] [117, 118] = ⟨[⟨[97], [120, 121, 122, 117, 118], 3⟩], 100, 3, 0, false⟩ := rfl
theorem k4 : crashP ⟨[⟨[97], [120, 121, 122, 117, 118], 3⟩], 100, 3, 0, false⟩ [1] = ⟨[⟨[97], [120, 121, 122, 117], 4⟩], 100, 3, 0, false⟩ := rfl
theorem k5 : readB ⟨[⟨[97], [120, 121, 122, 117], 4⟩], 100, 3, 0, false⟩ [97] = [120, 121, 122, 117] := rfl
theorem k6 : readE ⟨[⟨[97], [120, 121, 122, 117], 4⟩], 100, 3, 0, false⟩ [97] = 0 := rfl
theorem isB_of (l : List Int) (h : l.all (fun x => decide (0 ≤ x ∧ x ≤ 255)) = true) : isB l := fun x hx => by simpa using List.all_eq_true.1 h x hx
theorem sane_of {fs : List PF} {room ops stops : Int} {dead : Bool} (h : decide (0 ≤ room ∧ room ≤ 9223372036854775807 ∧ -9223372036854775808 ≤ stops ∧ stops ≤ 9223372036854775807 ∧ 0 ≤ ops ∧ ops ≤ 1000000 ∧ total fs ≤ 1000000 ∧ fs.length < 1000000) = true) : (⟨fs, room, ops, stops, dead⟩ : PS).sane := by
  have h := of_decide_eq_true h
  exact ⟨h.1, h.2.1, h.2.2.1, h.2.2.2.1, h.2.2.2.2.1, h.2.2.2.2.2.1, h.2.2.2.2.2.2.1, h.2.2.2.2.2.2.2⟩
theorem off_new {B : Nat} {w : World} {d : Nat} {g : Gu} {p : PS} (h : Dk B w d g p) {n c : Nat} : ∀ k, (Value.slice (some ⟨w.heap.size, 0, none⟩) n c).ownBlock = some k → ∀ P : Prop, P → ¬ Foot d g k := fun k hk _ _ hf => by
  have := h.lt hf
  have : w.heap.size = k := Option.some.inj hk
  omega
theorem new_dk (B : Nat) (room : Int) (w : World) (h : 0 ≤ room) (hB : B ≤ w.heap.size) : Calls Try.prog 10 #[.int .i64 room] w fun e w' => ∃ d, d = w.heap.size ∧ e = .returned (.tuple #[ptr d, .int .i64 0]) ∧ Dk B w' d ⟨none, []⟩ (q0 room) ∧ Below w.heap.size w w' := by
  refine (new_yes room w h).mono ?_
  rintro e w' ⟨rfl, rfl⟩
  exact ⟨_, rfl, rfl, Dk.new hB, (Below.refl _ _).alloc (Nat.le_refl _) _⟩
set_option maxRecDepth 100000 in
set_option maxHeartbeats 2000000 in
theorem known_any (w : World) : Calls Try.prog 9 #[] w fun e w' => e = .returned (.bool true) ∧ Below w.heap.size w w' := by
  have hcv := fun (w : World) (C : Array Value) (n c : Nat) => Lib.run_convert_bytes_const (P := Try.prog) w 31 5 C n c Try.underlying31 Try.underlying5
  have heq : ∀ (w' : World) (d : Nat), (binOp .eql 24 (ptr d) (.pointer none)).run Try.prog w' = .ok (.bool false) w' := fun _ _ => by kernel_rfl
  go_enter Try.func9, Try.ntmps9
  go_wp2_with fail
  refine (new_dk w.heap.size 100 w (by decide) (Nat.le_refl _)).mono ?_
  rintro e w1 ⟨d, hdd, rfl, hd1, hb1⟩
  have hs1 := hb1.size
  clear hdd
  have hda := hd1.below ((Below.refl _ _).alloc (Nat.le_refl _) (.cells #[.int .u8 120, .int .u8 121, .int .u8 122] 5 (3, 4)))
  have hA := append_any w.heap.size d _ _ ⟨#[97]⟩ (.slice (some ⟨w1.heap.size, 0, none⟩) 3 3) [120, 121, 122] _ hda (sane_q0 (by decide) (by decide)) (by simp; omega) (sees_new w1 [120, 121, 122] (3, 4) (by decide) (by decide)) (isB_of _ (by decide)) (fun k hk _ => off_new hd1 k hk True trivial) (by decide)
  go_wp2_with (go_at_call 12; refine hA.mono ?_; rintro e w2 ⟨rfl, hp2⟩; obtain ⟨g2, hd2, hb2⟩ := hp2.go hda (by simp; omega); clear hp2)
  replace hb2 := (hb1.alloc hs1 (.cells #[.int .u8 120, .int .u8 121, .int .u8 122] 5 (3, 4))).trans hb2
  have hs2 := hb2.size
  rw [show appP (q0 100) _ _ = _ from k1] at hd2
  clear hA hda hd1 hb1 hs1
  refine (sync_any w.heap.size d _ _ ⟨#[97]⟩ w2 hd2 (sane_of (by decide))).mono ?_
  rintro e w3 ⟨rfl, hp3⟩
  obtain ⟨g3, hd3, hb3⟩ := hp3.go hd2 hs2
  replace hb3 := hb2.trans hb3
  have hs3 := hb3.size
  rw [show syncP _ _ = _ from k2] at hd3
  clear hp3 hd2 hb2 hs2
  have hda := hd3.below ((Below.refl _ _).alloc (Nat.le_refl _) (.cells #[.int .u8 117, .int .u8 118] 5 (2, 3)))
  have hA := append_any w.heap.size d _ _ ⟨#[97]⟩ (.slice (some ⟨w3.heap.size, 0, none⟩) 2 2) [117, 118] _ hda (sane_of (by decide)) (by simp; omega) (sees_new w3 [117, 118] (2, 3) (by decide) (by decide)) (isB_of _ (by decide)) (fun k hk _ => off_new hd3 k hk True trivial) (by decide)
  go_wp2_with (go_at_call 12; refine hA.mono ?_; rintro e w4 ⟨rfl, hp2⟩; obtain ⟨g4, hd4, hb4⟩ := hp2.go hda (by simp; omega); clear hp2)
  replace hb4 := (hb3.alloc hs3 (.cells #[.int .u8 117, .int .u8 118] 5 (2, 3))).trans hb4
  have hs4 := hb4.size
  rw [show appP _ _ _ = _ from k3] at hd4
  clear hA hda hd3 hb3 hs3
  have hda := hd4.below ((Below.refl _ _).alloc (Nat.le_refl _) (.cells #[.int .i64 1] 3))
  have hC := crash_any w.heap.size d _ _ (.slice (some ⟨w4.heap.size, 0, none⟩) 1 1) [1] _ hda (sane_of (by decide)) (seesI_new w4 1) (fun k hk _ => off_new hd4 k hk True trivial)
  rw [show crashN 0 [{ name := [97], xs := [120, 121, 122, 117, 118], sy := 3 }] = 1 from rfl] at hC
  go_wp2_with (go_at_call 26; refine hC.mono ?_; rintro e w5 ⟨rfl, hp5⟩; obtain ⟨g5, hd5, hb5⟩ := hp5.go hda (by simp; omega); clear hp5)
  replace hb5 := (hb4.alloc hs4 (.cells #[.int .i64 1] 3)).trans hb5
  have hs5 := hb5.size
  rw [show crashP _ _ = _ from k4] at hd5
  clear hC hda hd4 hb4 hs4
  refine (read_any w.heap.size d _ _ ⟨#[97]⟩ w5 hd5 (by decide)).mono ?_
  rintro e w6 ⟨v, rfl, ho6, hb6⟩
  rw [show readE _ _ = _ from k6]
  rw [show readB _ _ = _ from k5] at ho6
  have hcs := conv_sees (sees_own ho6)
  have hse : (strOfNums [120, 121, 122, 117]).toList = [120, 121, 122, 117] := by rw [ByteArray.toList_eq]; rfl
  have HB : Hid (Below w.heap.size w w6) := hb5.trans (hb6.mono hs5)
  clear ho6 hb6 hd5 hb5 hcv
  go_wp2
  go_ret
  exact ⟨rfl, HB.out⟩
end Go.Proofs.Ytmfhfabfhoiegaa
