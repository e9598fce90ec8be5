/- The chapter's example, as the statements ask it first: it holds. -/
import Derived.Test.YtdcpfjlnagigaaaGreatDoorCrash
namespace Go.Proofs.YtdcpfjlnagigaaaGreatDoor
open Go Go.RowKit
theorem Dk.toBelow {B : Nat} {w w' : World} {d : Nat} {g : Gu} {p : PS} (h : Dk B w d g p) (hB : B ≤ w.heap.size) (hu : Upd w w' (Foot d g)) : Below B w w' :=
  hu.below hB (fun k hk hf => by have := h.ge hf; omega)
theorem DkPost.go {B : Nat} {w w' : World} {d : Nat} {g : Gu} {p p' : PS} (h : DkPost B w w' d g p') (hd : Dk B w d g p) (hB : B ≤ w.heap.size) : ∃ g', Dk B w' d g' p' ∧ Below B w w' := by
  obtain ⟨g', h1, h2, _⟩ := h
  exact ⟨g', h1, hd.toBelow hB h2⟩
theorem seesI_new (w : World) (x : Int) : SeesI (w.alloc (.cells #[.int .i64 x] 3)) (.slice (some ⟨w.heap.size, 0, none⟩) 1 1) [x] := by
  refine .inr ⟨w.heap.size, 0, 1, rfl, by simp, by simp, fun i hi => ?_⟩
  have : i = 0 := by simpa using hi
  subst this
  simp
abbrev nmA : List UInt8 := [97]
def q0 (room : Int) : PS := ⟨[], room, 0, 0, false⟩
theorem sane_q0 {room : Int} (h0 : 0 ≤ room) (h1 : room ≤ 9223372036854775807) : (q0 room).sane := ⟨h0, h1, by simp [q0], by simp [q0], by simp [q0], by simp [q0], by simp [q0, total], by simp [q0]⟩
theorem k1 : appP (q0 100) [97] [120, 121, 122] = ⟨[⟨[97], [120, 121, 122], 0⟩], 100, 1, 0, false⟩ := rfl
theorem k2 : syncP ⟨[⟨[97], [120, 121, 122], 0⟩], 100, 1, 0, false⟩ [97] = ⟨[⟨[97], [120, 121, 122], 3⟩], 100, 2, 0, false⟩ := rfl
theorem k3 : appP ⟨[⟨[97], [120, 121, 122], 3⟩], 100, 2, 0, false⟩ [97] [117, 118] = ⟨[⟨[97], [120, 121, 122, 117, 118], 3⟩], 100, 3, 0, false⟩ := rfl
theorem k4 : crashP ⟨[⟨[97], [120, 121, 122, 117, 118], 3⟩], 100, 3, 0, false⟩ [1] = ⟨[⟨[97], [120, 121, 122, 117], 4⟩], 100, 3, 0, false⟩ := rfl
theorem k5 : readB ⟨[⟨[97], [120, 121, 122, 117], 4⟩], 100, 3, 0, false⟩ [97] = [120, 121, 122, 117] := rfl
theorem k6 : readE ⟨[⟨[97], [120, 121, 122, 117], 4⟩], 100, 3, 0, false⟩ [97] = 0 := rfl
theorem isB_of (l : List Int) (h : l.all (fun x => decide (0 ≤ x ∧ x ≤ 255)) = true) : isB l := fun x hx => by simpa using List.all_eq_true.1 h x hx
theorem sane_of {fs : List PF} {room ops stops : Int} {dead : Bool} (h : decide (0 ≤ room ∧ room ≤ 9223372036854775807 ∧ -9223372036854775808 ≤ stops ∧ stops ≤ 9223372036854775807 ∧ 0 ≤ ops ∧ ops ≤ 1000000 ∧ total fs ≤ 1000000 ∧ fs.length < 1000000) = true) : (⟨fs, room, ops, stops, dead⟩ : PS).sane := by
  have h := of_decide_eq_true h
  exact ⟨h.1, h.2.1, h.2.2.1, h.2.2.2.1, h.2.2.2.2.1, h.2.2.2.2.2.1, h.2.2.2.2.2.2.1, h.2.2.2.2.2.2.2⟩
theorem off_new {B : Nat} {w : World} {d : Nat} {g : Gu} {p : PS} (h : Dk B w d g p) {n c : Nat} : ∀ k, (Value.slice (some ⟨w.heap.size, 0, none⟩) n c).ownBlock = some k → ∀ P : Prop, P → ¬ Foot d g k := fun k hk _ _ hf => by
  have := h.lt hf
  have : w.heap.size = k := Option.some.inj hk
  omega
theorem new_dk (B : Nat) (room : Int) (w : World) (h : 0 ≤ room) (hB : B ≤ w.heap.size) : Calls Tryz.prog 8 #[.int .i64 room] w fun e w' => ∃ d, d = w.heap.size ∧ e = .returned (.tuple #[ptr d, .int .i64 0]) ∧ Dk B w' d ⟨none, []⟩ (q0 room) ∧ Below w.heap.size w w' := by
  refine (new_yes room w h).mono ?_
  rintro e w' ⟨rfl, rfl⟩
  exact ⟨_, rfl, rfl, Dk.new hB, (Below.refl _ _).alloc (Nat.le_refl _) _⟩
end Go.Proofs.YtdcpfjlnagigaaaGreatDoor
