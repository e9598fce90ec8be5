/- walk: its own walk, over whatever its kids give. -/
import Derived.RangeFuncNested
import Derived.RangeFuncBound
import Derived.RangeFuncCalls
import Derived.RangeFuncLeaves
import Derived.RangeFuncBox
import Derived.Shelf.Abstract
import Derived.Shelf.RegionOpen
import Derived.WalkKit
import Derived.OwnWalkIn
import Derived.TacticsInMore
import Derived.LoopNIn
import Derived.LoopIn
import Derived.Test.YtilginghgigiiaaE67
namespace Go.Proofs.Ytilginghgigiiaa
open Go Go.RowKit Go.Shelf
attribute [local go_sem] Oper.semAt_some

theorem room_of_none' {F : Fence} (hd : F.depth = none) (k : Nat) : F.room k := fun d h => by rw [hd] at h; cases h
theorem RoundIn.anyDepth' {F : Fence} (hd : F.depth = none) {m m' : Nat} {P : Program} {l : Nat} {f : FuncId} {tmps : Array Value} {assign body : Code} {w : World} {R : Ending → World → Prop}
    (h : RoundIn F m P l f tmps assign body w R) : RoundIn F m' P l f tmps assign body w R := ⟨h.1, fun c cs _ => h.2 c cs (room_of_none' hd _)⟩
theorem YieldAt.anyDepth' {F : Fence} (hd : F.depth = none) {m : Nat} (m' : Nat) {P : Program} {l : Nat} {args : Array Value} {W : World} {R : Ending → World → Prop} (h : YieldAt F m P l args W R) : YieldAt F m' P l args W R := by
  obtain ⟨fn, tmps, assign, body, hy, hR⟩ := h
  exact ⟨fn, tmps, assign, body, hy, RoundIn.anyDepth' hd hR⟩

section
variable {α : Type} (l : Nat) (N : Nat) (enc : α → Addr) (nm : α → Itm) (KK : World → Prop) (J Jx : List α → World → Prop)
/-- What a walk below a pointer gives: all of xs have come, or a front of them. -/
def WalkG (xs : List Itm) (pre : List α) (e : Ending) (W' : World) : Prop :=
  (e = .returned (.bool true) ∧ ∃ ys : List α, ys.map nm = xs ∧ J (pre ++ ys) W' ∧ KK W') ∨ (e = .returned (.bool false) ∧ ∃ ys : List α, ys.map nm <+: xs ∧ Jx (pre ++ ys) W')
/-- The items from place j on, with what the kids ahead of each give; the last kid's. -/
def segs (kf : Nat → List Itm) (its : List Itm) (j : Nat) : List Itm := (its.drop j).zipIdx j |>.flatMap fun p => kf p.2 ++ [p.1]
theorem segs_at (kf : Nat → List Itm) (its : List Itm) (j : Nat) (it : Itm) (h : its[j]? = some it) : segs kf its j = kf j ++ it :: segs kf its (j + 1) := by
  obtain ⟨hj, rfl⟩ := List.getElem?_eq_some_iff.1 h
  unfold segs
  rw [List.drop_eq_getElem_cons hj, List.zipIdx_cons, List.flatMap_cons]
  simp
theorem segs_end (kf : Nat → List Itm) (its : List Itm) : segs kf its its.length = [] := by simp [segs]
set_option maxRecDepth 100000 in
set_option maxHeartbeats 4000000 in
theorem walk_gen (_w0 : World) (b g c p : Nat) (hb : Bool) (its : List Itm) (lo : ByteArray) (kp : Nat → Option Addr) (kf : Nat → List Itm) (sl : Nat → α)
    (hJb : ∀ pre W W', J pre W → Below W.heap.size W W' → J pre W') (hKb : ∀ W W', KK W → Below W.heap.size W W' → KK W')
    (hc0 : ∀ W, KK W → W.cell? ⟨b, 0, none⟩ = some (.slice (some ⟨g, 0, none⟩) its.length c)) (hp : p ≤ its.length) (hlen : its.length ≤ 100)
    (hpl : ∀ W, KK W → Calls Try.prog 33 #[ptr b, .string lo] W fun e w' => e = .returned (.tuple #[.int .i64 p, .bool hb]) ∧ Below W.heap.size W w')
    (hkid : ∀ j W, j ≤ its.length → KK W → Calls Try.prog 34 #[ptr b, .int .i64 j] W fun e w' => e = .returned (.pointer (kp j)) ∧ w' = W)
    (hsl : ∀ j it, its[j]? = some it → nm (sl j) = it ∧ enc (sl j) = ⟨g, j * 2, none⟩)
    (hY : ∀ m pre x W, J pre W → KK W → pre.length < N → YieldAt Fence.wide m Try.prog l #[.pointer (some (enc x))] W fun e W' => (e = .returned (.bool true) ∧ J (pre ++ [x]) W' ∧ KK W') ∨ (e = .returned (.bool false) ∧ Jx (pre ++ [x]) W'))
    (hrec : ∀ j m pre W, j ≤ its.length → KK W → J pre W → pre.length + (kf j).length ≤ N → CallsIn Fence.wide m Try.prog 39 #[.pointer (kp j), .string lo, .func (.yield l) #[] #[]] W (WalkG nm KK J Jx (kf j) pre))
    (n : Nat) (pre : List α) (W : World) (hK : KK W) (hJ : J pre W) (hN : pre.length + (segs kf its p ++ kf its.length).length ≤ N) :
    CallsIn Fence.wide n Try.prog 39 #[ptr b, .string lo, .func (.yield l) #[] #[]] W (WalkG nm KK J Jx (segs kf its p ++ kf its.length) pre) := by
  have hdd : ∀ k : Nat, (Fence.wide.depth.isSome = true → 1 ≤ k) := fun k h => by cases h
  refine callsIn_of_wp Try.func39 rfl trivial ?_ rfl
  simp only [Try.ntmps39, List.size_toArray, List.length_cons, List.length_nil, Nat.reduceAdd, Nat.reduceSub, Array.replicate_succ, Array.replicate_zero, List.push_toArray, List.append_toArray, List.nil_append, List.cons_append]
  gi_wp2_with (refine ⟨trivial, hdd _, ?_⟩; gi_at_call 33; refine (callsIn_wide.2 (hpl W hK)).mono ?_; rintro e w1 ⟨rfl, hb1⟩)
  have hK1 := hKb _ _ hK hb1
  have hJ1 := hJb _ _ _ hJ hb1
  clear hK hJ hpl
  have HC0 := Hid.mk'' hc0
  have HREC := Hid.mk'' hrec
  have HKID := Hid.mk'' hkid
  have HY := Hid.mk'' hY
  have HSL := Hid.mk'' hsl
  have HE := Hid.mk'' (segs_end kf its)
  have HA := Hid.mk'' (segs_at kf its)
  clear hc0 hrec hkid hY hJb hKb hsl
  gi_loopw [7] (fun s7 wr => ∃ (j : Nat) (ys : List α), s7 = .int .i64 j ∧ p ≤ j ∧ j ≤ its.length ∧ Hid (ys.map nm ++ segs kf its j = segs kf its p) ∧ Hid (J (pre ++ ys) wr) ∧ Hid (KK wr)) (fun s7 _ => its.length - (intOf s7).toNat)
  case atStart => exact ⟨p, [], rfl, Nat.le_refl _, hp, by simp [Hid], by simpa [Hid] using hJ1, hK1⟩
  case round =>
    clear hJ1 hK1 hb1
    obtain ⟨j, ys, rfl, hpj, hjn, HS, HJ, HK⟩ := hrel
    have c0 := HC0.out _ HK.out
    by_cases hlt : j < its.length
    · obtain ⟨it, hit⟩ : ∃ it, its[j]? = some it := ⟨_, List.getElem?_eq_getElem hlt⟩
      obtain ⟨hnm, henc⟩ := HSL.out j it hit
      have hsj := HA.out j it hit
      have HN1 : Hid ((pre ++ ys).length + (kf j).length ≤ N ∧ (pre ++ ys).length + (kf j).length + 1 ≤ N) := by
        have h1 := congrArg List.length HS.out
        rw [hsj] at h1
        simp only [List.length_append, List.length_map, List.length_cons] at h1 hN ⊢
        exact ⟨by omega, by omega⟩
      have hkd := HKID.out j wr hjn HK.out
      have hrc := HREC.out j (n - 1) (pre ++ ys) wr hjn HK.out HJ.out HN1.out.1
      have hrc' := hrc.mono (R' := fun e w3 => (e = .returned (.bool true) ∧ ∃ zs : List α, Hid (zs.map nm = kf j) ∧ w3.cell? ⟨b, 0, none⟩ = some (.slice (some ⟨g, 0, none⟩) its.length c) ∧ YieldAt Fence.wide (n - 1) Try.prog l #[.pointer (some ⟨g, j * 2, none⟩)] w3 fun e W' => (e = .returned (.bool true) ∧ Hid (J (pre ++ (ys ++ zs ++ [sl j])) W') ∧ Hid (KK W')) ∨ (e = .returned (.bool false) ∧ Hid (Jx (pre ++ (ys ++ zs ++ [sl j])) W'))) ∨ (e = .returned (.bool false) ∧ ∃ zs : List α, Hid (zs.map nm <+: kf j) ∧ Hid (Jx (pre ++ (ys ++ zs)) w3)))
        (fun e w3 h => h.elim (fun ⟨he, zs, hz, hJ3, hK3⟩ => .inl ⟨he, zs, hz, HC0.out _ hK3, by
          have hy := HY.out (n - 1) (pre ++ ys ++ zs) (sl j) w3 hJ3 hK3 (by have h1 := congrArg List.length hz; have h2 := HN1.out.2; simp only [List.length_append, List.length_map] at h1 h2 ⊢; omega)
          rw [henc] at hy
          exact YieldAt.mono hy fun e W' h => h.elim (fun ⟨a, b, c⟩ => .inl ⟨a, by simpa [Hid, List.append_assoc] using b, c⟩) (fun ⟨a, b⟩ => .inr ⟨a, by simpa [Hid, List.append_assoc] using b⟩)⟩)
          (fun ⟨he, zs, hz, hX⟩ => .inr ⟨he, zs, hz, by simpa [Hid, List.append_assoc] using hX⟩))
      have HSJ := Hid.mk'' hsj
      have HNM := Hid.mk'' hnm
      clear hsj hnm hit hrc HREC HY HKID
      gi_wp2_with (first
        | (refine ⟨trivial, hdd _, ?_⟩; gi_at_call 34; refine (callsIn_wide.2 hkd).mono ?_; rintro e w2 ⟨rfl, rfl⟩)
        | (refine ⟨trivial, hdd _, ?_⟩; gi_at_call 39; refine hrc'.mono ?_; clear hrc'; rintro e w3 (⟨rfl, zs, hz, c3, fn, tmps, assign, body, hy, hR⟩ | ⟨rfl, zs, hz, hX3⟩))
        | ((try refine ⟨hdd _, ?_⟩); refine hR.mono ?_; clear hR; rintro e w4 (⟨rfl, hJ4, hK4⟩ | ⟨rfl, hX4⟩)))
      · go_roundw
        case rel =>
          refine ⟨j + 1, ys ++ zs ++ [sl j], by go_num, by omega, by omega, ?_, hJ4, hK4⟩
          show _ = _
          rw [← HS.out, HSJ.out]
          simp only [List.map_append, List.map_cons, List.map_nil, hz.out, HNM.out, List.append_assoc, List.cons_append, List.nil_append]
        case measure => simp [intOf]; omega
      · go_ret
        refine .inr ⟨rfl, ys ++ zs ++ [sl j], ?_, hX4⟩
        rw [← HS.out, HSJ.out]
        simp only [List.map_append, List.map_cons, List.map_nil, hz.out, HNM.out]
        exact ⟨segs kf its (j + 1) ++ kf its.length, by simp⟩
      · refine ⟨fun _ h => (by cases h), ?_⟩
        gi_wp2
        go_ret
        refine .inr ⟨rfl, ys ++ zs, ?_, hX3⟩
        rw [← HS.out, HSJ.out, List.map_append]
        obtain ⟨t, ht⟩ := hz.out
        exact ⟨t ++ it :: segs kf its (j + 1) ++ kf its.length, by rw [← ht]; simp⟩
    · obtain rfl : j = its.length := by omega
      have HN1 : Hid ((pre ++ ys).length + (kf its.length).length ≤ N) := by
        have h1 := congrArg List.length HS.out
        rw [HE.out] at h1
        simp only [List.length_append, List.length_map, List.length_nil] at h1 hN ⊢
        show pre.length + ys.length + (kf its.length).length ≤ N
        omega
      have hkd := HKID.out its.length wr (Nat.le_refl _) HK.out
      have hrc := HREC.out its.length (n - 1) (pre ++ ys) wr (Nat.le_refl _) HK.out HJ.out HN1.out
      clear HREC HY HKID
      gi_wp2_with (first
        | (refine ⟨trivial, hdd _, ?_⟩; gi_at_call 34; refine (callsIn_wide.2 hkd).mono ?_; rintro e w2 ⟨rfl, rfl⟩)
        | (refine ⟨trivial, hdd _, ?_⟩; gi_at_call 39; refine hrc.mono ?_; clear hrc; rintro e w3 (⟨rfl, zs, hz, hJ3, hK3⟩ | ⟨rfl, zs, hz, hX3⟩)))
      · go_ret
        refine .inl ⟨rfl, ys ++ zs, ?_, by simpa [List.append_assoc] using hJ3, hK3⟩
        rw [← HS.out, HE.out, List.map_append, hz, List.append_nil]
      · go_ret
        refine .inr ⟨rfl, ys ++ zs, ?_, by simpa [List.append_assoc] using hX3⟩
        rw [← HS.out, HE.out, List.map_append, List.append_nil]
        obtain ⟨t, ht⟩ := hz
        exact ⟨t, by rw [← ht]; simp⟩
end
end Go.Proofs.Ytilginghgigiiaa
