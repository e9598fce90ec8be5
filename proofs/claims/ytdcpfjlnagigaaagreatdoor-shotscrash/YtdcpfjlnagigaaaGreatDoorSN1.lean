/- Names of snapshots: what fileName tells of a number below 100, and indexOf of such a name. -/
import Derived.Test.YtdcpfjlnagigaaaGreatDoorKnown
namespace Go.Proofs.YtdcpfjlnagigaaaGreatDoor
open Go Go.RowKit
theorem first_byte (s p : ByteArray) (hp : p.data = #[48]) (x : UInt8) (hs : s.data[0]? = some x) : ((s.extract 0 1).toList == p.toList) = (x == 48) := by
  have h1 : (s.extract 0 1).toList = [x] := by
    rw [ByteArray.toList_eq, ByteArray.data_extract, Array.toList_extract]
    obtain ⟨h0, he⟩ := Array.getElem?_eq_some_iff.1 hs
    cases hd : s.data.toList with
    | nil => have h2 : s.data.size = 0 := by rw [← Array.length_toList, hd]; rfl
             omega
    | cons a r =>
      have h2 : s.data.toList[0]? = some x := by rw [Array.getElem?_toList]; exact hs
      rw [hd] at h2
      simp at h2
      simp [List.extract, h2]
  have h2 : p.toList = [48] := by rw [ByteArray.toList_eq, hp]
  rw [h1, h2]
  simp
set_option maxRecDepth 100000 in
set_option maxHeartbeats 1000000 in
theorem hasP (s p : ByteArray) (w : World) (hp : p.data = #[48]) (x : UInt8) (hx : s.data[0]? = some x) (hl : s.size ≤ 1000000) (bb : Bool) (hb : (x == 48) = bb) : Calls Tryz.prog 94 #[.string s, .string p] w fun e w' => e = .returned (.bool bb) ∧ w' = w := by
  have h1 : p.size = 1 := by show p.data.size = 1; rw [hp]; rfl
  have hs : 1 ≤ s.size := (Array.getElem?_eq_some_iff.1 hx).1
  have hf := first_byte s p hp x hx
  rw [hb] at hf
  clear hp hx hb
  go_enter Tryz.func94, Tryz.ntmps94
  go_wp2
  go_ret
  exact ⟨rfl, rfl⟩
set_option maxRecDepth 100000 in
set_option maxHeartbeats 1000000 in
theorem mul11 (w : World) : Calls Tryz.prog 93 #[.int .u64 1, .int .u64 11] w fun e w' => e = .returned (.tuple #[.int .u64 0, .int .u64 11]) ∧ w' = w := by
  have b1 : bits .and .u64 1 4294967295 = 1 := by decide
  have b7 : bits .and .u64 11 4294967295 = 11 := by decide
  have b0 : bits .and .u64 0 4294967295 = 0 := by decide
  have w0 : IntKind.u64.wrap 0 = 0 := by decide
  have w7 : IntKind.u64.wrap 11 = 11 := by decide
  have w1 : IntKind.u64.wrap 1 = 1 := by decide
  go_enter Tryz.func93, Tryz.ntmps93
  go_wp2
  go_ret2
  exact ⟨rfl, rfl⟩
set_option maxRecDepth 100000 in
set_option maxHeartbeats 1000000 in
theorem mul10 (w : World) : Calls Tryz.prog 93 #[.int .u64 1, .int .u64 10] w fun e w' => e = .returned (.tuple #[.int .u64 0, .int .u64 10]) ∧ w' = w := by
  have b1 : bits .and .u64 1 4294967295 = 1 := by decide
  have b7 : bits .and .u64 10 4294967295 = 10 := by decide
  have b0 : bits .and .u64 0 4294967295 = 0 := by decide
  have w0 : IntKind.u64.wrap 0 = 0 := by decide
  have w7 : IntKind.u64.wrap 10 = 10 := by decide
  have w1 : IntKind.u64.wrap 1 = 1 := by decide
  go_enter Tryz.func93, Tryz.ntmps93
  go_wp2
  go_ret2
  exact ⟨rfl, rfl⟩
set_option maxRecDepth 100000 in
set_option maxHeartbeats 1000000 in
theorem repeat11 (w : World) : Calls Tryz.prog 69 #[.string ⟨#[48]⟩, .int .i64 11] w fun e w' => e = .returned (.string ⟨#[48, 48, 48, 48, 48, 48, 48, 48, 48, 48, 48]⟩) ∧ w' = w := by
  go_enter Tryz.func69, Tryz.ntmps69
  go_wp2_with (first | (go_at_call 93; refine (mul11 _).mono ?_; rintro e w1 ⟨rfl, rfl⟩) | (go_at_call 94; first | (refine (hasP _ ⟨#[48]⟩ _ rfl 32 rfl (by decide) false rfl).mono ?_; rintro e w1 ⟨rfl, rfl⟩) | (refine (hasP _ ⟨#[48]⟩ _ rfl 45 rfl (by decide) false rfl).mono ?_; rintro e w1 ⟨rfl, rfl⟩) | (refine (hasP _ ⟨#[48]⟩ _ rfl 48 rfl (by decide) true rfl).mono ?_; rintro e w1 ⟨rfl, rfl⟩)))
  go_ret
  exact ⟨congrArg (fun s => Ending.returned (Value.string s)) (ByteArray.ext (by rw [ByteArray.data_extract]; rfl)), rfl⟩
set_option maxRecDepth 100000 in
set_option maxHeartbeats 1000000 in
theorem repeat10 (w : World) : Calls Tryz.prog 69 #[.string ⟨#[48]⟩, .int .i64 10] w fun e w' => e = .returned (.string ⟨#[48, 48, 48, 48, 48, 48, 48, 48, 48, 48]⟩) ∧ w' = w := by
  go_enter Tryz.func69, Tryz.ntmps69
  go_wp2_with (first | (go_at_call 93; refine (mul10 _).mono ?_; rintro e w1 ⟨rfl, rfl⟩) | (go_at_call 94; first | (refine (hasP _ ⟨#[48]⟩ _ rfl 32 rfl (by decide) false rfl).mono ?_; rintro e w1 ⟨rfl, rfl⟩) | (refine (hasP _ ⟨#[48]⟩ _ rfl 45 rfl (by decide) false rfl).mono ?_; rintro e w1 ⟨rfl, rfl⟩) | (refine (hasP _ ⟨#[48]⟩ _ rfl 48 rfl (by decide) true rfl).mono ?_; rintro e w1 ⟨rfl, rfl⟩)))
  go_ret
  exact ⟨congrArg (fun s => Ending.returned (Value.string s)) (ByteArray.ext (by rw [ByteArray.data_extract]; rfl)), rfl⟩
/-- The two bytes that a number below 100 is told with. -/
def dig (n : Nat) : List UInt8 := [UInt8.ofNat (48 + n / 10), UInt8.ofNat (48 + n % 10)]
def smallS (n : Nat) : List UInt8 := if n < 10 then [UInt8.ofNat (48 + n)] else dig n
theorem dig10 : ∀ m : Fin 10, (#[48, 49, 50, 51, 52, 53, 54, 55, 56, 57, 97, 98, 99, 100, 101, 102, 103, 104, 105, 106, 107, 108, 109, 110, 111, 112, 113, 114, 115, 116, 117, 118, 119, 120, 121, 122] : Array UInt8).extract m.val (m.val + 1) = (smallS m.val).toArray := by decide
def two : List UInt8 := [48, 48, 48, 49, 48, 50, 48, 51, 48, 52, 48, 53, 48, 54, 48, 55, 48, 56, 48, 57, 49, 48, 49, 49, 49, 50, 49, 51, 49, 52, 49, 53, 49, 54, 49, 55, 49, 56, 49, 57, 50, 48, 50, 49, 50, 50, 50, 51, 50, 52, 50, 53, 50, 54, 50, 55, 50, 56, 50, 57, 51, 48, 51, 49, 51, 50, 51, 51, 51, 52, 51, 53, 51, 54, 51, 55, 51, 56, 51, 57, 52, 48, 52, 49, 52, 50, 52, 51, 52, 52, 52, 53, 52, 54, 52, 55, 52, 56, 52, 57, 53, 48, 53, 49, 53, 50, 53, 51, 53, 52, 53, 53, 53, 54, 53, 55, 53, 56, 53, 57, 54, 48, 54, 49, 54, 50, 54, 51, 54, 52, 54, 53, 54, 54, 54, 55, 54, 56, 54, 57, 55, 48, 55, 49, 55, 50, 55, 51, 55, 52, 55, 53, 55, 54, 55, 55, 55, 56, 55, 57, 56, 48, 56, 49, 56, 50, 56, 51, 56, 52, 56, 53, 56, 54, 56, 55, 56, 56, 56, 57, 57, 48, 57, 49, 57, 50, 57, 51, 57, 52, 57, 53, 57, 54, 57, 55, 57, 56, 57, 57]
set_option maxRecDepth 100000 in
theorem dig100 : ∀ m : Fin 100, 10 ≤ m.val → (two.drop (m.val * 2)).take 2 = smallS m.val := by decide +kernel
set_option maxRecDepth 100000 in
set_option maxHeartbeats 1000000 in
theorem small_any (n : Nat) (w : World) (hn : n < 100) : Calls Tryz.prog 131 #[.int .i64 n] w fun e w' => e = .returned (.string ⟨(smallS n).toArray⟩) ∧ w' = w := by
  by_cases h : n < 10
  · have hd : decide ((n : Int) < 10) = true := by rw [decide_eq_true_eq]; omega
    go_enter Tryz.func131, Tryz.ntmps131
    go_wp2
    go_ret
    exact ⟨congrArg (fun s => Ending.returned (Value.string s)) (ByteArray.ext (by rw [ByteArray.data_extract]; exact dig10 ⟨n, h⟩)), rfl⟩
  · have hd : decide ((n : Int) < 10) = false := by rw [decide_eq_false_iff_not]; omega
    go_enter Tryz.func131, Tryz.ntmps131
    go_wp2
    go_ret
    refine ⟨congrArg (fun s => Ending.returned (Value.string s)) (ByteArray.ext ?_), rfl⟩
    rw [ByteArray.data_extract]
    have := dig100 ⟨n, hn⟩ (by show 10 ≤ n; omega)
    rw [← this]
    apply Array.ext'
    rw [Array.toList_extract]
    show List.extract two (n * 2) (n * 2 + 2) = (two.drop (n * 2)).take 2
    simp [List.extract]
set_option maxRecDepth 100000 in
set_option maxHeartbeats 1000000 in
theorem itoa_any (n : Nat) (w : World) (hn : n < 100) : Calls Tryz.prog 68 #[.int .i64 n] w fun e w' => e = .returned (.string ⟨(smallS n).toArray⟩) ∧ w' = w := by
  have hd : decide ((n : Int) < 100) = true := by rw [decide_eq_true_eq]; omega
  have hd0 : decide (0 ≤ (n : Int)) = true := by rw [decide_eq_true_eq]; omega
  go_enter Tryz.func68, Tryz.ntmps68
  go_wp2_with (first | (go_at_call 131; refine (small_any n _ hn).mono ?_; rintro e w1 ⟨rfl, rfl⟩) | go_in)
  go_ret
  exact ⟨rfl, rfl⟩
/-- A snapshot's name. -/
def sname (n : Nat) : List UInt8 := [115, 104, 111, 116, 45, 48, 48, 48, 48, 48, 48, 48, 48, 48, 48] ++ dig n
set_option maxRecDepth 100000 in
set_option maxHeartbeats 1000000 in
theorem fileName_any (n : Nat) (w : World) (hn : n < 100) : Calls Tryz.prog 33 #[.int .i64 n] w fun e w' => e = .returned (.string ⟨(sname n).toArray⟩) ∧ w' = w := by
  have hi := itoa_any n w hn
  by_cases h : n < 10
  · have hs : smallS n = [UInt8.ofNat (48 + n)] := by unfold smallS; rw [if_pos h]
    have hf : sname n = [115, 104, 111, 116, 45, 48, 48, 48, 48, 48, 48, 48, 48, 48, 48, 48, UInt8.ofNat (48 + n)] := by
      unfold sname dig; rw [show n / 10 = 0 by omega, show n % 10 = n by omega]; rfl
    rw [hs] at hi
    rw [hf]
    clear hs hf
    generalize UInt8.ofNat (48 + n) = c at *
    go_enter Tryz.func33, Tryz.ntmps33
    go_wp2_with (first | (go_at_call 68; refine hi.mono ?_; rintro e w1 ⟨rfl, rfl⟩) | (go_at_call 69; refine (repeat11 _).mono ?_; rintro e w1 ⟨rfl, rfl⟩))
    go_ret
    exact ⟨congrArg (fun s => Ending.returned (Value.string s)) (ByteArray.ext (by simp [ByteArray.data_append])), rfl⟩
  · have hs : smallS n = dig n := by unfold smallS; rw [if_neg h]
    rw [hs] at hi
    unfold dig at hi
    have hf : sname n = [115, 104, 111, 116, 45, 48, 48, 48, 48, 48, 48, 48, 48, 48, 48, UInt8.ofNat (48 + n / 10), UInt8.ofNat (48 + n % 10)] := rfl
    rw [hf]
    clear hs hf
    generalize UInt8.ofNat (48 + n / 10) = c1 at *
    generalize UInt8.ofNat (48 + n % 10) = c2 at *
    go_enter Tryz.func33, Tryz.ntmps33
    go_wp2_with (first | (go_at_call 68; refine hi.mono ?_; rintro e w1 ⟨rfl, rfl⟩) | (go_at_call 69; refine (repeat10 _).mono ?_; rintro e w1 ⟨rfl, rfl⟩))
    go_ret
    exact ⟨congrArg (fun s => Ending.returned (Value.string s)) (ByteArray.ext (by simp [ByteArray.data_append])), rfl⟩
end Go.Proofs.YtdcpfjlnagigaaaGreatDoor
