/- Names of files: what fileName tells of a number below 100. -/
import Derived.Test.YtecnlfalpfbobaaGreatDoorKnown
import Derived.Deep.LoopGhost
import Derived.Test.YtecnlfalpfbobaaGreatDoorWC12
namespace Go.Proofs.YtecnlfalpfbobaaGreatDoor
open Go Go.RowKit
theorem first_byte (s p : ByteArray) (hp : p.data = #[48]) (x : UInt8) (hs : s.data[0]? = some x) : ((s.extract 0 1).toList == p.toList) = (x == 48) := by
  have h1 : (s.extract 0 1).toList = [x] := by
    rw [ByteArray.toList_eq, ByteArray.data_extract, Array.toList_extract]
    obtain ⟨h0, he⟩ := Array.getElem?_eq_some_iff.1 hs
    cases hd : s.data.toList with
    | nil => have h2 : s.data.size = 0 := by rw [← Array.length_toList, hd]; rfl
             omega
    | cons a r =>
      have h2 : s.data.toList[0]? = some x := by rw [Array.getElem?_toList]; exact hs
      rw [hd] at h2
      simp at h2
      simp [List.extract, h2]
  have h2 : p.toList = [48] := by rw [ByteArray.toList_eq, hp]
  rw [h1, h2]
  simp
set_option maxRecDepth 100000 in
set_option maxHeartbeats 1000000 in
theorem hasP (s p : ByteArray) (w : World) (hp : p.data = #[48]) (x : UInt8) (hx : s.data[0]? = some x) (hl : s.size ≤ 1000000) (bb : Bool) (hb : (x == 48) = bb) : Calls Tryz.prog 134 #[.string s, .string p] w fun e w' => e = .returned (.bool bb) ∧ w' = w := by
  have h1 : p.size = 1 := by show p.data.size = 1; rw [hp]; rfl
  have hs : 1 ≤ s.size := (Array.getElem?_eq_some_iff.1 hx).1
  have hf := first_byte s p hp x hx
  rw [hb] at hf
  clear hp hx hb
  go_enter Tryz.func134, Tryz.ntmps134
  go_wp2
  go_ret
  exact ⟨rfl, rfl⟩
set_option maxRecDepth 100000 in
set_option maxHeartbeats 1000000 in
theorem mul7 (w : World) : Calls Tryz.prog 133 #[.int .u64 1, .int .u64 7] w fun e w' => e = .returned (.tuple #[.int .u64 0, .int .u64 7]) ∧ w' = w := by
  have b1 : bits .and .u64 1 4294967295 = 1 := by decide
  have b7 : bits .and .u64 7 4294967295 = 7 := by decide
  have b0 : bits .and .u64 0 4294967295 = 0 := by decide
  have w0 : IntKind.u64.wrap 0 = 0 := by decide
  have w7 : IntKind.u64.wrap 7 = 7 := by decide
  have w1 : IntKind.u64.wrap 1 = 1 := by decide
  go_enter Tryz.func133, Tryz.ntmps133
  go_wp2
  go_ret2
  exact ⟨rfl, rfl⟩
set_option maxRecDepth 100000 in
set_option maxHeartbeats 1000000 in
theorem mul6 (w : World) : Calls Tryz.prog 133 #[.int .u64 1, .int .u64 6] w fun e w' => e = .returned (.tuple #[.int .u64 0, .int .u64 6]) ∧ w' = w := by
  have b1 : bits .and .u64 1 4294967295 = 1 := by decide
  have b7 : bits .and .u64 6 4294967295 = 6 := by decide
  have b0 : bits .and .u64 0 4294967295 = 0 := by decide
  have w0 : IntKind.u64.wrap 0 = 0 := by decide
  have w7 : IntKind.u64.wrap 6 = 6 := by decide
  have w1 : IntKind.u64.wrap 1 = 1 := by decide
  go_enter Tryz.func133, Tryz.ntmps133
  go_wp2
  go_ret2
  exact ⟨rfl, rfl⟩
set_option maxRecDepth 100000 in
set_option maxHeartbeats 1000000 in
theorem repeat7 (w : World) : Calls Tryz.prog 109 #[.string ⟨#[48]⟩, .int .i64 7] w fun e w' => e = .returned (.string ⟨#[48, 48, 48, 48, 48, 48, 48]⟩) ∧ w' = w := by
  go_enter Tryz.func109, Tryz.ntmps109
  go_wp2_with (first | (go_at_call 133; refine (mul7 _).mono ?_; rintro e w1 ⟨rfl, rfl⟩) | (go_at_call 134; first | (refine (hasP _ ⟨#[48]⟩ _ rfl 32 rfl (by decide) false rfl).mono ?_; rintro e w1 ⟨rfl, rfl⟩) | (refine (hasP _ ⟨#[48]⟩ _ rfl 45 rfl (by decide) false rfl).mono ?_; rintro e w1 ⟨rfl, rfl⟩) | (refine (hasP _ ⟨#[48]⟩ _ rfl 48 rfl (by decide) true rfl).mono ?_; rintro e w1 ⟨rfl, rfl⟩)))
  go_ret
  exact ⟨congrArg (fun s => Ending.returned (Value.string s)) (ByteArray.ext (by rw [ByteArray.data_extract]; rfl)), rfl⟩
set_option maxRecDepth 100000 in
set_option maxHeartbeats 1000000 in
theorem repeat6 (w : World) : Calls Tryz.prog 109 #[.string ⟨#[48]⟩, .int .i64 6] w fun e w' => e = .returned (.string ⟨#[48, 48, 48, 48, 48, 48]⟩) ∧ w' = w := by
  go_enter Tryz.func109, Tryz.ntmps109
  go_wp2_with (first | (go_at_call 133; refine (mul6 _).mono ?_; rintro e w1 ⟨rfl, rfl⟩) | (go_at_call 134; first | (refine (hasP _ ⟨#[48]⟩ _ rfl 32 rfl (by decide) false rfl).mono ?_; rintro e w1 ⟨rfl, rfl⟩) | (refine (hasP _ ⟨#[48]⟩ _ rfl 45 rfl (by decide) false rfl).mono ?_; rintro e w1 ⟨rfl, rfl⟩) | (refine (hasP _ ⟨#[48]⟩ _ rfl 48 rfl (by decide) true rfl).mono ?_; rintro e w1 ⟨rfl, rfl⟩)))
  go_ret
  exact ⟨congrArg (fun s => Ending.returned (Value.string s)) (ByteArray.ext (by rw [ByteArray.data_extract]; rfl)), rfl⟩
/-- The two bytes that a number below 100 is told with. -/
def dig (n : Nat) : List UInt8 := [UInt8.ofNat (48 + n / 10), UInt8.ofNat (48 + n % 10)]
def smallS (n : Nat) : List UInt8 := if n < 10 then [UInt8.ofNat (48 + n)] else dig n
theorem dig10 : ∀ m : Fin 10, (#[48, 49, 50, 51, 52, 53, 54, 55, 56, 57, 97, 98, 99, 100, 101, 102, 103, 104, 105, 106, 107, 108, 109, 110, 111, 112, 113, 114, 115, 116, 117, 118, 119, 120, 121, 122] : Array UInt8).extract m.val (m.val + 1) = (smallS m.val).toArray := by decide
def two : List UInt8 := [48, 48, 48, 49, 48, 50, 48, 51, 48, 52, 48, 53, 48, 54, 48, 55, 48, 56, 48, 57, 49, 48, 49, 49, 49, 50, 49, 51, 49, 52, 49, 53, 49, 54, 49, 55, 49, 56, 49, 57, 50, 48, 50, 49, 50, 50, 50, 51, 50, 52, 50, 53, 50, 54, 50, 55, 50, 56, 50, 57, 51, 48, 51, 49, 51, 50, 51, 51, 51, 52, 51, 53, 51, 54, 51, 55, 51, 56, 51, 57, 52, 48, 52, 49, 52, 50, 52, 51, 52, 52, 52, 53, 52, 54, 52, 55, 52, 56, 52, 57, 53, 48, 53, 49, 53, 50, 53, 51, 53, 52, 53, 53, 53, 54, 53, 55, 53, 56, 53, 57, 54, 48, 54, 49, 54, 50, 54, 51, 54, 52, 54, 53, 54, 54, 54, 55, 54, 56, 54, 57, 55, 48, 55, 49, 55, 50, 55, 51, 55, 52, 55, 53, 55, 54, 55, 55, 55, 56, 55, 57, 56, 48, 56, 49, 56, 50, 56, 51, 56, 52, 56, 53, 56, 54, 56, 55, 56, 56, 56, 57, 57, 48, 57, 49, 57, 50, 57, 51, 57, 52, 57, 53, 57, 54, 57, 55, 57, 56, 57, 57]
set_option maxRecDepth 100000 in
theorem dig100 : ∀ m : Fin 100, 10 ≤ m.val → (two.drop (m.val * 2)).take 2 = smallS m.val := by decide +kernel
set_option maxRecDepth 100000 in
set_option maxHeartbeats 1000000 in
theorem small_any (n : Nat) (w : World) (hn : n < 100) : Calls Tryz.prog 172 #[.int .i64 n] w fun e w' => e = .returned (.string ⟨(smallS n).toArray⟩) ∧ w' = w := by
  by_cases h : n < 10
  · have hd : decide ((n : Int) < 10) = true := by rw [decide_eq_true_eq]; omega
    go_enter Tryz.func172, Tryz.ntmps172
    go_wp2
    go_ret
    exact ⟨congrArg (fun s => Ending.returned (Value.string s)) (ByteArray.ext (by rw [ByteArray.data_extract]; exact dig10 ⟨n, h⟩)), rfl⟩
  · have hd : decide ((n : Int) < 10) = false := by rw [decide_eq_false_iff_not]; omega
    go_enter Tryz.func172, Tryz.ntmps172
    go_wp2
    go_ret
    refine ⟨congrArg (fun s => Ending.returned (Value.string s)) (ByteArray.ext ?_), rfl⟩
    rw [ByteArray.data_extract]
    have := dig100 ⟨n, hn⟩ (by show 10 ≤ n; omega)
    rw [← this]
    apply Array.ext'
    rw [Array.toList_extract]
    show List.extract two (n * 2) (n * 2 + 2) = (two.drop (n * 2)).take 2
    simp [List.extract]
set_option maxRecDepth 100000 in
set_option maxHeartbeats 1000000 in
theorem itoa_any (n : Nat) (w : World) (hn : n < 100) : Calls Tryz.prog 108 #[.int .i64 n] w fun e w' => e = .returned (.string ⟨(smallS n).toArray⟩) ∧ w' = w := by
  have hd : decide ((n : Int) < 100) = true := by rw [decide_eq_true_eq]; omega
  have hd0 : decide (0 ≤ (n : Int)) = true := by rw [decide_eq_true_eq]; omega
  go_enter Tryz.func108, Tryz.ntmps108
  go_wp2_with (first | (go_at_call 172; refine (small_any n _ hn).mono ?_; rintro e w1 ⟨rfl, rfl⟩) | go_in)
  go_ret
  exact ⟨rfl, rfl⟩
/-- A file's name. -/
def fname (n : Nat) : List UInt8 := [119, 97, 108, 45, 48, 48, 48, 48, 48, 48] ++ dig n
set_option maxRecDepth 100000 in
set_option maxHeartbeats 1000000 in
theorem fileName_any (n : Nat) (w : World) (hn : n < 100) : Calls Tryz.prog 61 #[.int .i64 n] w fun e w' => e = .returned (.string ⟨(fname n).toArray⟩) ∧ w' = w := by
  have hi := itoa_any n w hn
  by_cases h : n < 10
  · have hs : smallS n = [UInt8.ofNat (48 + n)] := by unfold smallS; rw [if_pos h]
    have hf : fname n = [119, 97, 108, 45, 48, 48, 48, 48, 48, 48, 48, UInt8.ofNat (48 + n)] := by
      unfold fname dig; rw [show n / 10 = 0 by omega, show n % 10 = n by omega]; rfl
    rw [hs] at hi
    rw [hf]
    clear hs hf
    generalize UInt8.ofNat (48 + n) = c at *
    go_enter Tryz.func61, Tryz.ntmps61
    go_wp2_with (first | (go_at_call 108; refine hi.mono ?_; rintro e w1 ⟨rfl, rfl⟩) | (go_at_call 109; refine (repeat7 _).mono ?_; rintro e w1 ⟨rfl, rfl⟩))
    go_ret
    exact ⟨congrArg (fun s => Ending.returned (Value.string s)) (ByteArray.ext (by simp [ByteArray.data_append])), rfl⟩
  · have hs : smallS n = dig n := by unfold smallS; rw [if_neg h]
    rw [hs] at hi
    unfold dig at hi
    have hf : fname n = [119, 97, 108, 45, 48, 48, 48, 48, 48, 48, UInt8.ofNat (48 + n / 10), UInt8.ofNat (48 + n % 10)] := rfl
    rw [hf]
    clear hs hf
    generalize UInt8.ofNat (48 + n / 10) = c1 at *
    generalize UInt8.ofNat (48 + n % 10) = c2 at *
    go_enter Tryz.func61, Tryz.ntmps61
    go_wp2_with (first | (go_at_call 108; refine hi.mono ?_; rintro e w1 ⟨rfl, rfl⟩) | (go_at_call 109; refine (repeat6 _).mono ?_; rintro e w1 ⟨rfl, rfl⟩))
    go_ret
    exact ⟨congrArg (fun s => Ending.returned (Value.string s)) (ByteArray.ext (by simp [ByteArray.data_append])), rfl⟩
end Go.Proofs.YtecnlfalpfbobaaGreatDoor
/- Names of files: what numberOf tells of a name. -/
namespace Go.Proofs.YtecnlfalpfbobaaGreatDoor
open Go Go.RowKit
set_option maxRecDepth 100000 in
set_option maxHeartbeats 1000000 in
theorem cutNo (w : World) : Calls Tryz.prog 142 #[.string ⟨#[119, 97, 108, 46, 110, 101, 119]⟩, .string ⟨#[119, 97, 108, 45]⟩] w fun e w' => e = .returned (.tuple #[.string ⟨#[119, 97, 108, 46, 110, 101, 119]⟩, .bool false]) ∧ w' = w := by
  have hE : (((⟨#[119, 97, 108, 46, 110, 101, 119]⟩ : ByteArray).extract 0 4).toList == [119, 97, 108, 45]) = false := by rw [ByteArray.toList_eq, ByteArray.data_extract]; rfl
  go_enter Tryz.func142, Tryz.ntmps142
  go_wp2
  go_ret2
  exact ⟨rfl, rfl⟩
set_option maxRecDepth 100000 in
set_option maxHeartbeats 1000000 in
theorem cutYes (a b : UInt8) (w : World) : Calls Tryz.prog 142 #[.string ⟨#[119, 97, 108, 45, 48, 48, 48, 48, 48, 48, a, b]⟩, .string ⟨#[119, 97, 108, 45]⟩] w fun e w' => e = .returned (.tuple #[.string ⟨#[48, 48, 48, 48, 48, 48, a, b]⟩, .bool true]) ∧ w' = w := by
  have hE : (((⟨#[119, 97, 108, 45, 48, 48, 48, 48, 48, 48, a, b]⟩ : ByteArray).extract 0 4).toList == [119, 97, 108, 45]) = true := by rw [ByteArray.toList_eq, ByteArray.data_extract]; rfl
  go_enter Tryz.func142, Tryz.ntmps142
  go_wp2
  go_ret2
  have he : (⟨#[119, 97, 108, 45, 48, 48, 48, 48, 48, 48, a, b]⟩ : ByteArray).extract 4 12 = ⟨#[48, 48, 48, 48, 48, 48, a, b]⟩ := ByteArray.ext (by rw [ByteArray.data_extract]; rfl)
  exact ⟨congrArg (fun s => Ending.returned (Value.tuple #[Value.string s, .bool true])) he, rfl⟩
set_option maxRecDepth 100000 in
set_option maxHeartbeats 1000000 in
theorem numberOf_no (w : World) : Calls Tryz.prog 115 #[.string ⟨#[119, 97, 108, 46, 110, 101, 119]⟩] w fun e w' => e = .returned (.int .i64 0) ∧ w' = w := by
  go_enter Tryz.func115, Tryz.ntmps115
  go_wp2_with (first | (go_at_call 142; refine (cutNo _).mono ?_; rintro e w1 ⟨rfl, rfl⟩))
  go_ret
  exact ⟨rfl, rfl⟩
/-- The number that digits are. -/
def val (l : List UInt8) : Nat := l.foldl (fun n x => n * 10 + (x.toNat - 48)) 0
theorem val_snoc (l : List UInt8) (x : UInt8) : val (l ++ [x]) = val l * 10 + (x.toNat - 48) := by simp [val]
theorem val_lt : ∀ (n : Nat) (l : List UInt8), l.length = n → (∀ x ∈ l, x.toNat ≤ 57) → val l < 10 ^ n
  | 0, l, h, _ => by obtain rfl := List.eq_nil_of_length_eq_zero h; simp [val]
  | n + 1, l, h, hb => by
    obtain ⟨l', x, rfl⟩ : ∃ l' x, l = l' ++ [x] := ⟨l.dropLast, l.getLast (by intro e; simp [e] at h), (List.dropLast_concat_getLast _).symm⟩
    have h1 := val_lt n l' (by simpa using h) (fun y hy => hb y (by simp [hy]))
    have h2 := hb x (by simp)
    rw [val_snoc, Nat.pow_succ]
    omega
set_option maxRecDepth 100000 in
set_option maxHeartbeats 1000000 in
theorem numberOf_dig (s t : ByteArray) (w : World) (hs : s.size = 8) (hd : ∀ x ∈ s.data.toList, 48 ≤ x.toNat ∧ x.toNat ≤ 57) (hc : ∀ w, Calls Tryz.prog 142 #[.string t, .string ⟨#[119, 97, 108, 45]⟩] w fun e w' => e = .returned (.tuple #[.string s, .bool true]) ∧ w' = w) :
    Calls Tryz.prog 115 #[.string t] w fun e w' => e = .returned (.int .i64 (val s.data.toList : Nat)) ∧ Below w.heap.size w w' := by
  have HD := Hid.mk' hd
  have HS := Hid.mk' hs
  clear hd
  go_enter Tryz.func115, Tryz.ntmps115
  go_wp2_with (first | (go_at_call 142; refine (hc _).mono ?_; rintro e w1 ⟨rfl, rfl⟩))
  go_loopg [5] 8 (fun kx s5 wr => ∃ (k v : Nat), k ≤ 8 ∧ 8 - k ≤ kx ∧ wr = w1.iter s k ∧ s5 = .int .i64 v ∧ Hid (v = val (s.data.toList.take k)) ∧ v ≤ 99999999)
  case atStart => exact ⟨0, 0, by omega, by omega, rfl, rfl, Hid.mk' rfl, by omega⟩
  case round =>
    obtain ⟨k, v, hk, hkx, rfl, rfl, HV, hv⟩ := hrel
    by_cases hlt : k < 8
    · have hks : k < s.size := by omega
      have hkl : k < s.data.toList.length := by rw [Array.length_toList]; exact hks
      have hmem : s[k]'hks ∈ s.data.toList := by
        have : s.data.toList[k] = s[k]'hks := by rw [Array.getElem_toList]; rfl
        rw [← this]; exact List.getElem_mem hkl
      have hx := HD.out _ hmem
      have hn := run_next_ascii (P := Tryz.prog) w1 s k 0 hks (by omega)
      have HE : Hid (val (s.data.toList.take (k + 1)) = v * 10 + ((s[k]'hks).toNat - 48)) := by
        show _ = _
        rw [List.take_succ_eq_append_getElem hkl, val_snoc, HV.out, Array.getElem_toList]; rfl
      have HV7 : Hid (v < 10 ^ k) := by
        rw [HV.out]
        exact val_lt k _ (by rw [List.length_take]; omega) (fun x hx => (HD.out x (List.mem_of_mem_take hx)).2)
      have hv7 : v < 10000000 := Nat.lt_of_lt_of_le HV7.out (by have : (10 : Nat) ^ k ≤ 10 ^ 7 := Nat.pow_le_pow_right (by omega) (by omega); exact this)
      generalize (s[k]'hks).toNat = x at *
      clear hmem hkl
      obtain ⟨hx1, hx2⟩ := hx
      have hg1 : decide ((x : Int) < 48) = false := by rw [decide_eq_false_iff_not]; omega
      have hg2 : decide ((57 : Int) < x) = false := by rw [decide_eq_false_iff_not]; omega
      have hg3 : decide (x < 48) = false := by rw [decide_eq_false_iff_not]; omega
      have hg4 : decide (57 < x) = false := by rw [decide_eq_false_iff_not]; omega
      clear hs
      go_wp2
      go_roundg (8 - (k + 1))
      case measure => omega
      case rel => exact ⟨k + 1, v * 10 + (x - 48), by omega, by omega, rfl, by congr 1; omega, Hid.mk' HE.out.symm, by omega⟩
    · obtain rfl : k = 8 := by omega
      have hn := run_next_end (P := Tryz.prog) w1 s 8 0 (by omega)
      have HE : Hid (v = val s.data.toList) := by show _ = _; rw [HV.out, List.take_of_length_le (by rw [Array.length_toList]; exact Nat.le_of_eq hs)]
      clear hs
      go_wp2
      go_ret
      exact ⟨by rw [← HE.out]; rfl, (Below.refl _ _).alloc (Nat.le_refl _) _⟩
theorem val_dig : ∀ n : Fin 100, val ([48, 48, 48, 48, 48, 48] ++ dig n.val) = n.val := by decide +kernel
theorem dig_ok : ∀ n : Fin 100, ∀ x ∈ [48, 48, 48, 48, 48, 48] ++ dig n.val, 48 ≤ x.toNat ∧ x.toNat ≤ 57 := by decide +kernel
theorem numberOf_name (n : Nat) (w : World) (hn : n < 100) : Calls Tryz.prog 115 #[.string ⟨(fname n).toArray⟩] w fun e w' => e = .returned (.int .i64 n) ∧ Below w.heap.size w w' := by
  have h := numberOf_dig ⟨#[48, 48, 48, 48, 48, 48, UInt8.ofNat (48 + n / 10), UInt8.ofNat (48 + n % 10)]⟩ ⟨(fname n).toArray⟩ w rfl (dig_ok ⟨n, hn⟩) (fun w => cutYes _ _ w)
  have hv : val (⟨#[48, 48, 48, 48, 48, 48, UInt8.ofNat (48 + n / 10), UInt8.ofNat (48 + n % 10)]⟩ : ByteArray).data.toList = n := val_dig ⟨n, hn⟩
  rw [hv] at h
  exact h
end Go.Proofs.YtecnlfalpfbobaaGreatDoor
/- The numbers of files among names: numbersOf. -/
namespace Go.Proofs.YtecnlfalpfbobaaGreatDoor
open Go Go.RowKit
theorem Src_oneI {w : World} {x : Int} : Src Tryz.prog 1 35 (.slice (some ⟨w.heap.size, 0, none⟩) 1 1) 1 [.int .i64 x] (w.alloc (.cells #[.int .i64 x] 3)) := by
  refine Src.ofSlice _ Tryz.underlying35 ⟨w.heap.size, 0, none⟩ 1 1 [.int .i64 x] rfl (fun j u hu => ?_) (fun u hu => by rw [List.mem_singleton.1 hu]; rfl)
  rw [Addr.add_lit, Nat.zero_add]
  exact (cell_of_row _ _ _ _ _ _ (heap_alloc_new w _)).trans (by rw [← hu]; simp)
/-- The numbers above 0 of names. -/
def nums (num : List UInt8 → Nat) (l : List (List UInt8)) : List Int := (l.filter (fun x => decide (0 < num x))).map (fun x => (num x : Int))
theorem nums_snoc (num : List UInt8 → Nat) (l : List (List UInt8)) (x : List UInt8) : nums num (l ++ [x]) = nums num l ++ (if 0 < num x then [(num x : Int)] else []) := by
  unfold nums
  rw [List.filter_append, List.map_append]
  congr 1
  by_cases h : 0 < num x <;> simp [h]
set_option maxRecDepth 100000 in
set_option maxHeartbeats 1000000 in
theorem numbersOf_any (num : List UInt8 → Nat) (v : Value) (nms : List (List UInt8)) (w : World) (hr : ∃ B, RowO w B 9 1 v nms.length (strs nms)) (hn : nms.length ≤ 1000000)
    (hnum : ∀ x ∈ nms, ∀ w, Calls Tryz.prog 115 #[.string ⟨x.toArray⟩] w fun e w' => e = .returned (.int .i64 (num x)) ∧ Below w.heap.size w w') :
    Calls Tryz.prog 71 #[v] w fun e w' => ∃ v', e = .returned v' ∧ RowO w' w.heap.size 3 1 v' (nums num nms).length (i64s (nums num nms)) ∧ Below w.heap.size w w' := by
  obtain ⟨i0, hi0, hz0, hz1, hz2⟩ := info_parts info3
  obtain ⟨B, hr⟩ := hr
  obtain ⟨ao, cp, rfl, _, hcm⟩ := hr.form
  have HR := Hid.mk' hr
  have HNUM := Hid.mk' hnum
  generalize hm : nms.length = n at *
  have HN := Hid.mk' hm
  clear hr hnum hm
  go_enter Tryz.func71, Tryz.ntmps71
  go_wp2
  go_loopg [3, 9] n (fun kx s3 s9 wr => ∃ (k : Nat) (u : Value) (ms : List Int), s9 = .int .i64 k ∧ s3 = u ∧ k ≤ n ∧ n - k ≤ kx ∧ RowO wr w.heap.size 3 1 u ms.length (i64s ms) ∧ Hid (ms = nums num (nms.take k)) ∧ ms.length ≤ k ∧ Hid (Below w.heap.size w wr))
  case atStart => exact ⟨0, _, [], rfl, rfl, Nat.zero_le _, by omega, RowO.nil _ _ _ _, Hid.mk' rfl, Nat.le_refl _, Hid.mk' (Below.refl _ _)⟩
  case round =>
    obtain ⟨k, u, ms, rfl, rfl, hk, hkx, hrow, HM, hml, HB⟩ := hrel
    obtain ⟨uo, uc, rfl, _, _⟩ := hrow.form
    by_cases hlt : k < n
    · have hkr : k < nms.length := by rw [HN.out]; exact hlt
      have hr2 := HR.out.upd (Upd.ofBelow HB.out : Upd w wr (fun _ => False)) (fun _ _ => id)
      obtain ⟨g, off, hgo⟩ : ∃ g off, ao = some ⟨g, off, none⟩ := by
        rcases hr2.2 with ⟨h', h0⟩ | ⟨g, off, cap, cur, h', _⟩
        · omega
        · simp only [Value.slice.injEq, true_and] at h'
          exact ⟨g, off, h'.1⟩
      subst hgo
      have hcell : wr.cell? ⟨g, off + k, none⟩ = some (.string ⟨nms[k].toArray⟩) := hr2.cell k _ (by simp [strs, hkr])
      have hcall := HNUM.out _ (List.getElem_mem hkr) wr
      have HS : Hid (nums num (nms.take (k + 1)) = nums num (nms.take k) ++ (if 0 < num nms[k] then [(num nms[k] : Int)] else [])) := by
        show _ = _
        rw [List.take_succ_eq_append_getElem hkr, nums_snoc]
      generalize nms[k] = x at *
      generalize num x = q at *
      clear hr2 hkr
      by_cases hq : 0 < q
      · rw [if_pos hq] at HS
        have hg1 : decide (0 < (q : Int)) = true := by rw [decide_eq_true_eq]; omega
        have hg2 : decide (0 < q) = true := by rw [decide_eq_true_eq]; omega
        go_wp2_with (first | (go_at_call 115; refine hcall.mono ?_; rintro e w2 ⟨rfl, hb2⟩; have hsrc := Src_oneI (w := w2) (x := (q : Int)); have hb3 : Below wr.heap.size wr (w2.alloc (.cells #[.int .i64 (q : Int)] 3)) := (hb2.alloc hb2.size _); have hrow3 := hrow.upd (Upd.ofBelow hb3 : Upd wr _ (fun _ => False)) (fun _ _ => id); have hbs := hb2.size; have hbw := HB.out.size) | (at_builtin; refine wpList_appO _ rfl (.tmp 17) (.tmp 19) 35 35 rfl w.heap.size 3 i0 (.int .i64 0) 1 Tryz.underlying35 hi0 hz0 hz1 rfl (by omega) _ ms.length (i64s ms) rfl hrow3 _ rfl 1 _ hsrc (by omega) (by simp; omega) ?_; intro v6 w6 h1 h2 h3; obtain ⟨a6, c6, rfl, _, _⟩ := h1.form))
        go_roundg (n - (k + 1))
        case measure => omega
        case rel =>
          refine ⟨k + 1, _, ms ++ [(q : Int)], rfl, rfl, by omega, by omega, by simpa [i64s] using h1, Hid.mk' (by rw [HS.out, HM.out]), by simp; omega, Hid.mk' ?_⟩
          exact HB.out.trans ((hb3.mono HB.out.size).trans (h2.below (Nat.le_trans HB.out.size hb3.size) (fun j hj e => by have := (hrow.lt e.symm).1; omega)))
      · rw [if_neg hq, List.append_nil] at HS
        have hg1 : decide (0 < (q : Int)) = false := by rw [decide_eq_false_iff_not]; omega
        have hg2 : decide (0 < q) = false := by rw [decide_eq_false_iff_not]; omega
        go_wp2_with (first | (go_at_call 115; refine hcall.mono ?_; rintro e w2 ⟨rfl, hb2⟩))
        go_roundg (n - (k + 1))
        case measure => omega
        case rel => exact ⟨k + 1, _, ms, rfl, rfl, by omega, by omega, hrow.upd (Upd.ofBelow hb2 : Upd wr _ (fun _ => False)) (fun _ _ => id), Hid.mk' (by rw [HS.out, HM.out]), by omega, Hid.mk' (HB.out.trans (hb2.mono HB.out.size))⟩
    · obtain rfl : k = n := by omega
      have HE : Hid (ms = nums num nms) := by show _ = _; rw [HM.out, List.take_of_length_le (by rw [HN.out]; exact Nat.le_refl _)]
      go_wp2
      go_ret
      rw [← HE.out]
      exact ⟨_, rfl, hrow, HB.out⟩
end Go.Proofs.YtecnlfalpfbobaaGreatDoor
/- What nextNumber and slices.Contains do. -/
namespace Go.Proofs.YtecnlfalpfbobaaGreatDoor
open Go Go.RowKit
def nextOf (ms : List Int) : Int := (ms.getLast?).getD 0 + 1
set_option maxRecDepth 100000 in
set_option maxHeartbeats 1000000 in
theorem nextNumber_any (v : Value) (ms : List Int) (w : World) (hr : SeesI w v ms) (hn : ms.length ≤ 1000000) (hb : ∀ m ∈ ms, 0 ≤ m ∧ m < 99999999) :
    Calls Tryz.prog 91 #[v] w fun e w' => e = .returned (.tuple #[.int .i64 (nextOf ms), .int .i64 0]) ∧ w' = w := by
  obtain ⟨ao, cp, rfl⟩ := hr.form
  cases hc : ms.length with
  | zero =>
    obtain rfl := List.eq_nil_of_length_eq_zero hc
    clear hr
    go_enter Tryz.func91, Tryz.ntmps91
    go_wp2
    go_ret2
    exact ⟨rfl, rfl⟩
  | succ n =>
    rcases hr with ⟨rfl, _⟩ | ⟨g, off, cap, hv, _, _, hcell⟩
    · simp at hc
    · simp only [Value.slice.injEq] at hv
      obtain ⟨rfl, _, rfl⟩ := hv
      have hk := hcell n (by omega)
      have hl : ms.getLast? = some ms[n] := by rw [List.getLast?_eq_getElem?, show ms.length - 1 = n by omega]; simp [hc]
      have hg : ms.getD n 0 = ms[n] := by simp [List.getD_eq_getElem?_getD, hc]
      have hbn := hb ms[n] (List.getElem_mem _)
      have HNX : Hid (nextOf ms = ms[n] + 1) := by show _ = _; unfold nextOf; rw [hl]; rfl
      rw [hg] at hk
      generalize ms[n] = m at *
      have hne : (m == 99999999) = false := by rw [beq_eq_false_iff_ne]; omega
      have hn1 : n + 1 ≤ 1000000 := by omega
      clear hcell hl hg hb hn hc
      go_enter Tryz.func91, Tryz.ntmps91
      go_wp2
      go_ret2
      exact ⟨by rw [HNX.out]; rfl, rfl⟩
set_option maxRecDepth 100000 in
set_option maxHeartbeats 1000000 in
theorem index_any (v : Value) (nms : List (List UInt8)) (t : ByteArray) (w : World) (hr : ∃ B, RowO w B 9 1 v nms.length (strs nms)) (hn : nms.length ≤ 1000000) :
    Calls Tryz.prog 131 #[v, .string t] w fun e w' => ∃ i : Int, e = .returned (.int .i64 i) ∧ (0 ≤ i ↔ t.data.toList ∈ nms) ∧ w' = w := by
  obtain ⟨B, hr⟩ := hr
  obtain ⟨ao, cp, rfl, _, hcm⟩ := hr.form
  have HR := Hid.mk' hr
  generalize hm : nms.length = n at *
  have HN := Hid.mk' hm
  clear hr hm
  go_enter Tryz.func131, Tryz.ntmps131
  go_wp2
  go_loopg [8] n (fun kx s8 wr => ∃ (k : Nat), s8 = .int .i64 k ∧ k ≤ n ∧ n - k ≤ kx ∧ Hid (∀ x ∈ nms.take k, x ≠ t.data.toList) ∧ wr = w)
  case atStart => exact ⟨0, rfl, Nat.zero_le _, by omega, Hid.mk' (fun x hx => by simp at hx), rfl⟩
  case round =>
    obtain ⟨k, rfl, hk, hkx, HM, rfl⟩ := hrel
    by_cases hlt : k < n
    · have hkr : k < nms.length := by rw [HN.out]; exact hlt
      obtain ⟨g, off, hgo⟩ : ∃ g off, ao = some ⟨g, off, none⟩ := by
        rcases HR.out.2 with ⟨h', h0⟩ | ⟨g, off, cap, cur, h', _⟩
        · omega
        · simp only [Value.slice.injEq, true_and] at h'
          exact ⟨g, off, h'.1⟩
      subst hgo
      have hcell : wr.cell? ⟨g, off + k, none⟩ = some (.string ⟨nms[k].toArray⟩) := HR.out.cell k _ (by simp [strs, hkr])
      have HMEM := Hid.mk' (List.getElem_mem hkr)
      have HTK : Hid (nms.take (k + 1) = nms.take k ++ [nms[k]]) := by show _ = _; rw [List.take_succ_eq_append_getElem hkr]
      generalize nms[k] = x at *
      by_cases hx : x = t.data.toList
      · have he : (t.toList == (⟨x.toArray⟩ : ByteArray).toList) = true := by rw [ByteArray.toList_eq, ByteArray.toList_eq, hx]; simp
        have he2 : (t.toList == x) = true := by rw [ByteArray.toList_eq, hx]; simp
        clear hkr
        go_wp2
        go_ret
        exact ⟨k, rfl, ⟨fun _ => by rw [← hx]; exact HMEM.out, fun _ => by omega⟩, rfl⟩
      · have he : (t.toList == (⟨x.toArray⟩ : ByteArray).toList) = false := by rw [ByteArray.toList_eq, ByteArray.toList_eq, beq_eq_false_iff_ne]; exact fun h => hx (by simpa using h.symm)
        have he2 : (t.toList == x) = false := by rw [ByteArray.toList_eq, beq_eq_false_iff_ne]; exact fun h => hx h.symm
        have HX := Hid.mk' hx
        clear hkr hx
        go_wp2
        go_roundg (n - (k + 1))
        case measure => omega
        case rel => exact ⟨k + 1, rfl, by omega, by omega, Hid.mk' (fun y hy => by rw [HTK.out] at hy; rcases List.mem_append.1 hy with hy | hy; exact HM.out y hy; rw [List.mem_singleton.1 hy]; exact HX.out), rfl⟩
    · obtain rfl : k = n := by omega
      go_wp2
      go_ret
      refine ⟨-1, rfl, ⟨fun h => by omega, fun h => ?_⟩, rfl⟩
      exact absurd rfl (HM.out _ (by rw [List.take_of_length_le (by rw [HN.out]; exact Nat.le_refl _)]; exact h))
set_option maxRecDepth 100000 in
set_option maxHeartbeats 1000000 in
theorem contains_any (v : Value) (nms : List (List UInt8)) (t : ByteArray) (w : World) (hr : ∃ B, RowO w B 9 1 v nms.length (strs nms)) (hn : nms.length ≤ 1000000) :
    Calls Tryz.prog 105 #[v, .string t] w fun e w' => e = .returned (.bool (decide (t.data.toList ∈ nms))) ∧ w' = w := by
  have hi := index_any v nms t w hr hn
  obtain ⟨B, hr⟩ := hr
  obtain ⟨ao, cp, rfl, _, hcm⟩ := hr.form
  clear hr
  by_cases h : t.data.toList ∈ nms
  · rw [decide_eq_true h]
    go_enter Tryz.func105, Tryz.ntmps105
    go_wp2_with (go_at_call 131; refine hi.mono ?_; rintro e w1 ⟨i, rfl, hiff, rfl⟩; have hg : decide (0 ≤ i) = true := decide_eq_true (hiff.2 h))
    go_ret
    exact ⟨rfl, rfl⟩
  · rw [decide_eq_false h]
    go_enter Tryz.func105, Tryz.ntmps105
    go_wp2_with (go_at_call 131; refine hi.mono ?_; rintro e w1 ⟨i, rfl, hiff, rfl⟩; have hg : decide (0 ≤ i) = false := decide_eq_false (fun hh => h (hiff.1 hh)))
    go_ret
    exact ⟨rfl, rfl⟩
end Go.Proofs.YtecnlfalpfbobaaGreatDoor
