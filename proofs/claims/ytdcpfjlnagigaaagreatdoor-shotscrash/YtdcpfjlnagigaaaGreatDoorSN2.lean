/- Names of files: what indexOf tells of a name. -/
import Derived.Test.YtdcpfjlnagigaaaGreatDoorSN1
import Derived.Deep.LoopGhost
namespace Go.Proofs.YtdcpfjlnagigaaaGreatDoor
open Go Go.RowKit
set_option maxRecDepth 100000 in
set_option maxHeartbeats 1000000 in
theorem cutNo (w : World) : Calls Tryz.prog 99 #[.string ⟨#[115, 104, 111, 116, 46, 110, 101, 119]⟩, .string ⟨#[115, 104, 111, 116, 45]⟩] w fun e w' => e = .returned (.tuple #[.string ⟨#[115, 104, 111, 116, 46, 110, 101, 119]⟩, .bool false]) ∧ w' = w := by
  have hE : (((⟨#[115, 104, 111, 116, 46, 110, 101, 119]⟩ : ByteArray).extract 0 5).toList == [115, 104, 111, 116, 45]) = false := by rw [ByteArray.toList_eq, ByteArray.data_extract]; rfl
  go_enter Tryz.func99, Tryz.ntmps99
  go_wp2
  go_ret2
  exact ⟨rfl, rfl⟩
set_option maxRecDepth 100000 in
set_option maxHeartbeats 1000000 in
theorem cutYes (a b : UInt8) (w : World) : Calls Tryz.prog 99 #[.string ⟨#[115, 104, 111, 116, 45, 48, 48, 48, 48, 48, 48, 48, 48, 48, 48, a, b]⟩, .string ⟨#[115, 104, 111, 116, 45]⟩] w fun e w' => e = .returned (.tuple #[.string ⟨#[48, 48, 48, 48, 48, 48, 48, 48, 48, 48, a, b]⟩, .bool true]) ∧ w' = w := by
  have hE : (((⟨#[115, 104, 111, 116, 45, 48, 48, 48, 48, 48, 48, 48, 48, 48, 48, a, b]⟩ : ByteArray).extract 0 5).toList == [115, 104, 111, 116, 45]) = true := by rw [ByteArray.toList_eq, ByteArray.data_extract]; rfl
  go_enter Tryz.func99, Tryz.ntmps99
  go_wp2
  go_ret2
  have he : (⟨#[115, 104, 111, 116, 45, 48, 48, 48, 48, 48, 48, 48, 48, 48, 48, a, b]⟩ : ByteArray).extract 5 17 = ⟨#[48, 48, 48, 48, 48, 48, 48, 48, 48, 48, a, b]⟩ := ByteArray.ext (by rw [ByteArray.data_extract]; rfl)
  exact ⟨congrArg (fun s => Ending.returned (Value.tuple #[Value.string s, .bool true])) he, rfl⟩
/-- The number that digits are. -/
def val (l : List UInt8) : Nat := l.foldl (fun n x => n * 10 + (x.toNat - 48)) 0
theorem val_snoc (l : List UInt8) (x : UInt8) : val (l ++ [x]) = val l * 10 + (x.toNat - 48) := by simp [val]
theorem val_lt : ∀ (n : Nat) (l : List UInt8), l.length = n → (∀ x ∈ l, x.toNat ≤ 57) → val l < 10 ^ n
  | 0, l, h, _ => by obtain rfl := List.eq_nil_of_length_eq_zero h; simp [val]
  | n + 1, l, h, hb => by
    obtain ⟨l', x, rfl⟩ : ∃ l' x, l = l' ++ [x] := ⟨l.dropLast, l.getLast (by intro e; simp [e] at h), (List.dropLast_concat_getLast _).symm⟩
    have h1 := val_lt n l' (by simpa using h) (fun y hy => hb y (by simp [hy]))
    have h2 := hb x (by simp)
    rw [val_snoc, Nat.pow_succ]
    omega
set_option maxRecDepth 100000 in
set_option maxHeartbeats 1000000 in
theorem indexOf_no (w : World) : Calls Tryz.prog 77 #[.string ⟨#[115, 104, 111, 116, 46, 110, 101, 119]⟩] w fun e w' => e = .returned (.tuple #[.int .i64 0, .bool false]) ∧ w' = w := by
  go_enter Tryz.func77, Tryz.ntmps77
  go_wp2_with (first | (go_at_call 99; refine (cutNo _).mono ?_; rintro e w1 ⟨rfl, rfl⟩))
  go_ret2
  exact ⟨rfl, rfl⟩
set_option maxRecDepth 100000 in
set_option maxHeartbeats 1000000 in
theorem indexOf_dig (s t : ByteArray) (w : World) (hs : s.size = 12) (hd : ∀ x ∈ s.data.toList, 48 ≤ x.toNat ∧ x.toNat ≤ 57) (hc : ∀ w, Calls Tryz.prog 99 #[.string t, .string ⟨#[115, 104, 111, 116, 45]⟩] w fun e w' => e = .returned (.tuple #[.string s, .bool true]) ∧ w' = w) :
    Calls Tryz.prog 77 #[.string t] w fun e w' => e = .returned (.tuple #[.int .i64 (val s.data.toList : Nat), .bool true]) ∧ Below w.heap.size w w' := by
  have HD := Hid.mk' hd
  have HS := Hid.mk' hs
  clear hd
  go_enter Tryz.func77, Tryz.ntmps77
  go_wp2_with (first | (go_at_call 99; refine (hc _).mono ?_; rintro e w1 ⟨rfl, rfl⟩))
  go_loopg [6] 12 (fun kx s5 wr => ∃ (k v : Nat), k ≤ 12 ∧ 12 - k ≤ kx ∧ wr = w1.iter s k ∧ s5 = .int .i64 v ∧ Hid (v = val (s.data.toList.take k)) ∧ v ≤ 999999999999)
  case atStart => exact ⟨0, 0, by omega, by omega, rfl, rfl, Hid.mk' rfl, by omega⟩
  case round =>
    obtain ⟨k, v, hk, hkx, rfl, rfl, HV, hv⟩ := hrel
    by_cases hlt : k < 12
    · have hks : k < s.size := by omega
      have hkl : k < s.data.toList.length := by rw [Array.length_toList]; exact hks
      have hmem : s[k]'hks ∈ s.data.toList := by
        have : s.data.toList[k] = s[k]'hks := by rw [Array.getElem_toList]; rfl
        rw [← this]; exact List.getElem_mem hkl
      have hx := HD.out _ hmem
      have hn := run_next_ascii (P := Tryz.prog) w1 s k 0 hks (by omega)
      have HE : Hid (val (s.data.toList.take (k + 1)) = v * 10 + ((s[k]'hks).toNat - 48)) := by
        show _ = _
        rw [List.take_succ_eq_append_getElem hkl, val_snoc, HV.out, Array.getElem_toList]; rfl
      have HV7 : Hid (v < 10 ^ k) := by
        rw [HV.out]
        exact val_lt k _ (by rw [List.length_take]; omega) (fun x hx => (HD.out x (List.mem_of_mem_take hx)).2)
      have hv7 : v < 100000000000 := Nat.lt_of_lt_of_le HV7.out (by have : (10 : Nat) ^ k ≤ 10 ^ 11 := Nat.pow_le_pow_right (by omega) (by omega); exact this)
      generalize (s[k]'hks).toNat = x at *
      clear hmem hkl
      obtain ⟨hx1, hx2⟩ := hx
      have hg1 : decide ((x : Int) < 48) = false := by rw [decide_eq_false_iff_not]; omega
      have hg2 : decide ((57 : Int) < x) = false := by rw [decide_eq_false_iff_not]; omega
      have hg3 : decide (x < 48) = false := by rw [decide_eq_false_iff_not]; omega
      have hg4 : decide (57 < x) = false := by rw [decide_eq_false_iff_not]; omega
      clear hs
      go_wp2
      go_roundg (12 - (k + 1))
      case measure => omega
      case rel => exact ⟨k + 1, v * 10 + (x - 48), by omega, by omega, rfl, by congr 1; omega, Hid.mk' HE.out.symm, by omega⟩
    · obtain rfl : k = 12 := by omega
      have hn := run_next_end (P := Tryz.prog) w1 s 12 0 (by omega)
      have HE : Hid (v = val s.data.toList) := by show _ = _; rw [HV.out, List.take_of_length_le (by rw [Array.length_toList]; exact Nat.le_of_eq hs)]
      clear hs
      go_wp2
      go_ret2
      exact ⟨by rw [← HE.out]; rfl, (Below.refl _ _).alloc (Nat.le_refl _) _⟩
theorem val_dig : ∀ n : Fin 100, val ([48, 48, 48, 48, 48, 48, 48, 48, 48, 48] ++ dig n.val) = n.val := by decide +kernel
theorem dig_ok : ∀ n : Fin 100, ∀ x ∈ [48, 48, 48, 48, 48, 48, 48, 48, 48, 48] ++ dig n.val, 48 ≤ x.toNat ∧ x.toNat ≤ 57 := by decide +kernel
theorem indexOf_name (n : Nat) (w : World) (hn : n < 100) : Calls Tryz.prog 77 #[.string ⟨(sname n).toArray⟩] w fun e w' => e = .returned (.tuple #[.int .i64 n, .bool true]) ∧ Below w.heap.size w w' := by
  have h := indexOf_dig ⟨#[48, 48, 48, 48, 48, 48, 48, 48, 48, 48, UInt8.ofNat (48 + n / 10), UInt8.ofNat (48 + n % 10)]⟩ ⟨(sname n).toArray⟩ w rfl (dig_ok ⟨n, hn⟩) (fun w => cutYes _ _ w)
  have hv : val (⟨#[48, 48, 48, 48, 48, 48, 48, 48, 48, 48, UInt8.ofNat (48 + n / 10), UInt8.ofNat (48 + n % 10)]⟩ : ByteArray).data.toList = n := val_dig ⟨n, hn⟩
  rw [hv] at h
  exact h
end Go.Proofs.YtdcpfjlnagigaaaGreatDoor
