/- The document's own sum, bit by bit: it is the sum by the table. -/
import Derived.Test.YtamgoknoapcnjaaDoorRef
namespace Go.Proofs.YtamgoknoapcnjaaDoor
open Go Go.RowKit
/-- One bit shifted out of a sum. -/
def bit (s : Nat) : Nat := if s % 2 = 1 then (s / 2) ^^^ 3988292384 else s / 2
def bitN : Nat → Nat → Nat
  | 0, s => s
  | n + 1, s => bit (bitN n s)
theorem half_xor (a b : Nat) : (a ^^^ b) / 2 = a / 2 ^^^ b / 2 := by
  have := Nat.shiftRight_xor_distrib (a := a) (b := b) (i := 1)
  simpa [Nat.shiftRight_eq_div_pow] using this
theorem bit_xor (a b : Nat) : bit (a ^^^ b) = bit a ^^^ bit b := by
  have h := Nat.xor_mod_two_eq_one (a := a) (b := b)
  unfold bit
  rw [half_xor]
  by_cases ha : a % 2 = 1
  · by_cases hb : b % 2 = 1
    · rw [if_neg (by rw [h]; simp [ha, hb]), if_pos ha, if_pos hb, Nat.xor_comm (b / 2), Nat.xor_assoc, ← Nat.xor_assoc 3988292384, Nat.xor_self, Nat.zero_xor]
    · rw [if_pos (by rw [h]; simp [ha, hb]), if_pos ha, if_neg hb, Nat.xor_assoc, Nat.xor_comm (b / 2), ← Nat.xor_assoc]
  · by_cases hb : b % 2 = 1
    · rw [if_pos (by rw [h]; simp [ha, hb]), if_neg ha, if_pos hb, Nat.xor_assoc]
    · rw [if_neg (by rw [h]; simp [ha, hb]), if_neg ha, if_neg hb]
theorem bitN_xor : ∀ (n a b : Nat), bitN n (a ^^^ b) = bitN n a ^^^ bitN n b
  | 0, _, _ => rfl
  | n + 1, a, b => by rw [bitN, bitN, bitN, bitN_xor n, bit_xor]
theorem xor_join (h l : Nat) (hl : l < 16) : (16 * h) ^^^ l = 16 * h + l := by
  apply Nat.eq_of_testBit_eq
  intro j
  have e := Nat.testBit_two_pow_mul_add h (i := 4) (b := l) (by omega) j
  have e2 := Nat.testBit_two_pow_mul (i := 4) (a := h) (j := j)
  simp only [Nat.reducePow] at e e2
  rw [Nat.testBit_xor, e, e2]
  by_cases hj : j < 4
  · have : ¬ (j ≥ 4) := by omega
    simp [hj, this]
  · have h4 : j ≥ 4 := by omega
    have : l.testBit j = false := Nat.testBit_lt_two_pow (Nat.lt_of_lt_of_le (by omega : l < 2 ^ 4) (Nat.pow_le_pow_right (by omega) h4))
    simp [hj, h4, this]
theorem bit_even (m : Nat) : bit (2 * m) = m := by unfold bit; rw [if_neg (by omega)]; omega
theorem bit4_even (h : Nat) : bitN 4 (16 * h) = h := by
  show bit (bit (bit (bit (16 * h)))) = h
  rw [show 16 * h = 2 * (2 * (2 * (2 * h))) by omega, bit_even, bit_even, bit_even, bit_even]
theorem bit4_low : ∀ l : Fin 16, bitN 4 l.val = tab.getD l.val 0 := by decide
theorem bit4 (s : Nat) : bitN 4 s = half s := by
  have hs : s = (16 * (s / 16)) ^^^ (s % 16) := by rw [xor_join _ _ (Nat.mod_lt _ (by omega))]; omega
  rw [half]
  conv => lhs; rw [hs]
  rw [bitN_xor, bit4_even, bit4_low ⟨s % 16, Nat.mod_lt _ (by omega)⟩]
theorem bitN_add : ∀ (n m s : Nat), bitN (n + m) s = bitN n (bitN m s)
  | 0, m, s => by simp [bitN]
  | n + 1, m, s => by rw [Nat.add_right_comm, bitN, bitN, bitN_add n]
theorem bit8 (s : Nat) : bitN 8 s = half (half s) := by rw [show (8 : Nat) = 4 + 4 from rfl, bitN_add, bit4, bit4]
theorem bit_lt {s : Nat} (h : s < 4294967296) : bit s < 4294967296 := by
  unfold bit; split
  · exact xor_lt (by omega) (by omega)
  · omega
theorem bitN_lt {s : Nat} (h : s < 4294967296) : ∀ n, bitN n s < 4294967296
  | 0 => h
  | n + 1 => bit_lt (bitN_lt h n)

set_option maxRecDepth 100000 in
set_option maxHeartbeats 400000 in
theorem fSum (v : Value) (zs : List Int) (w : World) (hb : isB zs) (hl : zs.length ≤ 1000000) (hv : Sees w v zs) :
    Calls Tryd.prog 64 #[v] w fun e w' => e = .returned (.int .u32 (crc zs)) ∧ w' = w := by
  rcases hv with ⟨rfl, ao, cap, rfl, _, _⟩ | ⟨b, off, cap, rfl, h0, _, _, hc⟩
  · go_enter Tryd.func64, Tryd.ntmps64
    go_wp2
    go_rounds 1
    go_ret
    exact ⟨rfl, rfl⟩
  · have HB : Hid (isB zs) := hb
    clear hb
    go_enter Tryd.func64, Tryd.ntmps64
    go_wp2
    go_loop [3, 4] (fun n i => ∃ k : Nat, k ≤ zs.length ∧ i = .int .i64 k ∧ n = .int .u32 (crcRun (zs.take k))) (fun _ i => zs.length - (intOf i).toNat)
    case atStart => exact ⟨0, Nat.zero_le _, rfl, rfl⟩
    case round =>
      obtain ⟨k, hk, rfl, rfl⟩ := hrel
      by_cases hlt : k < zs.length
      · have hck := hc k hlt
        have hx := HB.out _ (List.getElem_mem hlt)
        have hs : crcRun (zs.take k) < 4294967296 := crcRun_lt _ _ rfl (fun x hx => HB.out x (List.mem_of_mem_take hx))
        have HE : Hid (crcRun (zs.take (k + 1)) = crcStep (crcRun (zs.take k)) zs[k].toNat) := by
          show crcRun (zs.take (k + 1)) = _
          rw [List.take_succ_eq_append_getElem hlt, crcRun_snoc]
        generalize crcRun (zs.take k) = s at hs HE ⊢
        have he1 : bits .xor .u32 (s : Int) zs[k] = ((s ^^^ zs[k].toNat : Nat) : Int) := by
          rw [u32_xor _ _ (by omega) (by omega) (by omega) (by omega), Int.toNat_natCast]
        have hs1 : s ^^^ zs[k].toNat < 4294967296 := xor_lt hs (by omega)
        have HE' : Hid (crcRun (zs.take (k + 1)) = bitN 8 (s ^^^ zs[k].toNat)) := by show _ = _; rw [HE.out, bit8]; rfl
        clear HE hs
        generalize s ^^^ zs[k].toNat = s1 at he1 hs1 HE'
        clear hc HB
        go_wp2
        go_loop [3, 5] (fun n i => ∃ j : Nat, j ≤ 8 ∧ i = .int .i64 j ∧ n = .int .u32 (bitN j s1)) (fun _ i => 8 - (intOf i).toNat)
        case atStart => exact ⟨0, by omega, rfl, rfl⟩
        case round =>
          obtain ⟨j, hj, rfl, rfl⟩ := hrel
          by_cases hj8 : j < 8
          · have hs2 := bitN_lt hs1 j
            have HJ : Hid (bitN (j + 1) s1 = bit (bitN j s1)) := rfl
            generalize bitN j s1 = s2 at hs2 HJ ⊢
            have ha : bits .and .u32 (s2 : Int) 1 = ((s2 % 2 : Nat) : Int) := by
              rw [u32_and _ _ (by omega) (by omega) (by omega) (by omega)]
              show (((s2 : Int).toNat &&& 1 : Nat) : Int) = _
              rw [nat_mask1]; rfl
            have hx2 : bits .xor .u32 ((s2 : Int) / 2) 3988292384 = ((s2 / 2 ^^^ 3988292384 : Nat) : Int) := by
              rw [u32_xor _ _ (by omega) (by omega) (by omega) (by omega)]
              rw [show ((s2 : Int) / 2).toNat = s2 / 2 by omega]; rfl
            by_cases hp : s2 % 2 = 1
            · have ha' : bits .and .u32 (s2 : Int) 1 = 1 := by rw [ha, hp]; rfl
              clear ha
              go_wp2
              go_round
              case rel => exact ⟨j + 1, by omega, by go_num, by rw [HJ.out, bit, if_pos hp]⟩
              case measure => simp [intOf]; omega
            · have ha' : bits .and .u32 (s2 : Int) 1 = 0 := by rw [ha, show s2 % 2 = 0 by omega]; rfl
              clear ha
              go_wp2
              go_round
              case rel => exact ⟨j + 1, by omega, by go_num, by rw [HJ.out, bit, if_neg hp]; go_num⟩
              case measure => simp [intOf]; omega
          · obtain rfl : j = 8 := by omega
            go_wp2
            go_round
            case rel => exact ⟨k + 1, by omega, by go_num, by rw [HE'.out]⟩
            case measure => simp [intOf]; omega
      · have hs : crcRun zs < 4294967296 := crcRun_lt _ _ rfl HB.out
        have HK : Hid (zs.take k = zs) := List.take_of_length_le (by omega)
        clear hc HB
        go_wp2
        go_ret
        exact ⟨ret_int (by rw [HK.out]; exact not_u32 _ hs), rfl⟩
end Go.Proofs.YtamgoknoapcnjaaDoor
