/- How high a tree is. -/
import Derived.Test.YtilginghgigiiaaKL
namespace Go.Proofs.Ytilginghgigiiaa
open Go Go.RowKit

theorem weave_len : ∀ (ks : List KidD) (its : List Itm), ks.length = its.length + 1 → (weave ks its).length + 1 = (ks.map fun k => k.L.length + 1).sum
  | [], its, h => by simp at h
  | [k], [], _ => by simp [weave, suf]
  | [k], _ :: _, h => by simp at h
  | k :: k2 :: ks, [], h => by simp at h
  | k :: k2 :: ks, i :: its, h => by
    have ih := weave_len (k2 :: ks) its (by simpa using h)
    rw [weave_cons _ _ _ _ (by simp), List.map_cons, List.sum_cons, ← ih]
    simp; omega
theorem sum_ge (c : Nat) : ∀ l : List Nat, (∀ x ∈ l, c ≤ x) → l.length * c ≤ l.sum
  | [], _ => by simp
  | a :: l, h => by
    have h1 := h a (by simp)
    have h2 := sum_ge c l (fun x hx => h x (by simp [hx]))
    rw [List.length_cons, List.sum_cons, Nat.succ_mul]
    omega
theorem Tre.size {w : World} : ∀ {h b : Nat} {its L : List Itm} {F : List Nat}, Tre w h b its L F → (its.length + 1) * 3 ^ h ≤ L.length + 1
  | 0, _, _, _, _, ⟨_, _, _, hL, _⟩ => by rw [hL]; simp
  | h + 1, _, its, _, _, ⟨_, _, ks, _, hl, hks, hL, _⟩ => by
    rw [hL, weave_len ks its hl, ← hl]
    have := sum_ge (3 ^ (h + 1)) (ks.map fun k => k.L.length + 1) (fun x hx => by
      obtain ⟨k, hk, rfl⟩ := List.mem_map.1 hx
      have ht := (hks k hk).1.size
      have h2 := (hks k hk).2.1
      have h3 : 3 * 3 ^ h ≤ (k.its.length + 1) * 3 ^ h := Nat.mul_le_mul_right _ (by omega)
      rw [Nat.pow_succ]
      omega)
    simpa using this
theorem pow_le (h : Nat) : 2 ^ (h + 1) ≤ 2 * 3 ^ h := by
  induction h with
  | zero => simp
  | succ h ih => rw [Nat.pow_succ, Nat.pow_succ]; omega
/-- Height, of an index. -/
theorem height_ix {w : World} {x : Nat} {R : List IM} {F : List Nat} (H : Ix w x R F) (hR : R.length ≤ 1000) :
    ∃ hgt : Nat, (R = [] → hgt = 0) ∧ (R ≠ [] → 1 ≤ hgt) ∧ (2 ^ hgt ≤ R.length + 1) ∧ Calls Try.prog 32 #[ptr x] w fun e w' => e = .returned (.int .i64 hgt) ∧ w' = w := by
  obtain ⟨rp, Ft, hx, hRt, _⟩ := H.ex
  rcases hRt with ⟨rfl, hL, _⟩ | ⟨h, b, its, rfl, ht, h1, h4⟩
  · have hn : R = [] := List.map_eq_nil_iff.1 hL
    exact ⟨0, fun _ => rfl, fun h => absurd hn h, by simp, height_nil hx⟩
  · have hs := ht.size
    have h3 : 2 * 3 ^ h ≤ (its.length + 1) * 3 ^ h := Nat.mul_le_mul_right _ (by omega)
    have h5 := pow_le h
    have hlen : (R.map IM.it).length = R.length := by simp
    have h6 : 2 ^ (h + 1) ≤ R.length + 1 := by omega
    have h7 : h < 1000000 := by
      have := @Nat.lt_two_pow_self (h + 1)
      omega
    refine ⟨h + 1, fun e => ?_, fun _ => by omega, h6, ?_⟩
    · rw [e] at h6
      have : 2 ≤ 2 ^ (h + 1) := by rw [Nat.pow_succ]; have := Nat.one_le_two_pow (n := h); omega
      simp at h6
    · have := height_tre hx ht (by omega)
      rw [show ((h + 1 : Nat) : Int) = (h : Int) + 1 by omega]
      exact this
/-! ### Names -/
def nameB (n : Nat) : ByteArray := ⟨#[UInt8.ofNat (97 + n % 26), UInt8.ofNat (97 + n / 26 % 26), UInt8.ofNat (97 + n / 676 % 26)]⟩
theorem u8_inj {a b : Nat} (ha : a < 256) (hb : b < 256) (h : UInt8.ofNat a = UInt8.ofNat b) : a = b := by
  have := congrArg UInt8.toNat h
  rw [UInt8.toNat_ofNat', UInt8.toNat_ofNat'] at this
  omega
theorem nameB_inj {a b : Nat} (ha : a < 17576) (hb : b < 17576) (h : nameB a = nameB b) : a = b := by
  unfold nameB at h
  simp only [ByteArray.mk.injEq, Array.mk.injEq, List.cons.injEq, and_true] at h
  have h1 := u8_inj (by omega) (by omega) h.1
  have h2 := u8_inj (by omega) (by omega) h.2.1
  have h3 := u8_inj (by omega) (by omega) h.2.2
  omega
theorem steps_co : ∀ s : Fin 1210, s.val % 2 = 1 → s.val % 13 ≠ 0 → Nat.gcd s.val 17576 = 1 := by decide +kernel
theorem key_inj {s i j : Nat} (hs : s < 1210) (h2 : s % 2 = 1) (h13 : s % 13 ≠ 0) (hi : i < 700) (hj : j < 700) (h : nameB (i * s % 17576) = nameB (j * s % 17576)) : i = j := by
  have hm := nameB_inj (Nat.mod_lt _ (by omega)) (Nat.mod_lt _ (by omega)) h
  have hg : Nat.gcd s 17576 = 1 := steps_co ⟨s, hs⟩ h2 h13
  have key : ∀ a b : Nat, a ≤ b → b < 700 → a * s % 17576 = b * s % 17576 → a = b := fun a b hab hb he => by
    have hd : 17576 ∣ (b - a) * s := by
      rw [Nat.sub_mul]
      exact Nat.dvd_of_mod_eq_zero (Nat.sub_mod_eq_zero_of_mod_eq he.symm)
    have hc : Nat.Coprime 17576 s := by rw [Nat.coprime_comm]; exact hg
    have := hc.dvd_of_dvd_mul_right hd
    have h0 : b - a = 0 := Nat.eq_zero_of_dvd_of_lt this (by omega)
    omega
  rcases Nat.le_total i j with hle | hle
  · exact key i j hle hj hm
  · exact (key j i hle hi hm.symm).symm
end Go.Proofs.Ytilginghgigiiaa
