/- One byte turned turns the sum. -/
import Derived.Test.YtamgoknoapcnjaaDoorFrameLaws
namespace Go.Proofs.YtamgoknoapcnjaaDoor
open Go Go.RowKit
theorem tab_top : ∀ i j : Fin 16, (tab.getD i.val 0) / 268435456 = (tab.getD j.val 0) / 268435456 → i = j := by decide
theorem half_inj {a b : Nat} (ha : a < 4294967296) (hb : b < 4294967296) (h : half a = half b) : a = b := by
  unfold half at h
  have e : (a / 16 ^^^ tab.getD (a % 16) 0) >>> 28 = (b / 16 ^^^ tab.getD (b % 16) 0) >>> 28 := by rw [h]
  rw [Nat.shiftRight_xor_distrib, Nat.shiftRight_xor_distrib] at e
  simp only [Nat.shiftRight_eq_div_pow] at e
  rw [show a / 16 / 2 ^ 28 = 0 by omega, show b / 16 / 2 ^ 28 = 0 by omega, Nat.zero_xor, Nat.zero_xor] at e
  have hij := tab_top ⟨a % 16, by omega⟩ ⟨b % 16, by omega⟩ (by simpa using e)
  have hm : a % 16 = b % 16 := by simpa using hij
  rw [hm] at h
  have hx : a / 16 = b / 16 := by
    have := congrArg (fun n => n ^^^ tab.getD (b % 16) 0) h
    simpa [Nat.xor_assoc] using this
  omega
theorem step_inj {s t x : Nat} (hs : s < 4294967296) (ht : t < 4294967296) (hx : x < 4294967296) (h : crcStep s x = crcStep t x) : s = t := by
  unfold crcStep at h
  have h1 := half_inj (half_lt (xor_lt hs hx)) (half_lt (xor_lt ht hx)) h
  have h2 := half_inj (xor_lt hs hx) (xor_lt ht hx) h1
  have := congrArg (fun n => n ^^^ x) h2
  simpa [Nat.xor_assoc] using this
theorem step_inj2 {s x y : Nat} (hs : s < 4294967296) (hx : x < 4294967296) (hy : y < 4294967296) (h : crcStep s x = crcStep s y) : x = y := by
  unfold crcStep at h
  have h1 := half_inj (half_lt (xor_lt hs hx)) (half_lt (xor_lt hs hy)) h
  have h2 := half_inj (xor_lt hs hx) (xor_lt hs hy) h1
  have := congrArg (fun n => s ^^^ n) h2
  simpa [← Nat.xor_assoc] using this
theorem fold_inj : ∀ (l : List Int) (s t : Nat), isB l → s < 4294967296 → t < 4294967296 → l.foldl (fun s x => crcStep s x.toNat) s = l.foldl (fun s x => crcStep s x.toNat) t → s = t
  | [], _, _, _, _, _, h => h
  | a :: l, s, t, hb, hs, ht, h => by
    have ha := hb a (List.mem_cons_self ..)
    have hx : a.toNat < 4294967296 := by omega
    have := fold_inj l _ _ (fun x hx => hb x (List.mem_cons_of_mem _ hx)) (crcStep_lt hs hx) (crcStep_lt ht hx) h
    exact step_inj hs ht hx this
theorem fold_lt : ∀ (l : List Int) (s : Nat), isB l → s < 4294967296 → l.foldl (fun s x => crcStep s x.toNat) s < 4294967296
  | [], _, _, hs => hs
  | a :: l, s, hb, hs => fold_lt l _ (fun x hx => hb x (List.mem_cons_of_mem _ hx)) (crcStep_lt hs (by have := hb a (List.mem_cons_self ..); omega))
theorem crc_turn {l r : List Int} {x y : Int} (hl : isB l) (hr : isB r) (hx : 0 ≤ x ∧ x ≤ 255) (hy : 0 ≤ y ∧ y ≤ 255) (h : x ≠ y) : crc (l ++ x :: r) ≠ crc (l ++ y :: r) := by
  intro e
  have b1 := crcRun_lt _ (l ++ x :: r) rfl (fun z hz => by
    rcases List.mem_append.1 hz with hz | hz
    · exact hl z hz
    · rcases List.mem_cons.1 hz with rfl | hz
      · exact hx
      · exact hr z hz)
  have b2 := crcRun_lt _ (l ++ y :: r) rfl (fun z hz => by
    rcases List.mem_append.1 hz with hz | hz
    · exact hl z hz
    · rcases List.mem_cons.1 hz with rfl | hz
      · exact hy
      · exact hr z hz)
  have e2 : crcRun (l ++ x :: r) = crcRun (l ++ y :: r) := by unfold crc at e; omega
  unfold crcRun at e2
  rw [List.foldl_append, List.foldl_append, List.foldl_cons, List.foldl_cons] at e2
  have hs := fold_lt l 4294967295 hl (by decide)
  have h1 := fold_inj r _ _ hr (crcStep_lt hs (by omega)) (crcStep_lt hs (by omega)) e2
  have h2 := step_inj2 hs (by omega) (by omega) h1
  omega
/-- A frame of which one summed byte was turned. -/
theorem unfE_turn {l r : List Int} {x y : Int} (hl : isB l) (hr : isB r) (hx : 0 ≤ x ∧ x ≤ 255) (hy : 0 ≤ y ∧ y ≤ 255) (h : x ≠ y) (hlen : (l ++ x :: r).length ≤ 100000) :
    unfE ((be ((l ++ x :: r).length : Nat)).drop 4 ++ ((be (crc (l ++ x :: r) : Nat)).drop 4 ++ (l ++ y :: r))) = 12 := by
  have hc := crc_lt (l ++ x :: r)
  have hlen2 : (l ++ y :: r).length = (l ++ x :: r).length := by simp
  obtain ⟨c, hcc⟩ : ∃ c, c = crc (l ++ x :: r) := ⟨_, rfl⟩
  have hne : (crc (l ++ y :: r)) ≠ c := fun e => crc_turn hl hr hx hy h (by rw [e, hcc])
  rw [← hcc] at hc ⊢
  obtain ⟨n, hn⟩ : ∃ n, n = (l ++ x :: r).length := ⟨_, rfl⟩
  rw [← hn] at hlen hlen2 ⊢
  have e1 : ((be (n : Nat)).drop 4).length = 4 := rfl
  have e2 : ((be (c : Nat)).drop 4).length = 4 := rfl
  have hL : unfL ((be (n : Nat)).drop 4 ++ ((be (c : Nat)).drop 4 ++ (l ++ y :: r))) = n := by
    unfold unfL
    rw [take_len _ _ _ e1, rd_low4 _ (by omega) (by omega)]
    omega
  have hS : unfS ((be (n : Nat)).drop 4 ++ ((be (c : Nat)).drop 4 ++ (l ++ y :: r))) = c := by
    unfold unfS
    rw [drop_len _ _ _ e1, take_len _ _ _ e2, rd_low4 _ (by omega) (by omega)]
  have hB : unfB ((be (n : Nat)).drop 4 ++ ((be (c : Nat)).drop 4 ++ (l ++ y :: r))) = l ++ y :: r := by
    unfold unfB
    rw [hL, ← List.append_assoc, drop_len _ _ _ (by rw [List.length_append, e1, e2])]
    exact List.take_of_length_le (by omega)
  have hlt : ((be (n : Nat)).drop 4 ++ ((be (c : Nat)).drop 4 ++ (l ++ y :: r))).length = 8 + n := by
    rw [List.length_append, List.length_append, e1, e2, hlen2]
    omega
  unfold unfE
  rw [hlt, hL, hB, hS, if_neg (by omega), if_neg (by omega), if_neg (by omega), if_neg (by omega)]
end Go.Proofs.YtamgoknoapcnjaaDoor
