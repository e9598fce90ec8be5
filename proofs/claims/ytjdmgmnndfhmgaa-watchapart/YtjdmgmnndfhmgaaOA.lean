/- One watcher of one key. -/
import Derived.Test.YtjdmgmnndfhmgaaKN
namespace Go.Proofs.Ytjdmgmnndfhmgaa
open Go Go.RowKit
def withinF (a n : Int) : Int := if a.tmod n < 0 then a.tmod n + n else a.tmod n
theorem within_bd (a n : Int) (hn : 0 < n) : 0 ≤ withinF a n ∧ withinF a n < n := by
  have h1 := Int.lt_tmod_of_pos a (b := n) hn
  have h2 := Int.tmod_lt_of_pos a (b := n) hn
  unfold withinF
  split <;> omega
theorem ret_i {k : IntKind} {a b : Int} (h : a = b) : Ending.returned (.int k a) = .returned (.int k b) := by rw [h]
set_option maxRecDepth 100000 in
set_option maxHeartbeats 1000000 in
theorem within_any (a n : Int) (w : World) (hn : 0 < n) (hm : n ≤ 1000000000000000) :
    Calls Try.prog 10 #[.int .i64 a, .int .i64 n] w fun e w' => e = .returned (.int .i64 (withinF a n)) ∧ w' = w := by
  have h1 := Int.lt_tmod_of_pos a (b := n) hn
  have h2 := Int.tmod_lt_of_pos a (b := n) hn
  have hn0 : (n == 0) = false := by simp; omega
  by_cases h : a.tmod n < 0
  · have HW : Hid (withinF a n = a.tmod n + n) := by show _ = _; rw [withinF, if_pos h]
    go_enter Try.func10, Try.ntmps10
    go_wp2
    go_ret
    exact ⟨ret_i HW.out.symm, rfl⟩
  · have HW : Hid (withinF a n = a.tmod n) := by show _ = _; rw [withinF, if_neg h]
    go_enter Try.func10, Try.ntmps10
    go_wp2
    go_ret
    exact ⟨ret_i HW.out.symm, rfl⟩
section
variable {w0 w : World} {s h : Nat} {E : List Evd} {last : Nat} {A : List Int} {X X' : Int → Wd} {x : Wd}
theorem LW.congr (H : LW w0 w s h E last A X) (hX : ∀ i ∈ A, X' i = X i) : LW w0 w s h E last A X' := by
  obtain ⟨n, S, g, o, m, G, a1, a2, a3⟩ := H
  exact ⟨n, S, g, o, m, G, a1, a2.congr hX, a3⟩
/-- One watcher. -/
def LV (w0 w : World) (s h : Nat) (E : List Evd) (x : Wd) : Prop := LW w0 w s h E 1 [1] (fun _ => x)
theorem LV.put (H : LV w0 w s h E x) (hE : E.length ≤ 1000) (k : ByteArray) (hk : 0 < k.size ∧ k.size ≤ 100) : Calls Try.prog 11 #[ptr s, .string k] w fun e w' => e = .returned (.tuple #[]) ∧ Hid (∃ ev, LV w0 w' s h (E ++ [ev]) x ∧ evP E k ev) := LW.put H hE k hk
theorem LV.feed (H : LV w0 w s h E x) : Calls Try.prog 12 #[ptr h] w fun e w' => e = .returned (.tuple #[]) ∧ Hid (LV w0 w' s h E (feedE E x)) := LW.feed H
theorem LV.poll (H : LV w0 w s h E x) (most mo : Int) (hmo : mo = max most 1) :
    Calls Try.prog 9 #[ptr h, .int .i64 1, .int .i64 most] w fun e w' => ∃ p c, e = .returned (.tuple #[.slice p (tellE E x mo).length c, .int .i64 (endE x)]) ∧ Hid (EVs w' (.slice p (tellE E x mo).length c) (tellE E x mo) ∧ if endE x = 0 then LV w0 w' s h E (nextE E x mo) else LW w0 w' s h E 1 [] X0) := by
  refine (LW.poll H (id := 1) (by simp) most mo hmo).mono ?_
  rintro e w' ⟨p, c, rfl, hq⟩
  obtain ⟨q1, q2⟩ := hq.out
  refine ⟨p, c, rfl, q1, ?_⟩
  by_cases he : endE x = 0
  · rw [if_pos he]
    rw [if_pos he] at q2
    exact q2.congr (fun i hi => by have : i = 1 := by simpa using hi
                                   subst this; rw [setX_same])
  · rw [if_neg he]
    rw [if_neg he] at q2
    exact LW.congr q2 (fun i hi => by cases hi)
theorem LW.one (H : LW w0 w s h E 0 [] X) (lo hi : ByteArray) (hls : lo.size ≤ 1000000) (hhs : hi.size ≤ 1000000) (from_ : Int) (hf : from_ ≤ 1000000000) : Calls Try.prog 8 #[ptr h, .string lo, .string hi, .int .i64 from_] w fun e w' => e = .returned (.int .i64 1) ∧ Hid (LV w0 w' s h E ⟨lo, hi, max from_ 1, false, [], 0⟩) := by
  have hw := H.watch (by omega) lo hi from_ hls hhs hf
  refine hw.mono ?_
  rintro e w' ⟨rfl, q⟩
  refine ⟨rfl, LW.congr q.out (fun i hi => ?_)⟩
  have : i = ((0 : Nat) : Int) + 1 := by simpa using hi
  subst this
  rw [setX_same]
theorem LV.revs (H : LV w0 w s h E x) {i : Nat} {e : Evd} (hi : E[i]? = some e) : e.1 = (i : Int) + 1 := LW.revs H hi
end
theorem wd_eq {a b : Wd} (h1 : a.lo = b.lo) (h2 : a.hi = b.hi) (h3 : a.place = b.place) (h4 : a.fd = b.fd) (h5 : a.buf = b.buf) (h6 : a.fin = b.fin) : a = b := by
  cases a; cases b; simp_all
abbrev kK : ByteArray := ⟨#[107]⟩
/-- A watcher that is fed, and heard nothing. -/
def XO (E : List Evd) : Wd := ⟨kK, ByteArray.empty, (min E.length 16 : Nat) + 1, true, E.take 16, if E.length ≤ 16 then 0 else 14⟩
theorem XO_feed (E : List Evd) (ev : Evd) (hh : heard kK ByteArray.empty ev = true) : feedE (E ++ [ev]) (XO E) = XO (E ++ [ev]) := by
  unfold feedE
  have hl : (E ++ [ev]).length = E.length + 1 := by simp
  rcases Nat.lt_trichotomy E.length 16 with h | h | h
  · have hf : (XO E).fin = 0 := by unfold XO; dsimp only; rw [if_pos (by omega)]
    have hp : (XO E).place = (E.length : Int) + 1 := by unfold XO; dsimp only; omega
    have hb : (XO E).buf = E := by unfold XO; dsimp only; exact List.take_of_length_le (by omega)
    have hn : newsE (E ++ [ev]) (XO E) = [ev] := by
      unfold newsE
      rw [hp]
      have e1 : ((E.length : Int) + 1 - 1).toNat = E.length := by omega
      rw [e1, List.drop_left]
      show [ev].filter (heard kK ByteArray.empty) = [ev]
      simp [hh]
    rw [if_pos ⟨rfl, hf⟩, hn, hb, if_neg (by simp; omega), hp, hl]
    refine wd_eq rfl rfl ?_ rfl ?_ ?_
    · show max ((E.length : Int) + 1) (((E.length + 1 : Nat) : Int) + 1) = ((min (E ++ [ev]).length 16 : Nat) : Int) + 1
      rw [hl]; omega
    · show E ++ [ev] = (E ++ [ev]).take 16
      rw [List.take_of_length_le (by rw [hl]; omega)]
    · show (XO E).fin = if (E ++ [ev]).length ≤ 16 then 0 else 14
      rw [hf, hl, if_pos (by omega)]
  · have hf : (XO E).fin = 0 := by unfold XO; dsimp only; rw [if_pos (by omega)]
    have hp : (XO E).place = (E.length : Int) + 1 := by unfold XO; dsimp only; omega
    have hb : (XO E).buf = E := by unfold XO; dsimp only; exact List.take_of_length_le (by omega)
    have hn : newsE (E ++ [ev]) (XO E) = [ev] := by
      unfold newsE
      rw [hp]
      have e1 : ((E.length : Int) + 1 - 1).toNat = E.length := by omega
      rw [e1, List.drop_left]
      show [ev].filter (heard kK ByteArray.empty) = [ev]
      simp [hh]
    rw [if_pos ⟨rfl, hf⟩, hn, hb, if_pos (by rw [List.length_singleton]; omega)]
    refine wd_eq rfl rfl ?_ rfl ?_ ?_
    · show ((min E.length 16 : Nat) : Int) + 1 = ((min (E ++ [ev]).length 16 : Nat) : Int) + 1
      rw [hl]; omega
    · show E = (E ++ [ev]).take 16
      rw [List.take_append_of_le_length (by omega), List.take_of_length_le (by omega)]
    · show (14 : Int) = if (E ++ [ev]).length ≤ 16 then 0 else 14
      rw [hl, if_neg (by omega)]
  · have hf : (XO E).fin = 14 := by unfold XO; dsimp only; rw [if_neg (by omega)]
    rw [if_neg (fun e => by rw [hf] at e; cases e.2)]
    unfold XO
    rw [hl, if_neg (by omega), if_neg (by omega), List.take_append_of_le_length (by omega)]
    have : min E.length 16 = min (E.length + 1) 16 := by omega
    rw [this]
theorem XO_first (mo : Int) : tellE [] ⟨kK, ByteArray.empty, max 1 1, false, [], 0⟩ mo = [] ∧ nextE [] ⟨kK, ByteArray.empty, max 1 1, false, [], 0⟩ mo = XO [] := by
  have hn : newsE [] ⟨kK, ByteArray.empty, max 1 1, false, [], 0⟩ = [] := by unfold newsE; simp
  constructor
  · unfold tellE; dsimp only; rw [hn]; simp
  · unfold nextE; dsimp only; rw [hn]
    have : wholeN mo [] = 0 := rfl
    rw [this]
    rfl
/-- The same, when so many were taken. -/
def XP (E : List Evd) (got : Nat) : Wd := { XO E with buf := (E.take 16).drop got }
theorem XP_zero (E : List Evd) : XP E 0 = XO E := rfl
theorem XP_end (E : List Evd) (got : Nat) (h : got = min E.length 16) (mo : Int) : tellE E (XP E got) mo = [] ∧ endE (XP E got) = (if E.length ≤ 16 then 0 else 14) ∧ nextE E (XP E got) mo = XP E got := by
  have hb : (XP E got).buf = [] := by unfold XP; dsimp only; rw [List.drop_of_length_le]; rw [List.length_take]; omega
  have hf : (XP E got).fd = true := rfl
  refine ⟨?_, ?_, ?_⟩
  · unfold tellE; rw [hf]; dsimp only; rw [hb]; simp
  · unfold endE; rw [hf]; dsimp only; rw [if_pos hb]; rfl
  · unfold nextE; rw [hf]; dsimp only; rw [hb]
    exact wd_eq rfl rfl rfl rfl (by rw [hb]; simp) rfl
theorem XP_more (E : List Evd) (got : Nat) (h : got < min E.length 16) (mo : Int) (hm : 1 ≤ mo) : ∃ t : Nat, 1 ≤ t ∧ got + t ≤ min E.length 16 ∧ tellE E (XP E got) mo = ((E.take 16).drop got).take t ∧ (tellE E (XP E got) mo).length = t ∧ endE (XP E got) = 0 ∧ nextE E (XP E got) mo = XP E (got + t) := by
  have hl : ((E.take 16).drop got).length = min E.length 16 - got := by rw [List.length_drop, List.length_take]; omega
  have hf : (XP E got).fd = true := rfl
  have hb : (XP E got).buf = (E.take 16).drop got := rfl
  refine ⟨min mo.toNat ((E.take 16).drop got).length, by omega, by omega, ?_, ?_, ?_, ?_⟩
  · unfold tellE; rw [hf]; dsimp only; rw [hb]
    rcases Nat.le_total mo.toNat ((E.take 16).drop got).length with h1 | h1
    · rw [Nat.min_eq_left h1]
    · rw [Nat.min_eq_right h1, List.take_length, List.take_of_length_le h1]
  · unfold tellE; rw [hf]; dsimp only; rw [hb, List.length_take]
  · unfold endE; rw [hf]; dsimp only; rw [hb, if_neg (fun e => by rw [e] at hl; simp at hl; omega)]
  · unfold nextE; rw [hf]; dsimp only; rw [hb, List.drop_drop]
    refine wd_eq rfl rfl rfl rfl ?_ rfl
    show (E.take 16).drop (got + mo.toNat) = (E.take 16).drop (got + min mo.toNat ((E.take 16).drop got).length)
    rcases Nat.le_total mo.toNat ((E.take 16).drop got).length with h1 | h1
    · rw [Nat.min_eq_left h1]
    · rw [Nat.min_eq_right h1, List.drop_of_length_le (by rw [List.length_take]; omega), List.drop_of_length_le (by rw [List.length_take]; omega)]
end Go.Proofs.Ytjdmgmnndfhmgaa
