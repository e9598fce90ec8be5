/- One watcher of one key, in the past. -/
import Derived.Test.YtjdmgmnndfhmgaaGreatKN
namespace Go.Proofs.YtjdmgmnndfhmgaaGreat
open Go Go.RowKit
def withinF (a n : Int) : Int := if a.tmod n < 0 then a.tmod n + n else a.tmod n
theorem within_bd (a n : Int) (hn : 0 < n) : 0 ≤ withinF a n ∧ withinF a n < n := by
  have h1 := Int.lt_tmod_of_pos a (b := n) hn
  have h2 := Int.tmod_lt_of_pos a (b := n) hn
  unfold withinF
  split <;> omega
theorem ret_i {k : IntKind} {a b : Int} (h : a = b) : Ending.returned (.int k a) = .returned (.int k b) := by rw [h]
set_option maxRecDepth 100000 in
set_option maxHeartbeats 1000000 in
theorem within_any (a n : Int) (w : World) (hn : 0 < n) (hm : n ≤ 1000000000000000) :
    Calls Tryz.prog 10 #[.int .i64 a, .int .i64 n] w fun e w' => e = .returned (.int .i64 (withinF a n)) ∧ w' = w := by
  have h1 := Int.lt_tmod_of_pos a (b := n) hn
  have h2 := Int.tmod_lt_of_pos a (b := n) hn
  have hn0 : (n == 0) = false := by simp; omega
  by_cases h : a.tmod n < 0
  · have HW : Hid (withinF a n = a.tmod n + n) := by show _ = _; rw [withinF, if_pos h]
    go_enter Tryz.func10, Tryz.ntmps10
    go_wp2
    go_ret
    exact ⟨ret_i HW.out.symm, rfl⟩
  · have HW : Hid (withinF a n = a.tmod n) := by show _ = _; rw [withinF, if_neg h]
    go_enter Tryz.func10, Tryz.ntmps10
    go_wp2
    go_ret
    exact ⟨ret_i HW.out.symm, rfl⟩
section
variable {w0 w : World} {s h : Nat} {E : List Evd} {a last : Nat} {A : List Int} {X X' : Int → Wd} {x y : Wd} {l : List Evd}
theorem LW.congr (H : LW w0 w s h E a last A X) (hX : ∀ i ∈ A, X' i = X i) : LW w0 w s h E a last A X' := by
  obtain ⟨n, S, g, o, m, G, a1, a2, a3⟩ := H
  exact ⟨n, S, g, o, m, G, a1, a2.congr hX, a3⟩
/-- One watcher. -/
def LV (w0 w : World) (s h : Nat) (E : List Evd) (a : Nat) (x : Wd) : Prop := LW w0 w s h E a 1 [1] (fun _ => x)
theorem LV.poll0 (H : LV w0 w s h E a x) (most mo : Int) (hmo : mo = max most 1) (he : endE a x = 0) (ht : tellE E a x mo = l) (hn : nextE E a x mo = y) :
    Calls Tryz.prog 23 #[ptr h, .int .i64 1, .int .i64 most] w fun e w' => ∃ p c, e = .returned (.tuple #[.slice p l.length c, .int .i64 0]) ∧ Hid (EVs w' (.slice p l.length c) l ∧ LV w0 w' s h E a y) := by
  refine (LW.poll H (id := 1) (by simp) most mo hmo).mono ?_
  rintro e w' ⟨p, c, rfl, hq⟩
  obtain ⟨q1, q2⟩ := hq.out
  rw [if_pos he, hn] at q2
  rw [ht] at q1
  rw [ht, he]
  exact ⟨p, c, rfl, q1, q2.congr (fun i hi => by have : i = 1 := by simpa using hi
                                                 subst this; rw [setX_same])⟩
theorem LV.pollN (H : LV w0 w s h E a x) (most mo : Int) (hmo : mo = max most 1) (v : Int) (hv : endE a x = v) (h0 : v ≠ 0) (ht : tellE E a x mo = []) :
    Calls Tryz.prog 23 #[ptr h, .int .i64 1, .int .i64 most] w fun e w' => ∃ p c, e = .returned (.tuple #[.slice p 0 c, .int .i64 v]) ∧ Hid (LW w0 w' s h E a 1 [] X0) := by
  refine (LW.poll H (id := 1) (by simp) most mo hmo).mono ?_
  rintro e w' ⟨p, c, rfl, hq⟩
  obtain ⟨q1, q2⟩ := hq.out
  rw [if_neg (by rw [hv]; exact h0)] at q2
  rw [ht, hv]
  exact ⟨p, c, rfl, LW.congr q2 (fun i hi => by cases hi)⟩
theorem LW.one (H : LW w0 w s h E a 0 [] X) (lo hi : ByteArray) (hls : lo.size ≤ 1000000) (hhs : hi.size ≤ 1000000) (from_ : Int) (hf : from_ ≤ 1000000000) : Calls Tryz.prog 21 #[ptr h, .string lo, .string hi, .int .i64 from_] w fun e w' => e = .returned (.int .i64 1) ∧ Hid (LV w0 w' s h E a ⟨lo, hi, max from_ 1, false, [], 0⟩) := by
  have hw := H.watch (by omega) lo hi from_ hls hhs hf
  refine hw.mono ?_
  rintro e w' ⟨rfl, q⟩
  refine ⟨rfl, LW.congr q.out (fun i hi => ?_)⟩
  have : i = ((0 : Nat) : Int) + 1 := by simpa using hi
  subst this
  rw [setX_same]
end
theorem wd_eq {a b : Wd} (h1 : a.lo = b.lo) (h2 : a.hi = b.hi) (h3 : a.place = b.place) (h4 : a.fd = b.fd) (h5 : a.buf = b.buf) (h6 : a.fin = b.fin) : a = b := by
  cases a; cases b; simp_all
abbrev kK : ByteArray := ⟨#[107]⟩
/-- A watcher that is behind, at a place; one that has come up. -/
def XB (p : Nat) : Wd := ⟨kK, ⟨#[]⟩, p, false, [], 0⟩
def XF (n : Nat) : Wd := ⟨kK, ⟨#[]⟩, (n : Int) + 1, true, [], 0⟩
/-- All of one key. -/
def AllK (E : List Evd) : Prop := (∀ e ∈ E, heard kK ⟨#[]⟩ e = true) ∧ ∀ (i : Nat) (e : Evd), E[i]? = some e → e.1 = (i : Int) + 1
def XN (n p : Nat) : Wd := if p = n + 1 then XF n else XB p
theorem news_b {E : List Evd} (h : AllK E) (p : Nat) : newsE E (XB p) = E.drop (p - 1) := by
  unfold newsE XB
  dsimp only
  have e : ((p : Int) - 1).toNat = p - 1 := by omega
  rw [e, List.filter_eq_self]
  exact fun x hx => h.1 x (List.mem_of_mem_drop hx)
theorem XB_past {E : List Evd} {a p : Nat} (hp : p ≤ a) (mo : Int) : endE a (XB p) = 16 ∧ tellE E a (XB p) mo = [] := by
  have : (p : Int) ≤ (a : Int) := by omega
  exact ⟨by unfold endE XB; dsimp only; rw [if_pos this], by unfold tellE XB; dsimp only; rw [if_pos this]⟩
theorem XB_poll {E : List Evd} (h : AllK E) {a p : Nat} (hp : a < p) (hn : p ≤ E.length) (mo : Int) (hm : 1 ≤ mo) : ∃ t : Nat, 1 ≤ t ∧ (t : Int) ≤ mo ∧ p + t ≤ E.length + 1 ∧ endE a (XB p) = 0 ∧ tellE E a (XB p) mo = (E.drop (p - 1)).take t ∧ (tellE E a (XB p) mo).length = t ∧ nextE E a (XB p) mo = XN E.length (p + t) := by
  have hr : (E.drop (p - 1)).Pairwise (fun a b => a.1 < b.1) := List.Pairwise.drop (rise_of h.2)
  have hl : (E.drop (p - 1)).length = E.length + 1 - p := by rw [List.length_drop]; omega
  have hna : ¬ (p : Int) ≤ (a : Int) := by omega
  have hw := wholeN_rise mo hm _ hr
  refine ⟨min (E.drop (p - 1)).length mo.toNat, by omega, by omega, by omega, ?_, ?_, ?_, ?_⟩
  · unfold endE XB; dsimp only; rw [if_neg hna]
  · unfold tellE
    rw [news_b h p, hw]
    unfold XB; dsimp only; rw [if_neg hna]
  · unfold tellE
    rw [news_b h p, hw]
    unfold XB; dsimp only; rw [if_neg hna, List.length_take]; omega
  · unfold nextE
    rw [news_b h p, hw]
    unfold XB XN; dsimp only; rw [if_neg hna]
    by_cases ht : min (E.drop (p - 1)).length mo.toNat = (E.drop (p - 1)).length
    · rw [if_pos ht, if_pos (by omega)]
      unfold XF
      exact wd_eq rfl rfl (by dsimp only; omega) rfl rfl rfl
    · rw [if_neg ht, if_neg (by omega)]
      unfold XB
      refine wd_eq rfl rfl ?_ rfl rfl rfl
      dsimp only
      obtain ⟨t, ht2⟩ : ∃ t, t = min (E.drop (p - 1)).length mo.toNat := ⟨_, rfl⟩
      rw [← ht2]
      have h1 : 1 ≤ t ∧ t < E.length + 1 - p := by omega
      obtain ⟨e, he⟩ : ∃ e, E[p - 1 + (t - 1)]? = some e := ⟨_, List.getElem?_eq_getElem (by omega)⟩
      rw [List.getElem?_drop, he]
      have := h.2 _ e he
      show e.1 + 1 = ((p + t : Nat) : Int)
      omega
theorem XF_poll (E : List Evd) (a n : Nat) (mo : Int) : endE a (XF n) = 0 ∧ tellE E a (XF n) mo = [] ∧ nextE E a (XF n) mo = XF n := by
  refine ⟨rfl, ?_, ?_⟩
  · unfold tellE XF; dsimp only; simp
  · unfold nextE XF; dsimp only; exact wd_eq rfl rfl rfl rfl (by simp) rfl
end Go.Proofs.YtjdmgmnndfhmgaaGreat
