/- IndexGrows. -/
import Derived.Test.YtilginghgigiiaaY3
import Derived.BigQuiet
namespace Go.Proofs.Ytilginghgigiiaa
open Go Go.RowKit

structure GS (w0 w : World) (x s m : Nat) (g : Nat → List Mk) (i : Nat) (D : Dat) (F : List Nat) : Prop where
  os : OS w0 w x i D F
  gd : Gd s m g D
theorem GS.later {w0 w W : World} {x s m : Nat} {g : Nat → List Mk} {i : Nat} {D : Dat} {F : List Nat} (h : GS w0 w x s m g i D F) (hb : Below w.heap.size w W) : GS w0 W x s m g i D F := ⟨h.os.later hb, h.gd⟩
theorem OS.putB {w0 w : World} {x i : Nat} {D : Dat} {F : List Nat} (h : OS w0 w x i D F) (hi : i ≤ 100000) (key : ByteArray) (rev : Int) (del : Bool) (hk : key.size ≤ 9223372036854775807) (hr : -9223372036854775808 ≤ rev ∧ rev ≤ 9223372036854775807) :
    Calls Try.prog 10 #[ptr x, .string key, .agg #[.int .i64 rev, .bool del]] w fun e w' => e = .returned (.int .i64 (putE D key rev del)) ∧ ∃ F', OS w0 w' x (i + 1) (putD D key rev del) F' := by
  refine (put_xd h.x h.b (by omega) key rev del hk hr).mono ?_
  rintro e w' ⟨rfl, F', hx, hs⟩
  have hbl : Below w0.heap.size w0 w' := h.below.trans (hs.upd.below h.below.size (fun k hk hm => by have := h.own k hm; omega))
  exact ⟨rfl, F', hx, h.b.put _ _ _, hbl, fun k hk => (hs.sub k hk).elim (h.own k) (fun hh => Nat.le_trans h.below.size hh)⟩
theorem OS.trimB {w0 w : World} {x i : Nat} {D : Dat} {F : List Nat} (h : OS w0 w x i D F) (hi : i ≤ 100000) (rev : Int) :
    Calls Try.prog 12 #[ptr x, .int .i64 rev] w fun e w' => e = .returned (.tuple #[]) ∧ ∃ F', Hid (OS w0 w' x i (trimD rev D) F') := by
  refine (trim_xd h.x h.b (by omega) rev).mono ?_
  rintro e w' ⟨rfl, F', hx, hs⟩
  have hbl : Below w0.heap.size w0 w' := h.below.trans (hs.upd.below h.below.size (fun k hk hm => by have := h.own k hm; omega))
  exact ⟨rfl, F', hx, h.b.trim rev, hbl, fun k hk => (hs.sub k hk).elim (h.own k) (fun hh => Nat.le_trans h.below.size hh)⟩
abbrev g0 : Nat → List Mk := fun i => [((i : Int) + 1, false)]
theorem GS.add {w0 w : World} {x s i : Nat} {D : Dat} {F : List Nat} (hs : StepOK s) (h : GS w0 w x s i g0 i D F) (hi : i < 700) :
    Calls Try.prog 10 #[ptr x, .string (keyN s i), .agg #[.int .i64 ((i : Int) + 1), .bool false]] w fun e w' => e = .returned (.int .i64 0) ∧ ∃ D' F', Hid (GS w0 w' x s (i + 1) g0 (i + 1) D' F') := by
  obtain ⟨hE, hG⟩ := h.gd.add hs hi ((i : Int) + 1) (by omega) rfl
  have := h.os.putB (by omega) (keyN s i) ((i : Int) + 1) false (by rw [keyN_size]; omega) (by omega)
  rw [hE] at this
  exact this.mono fun e w' ⟨h1, F', h2⟩ => ⟨h1, _, F', h2, hG⟩
theorem GS.del {w0 w : World} {x s n j : Nat} {D : Dat} {F : List Nat} (h : GS w0 w x s n (gEnd n j) (n + j) D F) (hn : n < 700) (hj : j < n) :
    Calls Try.prog 10 #[ptr x, .string (keyN s j), .agg #[.int .i64 ((n : Int) + 1 + j), .bool true]] w fun e w' => e = .returned (.int .i64 0) ∧ ∃ D' F', Hid (GS w0 w' x s n (gEnd n (j + 1)) (n + (j + 1)) D' F') := by
  obtain ⟨hE, hG⟩ := h.gd.del h.os.b.asc hj (a := (j : Int) + 1) (rev := (n : Int) + 1 + j) (by simp [gEnd]) (by omega) (by omega)
  rw [gEnd_succ] at hG
  have := h.os.putB (by omega) (keyN s j) ((n : Int) + 1 + j) true (by rw [keyN_size]; omega) (by omega)
  rw [hE] at this
  exact this.mono fun e w' ⟨h1, F', h2⟩ => ⟨h1, _, F', h2, hG⟩
theorem GS.low {w0 w : World} {x s m : Nat} {g : Nat → List Mk} {i : Nat} {D : Dat} {F : List Nat} (h : GS w0 w x s m g i D F) (hm : m ≤ 1000) : Calls Try.prog 21 #[ptr x] w fun e w' => e = .returned (.bool true) ∧ w' = w := low_xd h.os.x (by rw [h.gd.len]; exact hm)
/-- A key's number, and the key. -/
theorem key_calls (s i : Nat) (W : World) : (Calls Try.prog 19 #[.int .i64 ((i * s : Nat) : Int), .int .i64 17576] W fun e w' => e = .returned (.int .i64 ((i * s % 17576 : Nat) : Int)) ∧ w' = W) ∧ (Calls Try.prog 20 #[.int .i64 ((i * s % 17576 : Nat) : Int)] W fun e w' => e = .returned (.string (keyN s i)) ∧ Below W.heap.size W w') := by
  refine ⟨?_, name_any _ (Nat.mod_lt _ (by omega)) W⟩
  have := within_any ((i * s : Nat) : Int) 17576 W (by omega) (by omega)
  have e : withinF ((i * s : Nat) : Int) 17576 = ((i * s % 17576 : Nat) : Int) := withinF_nat (i * s) 17576
  rw [e] at this
  exact this
theorem asc_le {ks : List ByteArray} (h : Asc ks) {i : Nat} {a b : ByteArray} (ha : ks[i]? = some a) (hb : ks[i + 1]? = some b) : Op.bytesLess b.toList a.toList = false ∧ (b.toList == a.toList) = false := by
  have hl := asc_get h (Nat.lt_succ_self i) ha hb
  rw [bl_data, beq_data]
  exact ⟨klt_asymm hl, decide_eq_false (klt_ne hl).symm⟩
theorem below_drewN {B : Nat} {w W : World} (h : Below B w W) : ∀ n, Below B w (W.drewN n)
  | 0 => h
  | n + 1 => (below_drewN h n).drew

set_option maxRecDepth 100000 in
set_option maxHeartbeats 4000000 in
theorem indexGrows_walk (n1 st gone : Int) (w : World) (_h0 : -9223372036854775808 ≤ n1 ∧ n1 ≤ 9223372036854775807) (_h1 : -9223372036854775808 ≤ st ∧ st ≤ 9223372036854775807) (_h2 : -9223372036854775808 ≤ gone ∧ gone ≤ 9223372036854775807) :
    Calls Try.prog 4 #[.int .i64 n1, .int .i64 st, .int .i64 gone] w fun e w' => e = .returned (.bool true) ∧ Below w.heap.size w w' := by
  obtain ⟨hn0, hn7⟩ := withinF_bd n1 700 (by omega)
  obtain ⟨ht0, ht6⟩ := withinF_bd st 600 (by omega)
  have hwn := fun W => within_any n1 700 W (by omega) (by omega)
  have hwt := fun W => within_any st 600 W (by omega) (by omega)
  obtain ⟨n, hn⟩ : ∃ n : Nat, withinF n1 700 = n := ⟨_, (Int.toNat_of_nonneg hn0).symm⟩
  obtain ⟨t, ht⟩ : ∃ t : Nat, withinF st 600 = t := ⟨_, (Int.toNat_of_nonneg ht0).symm⟩
  rw [hn] at hn7 hwn
  rw [ht] at ht6 hwt
  clear hn ht hn0 ht0
  go_enter Try.func4, Try.ntmps4
  go_upto_region 3 with (go_at_call 8; refine (known_any w).mono ?_; rintro e w1 ⟨rfl, hb1⟩)
  go_upto_region 4 with (go_at_call 9; refine (new_xd w1).mono ?_; rintro e w2 ⟨rfl, hx2, hb2, hz2⟩)
  have HO0 : Hid (OS w w2 w1.heap.size 0 [] [w1.heap.size]) := ⟨hx2, Bd.nil, hb1.trans (hb2.mono hb1.size), fun k hk => by
    have : k = w1.heap.size := by simpa using hk
    rw [this]; exact hb1.size⟩
  generalize hX : w1.heap.size = X at *
  clear hX hx2 hb2 hz2 hb1
  go_upto_region 5 with (go_at_call 19; refine (hwn _).mono ?_; rintro e wx ⟨rfl, rfl⟩)
  go_wp2_with (go_at_call 19; refine (hwt _).mono ?_; rintro e wy ⟨rfl, rfl⟩)
  clear hwn hwt
  go_loop [1] (fun v => ∃ s : Nat, v = .int .i64 s ∧ s % 2 = 1 ∧ (s ≤ 1199 ∨ (s ≤ 1201 ∧ s % 13 ≠ 0))) (fun v => if (intOf v).toNat % 13 = 0 then 1 else 0)
  case atStart => exact ⟨1 + 2 * t, by simp, by omega, by omega⟩
  case round =>
    obtain ⟨s, rfl, hs2, hs13⟩ := hrel
    by_cases hm : s % 13 = 0
    · have hm' : (s : Int) % 13 = 0 := by omega
      go_wp2
      go_round
      case rel => exact ⟨s + 2, by simp, by omega, by omega⟩
      case measure =>
        have e1 : ¬ ((s : Int) + 2).toNat % 13 = 0 := by omega
        simp [intOf, hm, e1]
    · have hm' : ¬ (s : Int) % 13 = 0 := by omega
      have hS : StepOK s := ⟨by omega, hs2, hm⟩
      clear hs2 hs13
      have HG0 : Hid (GS w wy X s 0 g0 0 [] [X]) := ⟨HO0.out, List.Perm.refl _⟩
      clear HO0
      go_wp2
      go_loopg [8] (n + 1) (fun kx s8 wr => ∃ (i : Nat) (D : Dat) (F : List Nat), s8 = .int .i64 i ∧ kx + i = n + 1 ∧ i ≤ n ∧ Hid (GS w wr X s i g0 i D F))
      case atStart => exact ⟨0, [], _, rfl, rfl, Nat.zero_le _, HG0⟩
      case round =>
        clear HG0
        obtain ⟨i, D, F, rfl, hkx, hin, HG⟩ := hrel
        by_cases hlt : i < n
        · have hmul : (i : Int) * (s : Int) = ((i * s : Nat) : Int) := (Int.natCast_mul i s).symm
          have hq : i * s ≤ 900000 := Nat.le_trans (Nat.mul_le_mul (show i ≤ 700 by omega) (show s ≤ 1210 by have := hS.lt; omega)) (by omega)
          obtain ⟨hc1, hc2⟩ := key_calls s i wr
          have HPUT : Hid (∀ W, Below wr.heap.size wr W → Calls Try.prog 10 #[ptr X, .string (keyN s i), .agg #[.int .i64 ((i : Int) + 1), .bool false]] W fun e w' => e = .returned (.int .i64 0) ∧ ∃ D' F', Hid (GS w w' X s (i + 1) g0 (i + 1) D' F')) := fun W hb => (HG.out.later hb).add hS (by omega)
          generalize i * s % 17576 = m at *
          generalize i * s = q at *
          generalize keyN s i = key at *
          clear HG
          by_cases h50 : i % 50 = 0
          · have h50' : (i : Int) % 50 = 0 := by omega
            go_wp2_with (first | (go_at_call 19; refine hc1.mono ?_; rintro e wa ⟨rfl, rfl⟩) | (go_at_call 20; refine hc2.mono ?_; rintro e wb ⟨rfl, hbb⟩; have hput := HPUT.out _ hbb) | (go_at_call 10; refine hput.mono ?_; rintro e wd ⟨rfl, D', F', HG'⟩; have hlow := HG'.out.low (by omega)) | (go_at_call 21; refine hlow.mono ?_; rintro e wf ⟨rfl, rfl⟩))
            go_roundg (n - i)
            case measure => omega
            case rel => exact ⟨i + 1, D', F', by congr 1, by omega, by omega, HG'⟩
          · have h50' : ¬ (i : Int) % 50 = 0 := by omega
            go_wp2_with (first | (go_at_call 19; refine hc1.mono ?_; rintro e wa ⟨rfl, rfl⟩) | (go_at_call 20; refine hc2.mono ?_; rintro e wb ⟨rfl, hbb⟩; have hput := HPUT.out _ hbb) | (go_at_call 10; refine hput.mono ?_; rintro e wd ⟨rfl, D', F', HG'⟩))
            go_roundg (n - i)
            case measure => omega
            case rel => exact ⟨i + 1, D', F', by congr 1, by omega, by omega, HG'⟩
        · obtain rfl : i = n := by omega
          obtain ⟨hk0, hkn⟩ := withinF_bd gone ((i : Int) + 1) (by omega)
          have hwk := fun W => within_any gone ((i : Int) + 1) W (by omega) (by omega)
          obtain ⟨k, hk⟩ : ∃ k : Nat, withinF gone ((i : Int) + 1) = k := ⟨_, (Int.toNat_of_nonneg hk0).symm⟩
          rw [hk] at hkn hwk
          clear hk hk0
          have hgz : g0 = gEnd i 0 := (gEnd_zero i).symm
          have HG1 : Hid (GS w wr X s i (gEnd i 0) (i + 0) D F) := by
            have := HG.out
            rw [hgz] at this
            exact this
          clear HG hgz
          generalize hW0 : wr = W0 at *
          clear hW0
          go_wp2_with (go_at_call 19; refine (hwk _).mono ?_; rintro e wk ⟨rfl, rfl⟩)
          clear hwk
          go_loopg [10] (k + 1) (fun kx s10 wr => ∃ (j : Nat) (D : Dat) (F : List Nat), s10 = .int .i64 j ∧ kx + j = k + 1 ∧ j ≤ k ∧ Hid (GS w wr X s i (gEnd i j) (i + j) D F))
          case atStart => exact ⟨0, D, F, rfl, rfl, Nat.zero_le _, HG1⟩
          case round =>
            clear HG1
            obtain ⟨j, D3, F3, rfl, hkx3, hjk, HG3⟩ := hrel
            by_cases hlt3 : j < k
            · have hmul : (j : Int) * (s : Int) = ((j * s : Nat) : Int) := (Int.natCast_mul j s).symm
              have hq : j * s ≤ 900000 := Nat.le_trans (Nat.mul_le_mul (show j ≤ 700 by omega) (show s ≤ 1210 by have := hS.lt; omega)) (by omega)
              obtain ⟨hc1, hc2⟩ := key_calls s j wr
              have HPUT : Hid (∀ W, Below wr.heap.size wr W → Calls Try.prog 10 #[ptr X, .string (keyN s j), .agg #[.int .i64 ((i : Int) + 1 + j), .bool true]] W fun e w' => e = .returned (.int .i64 0) ∧ ∃ D' F', Hid (GS w w' X s i (gEnd i (j + 1)) (i + (j + 1)) D' F')) := fun W hb => (HG3.out.later hb).del (by omega) (by omega)
              generalize j * s % 17576 = m at *
              generalize j * s = q at *
              generalize keyN s j = key at *
              clear HG3
              go_wp2_with (first | (go_at_call 19; refine hc1.mono ?_; rintro e wa ⟨rfl, rfl⟩) | (go_at_call 20; refine hc2.mono ?_; rintro e wb ⟨rfl, hbb⟩; have hput := HPUT.out _ hbb) | (go_at_call 10; refine hput.mono ?_; rintro e wd ⟨rfl, D', F', HG'⟩))
              go_roundg (k - j)
              case measure => omega
              case rel => exact ⟨j + 1, D', F', by congr 1, by omega, by omega, HG'⟩
            · obtain rfl : j = k := by omega
              have htr := HG3.out.os.trimB (by omega) ((i : Int) + j)
              have HLN : Hid ((trimD ((i : Int) + j) D3).length = i - j) := HG3.out.gd.trim
              clear HG3
              generalize trimD ((i : Int) + j) D3 = D4 at *
              generalize hW1 : wr = W1 at *
              clear hW1
              go_upto_region 22 with (go_at_call 12; refine htr.mono ?_; rintro e w4 ⟨rfl, F4, HO4⟩)
              clear htr
              have hkeys := keys_xd HO4.out.x (by have := HLN.out; omega) ⟨#[]⟩ ⟨#[]⟩
              rw [keysD_all] at hkeys
              have HASC := Hid.mk'' HO4.out.b.asc
              have hkl : (D4.map Prod.fst).length = i - j := by rw [List.length_map]; exact HLN.out
              have hsub : (i : Int) - (j : Int) = ((i - j : Nat) : Int) := by omega
              have HLEN : Hid (∀ W, Below w4.heap.size w4 W → Calls Try.prog 18 #[ptr X] W fun e w' => e = .returned (.int .i64 ((i - j : Nat) : Int)) ∧ w' = W) := fun W hb => by
                have := len_xd (HO4.out.x.below hb)
                rw [HLN.out] at this
                exact this
              have HLOW : Hid (∀ W, Below w4.heap.size w4 W → Calls Try.prog 21 #[ptr X] W fun e w' => e = .returned (.bool true) ∧ w' = W) := fun W hb => low_xd (HO4.out.x.below hb) (by have := HLN.out; omega)
              have HBW := Hid.mk'' HO4.out.below
              generalize D4.map Prod.fst = ks at *
              generalize hln : i - j = ln at *
              have HLNE := Hid.mk'' hln
              clear hln HLN HO4
              go_upto_region 23 with (go_at_call 16; refine hkeys.mono ?_; rintro e w5 ⟨v5, rfl, hP⟩)
              obtain ⟨p5, c5, hv5⟩ := hP.row.form
              have HR := Hid.mk'' hP.row
              have hb5 := hP.2
              clear hP hkeys
              subst hv5
              rw [hkl] at HR ⊢
              go_wp2
              go_loopg [12] (ln + 1) (fun kx s12 wr => ∃ a : Nat, s12 = .int .i64 a ∧ 1 ≤ a ∧ a ≤ ln + 1 ∧ kx + a = ln + 2 ∧ Hid (Below w5.heap.size w5 wr))
              case atStart => exact ⟨1, rfl, by omega, by omega, by omega, Below.refl _ _⟩
              case round =>
                obtain ⟨a, rfl, ha1, ha2, hka, HB⟩ := hrel
                by_cases hal : a < ln
                · obtain ⟨b, rfl⟩ : ∃ b, a = b + 1 := ⟨a - 1, by omega⟩
                  obtain ⟨ka, hka'⟩ : ∃ k, ks[b + 1]? = some k := ⟨_, List.getElem?_eq_getElem (by omega)⟩
                  obtain ⟨kb, hkb⟩ : ∃ k, ks[b]? = some k := ⟨_, List.getElem?_eq_getElem (by omega)⟩
                  obtain ⟨g, cg, hv, hgl, hgc⟩ := (HR.out.below HB.out).at_ (b + 1) ka hka'
                  obtain ⟨g', cg', hv', _, hgc'⟩ := (HR.out.below HB.out).at_ b kb hkb
                  have hp5 : p5 = some ⟨g, 0, none⟩ := by cases hv; rfl
                  rw [hv] at hv'
                  have hgg : g' = g := by simp at hv'; exact hv'.1.symm
                  subst hgg
                  subst hp5
                  obtain ⟨q1, q2⟩ := asc_le HASC.out hkb hka'
                  have hx : IntKind.i64.wrap (((b + 1 : Nat) : Int) - 1) = (b : Int) := by rw [IntKind.wrap_i64]; omega
                  have HBD : ∀ q, Hid (Below w5.heap.size w5 (wr.drewN q)) := fun q => below_drewN HB.out q
                  clear hv hv' hka' hkb
                  go_wp2
                  go_quiet (fail)
                  go_wp2
                  go_roundg (ln - b)
                  case measure => omega
                  case rel => exact ⟨b + 1 + 1, by congr 1, by omega, by omega, by omega, HBD _⟩
                · have hB4 : Below w4.heap.size w4 wr := hb5.trans (HB.out.mono hb5.size)
                  have hl4 := HLEN.out _ hB4
                  have hw4 := HLOW.out _ hB4
                  have hfin : Below w.heap.size w wr := HBW.out.trans (hB4.mono HBW.out.size)
                  clear HB HR HASC
                  go_wp2_with (first | (go_at_call 18; refine hl4.mono ?_; rintro e w6 ⟨rfl, rfl⟩) | (go_at_call 21; refine hw4.mono ?_; rintro e w7 ⟨rfl, rfl⟩))
                  go_ret
                  exact ⟨rfl, hfin⟩
end Go.Proofs.Ytilginghgigiiaa
