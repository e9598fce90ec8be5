/- MvccErrors. -/
import Derived.Test.YteeflkkoifgcbabGreatGRK
namespace Go.Proofs.YteeflkkoifgcbabGreat
open Go Go.RowKit

def withinF (a n : Int) : Int := if a.tmod n < 0 then a.tmod n + n else a.tmod n
theorem withinF_bd (a n : Int) (hn : 0 < n) : 0 ≤ withinF a n ∧ withinF a n < n := by
  have h1 := Int.lt_tmod_of_pos a (b := n) hn
  have h2 := Int.tmod_lt_of_pos a (b := n) hn
  unfold withinF
  split <;> omega
set_option maxRecDepth 100000 in
set_option maxHeartbeats 1000000 in
theorem within_any (a n : Int) (w : World) (hn : 0 < n) (hm : n ≤ 1000000000000000) :
    Calls Tryz.prog 6 #[.int .i64 a, .int .i64 n] w fun e w' => e = .returned (.int .i64 (withinF a n)) ∧ w' = w := by
  have h1 := Int.lt_tmod_of_pos a (b := n) hn
  have h2 := Int.tmod_lt_of_pos a (b := n) hn
  have hn0 : (n == 0) = false := by simp; omega
  by_cases h : a.tmod n < 0
  · have HW : Hid (withinF a n = a.tmod n + n) := by show _ = _; rw [withinF, if_pos h]
    go_enter Tryz.func6, Tryz.ntmps6
    go_wp2
    go_ret
    exact ⟨ret_int HW.out.symm, rfl⟩
  · have HW : Hid (withinF a n = a.tmod n) := by show _ = _; rw [withinF, if_neg h]
    go_enter Tryz.func6, Tryz.ntmps6
    go_wp2
    go_ret
    exact ⟨ret_int HW.out.symm, rfl⟩
def kE : ByteArray := ⟨#[107]⟩
/-- The value of the write with this number. -/
def vE (i : Nat) : ByteArray := ⟨#[UInt8.ofNat i]⟩
/-- A key's history: at revision r it had the value of write r - 1. -/
def HE (h : Hs) (n : Nat) : Prop := ∀ r : Nat, 1 ≤ r → r ≤ n → ∃ kv, atH h r = some kv ∧ kv.value = vE (r - 1)
theorem HE.zero : HE [] 0 := fun r h1 h2 => by omega
theorem HE.succ {h : Hs} {n : Nat} (H : HE h n) {kv : KVd} (hv : kv.value = vE n) : HE (h ++ [((n : Int) + 1, some kv)]) (n + 1) := fun r h1 h2 => by
  by_cases e : r = n + 1
  · subst e
    exact ⟨kv, atH_snoc_le (by omega), by rw [hv]; rfl⟩
  · obtain ⟨kv', q1, q2⟩ := H r h1 (by omega)
    exact ⟨kv', by rw [atH_snoc_lt (by omega)]; exact q1, q2⟩
theorem ve_conv (i : Nat) (w : World) : (convert 30 9 (.slice (some ⟨w.heap.size, 0, none⟩) 1 1)).run Tryz.prog (w.alloc (.cells #[.int .u8 i] 5)) = .ok (.string (vE i)) (w.alloc (.cells #[.int .u8 i] 5)) := by
  have hn : strOfNums [(i : Int)] = vE i := by simp [strOfNums, vE]
  rw [← hn]
  refine run_convert_bytes_arg _ 30 5 Tryz.underlying30 Tryz.underlying5 w.heap.size 0 1 1 _ rfl (fun i hi => ?_) 9 Tryz.underlying9
  rw [Nat.zero_add, cell_of_row _ _ _ _ _ _ (row_alloc w _ _)]
  match i, hi with
  | 0, _ => rfl
theorem V2o.later {w0 w W : World} {s b : Nat} {k : ByteArray} {rv : Nat} {h : Hs} {c : Option (Option KVd)} (H : V2o w0 w s b k rv h c) (hb : Below w.heap.size w W) : V2o w0 W s b k rv h c := by
  obtain ⟨n, g, S, W', hw, h1, h2, h3, h4, h5⟩ := H
  exact ⟨n, g, S, W', hw, h1, h2.below hb, h3, h4.trans (hb.mono h4.size), h5⟩
theorem V3.sok2 {w0 w : World} {s : Nat} {k : ByteArray} {rv a : Nat} {h : Hs} (H : V3 w0 w s k rv h a) (hrv : rv ≤ 1000) (r : Nat) (hr : 1 ≤ r) (hra : a < r) (hrm : r ≤ 2000) : Calls Tryz.prog 12 #[ptr s, .int .i64 r] w fun e w' => ∃ v, e = .returned (.tuple #[v, .int .i64 0]) ∧ Hid (Below w.heap.size w w') := by
  obtain ⟨n, g, o, S, h1, h2, h3, h4, h5, h6⟩ := H
  refine (since_any h2 (r : Int) (by omega) (by rw [h3.past]; omega) (by omega) (by rw [h3.rev]; omega) h6.1.ok (by have := evN_one h6.2 (r : Int) ((S.rev : Int) + 1 - (r : Int)).toNat; rw [h3.rev] at this ⊢; omega)).mono ?_
  rintro e w' ⟨p, c, rfl, hE⟩
  exact ⟨_, rfl, hE.2⟩
/-- What Since answers behind a compaction. -/
theorem V3.since {w0 w : World} {s : Nat} {k : ByteArray} {rv a : Nat} {h : Hs} (H : V3 w0 w s k rv h a) (hrv : rv ≤ 1000) (r : Nat) (hrm : r ≤ 2000) : Calls Tryz.prog 12 #[ptr s, .int .i64 r] w fun e w' => ∃ v, e = .returned (.tuple #[v, .int .i64 (if r = 0 then 1 else if r ≤ a then 16 else 0)]) ∧ Hid (Below w.heap.size w w') := by
  by_cases h0 : r = 0
  · refine (since_arg w s r (by omega)).mono ?_
    rintro e w' ⟨rfl, rfl⟩
    exact ⟨_, by rw [if_pos h0], Below.refl _ _⟩
  · rw [if_neg h0]
    by_cases h1 : r ≤ a
    · refine (H.spast r (by omega) (by omega)).mono ?_
      rintro e w' ⟨rfl, rfl⟩
      exact ⟨_, by rw [if_pos h1], Below.refl _ _⟩
    · rw [if_neg h1]
      exact H.sok2 hrv r (by omega) (by omega) hrm
set_option maxRecDepth 100000 in
set_option maxHeartbeats 4000000 in
theorem mvccErrors_walk (n0 a0 k0 : Int) (w : World) :
    Calls Tryz.prog 3 #[.int .i64 n0, .int .i64 a0, .int .i64 k0] w fun e w' => e = .returned (.bool true) ∧ Below w.heap.size w w' := by
  have hkn := known_st w
  have hwn := fun W => within_any n0 20 W (by decide) (by decide)
  obtain ⟨nb, hnb⟩ : ∃ nb : Nat, (nb : Int) = withinF n0 20 := ⟨(withinF n0 20).toNat, by have := withinF_bd n0 20 (by decide); omega⟩
  have hnl : nb < 20 := by have := withinF_bd n0 20 (by decide); omega
  rw [← hnb] at hwn
  clear hnb
  have HN : Hid (∀ W, Below w.heap.size w W → Calls Tryz.prog 5 #[] W fun e w' => ∃ s, e = .returned (ptr s) ∧ Hid (V2 w w' s kE 0 [])) := fun W hb => v2_new w W hb kE
  go_enter Tryz.func3, Tryz.ntmps3
  go_upto_region 6 with (first | (go_at_call 4; refine hkn.mono ?_; rintro e w1 ⟨rfl, hb1⟩; have hnw := HN.out _ hb1) | (go_at_call 5; refine hnw.mono ?_; rintro e w2 ⟨s, rfl, HV⟩) | (go_at_call 6; refine (hwn _).mono ?_; rintro e w' ⟨rfl, hw'⟩; obtain rfl := hw'.symm))
  clear hnw hkn HN hwn hb1
  go_loopg [8] 30 (fun kx s8 wr => ∃ i : Nat, s8 = .int .i64 i ∧ kx + i = 30 ∧ i ≤ 1 + nb ∧ Hid (∃ h, V2 w wr s kE i h ∧ HE h i))
  case atStart => exact ⟨0, rfl, rfl, Nat.zero_le _, [], HV.out, HE.zero⟩
  case round =>
    clear HV
    obtain ⟨i, rfl, hkx, hi, HM⟩ := hrel
    by_cases hlt : i < 1 + nb
    · obtain ⟨h, hV, hH⟩ := HM.out
      have hw := hV.write
      obtain ⟨kv, hkv⟩ : ∃ kv, kv = putKV kE (vE i) i h 0 := ⟨_, rfl⟩
      have HPT : Hid (∀ W b, V2o w W s b kE i h none → Calls Tryz.prog 8 #[ptr b, .string ⟨#[107]⟩, .string (vE i), .int .i64 0] W fun e w' => e = .returned (.int .i64 0) ∧ Hid (V2o w w' s b kE i h (some (some kv)))) := fun W b q => by rw [hkv]; exact q.put (by omega) (vE i) 0 (by decide) (by show ¬ 4096 < 1; decide) (by omega)
      have HD : Hid (∀ W b, V2o w W s b kE i h (some (some kv)) → Calls Tryz.prog 9 #[ptr b] W fun e w' => e = .returned (.int .i64 ((i : Int) + 1)) ∧ Hid (V2 w w' s kE (i + 1) (h ++ [((i : Int) + 1, some kv)]))) := fun W b q => V2o.done (by omega) q
      have HX : Hid (HE (h ++ [((i : Int) + 1, some kv)]) (i + 1)) := hH.succ (by rw [hkv]; rfl)
      clear HM hV hH hkv
      go_upto_region 9 with (go_at_call 7; refine hw.mono ?_; rintro e w2 ⟨b, rfl, HO, -⟩)
      have hcv := ve_conv i w2
      have hO1 := HO.out.later ((Below.refl _ w2).alloc (Nat.le_refl _) (.cells #[.int .u8 i] 5))
      have hput := HPT.out _ _ hO1
      clear HO hO1 HPT
      go_wp2_with (first | (go_at_call 8; refine hput.mono ?_; rintro e w3 ⟨rfl, HO3⟩; have hd := HD.out _ _ HO3.out) | (go_at_call 9; refine hd.mono ?_; rintro e w4 ⟨rfl, HV4⟩))
      go_roundg (29 - i)
      case measure => omega
      case rel => exact ⟨i + 1, by congr 1, by omega, by omega, _, HV4.out, HX.out⟩
    · obtain rfl : i = 1 + nb := by omega
      obtain ⟨n, hn⟩ : ∃ n, n = 1 + nb := ⟨_, rfl⟩
      have hnI : (1 : Int) + nb = n := by omega
      rw [← hn] at HM hi hkx
      obtain ⟨h, hV, hH⟩ := HM.out
      have hwa := fun W => within_any a0 n W (by omega) (by omega)
      obtain ⟨ab, hab⟩ : ∃ ab : Nat, (ab : Int) = withinF a0 n := ⟨(withinF a0 n).toNat, by have := withinF_bd a0 n (by omega); omega⟩
      have habl : ab < n := by have := withinF_bd a0 n (by omega); omega
      rw [← hab] at hwa
      have hwk := fun W => within_any k0 ((n : Int) + 3) W (by omega) (by omega)
      obtain ⟨q, hq⟩ : ∃ q : Nat, (q : Int) = withinF k0 ((n : Int) + 3) := ⟨(withinF k0 ((n : Int) + 3)).toNat, by have := withinF_bd k0 ((n : Int) + 3) (by omega); omega⟩
      have hql : q < n + 3 := by have := withinF_bd k0 ((n : Int) + 3) (by omega); omega
      rw [← hq] at hwk
      have hn1 : 1 ≤ n ∧ n ≤ 20 := by omega
      clear hab hq
      have hc1 := hV.compact (by omega) (ab + 1) (by omega) (by omega)
      have eab : ((ab + 1 : Nat) : Int) = 1 + (ab : Int) := by omega
      rw [eab] at hc1
      obtain ⟨h', hh'⟩ : ∃ h', h' = keepH h ((ab + 1 : Nat) : Int) := ⟨_, rfl⟩
      rw [eab] at hh'
      rw [← hh'] at hc1
      have HC2 : Hid (∀ W, V3 w W s kE n h' (ab + 1) → Calls Tryz.prog 10 #[ptr s, .int .i64 (1 + (ab : Int))] W fun e w' => e = .returned (.int .i64 16) ∧ w' = W) := fun W H => by
        have := H.cpast (by omega) (by omega)
        rw [eab] at this
        exact this
      have HC3 : Hid (∀ W, V3 w W s kE n h' (ab + 1) → Calls Tryz.prog 10 #[ptr s, .int .i64 ((n : Int) + 1)] W fun e w' => e = .returned (.int .i64 17) ∧ w' = W) := fun W H => H.cfuture _ (by omega)
      have HC4 : Hid (∀ W, Calls Tryz.prog 10 #[ptr s, .int .i64 0] W fun e w' => e = .returned (.int .i64 1) ∧ w' = W) := fun W => compact_arg W s 0 (by decide)
      have HHE : Hid (∀ r : Nat, ab + 1 ≤ r → r ≤ n → ∃ kv, atH h' r = some kv ∧ kv.value = vE (r - 1)) := fun r h1 h2 => by
        obtain ⟨n', g', o', S', z1, z2, z3, -⟩ := hV
        have hok := z2.hok kE
        rw [z3.kh] at hok
        obtain ⟨kv, e1, e2⟩ := hH r (by omega) h2
        exact ⟨kv, by rw [hh', atH_keep hok (by omega)]; exact e1, e2⟩
      rw [hnI, ← hn]
      clear HM hV hH hh' hn hnI hnl hlt hi hkx
      go_upto_region 12 with (go_at_call 6; refine (hwa _).mono ?_; rintro e w' ⟨rfl, hw'⟩; obtain rfl := hw'.symm)
      have hwk' := hwk
      clear hwk hwa
      go_upto_region 14 with (go_at_call 10; first | (with_reducible refine hc1.mono ?_; rintro e w3 ⟨rfl, HV3⟩; have hc2 := HC2.out _ HV3.out; have hc3 := HC3.out _ HV3.out; have hc4 := HC4.out w3; clear hc1) | (with_reducible refine hc2.mono ?_; rintro e w' ⟨rfl, hw'⟩; obtain rfl := hw'.symm; clear hc2) | (with_reducible refine hc3.mono ?_; rintro e w' ⟨rfl, hw'⟩; obtain rfl := hw'.symm; clear hc3) | (with_reducible refine hc4.mono ?_; rintro e w' ⟨rfl, hw'⟩; obtain rfl := hw'.symm; clear hc4))
      go_upto_region 15 with (go_at_call 6; refine (hwk' _).mono ?_; rintro e w' ⟨rfl, hw'⟩; obtain rfl := hw'.symm)
      have h1a : 1 + (ab : Int) ≤ n := by omega
      clear HC2 HC3 HC4 hwk'
      by_cases hA : n < q
      · have hrg := HV3.out.rfuture ⟨#[107]⟩ ⟨#[]⟩ q 0 (by omega)
        have HS : Hid (∀ W, V3 w W s kE n h' (ab + 1) → Calls Tryz.prog 12 #[ptr s, .int .i64 q] W fun e w' => ∃ v, e = .returned (.tuple #[v, .int .i64 0]) ∧ Hid (Below w.heap.size w w')) := fun W H => H.sok (by omega) q (by omega) (by omega) (by omega)
        clear HV3 HHE
        go_upto_region 19 with (first | (go_at_call 11; refine hrg.mono ?_; rintro e w4 ⟨rfl, HV4⟩; have hs := HS.out _ HV4.out) | (go_at_call 12; refine hs.mono ?_; rintro e w5 ⟨v, rfl, HB5⟩))
        clear hrg hs HS HV4
        go_wp2
        go_ret
        exact ⟨rfl, HB5.out⟩
      · by_cases hB : 0 < q ∧ q < ab + 1
        · obtain ⟨hB1, hB2⟩ := hB
          have hrg := HV3.out.rpast ⟨#[107]⟩ ⟨#[]⟩ q 0 (by omega) (by omega) (by omega)
          have HS : Hid (∀ W, V3 w W s kE n h' (ab + 1) → Calls Tryz.prog 12 #[ptr s, .int .i64 q] W fun e w' => e = .returned (.tuple #[.slice none 0 0, .int .i64 16]) ∧ w' = W) := fun W H => H.spast q (by omega) (by omega)
          clear HV3 HHE
          go_upto_region 19 with (first | (go_at_call 11; refine hrg.mono ?_; rintro e w4 ⟨rfl, HV4⟩; have hs := HS.out _ HV4.out) | (go_at_call 12; refine hs.mono ?_; rintro e w' ⟨rfl, hw'⟩; obtain rfl := hw'.symm))
          have HB5 : Hid (Below w.heap.size w w4) := HV4.out.below
          clear hrg hs HS HV4
          go_wp2
          go_ret
          exact ⟨rfl, HB5.out⟩
        · obtain ⟨R, hR⟩ : ∃ R : Nat, R = if q = 0 then n else q := ⟨_, rfl⟩
          have hRb : ab + 1 ≤ R ∧ R ≤ n := by rw [hR]; split <;> omega
          obtain ⟨kv, hkv, hval⟩ := HHE.out R hRb.1 hRb.2
          have hrg := HV3.out.range (by omega) q (by omega) (by omega) (by decide)
          have hRi : (if q = 0 then (n : Int) else (q : Int)) = (R : Int) := by rw [hR]; split <;> rfl
          rw [hRi, hkv] at hrg
          have hrg' : Calls Tryz.prog 11 #[ptr s, .string ⟨#[107]⟩, .string ⟨#[]⟩, .int .i64 q, .int .i64 0] w3 fun e w' => ∃ p c, e = .returned (.tuple #[.slice p 1 c, .int .i64 1, .int .i64 0]) ∧ Hid (w'.ownsRow w3.heap.size 40 6 (.slice p 1 c) 1 (kvsC [kv])) ∧ Hid (V3 w w' s kE n h' (ab + 1)) := hrg
          obtain ⟨f, hf⟩ : ∃ f : Int, f = if q = 0 then 1 else if q ≤ ab + 1 then 16 else 0 := ⟨_, rfl⟩
          have HS : Hid (∀ W, V3 w W s kE n h' (ab + 1) → Calls Tryz.prog 12 #[ptr s, .int .i64 q] W fun e w' => ∃ v, e = .returned (.tuple #[v, .int .i64 f]) ∧ Hid (Below W.heap.size W w')) := fun W H => by rw [hf]; exact H.since (by omega) q (by omega)
          have HF := Hid.mk'' hf
          have HR := Hid.mk'' hR
          clear HV3 HHE hrg hkv hRi hf hR
          go_upto_region 19 with (first | (go_at_call 11; refine hrg'.mono ?_; rintro e w4 ⟨p, c, rfl, HR4, HV4⟩; have hs := HS.out _ HV4.out) | (go_at_call 12; refine hs.mono ?_; rintro e w5 ⟨v, rfl, HB5⟩))
          obtain ⟨gg, cg, hv, hgB, hgl, -, k1, -⟩ := kv_cells HR4.out
          have hpp : p = some ⟨gg, 0, none⟩ := by cases hv; rfl
          subst hpp
          rw [hval] at k1
          have k5 : w5.cell? ⟨gg, 1, none⟩ = some (.string (vE (R - 1))) := (HB5.out.cell (p := ⟨gg, 1, none⟩) hgl).trans k1
          have HBW : Hid (Below w.heap.size w w5) := HV4.out.below.trans (HB5.out.mono HV4.out.below.size)
          have hcv := ve_conv (R - 1) w5.drew
          have eR : ((R - 1 : Nat) : Int) = (R : Int) - 1 := by omega
          rw [eR] at hcv
          have he : IntKind.u8.wrap (IntKind.i64.wrap ((R : Int) - 1)) = (R : Int) - 1 := by
            have e1 : IntKind.i64.wrap ((R : Int) - 1) = (R : Int) - 1 := by rw [IntKind.wrap_i64]; omega
            rw [e1, IntKind.wrap_u8]
            omega
          have hcv2 : (convert 30 9 (.slice (some ⟨w5.heap.size, 0, none⟩) 1 1)).run Tryz.prog ((w5.alloc (.cells #[.int .u8 (IntKind.u8.wrap (IntKind.i64.wrap ((R : Int) - 1)))] 5)).drew) = .ok (.string (vE (R - 1))) ((w5.alloc (.cells #[.int .u8 (IntKind.u8.wrap (IntKind.i64.wrap ((R : Int) - 1)))] 5)).drew) := by rw [he]; exact hcv
          have ka : (w5.alloc (.cells #[.int .u8 (IntKind.u8.wrap (IntKind.i64.wrap ((R : Int) - 1)))] 5)).drew.cell? ⟨gg, 1, none⟩ = some (.string (vE (R - 1))) := (((Below.refl _ w5).alloc (Nat.le_refl _) (.cells #[.int .u8 (IntKind.u8.wrap (IntKind.i64.wrap ((R : Int) - 1)))] 5)).cell (p := ⟨gg, 1, none⟩) (World.block_lt_of_cell? _ _ k5)).trans k5
          have nv : (vE (R - 1) != vE (R - 1)) = false := by rw [bne, (MapKept.bytes_beq _ _).2 rfl]; rfl
          clear he hcv
          clear k1 hs hrg' HS HV4 HR4 HB5 hv hval hgl hgB eR
          by_cases hq0 : q = 0
          · have h1 : R = n := by rw [HR.out, if_pos hq0]
            have h2 : f = 1 := by rw [HF.out, if_pos hq0]
            subst h1 h2 hq0
            clear HR HF hA hB
            have hu8 : IntKind.u8.wrap ((R : Int) - 1) = (R : Int) - 1 := by rw [IntKind.wrap_u8]; omega
            go_upto_region 26 with fail
            go_region_held_law (fun W => W.cell? ⟨gg, 1, none⟩ = some (.string (vE (R - 1)))) (first | with_reducible assumption | exact k5 | exact ka) (fail)
            have HFIN : Hid (Below w.heap.size w (w5.alloc (.cells #[.int .u8 (IntKind.u8.wrap (IntKind.i64.wrap ((R : Int) - 1)))] 5)).drew) := (HBW.out.alloc HBW.out.size _).drew
            obtain ⟨W9, hW9⟩ : ∃ W9, W9 = (w5.alloc (.cells #[.int .u8 (IntKind.u8.wrap (IntKind.i64.wrap ((R : Int) - 1)))] 5)).drew := ⟨_, rfl⟩
            rw [← hW9] at HFIN ⊢
            clear hW9 hcv2 ka k5 HBW
            go_wp2
            go_ret
            exact ⟨rfl, HFIN.out⟩
          · have h1 : R = q := by rw [HR.out, if_neg hq0]
            subst h1
            have hu8 : IntKind.u8.wrap ((R : Int) - 1) = (R : Int) - 1 := by rw [IntKind.wrap_u8]; omega
            have hR0 : 0 < (R : Int) := by omega
            have hRa : ¬ (R : Int) < 1 + ab := by omega
            have hf2 : f = if R ≤ ab + 1 then 16 else 0 := by rw [HF.out, if_neg hq0]
            clear HR HF hA hB
            go_upto_region 17 with fail
            go_region_held_law (fun W => W.cell? ⟨gg, 1, none⟩ = some (.string (vE (R - 1)))) (first | with_reducible assumption | exact k5 | exact ka) (fail)
            have HFIN : Hid (Below w.heap.size w (w5.alloc (.cells #[.int .u8 (IntKind.u8.wrap (IntKind.i64.wrap ((R : Int) - 1)))] 5)).drew) := (HBW.out.alloc HBW.out.size _).drew
            obtain ⟨W9, hW9⟩ : ∃ W9, W9 = (w5.alloc (.cells #[.int .u8 (IntKind.u8.wrap (IntKind.i64.wrap ((R : Int) - 1)))] 5)).drew := ⟨_, rfl⟩
            rw [← hW9] at HFIN ⊢
            clear hW9 hcv2 ka k5 HBW
            by_cases hle : R ≤ ab + 1
            · rw [if_pos hle] at hf2
              subst hf2
              have hle' : (R : Int) ≤ 1 + ab := by omega
              go_wp2
              go_ret
              exact ⟨rfl, HFIN.out⟩
            · rw [if_neg hle] at hf2
              subst hf2
              have hle' : ¬ (R : Int) ≤ 1 + ab := by omega
              go_wp2
              go_ret
              exact ⟨rfl, HFIN.out⟩
end Go.Proofs.YteeflkkoifgcbabGreat
