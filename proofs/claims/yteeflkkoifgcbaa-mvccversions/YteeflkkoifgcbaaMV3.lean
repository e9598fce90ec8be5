/- MvccVersions. -/
import Derived.Test.YteeflkkoifgcbaaMV2
namespace Go.Proofs.Yteeflkkoifgcbaa
open Go Go.RowKit

def SeesT (w : World) (v : Value) (zs : List Bool) : Prop :=
  (zs = [] ∧ ∃ ao cap, v = .slice ao 0 cap) ∨ ∃ b off cap, v = .slice (some ⟨b, off, none⟩) zs.length cap ∧ 0 < zs.length ∧ b < w.heap.size ∧ ∀ i, i < zs.length → w.cell? ⟨b, off + i, none⟩ = some (.bool (zs.getD i false))
theorem SeesT.form {w : World} {v : Value} {zs : List Bool} (h : SeesT w v zs) : ∃ ao cap, v = .slice ao zs.length cap := by
  rcases h with ⟨rfl, ao, cap, rfl⟩ | ⟨b, off, cap, rfl, _⟩ <;> exact ⟨_, _, rfl⟩
theorem SeesT.at {w : World} {a : Option Addr} {cap : Nat} {zs : List Bool} (h : SeesT w (.slice a zs.length cap) zs) {j : Nat} (hj : j < zs.length) : ∃ b off, a = some ⟨b, off, none⟩ ∧ b < w.heap.size ∧ w.cell? ⟨b, off + j, none⟩ = some (.bool (zs.getD j false)) := by
  rcases h with ⟨h, _⟩ | ⟨b, off, c, he, _, hb, hc⟩
  · subst h; simp at hj
  · cases he; exact ⟨b, off, rfl, hb, hc j hj⟩
theorem V1.now {w0 w : World} {s : Nat} {k : ByteArray} {rv : Nat} {h : Hs} (H : V1 w0 w s k rv h) : atH h rv = thereH h := by
  obtain ⟨n, g, o, S, h1, h2, h3, h4, h5⟩ := H
  refine atH_all (fun p hp => ?_)
  rw [← h3.kh] at hp
  have := ((h2.hok k).pos p hp).2
  rw [h3.rev] at this
  exact this
theorem pt6 (a b c d e f : Value) (W : World) : (part 9 #[a, b, c, d, e, f] 0).run Try.prog W = .ok a W ∧ (part 9 #[a, b, c, d, e, f] 1).run Try.prog W = .ok b W ∧ (part 3 #[a, b, c, d, e, f] 2).run Try.prog W = .ok c W ∧ (part 3 #[a, b, c, d, e, f] 3).run Try.prog W = .ok d W ∧ (part 3 #[a, b, c, d, e, f] 4).run Try.prog W = .ok e W ∧ (part 3 #[a, b, c, d, e, f] 5).run Try.prog W = .ok f W := ⟨by kernel_rfl, by kernel_rfl, by kernel_rfl, by kernel_rfl, by kernel_rfl, by kernel_rfl⟩
theorem stood56 : Try.prog.stoodInHeld 56 = false := by kernel_rfl
theorem eqKV (a b : ByteArray) (c d e f : Int) (W : World) : (Op.equal 56 (.agg #[.string a, .string b, .int .i64 c, .int .i64 d, .int .i64 e, .int .i64 f]) (.agg #[.string a, .string b, .int .i64 c, .int .i64 d, .int .i64 e, .int .i64 f])).run Try.prog W = .ok true W := by
  show (Op.equalIn (9999 + 1) 56 _ _).run Try.prog W = _
  obtain ⟨p0, p1, p2, p3, p4, p5⟩ := pt6 (.string a) (.string b) (.int .i64 c) (.int .i64 d) (.int .i64 e) (.int .i64 f) W
  have s1 := eqStr 9998 a a W
  have s2 := eqStr 9998 b b W
  have i1 := fun x => eqInt 9998 x x W
  have ha : (a == a) = true := (MapKept.bytes_beq a a).2 rfl
  have hb : (b == b) = true := (MapKept.bytes_beq b b).2 rfl
  rw [ha] at s1
  rw [hb] at s2
  simp only [Nat.reduceAdd, beq_self_eq_true] at s1 s2 i1
  unfold Op.equalIn
  simp only [Sem.run_bind, run_underlying Try.underlying56, Result.andThen, run_program, stood56]
  simp [p0, p1, p2, p3, p4, p5, s1, s2, i1, Result.andThen]
theorem neKV (a b : ByteArray) (c d e f : Int) (W : World) : (binOp BinOp.neq 56 (.agg #[.string a, .string b, .int .i64 c, .int .i64 d, .int .i64 e, .int .i64 f]) (.agg #[.string a, .string b, .int .i64 c, .int .i64 d, .int .i64 e, .int .i64 f])).run Try.prog W = .ok (.bool false) W := by
  simp [binOp, eqKV, Result.andThen]
def kK : ByteArray := ⟨#[107]⟩
def vV : ByteArray := ⟨#[118]⟩
/-- What the law counts along. -/
def Cnt (h : Hs) (ve cr : Int) (i : Nat) : Prop := (thereH h = none ∧ ve = 0) ∨ ∃ kv, thereH h = some kv ∧ kv.version = ve ∧ kv.create = cr ∧ 1 ≤ ve ∧ ve ≤ i
theorem V1o.below {w0 w : World} {s b : Nat} {k : ByteArray} {rv : Nat} {h : Hs} {c : Option (Option KVd)} (H : V1o w0 w s b k rv h c) : Below w0.heap.size w0 w := by
  obtain ⟨n, g, S, W, hw, h1, h2, h3, h4, -⟩ := H
  exact h4
/-- Range at the present. -/
theorem V1.rangeNow {w0 w : World} {s : Nat} {k : ByteArray} {rv : Nat} {h : Hs} (hrv : rv ≤ 1000) (H : V1 w0 w s k rv h) (hk : 0 < k.size ∧ k.size ≤ 100) :
    Calls Try.prog 15 #[ptr s, .string k, .string ByteArray.empty, .int .i64 0, .int .i64 0] w fun e w' => ∃ p c, e = .returned (.tuple #[.slice p (thereH h).toList.length c, .int .i64 (thereH h).toList.length, .int .i64 0]) ∧ Hid (w'.ownsRow w.heap.size 56 6 (.slice p (thereH h).toList.length c) (thereH h).toList.length (kvsC (thereH h).toList)) ∧ Hid (V1 w0 w' s k rv h) := by
  have := H.range hrv 0 (Nat.zero_le _) hk
  simp only [if_true] at this
  rw [H.now] at this
  exact this
set_option maxRecDepth 100000 in
set_option maxHeartbeats 4000000 in
theorem mvccVersions_walk (v0 : Value) (puts : List Bool) (w : World) (hP : SeesT w v0 puts) (_hl : puts.length ≤ 140737488355328) :
    Calls Try.prog 5 #[v0] w fun e w' => e = .returned (.bool true) ∧ Below w.heap.size w w' := by
  obtain ⟨pa, pc, rfl⟩ := hP.form
  have HP := Hid.mk'' hP
  clear hP
  have hkn := known_st w
  have HN : Hid (∀ W, Below w.heap.size w W → Calls Try.prog 7 #[] W fun e w' => ∃ s, e = .returned (ptr s) ∧ Hid (V1 w w' s kK 0 [])) := fun W hb => v1_new w W hb kK
  go_enter Try.func5, Try.ntmps5
  go_upto_region 6 with (first | (go_at_call 6; refine hkn.mono ?_; rintro e w1 ⟨rfl, hb1⟩; have hnw := HN.out _ hb1) | (go_at_call 7; refine hnw.mono ?_; rintro e w2 ⟨s, rfl, HV⟩))
  clear hnw hb1 hkn HN
  go_wp2
  go_loopg [4, 5, 6, 7] 41 (fun kx s4 s5 s6 s7 wr => ∃ (i rv : Nat) (ve cr : Int) (h : Hs), s4 = .int .i64 ve ∧ s5 = .int .i64 cr ∧ s6 = .int .i64 rv ∧ s7 = .int .i64 i ∧ kx + i = 41 ∧ i ≤ 40 ∧ rv ≤ i ∧ Hid (V1 w wr s kK rv h ∧ Cnt h ve cr i))
  case atStart => exact ⟨0, 0, 0, 0, [], rfl, rfl, rfl, rfl, rfl, by omega, by omega, HV.out, .inl ⟨rfl, rfl⟩⟩
  case round =>
    clear HV
    obtain ⟨i, rv, ve, cr, h, rfl, rfl, rfl, rfl, hkx, hi, hri, HM⟩ := hrel
    by_cases hlt : i < puts.length ∧ i < 40
    · obtain ⟨c1, c2⟩ := hlt
      obtain ⟨pb, po, rfl, hpl, hpc⟩ := HP.out.at c1
      have HPC : Hid (∀ W, Below w.heap.size w W → W.cell? ⟨pb, po + i, none⟩ = some (.bool (puts.getD i false))) := fun W hb => (hb.cell (p := ⟨pb, po + i, none⟩) hpl).trans hpc
      have hw := HM.out.1.write
      cases hbb : puts.getD i false with
      | true =>
        rw [hbb] at HPC
        obtain ⟨kv, hkv⟩ : ∃ kv, kv = putKV kK vV rv h i := ⟨_, rfl⟩
        have HPT : Hid (∀ W b, V1o w W s b kK rv h none → Calls Try.prog 10 #[ptr b, .string ⟨#[107]⟩, .string ⟨#[118]⟩, .int .i64 i] W fun e w' => e = .returned (.int .i64 0) ∧ Hid (V1o w w' s b kK rv h (some (some kv)))) := fun W b q => by rw [hkv]; exact q.put (by omega) vV i (by decide) (by decide) (by omega)
        have HD : Hid (∀ W b, V1o w W s b kK rv h (some (some kv)) → Calls Try.prog 12 #[ptr b] W fun e w' => e = .returned (.int .i64 ((rv : Int) + 1)) ∧ Hid (V1 w w' s kK (rv + 1) (h ++ [((rv : Int) + 1, some kv)]))) := fun W b q => V1o.done (by omega) q
        have HRV : Hid (∀ W, V1 w W s kK (rv + 1) (h ++ [((rv : Int) + 1, some kv)]) → Calls Try.prog 13 #[ptr s] W fun e w' => e = .returned (.int .i64 ((rv : Int) + 1)) ∧ w' = W) := fun W q => q.rev
        have HRG : Hid (∀ W, V1 w W s kK (rv + 1) (h ++ [((rv : Int) + 1, some kv)]) → Calls Try.prog 15 #[ptr s, .string ⟨#[107]⟩, .string ⟨#[]⟩, .int .i64 0, .int .i64 0] W fun e w' => ∃ p c, e = .returned (.tuple #[.slice p 1 c, .int .i64 1, .int .i64 0]) ∧ Hid (w'.ownsRow W.heap.size 56 6 (.slice p 1 c) 1 (kvsC [kv])) ∧ Hid (V1 w w' s kK (rv + 1) (h ++ [((rv : Int) + 1, some kv)]))) := fun W q => by
          have := q.rangeNow (by omega) (by decide)
          rw [thereH_snoc] at this
          exact this
        have hkk : kv.key = ⟨#[107]⟩ ∧ kv.value = ⟨#[118]⟩ ∧ kv.mod = (rv : Int) + 1 ∧ kv.lease = i := by rw [hkv]; exact ⟨rfl, rfl, rfl, rfl⟩
        obtain ⟨kkk, kkv, kkm, kkl⟩ := hkk
        have HCT : Hid (∀ ve' cr', kv.version = ve' → kv.create = cr' → 1 ≤ ve' → ve' ≤ (i : Int) + 1 → Cnt (h ++ [((rv : Int) + 1, some kv)]) ve' cr' (i + 1)) := fun ve' cr' q1 q2 q3 q4 => .inr ⟨kv, thereH_snoc _ _ _, q1, q2, q3, by omega⟩
        have hcase : (ve = 0 ∧ kv.version = 1 ∧ kv.create = (rv : Int) + 1) ∨ (1 ≤ ve ∧ ve ≤ i ∧ kv.version = ve + 1 ∧ kv.create = cr) := by
          rcases HM.out.2 with ⟨q1, q2⟩ | ⟨kv0, q1, q2, q3, q4, q5⟩
          · refine .inl ⟨q2, ?_, ?_⟩
            · rw [hkv]; unfold putKV; rw [q1]; rfl
            · rw [hkv]; unfold putKV; rw [q1]; rfl
          · refine .inr ⟨q4, q5, ?_, ?_⟩
            · rw [hkv]; unfold putKV; rw [q1]; show kv0.version + 1 = _; rw [q2]
            · rw [hkv]; unfold putKV; rw [q1]; exact q3
        clear HM hkv hbb hpc hpl
        rcases hcase with ⟨rfl, v1, v2⟩ | ⟨v0, v00, v1, v2⟩
        · have hneq := neKV ⟨#[107]⟩ ⟨#[118]⟩ ((rv : Int) + 1) ((rv : Int) + 1) 1 i
          go_upto_region 9 with (go_at_call 9; refine hw.mono ?_; rintro e w2 ⟨b, rfl, HO, -⟩)
          have hpc2 := HPC.out _ HO.out.below
          have hpt := HPT.out _ _ HO.out
          go_upto_region 25 with (first | (go_at_call 10; refine hpt.mono ?_; rintro e w3 ⟨rfl, HO3⟩; have hd := HD.out _ _ HO3.out) | (go_at_call 12; refine hd.mono ?_; rintro e w4 ⟨rfl, HV4⟩; have hrv := HRV.out _ HV4.out; have hrg := HRG.out _ HV4.out) | (go_at_call 13; refine hrv.mono ?_; rintro e w' ⟨rfl, hw'⟩; obtain rfl := hw'.symm) | (go_at_call 15; refine hrg.mono ?_; rintro e w5 ⟨p, c, rfl, HR5, HV5⟩))
          obtain ⟨g, cg, hv, hB, hgl, k0, k1, k2, k3, k4, k5⟩ := kv_cells HR5.out
          have hpp : p = some ⟨g, 0, none⟩ := by cases hv; rfl
          subst hpp
          rw [kkk] at k0
          rw [kkv] at k1
          rw [v2] at k2
          rw [kkm] at k3
          rw [v1] at k4
          rw [kkl] at k5
          have HC := Hid.mk'' (HCT.out _ _ v1 v2 (by omega) (by omega))
          clear hrg hrv hd hpt hpc2 HO HO3 HV4 HR5 HPT HD HRV HRG HPC hw HCT v1 v2
          go_wp2
          go_roundg (40 - i)
          case measure => omega
          case rel => exact ⟨i + 1, rv + 1, 1, ((rv : Int) + 1), _, rfl, rfl, by congr 1, by congr 1, by omega, by omega, by omega, HV5.out, HC.out⟩
        · have hneq := neKV ⟨#[107]⟩ ⟨#[118]⟩ cr ((rv : Int) + 1) (ve + 1) i
          have hmin : ∀ a : Int, 1 ≤ a → min a 1 = 1 := fun a ha => by omega
          have hm1 := hmin (ve + 1) (by omega)
          have hv1 : ¬ ve + 1 = 1 := by omega
          have hwr : IntKind.i64.wrap (ve + 1) = ve + 1 := by rw [IntKind.wrap_i64]; omega
          go_upto_region 9 with (go_at_call 9; refine hw.mono ?_; rintro e w2 ⟨b, rfl, HO, -⟩)
          have hpc2 := HPC.out _ HO.out.below
          have hpt := HPT.out _ _ HO.out
          go_upto_region 25 with (first | (go_at_call 10; refine hpt.mono ?_; rintro e w3 ⟨rfl, HO3⟩; have hd := HD.out _ _ HO3.out) | (go_at_call 12; refine hd.mono ?_; rintro e w4 ⟨rfl, HV4⟩; have hrv := HRV.out _ HV4.out; have hrg := HRG.out _ HV4.out) | (go_at_call 13; refine hrv.mono ?_; rintro e w' ⟨rfl, hw'⟩; obtain rfl := hw'.symm) | (go_at_call 15; refine hrg.mono ?_; rintro e w5 ⟨p, c, rfl, HR5, HV5⟩))
          obtain ⟨g, cg, hv, hB, hgl, k0, k1, k2, k3, k4, k5⟩ := kv_cells HR5.out
          have hpp : p = some ⟨g, 0, none⟩ := by cases hv; rfl
          subst hpp
          rw [kkk] at k0
          rw [kkv] at k1
          rw [v2] at k2
          rw [kkm] at k3
          rw [v1] at k4
          rw [kkl] at k5
          have HC := Hid.mk'' (HCT.out _ _ v1 v2 (by omega) (by omega))
          clear hrg hrv hd hpt hpc2 HO HO3 HV4 HR5 HPT HD HRV HRG HPC hw HCT v1 v2
          go_wp2
          go_roundg (40 - i)
          case measure => omega
          case rel => exact ⟨i + 1, rv + 1, (ve + 1), cr, _, rfl, rfl, by congr 1, by congr 1, by omega, by omega, by omega, HV5.out, HC.out⟩
      | false =>
        rw [hbb] at HPC
        have hth : ((thereH h).isSome = false ∧ ve = 0) ∨ ((thereH h).isSome = true ∧ 1 ≤ ve ∧ ve ≤ i) := by
          rcases HM.out.2 with ⟨q1, q2⟩ | ⟨kv0, q1, q2, q3, q4, q5⟩
          · exact .inl ⟨by rw [q1]; rfl, q2⟩
          · exact .inr ⟨by rw [q1]; rfl, q4, q5⟩
        rcases hth with ⟨ht, rfl⟩ | ⟨ht, hv0, hv1⟩
        · have htn : thereH h = none := by cases e : thereH h with
            | none => rfl
            | some v => rw [e] at ht; cases ht
          have HDL : Hid (∀ W b, V1o w W s b kK rv h none → Calls Try.prog 11 #[ptr b, .string ⟨#[107]⟩, .string ⟨#[]⟩] W fun e w' => e = .returned (.int .i64 0) ∧ Hid (V1o w w' s b kK rv h none)) := fun W b q => by
            have := q.del (by omega) (by decide)
            rw [ht] at this
            exact this
          have HD : Hid (∀ W b, V1o w W s b kK rv h none → Calls Try.prog 12 #[ptr b] W fun e w' => e = .returned (.int .i64 rv) ∧ Hid (V1 w w' s kK rv h)) := fun W b q => V1o.done (by omega) q
          have HRV : Hid (∀ W, V1 w W s kK rv h → Calls Try.prog 13 #[ptr s] W fun e w' => e = .returned (.int .i64 rv) ∧ w' = W) := fun W q => q.rev
          have HRG : Hid (∀ W, V1 w W s kK rv h → Calls Try.prog 15 #[ptr s, .string ⟨#[107]⟩, .string ⟨#[]⟩, .int .i64 0, .int .i64 0] W fun e w' => ∃ p c, e = .returned (.tuple #[.slice p 0 c, .int .i64 0, .int .i64 0]) ∧ Hid (V1 w w' s kK rv h)) := fun W q => by
            refine (q.rangeNow (by omega) (by decide)).mono ?_
            rw [htn]
            rintro e w' ⟨p, c, rfl, -, q3⟩
            exact ⟨p, c, rfl, q3⟩
          have HC : Hid (Cnt h 0 cr (i + 1)) := .inl ⟨htn, rfl⟩
          clear HM hbb hpc hpl ht htn
          go_upto_region 9 with (go_at_call 9; refine hw.mono ?_; rintro e w2 ⟨b, rfl, HO, -⟩)
          have hpc2 := HPC.out _ HO.out.below
          have hdl := HDL.out _ _ HO.out
          go_upto_region 25 with (first | (go_at_call 11; refine hdl.mono ?_; rintro e w3 ⟨rfl, HO3⟩; have hd := HD.out _ _ HO3.out) | (go_at_call 12; refine hd.mono ?_; rintro e w4 ⟨rfl, HV4⟩; have hrv := HRV.out _ HV4.out; have hrg := HRG.out _ HV4.out) | (go_at_call 13; refine hrv.mono ?_; rintro e w' ⟨rfl, hw'⟩; obtain rfl := hw'.symm) | (go_at_call 15; refine hrg.mono ?_; rintro e w5 ⟨p, c, rfl, HV5⟩))
          clear hrg hrv hd hdl hpc2 HO HO3 HV4 HDL HD HRV HRG HPC hw
          go_wp2
          go_roundg (40 - i)
          case measure => omega
          case rel => exact ⟨i + 1, rv, 0, cr, h, rfl, rfl, rfl, by congr 1, by omega, by omega, by omega, HV5.out, HC.out⟩
        · have HDL : Hid (∀ W b, V1o w W s b kK rv h none → Calls Try.prog 11 #[ptr b, .string ⟨#[107]⟩, .string ⟨#[]⟩] W fun e w' => e = .returned (.int .i64 1) ∧ Hid (V1o w w' s b kK rv h (some none))) := fun W b q => by
            have := q.del (by omega) (by decide)
            rw [ht] at this
            exact this
          have HD : Hid (∀ W b, V1o w W s b kK rv h (some none) → Calls Try.prog 12 #[ptr b] W fun e w' => e = .returned (.int .i64 ((rv : Int) + 1)) ∧ Hid (V1 w w' s kK (rv + 1) (h ++ [((rv : Int) + 1, none)]))) := fun W b q => V1o.done (by omega) q
          have HRV : Hid (∀ W, V1 w W s kK (rv + 1) (h ++ [((rv : Int) + 1, none)]) → Calls Try.prog 13 #[ptr s] W fun e w' => e = .returned (.int .i64 ((rv : Int) + 1)) ∧ w' = W) := fun W q => q.rev
          have HRG : Hid (∀ W, V1 w W s kK (rv + 1) (h ++ [((rv : Int) + 1, none)]) → Calls Try.prog 15 #[ptr s, .string ⟨#[107]⟩, .string ⟨#[]⟩, .int .i64 0, .int .i64 0] W fun e w' => ∃ p c, e = .returned (.tuple #[.slice p 0 c, .int .i64 0, .int .i64 0]) ∧ Hid (V1 w w' s kK (rv + 1) (h ++ [((rv : Int) + 1, none)]))) := fun W q => by
            refine (q.rangeNow (by omega) (by decide)).mono ?_
            rw [thereH_snoc]
            rintro e w' ⟨p, c, rfl, -, q3⟩
            exact ⟨p, c, rfl, q3⟩
          have HC : Hid (Cnt (h ++ [((rv : Int) + 1, none)]) 0 cr (i + 1)) := .inl ⟨thereH_snoc _ _ _, rfl⟩
          have hvp : 0 < ve := by omega
          have hvb : decide (0 < ve) = true := decide_eq_true hvp
          clear HM hbb hpc hpl ht
          go_upto_region 9 with (go_at_call 9; refine hw.mono ?_; rintro e w2 ⟨b, rfl, HO, -⟩)
          have hpc2 := HPC.out _ HO.out.below
          have hdl := HDL.out _ _ HO.out
          go_upto_region 25 with (first | (go_at_call 11; refine hdl.mono ?_; rintro e w3 ⟨rfl, HO3⟩; have hd := HD.out _ _ HO3.out) | (go_at_call 12; refine hd.mono ?_; rintro e w4 ⟨rfl, HV4⟩; have hrv := HRV.out _ HV4.out; have hrg := HRG.out _ HV4.out) | (go_at_call 13; refine hrv.mono ?_; rintro e w' ⟨rfl, hw'⟩; obtain rfl := hw'.symm) | (go_at_call 15; refine hrg.mono ?_; rintro e w5 ⟨p, c, rfl, HV5⟩))
          clear hrg hrv hd hdl hpc2 HO HO3 HV4 HDL HD HRV HRG HPC hw
          go_wp2
          go_roundg (40 - i)
          case measure => omega
          case rel => exact ⟨i + 1, rv + 1, 0, cr, _, rfl, rfl, by congr 1, by congr 1, by omega, by omega, by omega, HV5.out, HC.out⟩
    · have HB : Hid (Below w.heap.size w wr) := HM.out.1.below
      clear HM
      by_cases h1 : i < puts.length
      · have h2 : ¬ i < 40 := fun h => hlt ⟨h1, h⟩
        clear hlt
        go_wp2
        go_ret
        exact ⟨rfl, HB.out⟩
      · clear hlt
        go_wp2
        go_ret
        exact ⟨rfl, HB.out⟩
end Go.Proofs.Yteeflkkoifgcbaa
