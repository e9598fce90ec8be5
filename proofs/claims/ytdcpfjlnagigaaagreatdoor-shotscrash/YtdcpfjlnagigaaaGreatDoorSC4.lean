/- ShotsCrash: its calls, one by one. -/
import Derived.Test.YtdcpfjlnagigaaaGreatDoorSC3
namespace Go.Proofs.YtdcpfjlnagigaaaGreatDoor
open Go Go.RowKit
theorem save3_step (d : Nat) (g : Gu) (p : PS) (va : Value) (w w2 : World) (za zb : List Int) (h2 : Two za zb) (hc : Cc 0 false false za zb p) (hd : Dk w.heap.size w2 d g p) (hb : Below w.heap.size w w2) (hT : HasTab w) (hpl : PlayAt p 65536 0) (ha : Sees w va za) :
    Calls Tryz.prog 10 #[ptr d, .agg #[.int .i64 3, .int .i64 1, .slice none 0 0], va] w2 fun e w' => e = .returned (.int .i64 0) ∧ ∃ g' p', Dk w.heap.size w' d g' p' ∧ Below w.heap.size w w' ∧ Cc 1 true false za zb p' ∧ PlayAt p' 65536 4 := by
  obtain ⟨hE, hC⟩ := hc.save3 h2
  have hs := save_any w.heap.size d g p 65536 0 3 (sA za) (.slice none 0 0) va w2 hd hb.size (hT.below hb) hpl (by omega) h2.okA (.inl ⟨rfl, _, _, rfl⟩) (ha.upd (Upd.ofBelow hb : Upd w w2 (fun _ => False)) (fun _ _ _ => id))
  rw [hE] at hs
  refine hs.mono ?_
  rintro e w' ⟨rfl, hpo, hp'⟩
  obtain ⟨g', h1, h3⟩ := hpo.go hd hb.size
  exact ⟨rfl, g', _, h1, hb.trans h3, hC, hp'⟩
theorem save9_step (d : Nat) (g : Gu) (p : PS) (vb : Value) (w w2 : World) {c k : Nat} {fst : Bool} (za zb : List Int) (h2 : Two za zb) (hc1 : c ≤ 1) (hk : k ≤ 280) (hc : Cc c fst false za zb p) (hd : Dk w.heap.size w2 d g p) (hb : Below w.heap.size w w2) (hT : HasTab w) (hpl : PlayAt p 65536 k) (ha : Sees w vb zb) :
    Calls Tryz.prog 10 #[ptr d, .agg #[.int .i64 9, .int .i64 1, .slice none 0 0], vb] w2 fun e w' => e = .returned (.int .i64 0) ∧ ∃ g' p', Dk w.heap.size w' d g' p' ∧ Below w.heap.size w w' ∧ Cc (c + 1) fst true za zb p' ∧ PlayAt p' 65536 (k + 4) := by
  obtain ⟨hE, hC⟩ := hc.save9 h2 hc1
  have hs := save_any w.heap.size d g p 65536 k 9 (sB zb) (.slice none 0 0) vb w2 hd hb.size (hT.below hb) hpl hk h2.okB (.inl ⟨rfl, _, _, rfl⟩) (ha.upd (Upd.ofBelow hb : Upd w w2 (fun _ => False)) (fun _ _ _ => id))
  rw [hE] at hs
  refine hs.mono ?_
  rintro e w' ⟨rfl, hpo, hp'⟩
  obtain ⟨g', h1, h3⟩ := hpo.go hd hb.size
  exact ⟨rfl, g', _, h1, hb.trans h3, hC, hp'⟩
theorem stop_step (d : Nat) (g : Gu) (p : PS) (n : Int) (w w2 : World) {k : Nat} (hn : 1 ≤ n ∧ n ≤ 6) (hd : Dk w.heap.size w2 d g p) (hb : Below w.heap.size w w2) (hpl : PlayAt p 65536 k) :
    Calls Tryz.prog 17 #[ptr d, .int .i64 n] w2 fun e w' => e = .returned (.tuple #[]) ∧ Dk w.heap.size w' d g { p with stops := n } ∧ Below w.heap.size w w' ∧ PlayAt { p with stops := n } 65536 (k + 1) := by
  refine (stop_any w.heap.size d g p n w2 hd).mono ?_
  rintro e w' ⟨rfl, h1, h3⟩
  refine ⟨rfl, h1, hb.trans (h3.below hb.size (fun k' hk' e => ?_)), hpl.stop (by omega) (by omega)⟩
  have := hd.ge (show Foot d g d from Or.inl rfl)
  omega
theorem stop9_step (d : Nat) (g : Gu) (p : PS) (vb : Value) (n : Int) (w w2 : World) {c k : Nat} {fst : Bool} (za zb : List Int) (h2 : Two za zb) (hn : 1 ≤ n) (hc1 : c ≤ 1) (hk : k ≤ 280) (hc : Cc c fst false za zb p) (hd : Dk w.heap.size w2 d g { p with stops := n }) (hb : Below w.heap.size w w2) (hT : HasTab w) (hpl : PlayAt { p with stops := n } 65536 k) (ha : Sees w vb zb) :
    Calls Tryz.prog 10 #[ptr d, .agg #[.int .i64 9, .int .i64 1, .slice none 0 0], vb] w2 fun e w' => ∃ x g' q, e = .returned (.int .i64 x) ∧ Dk w.heap.size w' d g' q ∧ Below w.heap.size w w' ∧ Af fst false za zb x q ∧ PlayAt q 65536 (k + 4) := by
  have hA := hc.stop9 h2 hc1 hn
  have hs := save_any w.heap.size d g { p with stops := n } 65536 k 9 (sB zb) (.slice none 0 0) vb w2 hd hb.size (hT.below hb) hpl hk h2.okB (.inl ⟨rfl, _, _, rfl⟩) (ha.upd (Upd.ofBelow hb : Upd w w2 (fun _ => False)) (fun _ _ _ => id))
  refine hs.mono ?_
  rintro e w' ⟨rfl, hpo, hp'⟩
  obtain ⟨g', h1, h3⟩ := hpo.go hd hb.size
  exact ⟨_, g', _, rfl, h1, hb.trans h3, hA, hp'⟩
theorem trim_step (hPY : ParseYes) (d : Nat) (g : Gu) (p : PS) (n : Int) (w w2 : World) {c k : Nat} {fst : Bool} (za zb : List Int) (h2 : Two za zb) (hk : k ≤ 280) (hc : Cc c fst true za zb p) (hd : Dk w.heap.size w2 d g { p with stops := n }) (hb : Below w.heap.size w w2) (hT : HasTab w) (hpl : PlayAt { p with stops := n } 65536 k) :
    Calls Tryz.prog 15 #[ptr d] w2 fun e w' => ∃ x g' q, e = .returned (.int .i64 x) ∧ Dk w.heap.size w' d g' q ∧ Below w.heap.size w w' ∧ Af fst true za zb x q ∧ PlayAt q 65536 (k + 2) := by
  refine (trim_cc hPY w.heap.size d g k w2 h2 hc hd hpl (by omega) (hT.below hb)).mono ?_
  rintro e w' ⟨x, q, rfl, hA, hp', hpo⟩
  obtain ⟨g', h1, h3⟩ := hpo.go hd hb.size
  exact ⟨_, g', _, rfl, h1, hb.trans h3, hA, hp'⟩
theorem crashed_step (d : Nat) (g : Gu) (p : PS) (vp : Value) (zp : List Int) (w w2 : World) {k : Nat} (hk : k ≤ 300) (hd : Dk w.heap.size w2 d g p) (hb : Below w.heap.size w w2) (hpl : PlayAt p 65536 k) (hp : SeesI w vp zp) :
    Calls Tryz.prog 19 #[ptr d, vp] w2 fun e w' => ∃ (x : Int) (g' : Gu), e = .returned (.int .i64 x) ∧ Dk w.heap.size w' d g' (crashP p zp) ∧ Below w.heap.size w w' ∧ PlayAt (crashP p zp) 65536 (k + 1) := by
  refine (crash_any w.heap.size d g p vp zp w2 hd (hpl.sane hk) (hp.upd (Upd.ofBelow hb : Upd w w2 (fun _ => False)) (fun _ _ _ => id)) (fun b hbk h0 hf => ?_)).mono ?_
  · have h1 := hd.ge hf
    rcases hp with ⟨h, _⟩ | ⟨b', off, cap, rfl, _, h3, _⟩
    · rw [h] at h0; simp at h0
    · simp only [Value.ownBlock, Option.some.injEq] at hbk
      omega
  · rintro e w' ⟨rfl, hpo⟩
    obtain ⟨g', h1, h3⟩ := hpo.go hd hb.size
    exact ⟨_, g', rfl, h1, hb.trans h3, hpl.crash zp⟩
/-- What Load answers behind the crash. -/
theorem load_step (hPY : ParseYes) (d : Nat) (g : Gu) (w w2 : World) {k : Nat} {fst : Bool} {za zb : List Int} {p : PS} (h2 : Two za zb) (h : Cr fst za zb p) (hk : k ≤ 300) (hd : Dk w.heap.size w2 d g p) (hb : Below w.heap.size w w2) (hpl : PlayAt p 65536 k) (hT : HasTab w) :
    Calls Tryz.prog 12 #[ptr d] w2 fun e w' => ((e = .returned (.tuple #[.agg #[.int .i64 0, .int .i64 0, .slice none 0 0], .slice none 0 0, .int .i64 2]) ∧ bF 9 (sB zb) ∉ p.fs ∧ bF 3 (sA za) ∉ p.fs) ∨
      (∃ vv dv, e = .returned (.tuple #[.agg #[.int .i64 9, .int .i64 1, vv], dv, .int .i64 0]) ∧ SeesI w' vv [] ∧ Sees w' dv zb) ∨
      (fst = true ∧ bF 9 (sB zb) ∉ p.fs ∧ ∃ vv dv, e = .returned (.tuple #[.agg #[.int .i64 3, .int .i64 1, vv], dv, .int .i64 0]) ∧ SeesI w' vv [] ∧ Sees w' dv za)) ∧ Below w.heap.size w w' := by
  refine (load_cr hPY w.heap.size d g w2 h2 h hd (by have := hpl.tot; omega) (by have := hpl.len; omega) (hT.below hb)).mono ?_
  rintro e w' ⟨h1, h3⟩
  exact ⟨h1, hb.trans (h3.mono hb.size)⟩
end Go.Proofs.YtdcpfjlnagigaaaGreatDoor
