/- refuse where all may be saved; a log whose state said more. -/
import Derived.Test.YtecnlfalpfbobaaGreatDoorWL2
import Derived.Test.YtecnlfalpfbobaaGreatDoorWL3
import Derived.Test.YtecnlfalpfbobaaGreatDoorWL4
import Derived.Test.YtecnlfalpfbobaaGreatDoorWC8
namespace Go.Proofs.YtecnlfalpfbobaaGreatDoor
open Go Go.RowKit
def HardOk : Option (Int × Int × Int) → Prop
  | none => True
  | some (t, v, c) => 0 ≤ t ∧ -1 ≤ v ∧ 0 ≤ c
theorem HardAt.below {w w' : World} {v : Value} : ∀ {h : Option (Int × Int × Int)}, HardAt w v h → Below w.heap.size w w' → HardAt w' v h
  | none, h, _ => h
  | some (_, _, _), h, hb => by
    obtain ⟨b, e, hl, h0, h1, h2⟩ := h
    exact ⟨b, e, Nat.lt_of_lt_of_le hl hb.size, (hb.cell (p := ⟨b, 0, none⟩) hl).trans h0, (hb.cell (p := ⟨b, 1, none⟩) hl).trans h1, (hb.cell (p := ⟨b, 2, none⟩) hl).trans h2⟩
set_option maxRecDepth 100000 in
set_option maxHeartbeats 1000000 in
theorem refuse_ok (B l : Nat) (s : Sm) (ev v hv : Value) (h : Option (Int × Int × Int)) (xs : List Ev) (w : World) (hm : Smem B w l 1 s ev) (hx : SeesE w v xs) (ht : Takes s xs) (hn : xs.length ≤ 100000) (hh : HardAt w hv h) (hho : HardOk h) :
    Calls Tryz.prog 47 #[ptr l, hv, v] w fun e w' => e = .returned (.int .i64 0) ∧ Below w.heap.size w w' := by
  have hre := refuseEntries_ok B l s ev v xs w hm hx ht hn
  obtain ⟨ao, cp, rfl, hcm⟩ := hx.form
  clear hm hx ht
  cases h with
  | none =>
    obtain rfl : hv = .pointer none := hh
    go_enter Tryz.func47, Tryz.ntmps47
    go_wp2_with (go_at_call 90; refine hre.mono ?_; rintro e w1 ⟨rfl, hb1⟩)
    go_ret
    exact ⟨rfl, hb1⟩
  | some y =>
    obtain ⟨t, vo, c⟩ := y
    obtain ⟨b, rfl, hl, h0, h1, h2⟩ := hh
    obtain ⟨k0, k1, k2⟩ := hho
    have hg1 : decide (t < 0) = false := by rw [decide_eq_false_iff_not]; omega
    have hg2 : decide (vo < -1) = false := by rw [decide_eq_false_iff_not]; omega
    have hg3 : decide (c < 0) = false := by rw [decide_eq_false_iff_not]; omega
    go_enter Tryz.func47, Tryz.ntmps47
    go_wp2_with (go_at_call 90; refine hre.mono ?_; rintro e w1 ⟨rfl, hb1⟩; have d0 := (hb1.cell (p := ⟨b, 0, none⟩) hl).trans h0; have d1 := (hb1.cell (p := ⟨b, 1, none⟩) hl).trans h1; have d2 := (hb1.cell (p := ⟨b, 2, none⟩) hl).trans h2)
    go_ret
    exact ⟨rfl, hb1⟩
/-- Behind the sayings of a log's own state. -/
theorem Lg.said {B : Nat} {w w' : World} {l d : Nat} {g : Gu} {p : PS} {s s' : Sm} {ev : Value} {newest left : Int} (h : Lg B w l d g p s ev newest left) (hp : SmPost B w w' l 1 ev s')
    (hall : StAll (EvAway (Foot d g)) (VvAway (Foot d g)) s') : ∃ ev', Lg B w' l d g p s' ev' newest left ∧ Upd w w' (fun k => k = l ∨ some k = ev.ownBlock) ∧ Owned w ev ev' := by
  obtain ⟨ev', hm, hu, ho, kp⟩ := hp
  refine ⟨ev', ⟨(kp 0 (.inl (by omega))).trans h.c0, hm, (kp 8 (.inr (by omega))).trans h.c8, (kp 9 (.inr (by omega))).trans h.c9, (kp 10 (.inr (by omega))).trans h.c10, h.dk.upd hu (fun k hk e => ?_), fun k hk => ⟨(h.fl k hk).1, fun e => ?_⟩, hall.1, hall.2⟩, hu, ho⟩
  · rcases e with e | e
    · exact (h.fl k hk).1 e
    · exact (h.fl k hk).2 e.symm
  · rcases ho with ho | ho | ⟨g8, hg8, ho⟩
    · rw [ho] at e; exact (h.fl k hk).2 e
    · rw [ho] at e; cases e
    · rw [ho] at e; have h1 := Option.some.inj e; have h2 := h.dk.lt hk; omega
end Go.Proofs.YtecnlfalpfbobaaGreatDoor
