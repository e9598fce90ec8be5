/- What layBeside and Save do, whatever the disk answers. -/
import Derived.Test.YtdcpfjlnagigaaaGreatDoorSP1
namespace Go.Proofs.YtdcpfjlnagigaaaGreatDoor
open Go Go.RowKit
/-- The file beside is taken away, if it is there. -/
def layA (p : PS) (left : Bool) : PS := if left then remP p newName else p
def layAE (p : PS) (left : Bool) : Int := if left then opE p newName else 0
/-- What layBeside answers, and leaves. -/
def layE (p : PS) (bs : List Int) (left : Bool) : Int :=
  if layAE p left ≠ 0 then layAE p left else if appE (layA p left) newName bs.length ≠ 0 then appE (layA p left) newName bs.length else opE (appP (layA p left) newName bs) newName
def layP (p : PS) (bs : List Int) (left : Bool) : PS :=
  if layAE p left ≠ 0 then layA p left else if appE (layA p left) newName bs.length ≠ 0 then appP (layA p left) newName bs else syncP (appP (layA p left) newName bs) newName
def leftN (p : PS) : Bool := decide (newName ∈ p.fs.map PF.name)
/-- What Save answers, and leaves. -/
def saveE (p : PS) (n : Nat) (bs : List Int) : Int := if p.dead then 13 else if layE p bs (leftN p) ≠ 0 then layE p bs (leftN p) else renE (layP p bs (leftN p)) newName (sname n)
def saveP (p : PS) (n : Nat) (bs : List Int) : PS := if p.dead then p else if layE p bs (leftN p) ≠ 0 then layP p bs (leftN p) else renP (layP p bs (leftN p)) newName (sname n)
theorem read_yes {p : PS} {f : PF} (hup : upK PF.name p.fs) (hd : p.dead = false) (hf : f ∈ p.fs) (hok : okName f.name = true) : readE p f.name = 0 ∧ readB p f.name = f.xs := by
  obtain ⟨pre, post, e⟩ := List.append_of_mem hf
  have hl : p.look f.name = some f := by
    unfold PS.look
    rw [e] at hup ⊢
    exact look_of_parts hup rfl
  have h1 : readE p f.name = 0 := by
    unfold readE PS.fault
    rw [hd, hok, hl]
    rfl
  refine ⟨h1, ?_⟩
  unfold readB
  rw [if_pos h1]
  unfold oldF
  rw [hl]
  rfl
theorem Dk.upP {B : Nat} {w : World} {d : Nat} {g : Gu} {p : PS} (h : Dk B w d g p) : upK PF.name p.fs := by
  rw [h.view]
  exact List.pairwise_map.2 h.rest.up
theorem Dk.file {B : Nat} {w : World} {d : Nat} {g : Gu} {p : PS} (h : Dk B w d g p) {f : PF} (hf : f ∈ p.fs) : okName f.name = true ∧ isB f.xs := by
  rw [h.view] at hf
  obtain ⟨x, hx, rfl⟩ := List.mem_map.1 hf
  have := h.rest.files x hx
  exact ⟨this.okn, this.bytes⟩
theorem DkPost.dk {B : Nat} {w w' : World} {d : Nat} {g : Gu} {p' : PS} (h : DkPost B w w' d g p') : ∃ g', Dk B w' d g' p' ∧ Upd w w' (Foot d g) ∧ ∀ k, Foot d g' k → Foot d g k ∨ w.heap.size ≤ k := h
theorem sees_lt {w : World} {v : Value} {zs : List Int} (h : Sees w v zs) : ∀ k, v.ownBlock = some k → 0 < zs.length → k < w.heap.size := fun k hk h0 => by
  rcases h with ⟨h1, _⟩ | ⟨b, off, cap, rfl, h2, _, _, hc⟩
  · rw [h1] at h0; simp at h0
  · simp only [Value.ownBlock, Option.some.injEq] at hk
    rw [← hk]
    exact World.block_lt_of_cell? _ ⟨b, off + 0, none⟩ (hc 0 h2)
set_option maxRecDepth 100000 in
set_option maxHeartbeats 1000000 in
/-- The part of layBeside behind the removal. -/
theorem beside_any (B d : Nat) (g : Gu) (p : PS) (rm : Int) (k : Nat) (v : Value) (bs : List Int) (lf : Bool) (w : World) (hd : Dk B w d g p) (hB : B ≤ w.heap.size) (hp : PlayAt p rm k) (hk : k ≤ 290) (hv : Sees w v bs) (hb : isB bs) (hl : bs.length ≤ 3000) (hoff : ∀ j, v.ownBlock = some j → 0 < bs.length → ¬ Foot d g j) :
    Calls Tryz.prog 29 #[ptr d, v, .bool lf] w fun e w' => e = .returned (.int .i64 (layE p bs lf)) ∧ DkPost B w w' d g (layP p bs lf) ∧ PlayAt (layP p bs lf) rm (k + 3) := by
  have hrm := remove_any B d g p ⟨newName.toArray⟩ w hd (hp.sane (by omega))
  obtain ⟨ao, cp, rfl⟩ := hv.form
  have HAP : Hid (∀ (w1 : World) (p1 : PS) (g1 : Gu), Dk B w1 d g1 p1 → PlayAt p1 rm (k + 1) → Upd w w1 (Foot d g) → (∀ j, Foot d g1 j → Foot d g j ∨ w.heap.size ≤ j) →
      Calls Tryz.prog 22 #[ptr d, .string ⟨newName.toArray⟩, .slice ao bs.length cp] w1 fun e w' => e = .returned (.int .i64 (appE p1 newName bs.length)) ∧ DkPost B w w' d g (appP p1 newName bs) ∧ PlayAt (appP p1 newName bs) rm (k + 2)) := by
    intro w1 p1 g1 h1 h2 h3 h4
    refine (append_any B d g1 p1 ⟨newName.toArray⟩ _ bs w1 h1 (h2.sane (by omega)) (Nat.le_trans hB h3.size) (hv.upd h3 hoff) hb (fun j hj h0 e => (h4 j e).elim (hoff j hj h0) (fun h => by have := sees_lt hv j hj h0; omega)) (by omega)).mono ?_
    rintro e w' ⟨rfl, hp'⟩
    exact ⟨rfl, DkPost.next h3 h4 hp', h2.app h1.upP newName bs (by omega)⟩
  have HSY : Hid (∀ (w2 : World) (p2 : PS) (g2 : Gu), Dk B w2 d g2 p2 → PlayAt p2 rm (k + 2) → Upd w w2 (Foot d g) → (∀ j, Foot d g2 j → Foot d g j ∨ w.heap.size ≤ j) →
      Calls Tryz.prog 58 #[ptr d, .string ⟨newName.toArray⟩] w2 fun e w' => e = .returned (.int .i64 (opE p2 newName)) ∧ DkPost B w w' d g (syncP p2 newName) ∧ PlayAt (syncP p2 newName) rm (k + 3)) := by
    intro w2 p2 g2 h1 h2 h3 h4
    refine (sync_any B d g2 p2 ⟨newName.toArray⟩ w2 h1 (h2.sane (by omega))).mono ?_
    rintro e w' ⟨rfl, hp'⟩
    exact ⟨rfl, DkPost.next h3 h4 hp', h2.sync h1.upP newName⟩
  have HD := Hid.mk' hd
  have HP := Hid.mk' hp
  have HUP := Hid.mk' hd.upP
  clear hd hp hv hb hoff
  cases lf with
  | true =>
    have hA : layA p true = remP p newName := rfl
    have hAE : layAE p true = opE p newName := rfl
    unfold layE layP
    rw [hA, hAE]
    have hrm : Calls Tryz.prog 46 #[ptr d, .string ⟨newName.toArray⟩] w fun e w' => e = .returned (.int .i64 (opE p newName)) ∧ DkPost B w w' d g (remP p newName) := hrm
    have HPR : Hid (PlayAt (remP p newName) rm (k + 1)) := HP.out.rem newName
    generalize opE p newName = e1 at *
    generalize remP p newName = p1 at *
    by_cases h1 : e1 = 0
    · subst h1
      rw [if_neg (show ¬ ((0 : Int) ≠ 0) from by simp), if_neg (show ¬ ((0 : Int) ≠ 0) from by simp)]
      by_cases h2 : appE p1 newName bs.length = 0
      · rw [h2, if_neg (show ¬ ((0 : Int) ≠ 0) from by simp), if_neg (show ¬ ((0 : Int) ≠ 0) from by simp)]
        go_enter Tryz.func29, Tryz.ntmps29
        go_wp2_with (go_at_call 46; refine hrm.mono ?_; rintro e w1 ⟨rfl, hp1⟩; obtain ⟨g1, hd1, hu1, hf1⟩ := hp1; have hap := HAP.out w1 _ g1 hd1 HPR.out hu1 hf1; rw [h2] at hap; clear hrm hd1 hu1 hf1)
        refine hap.mono ?_
        rintro e w2 ⟨rfl, hp2, hpl2⟩
        obtain ⟨g2, hd2, hu2, hf2⟩ := hp2
        have hsy := HSY.out w2 _ g2 hd2 hpl2 hu2 hf2
        clear hap hd2 hu2 hf2 hpl2
        go_wp2_with (go_at_call 58; refine hsy.mono ?_; rintro e w3 ⟨rfl, hp3⟩)
        go_ret
        exact ⟨rfl, hp3⟩
      · rw [if_pos h2, if_pos h2]
        have hne : (appE p1 newName bs.length != 0) = true := by simp [h2]
        go_enter Tryz.func29, Tryz.ntmps29
        go_wp2_with (go_at_call 46; refine hrm.mono ?_; rintro e w1 ⟨rfl, hp1⟩; obtain ⟨g1, hd1, hu1, hf1⟩ := hp1; have hap := HAP.out w1 _ g1 hd1 HPR.out hu1 hf1; clear hrm hd1 hu1 hf1)
        refine hap.mono ?_
        rintro e w2 ⟨rfl, hp2, hpl2⟩
        clear hap
        go_wp2_with fail
        go_ret
        exact ⟨rfl, hp2, hpl2.more⟩
    · rw [if_pos h1, if_pos h1]
      have hne : (e1 != 0) = true := by simp [h1]
      go_enter Tryz.func29, Tryz.ntmps29
      go_wp2_with (go_at_call 46; refine hrm.mono ?_; rintro e w1 ⟨rfl, hp1⟩)
      go_ret
      exact ⟨rfl, hp1, HPR.out.more.more⟩
  | false =>
    have hA : layA p false = p := rfl
    have hAE : layAE p false = 0 := rfl
    unfold layE layP
    rw [hA, hAE, if_neg (show ¬ ((0 : Int) ≠ 0) from by simp), if_neg (show ¬ ((0 : Int) ≠ 0) from by simp)]
    have hap := HAP.out w _ g HD.out HP.out.more (Upd.refl _ _) (fun _ h => .inl h)
    clear hrm
    generalize appE p newName bs.length = e2 at *
    generalize appP p newName bs = p2 at *
    by_cases h2 : e2 = 0
    · subst h2
      rw [if_neg (show ¬ ((0 : Int) ≠ 0) from by simp), if_neg (show ¬ ((0 : Int) ≠ 0) from by simp)]
      go_enter Tryz.func29, Tryz.ntmps29
      go_wp2_with fail
      refine hap.mono ?_
      rintro e w2 ⟨rfl, hp2, hpl2⟩
      obtain ⟨g2, hd2, hu2, hf2⟩ := hp2
      have hsy := HSY.out w2 _ g2 hd2 hpl2 hu2 hf2
      clear hap hd2 hu2 hf2 hpl2
      go_wp2_with (go_at_call 58; refine hsy.mono ?_; rintro e w3 ⟨rfl, hp3⟩)
      go_ret
      exact ⟨rfl, hp3⟩
    · rw [if_pos h2, if_pos h2]
      have hne : (e2 != 0) = true := by simp [h2]
      go_enter Tryz.func29, Tryz.ntmps29
      go_wp2_with fail
      refine hap.mono ?_
      rintro e w2 ⟨rfl, hp2, hpl2⟩
      clear hap
      go_wp2_with fail
      go_ret
      exact ⟨rfl, hp2, hpl2.more⟩
end Go.Proofs.YtdcpfjlnagigaaaGreatDoor
