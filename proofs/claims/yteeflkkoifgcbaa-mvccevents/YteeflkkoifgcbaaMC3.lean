/- A key as a write sees it. -/
import Derived.Test.YteeflkkoifgcbaaMC2
import Derived.Deep.RegionHeldLaw
namespace Go.Proofs.Yteeflkkoifgcbaa
open Go Go.RowKit

theorem at_now {n : Nat} {w : World} {s : Nat} {S : Sto} {g : Sg} {o : Value} (h : St n w s S g o) (key : ByteArray) :
    Calls Try.prog 31 #[ptr s, .string key, .int .i64 S.rev] w fun e w' => e = .returned (.tuple #[encKV ((thereH (S.kh key)).getD noKV), .bool (thereH (S.kh key)).isSome]) ∧ Below w.heap.size w w' := by
  have ha : atH (S.kh key) S.rev = thereH (S.kh key) := atH_all (fun p hp => ((h.hok key).pos p hp).2)
  have := at_any h key S.rev (fun W hb => by rw [ha]; exact last_now (h.below hb) key)
  rw [ha] at this
  exact this
/-- A key behind what a write has done. -/
def lookW (S : Sto) (W : Wri) (key : ByteArray) : Option KVd := (W.ch key).getD (thereH (S.kh key))
set_option maxRecDepth 100000 in
set_option maxHeartbeats 400000 in
theorem look_st {n : Nat} {w : World} {s b : Nat} {S : Sto} {W : Wri} {g : Sg} {h : Wg} (H : Ow n w s b S W g h) (key : ByteArray) :
    Calls Try.prog 23 #[ptr b, .string key] w fun e w' => e = .returned (.tuple #[encKV ((lookW S W key).getD noKV), .bool (lookW S W key).isSome]) ∧ Below w.heap.size w w' := by
  have hb0 : Below w.heap.size w (w.alloc (.cells #[.string ⟨#[]⟩, .string ⟨#[]⟩, .int .i64 0, .int .i64 0, .int .i64 0, .int .i64 0] 56)) := (Below.refl _ w).alloc (Nat.le_refl _) _
  have r0 := row_alloc w #[.string ⟨#[]⟩, .string ⟨#[]⟩, .int .i64 0, .int .i64 0, .int .i64 0, .int .i64 0] 56
  generalize hV : w.alloc (.cells #[.string ⟨#[]⟩, .string ⟨#[]⟩, .int .i64 0, .int .i64 0, .int .i64 0, .int .i64 0] 56) = V at *
  have hVs : V.heap.size = w.heap.size + 1 := by rw [← hV]; simp
  have HV := Hid.mk'' (H.below hb0)
  obtain ⟨c0, -, c2, -⟩ := HV.out.wr.cells
  have hlk : (Instr.lookup 65 (.map (some h.bw)) (.string key) false).run Try.prog V = .ok ((wcF W key).getD .nilIface) V := HV.out.wr.mp.look law65 Try.underlying65 (zero71 _) key false
  unfold lookW
  cases e : W.ch key with
  | none =>
    have e2 : wcF W key = none := by unfold wcF; rw [e]; rfl
    rw [e2] at hlk
    dsimp only [Option.getD_none] at hlk ⊢
    obtain ⟨d0, -⟩ := HV.out.st.cells
    have hbl : b < w.heap.size := (Array.getElem?_eq_some_iff.1 H.wr.blk).1
    have hsl : s < w.heap.size := (Array.getElem?_eq_some_iff.1 H.st.blk).1
    clear e e2 H
    go_enter Try.func23, Try.ntmps23
    go_upto_region 3 with fail
    have hdr : Below V.heap.size V V.drew := (Below.refl _ _).drew
    have hat := at_now (HV.out.st.below hdr) key
    have HR0 := Hid.mk'' r0
    have HB0 := Hid.mk'' hb0
    have c0d : V.drew.cell? ⟨b, 0, none⟩ = some (ptr s) := c0
    have d0d : V.drew.cell? ⟨s, 0, none⟩ = some (.int .i64 S.rev) := d0
    generalize hkv : (thereH (S.kh key)).getD noKV = kv at *
    generalize hth : (thereH (S.kh key)).isSome = th at *
    have HKV := Hid.mk'' hkv
    have HTH := Hid.mk'' hth
    obtain ⟨kk, kvv, kcr, kmo, kve, kle⟩ := kv
    dsimp only [encKV] at hat
    have hS0 : V.drew.cell? ⟨b, 0, none⟩ = some (ptr s) ∧ V.drew.cell? ⟨s, 0, none⟩ = some (.int .i64 S.rev) := ⟨c0, d0⟩
    have HN : ∀ W, Hid (Below V.heap.size V.drew W → W.cell? ⟨b, 0, none⟩ = some (ptr s) ∧ W.cell? ⟨s, 0, none⟩ = some (.int .i64 S.rev)) := fun W hb => ⟨(hb.cell (p := ⟨b, 0, none⟩) (by show b < _; omega)).trans c0, (hb.cell (p := ⟨s, 0, none⟩) (by show s < _; omega)).trans d0⟩
    have HRW : ∀ W, Hid (Below V.heap.size V.drew W → W.heap[w.heap.size]? = some (.cells #[.string ⟨#[]⟩, .string ⟨#[]⟩, .int .i64 0, .int .i64 0, .int .i64 0, .int .i64 0] 56 (0, 0)) ∧ Hid (Below w.heap.size w W)) := fun W hb => ⟨(hb.block w.heap.size (by omega)).trans r0, hb0.drew.trans (hb.mono hb0.size)⟩
    have hn1 : ¬ b = w.heap.size := by omega
    have hn2 : ¬ s = w.heap.size := by omega
    have hn3 : ¬ w.heap.size = b := by omega
    have hn4 : ¬ w.heap.size = s := by omega
    clear HV hdr hkv hth r0 hb0 hV hVs c0 c2 d0 hlk hbl hsl
    go_region_held_law (fun W => W.cell? ⟨b, 0, none⟩ = some (ptr s) ∧ W.cell? ⟨s, 0, none⟩ = some (.int .i64 S.rev)) (first | with_reducible assumption | (show _ ∧ _; with_reducible assumption) | with_reducible exact ⟨cell6 hS3.1 hn1 _ _ _ _ _ _, cell6 hS3.2 hn2 _ _ _ _ _ _⟩) (first | (go_at_call 31; refine hat.mono ?_; rintro e w3 ⟨rfl, hb3⟩; have hS3 := (HN w3).out hb3; obtain ⟨r3, HB⟩ := (HRW w3).out hb3; obtain ⟨⟨k0, k1, k2, k3, k4, k5⟩, f0, f1, f2, f3, f4, f5⟩ := box6 r3; have HR := Hid.mk'' r3; clear r3 hb3 hat))
    all_goals
      go_wp2
      refine bodyPost_ret (results_ct rfl _ _ w.heap.size 56 #[.string kk, .string kvv, .int .i64 kcr, .int .i64 kmo, .int .i64 kve, .int .i64 kle] (0, 0) _ rfl (set6 HR.out _ _ _ _ _ _) Try.underlying56 rfl size56) rfl ?_
      exact ⟨by rw [HKV.out, HTH.out]; rfl, below6 HB.out (Nat.le_refl _) _ _ _ _ _ _⟩
  | some o =>
    have e2 : wcF W key = some (encC key o) := by unfold wcF; rw [e]; rfl
    rw [e2] at hlk
    dsimp only [Option.getD_some] at hlk ⊢
    clear e e2 H HV
    obtain ⟨ti, xi, kv, th, hni, hkt, hta⟩ : ∃ ti xi kv th, encC key o = .iface ti xi ∧ Hid (o.getD noKV = kv ∧ o.isSome = th) ∧ ∀ W, (Instr.typeAssert (.iface ti xi) 71 76 true).run Try.prog W = .ok (.tuple #[encKV kv, .bool th]) W := by
      cases o with
      | none => exact ⟨79, _, noKV, false, rfl, ⟨rfl, rfl⟩, fun W => ta_no _ W⟩
      | some kv => exact ⟨76, _, kv, true, rfl, ⟨rfl, rfl⟩, fun W => ta_yes _ W⟩
    rw [hni] at hlk
    obtain ⟨kk, kvv, kcr, kmo, kve, kle⟩ := kv
    dsimp only [encKV] at hta
    clear hni
    go_enter Try.func23, Try.ntmps23
    go_upto_region 5 with fail
    obtain ⟨w2, hw2⟩ : ∃ w2, w2 = V.alloc (.cells #[.string kk, .string kvv, .int .i64 kcr, .int .i64 kmo, .int .i64 kve, .int .i64 kle] 76) := ⟨_, rfl⟩
    rw [← hw2]
    have hrow := (heap_alloc_old V (.cells #[.string kk, .string kvv, .int .i64 kcr, .int .i64 kmo, .int .i64 kve, .int .i64 kle] 76) (show w.heap.size < V.heap.size by omega)).trans r0
    have hbox := row_alloc V #[.string kk, .string kvv, .int .i64 kcr, .int .i64 kmo, .int .i64 kve, .int .i64 kle] 76
    have HB2 := Hid.mk'' (hb0.alloc (by omega) (.cells #[.string kk, .string kvv, .int .i64 kcr, .int .i64 kmo, .int .i64 kve, .int .i64 kle] 76))
    rw [← hw2] at hrow hbox HB2
    rw [hVs] at hbox
    obtain ⟨⟨k0, k1, k2, k3, k4, k5⟩, f0, f1, f2, f3, f4, f5⟩ := box6 hrow
    obtain ⟨⟨b0, b1, b2, b3, b4, b5⟩, -⟩ := box6 hbox
    have HR2 := Hid.mk'' hrow
    clear hw2 hrow hbox hV hVs hb0 r0 c0 c2 hlk hta
    go_wp2
    refine bodyPost_ret (results_ct rfl _ _ w.heap.size 56 #[.string kk, .string kvv, .int .i64 kcr, .int .i64 kmo, .int .i64 kve, .int .i64 kle] (0, 0) _ rfl (set6 HR2.out _ _ _ _ _ _) Try.underlying56 rfl size56) rfl ?_
    exact ⟨by rw [hkt.out.1, hkt.out.2]; rfl, below6 HB2.out (Nat.le_refl _) _ _ _ _ _ _⟩
end Go.Proofs.Yteeflkkoifgcbaa
