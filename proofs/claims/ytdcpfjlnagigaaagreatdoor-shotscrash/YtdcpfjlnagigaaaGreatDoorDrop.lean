/- drop: a file leaves the map, and its room is free. -/
import Derived.Test.YtdcpfjlnagigaaaGreatDoorFiles
namespace Go.Proofs.YtdcpfjlnagigaaaGreatDoor
open Go Go.RowKit
def lenAt (fs : List Fl) (nm : List UInt8) : Nat := ((lookK Fl.nm nm fs).map (fun f => f.pf.xs.length)).getD 0
set_option maxHeartbeats 1000000 in
theorem drop_any (B d : Nat) (g : Gu) (s : ByteArray) (w : World) (room used ops stops : Int) (dead : Bool) (hc : DCells w d g.m room used ops stops dead) (hr : DRest B w d g) (hs : s.size ≤ maxLen) (hu0 : (lenAt g.fs s.data.toList : Int) ≤ used) (hu1 : used ≤ 1000000) :
    Calls Tryz.prog 67 #[ptr d, .string s] w fun e w' => e = .returned (.tuple #[]) ∧ DCells w' d g.m room (used - lenAt g.fs s.data.toList) ops stops dead ∧ DRest B w' d ⟨g.m, delK Fl.nm s.data.toList g.fs⟩ ∧ Upd w w' (fun k => k = d ∨ g.m = some k) := by
  have hlk := hr.lookup s hs
  have c0 := hc.c0
  have hdl := hc.lt
  cases hl : lookK Fl.nm s.data.toList g.fs with
  | none =>
    rw [hl] at hlk
    simp only [Option.map_none, Option.isSome_none] at hlk
    have HL : Hid (lenAt g.fs s.data.toList = 0) := by show _ = _; unfold lenAt; rw [hl]; rfl
    have HD := Hid.mk' (del_none hl)
    have HC := Hid.mk' hc; have HR := Hid.mk' hr
    clear hc hr
    go_enter Tryz.func67, Tryz.ntmps67
    go_wp2
    go_end0
    refine ⟨rfl, ?_, ?_, Upd.refl _ _⟩
    · rw [HL.out]; simpa using HC.out
    · rw [HD.out]; exact HR.out
  | some f =>
    obtain ⟨hfn, pre, post, hfs⟩ := look_parts hl
    have hfm : f ∈ g.fs := by rw [hfs]; simp
    have hf := hr.files f hfm
    have hfd : f.blk ≠ d := (hr.off f hfm f.blk (.inl rfl)).1
    obtain ⟨ao, cp, hv⟩ := owns_form hf.own
    have fc0 := hf.c0
    rw [hv] at fc0
    have f2 := hc.f2
    have c2 := hc.c2
    have hL : lenAt g.fs s.data.toList = f.pf.xs.length := by unfold lenAt; rw [hl]; rfl
    rw [hL] at hu0 ⊢
    obtain ⟨b, hm⟩ : ∃ b, g.m = some b := by
      rcases hr.map with ⟨_, e⟩ | ⟨b, e, _⟩
      · rw [e] at hfs; simp at hfs
      · exact ⟨b, e⟩
    rw [hl] at hlk
    simp only [Option.map_some, Option.isSome_some] at hlk
    rw [hm] at hlk c0
    have hbd : b ≠ d := hr.ne (.inl hm)
    have HST : Hid (∀ w1 ty, Upd w w1 (fun k => k = d) → DCells w1 d g.m room (used - f.pf.xs.length) ops stops dead → ∃ w3, (Builtin.delete_ #[63, 9] ty #[.map (some b), .string s]).run Tryz.prog w1 = .ok (.tuple #[]) w3 ∧ (DCells w3 d g.m room (used - f.pf.xs.length) ops stops dead ∧ DRest B w3 d ⟨g.m, delK Fl.nm s.data.toList g.fs⟩ ∧ Upd w w3 (fun k => k = d ∨ g.m = some k))) := by
      intro w1 ty hu1 hc1
      have hr1 := hr.upd hu1 (fun k hk e => hr.ne hk e)
      have hm1 : w1.ownsMap Tryz.prog 9 Rf b g.fs.length (.map (g.fs.map ent)) := by
        rcases hr1.map with ⟨e, _⟩ | ⟨b', e, _, _, h⟩
        · rw [e] at hm; cases hm
        · rw [e] at hm; cases hm; exact h
      obtain ⟨w3, h1, h2, h3⟩ := DRest.strike hm1 s hs ty
      refine ⟨w3, h1, hc1.upd h3 (fun e => hbd e.symm), ?_, ?_⟩
      · have := hr1.del hm s.data.toList h3 h2
        rw [hm]; exact this
      · exact (hu1.mono (fun _ _ h => .inl h)).trans h3 (fun j _ e => .inr (by rw [hm, e]))
    have HC := Hid.mk' hc
    clear hc hr hf hfs hl hfm hfn hv
    go_enter Tryz.func67, Tryz.ntmps67
    go_wp2_with fail
    go_region
    have HU := (upd_cell w d 2 (.int .i64 (used - f.pf.xs.length))).drew
    have HC2 := (HC.out.set2 (used - f.pf.xs.length)).upd ((Upd.refl _ (fun _ => False)).drew) (fun h => h)
    have d0 := HC2.c0
    rw [hm] at d0
    generalize (w.setCell ⟨d, 2, none⟩ (.int .i64 (used - f.pf.xs.length))).drew = W1 at *
    obtain ⟨w3, hrun, H3⟩ := HST.out W1 0 HU HC2
    clear HU HC2
    go_wp2
    go_end0
    exact ⟨rfl, H3⟩
end Go.Proofs.YtdcpfjlnagigaaaGreatDoor
