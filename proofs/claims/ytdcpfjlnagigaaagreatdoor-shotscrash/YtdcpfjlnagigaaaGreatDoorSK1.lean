/- A disk that goes on: what Save and Trim leave on it. -/
import Derived.Test.YtdcpfjlnagigaaaGreatDoorSL2
namespace Go.Proofs.YtdcpfjlnagigaaaGreatDoor
open Go Go.RowKit
structure Calm (p : PS) : Prop where
  dead : p.dead = false
  stops : p.stops = 0
  up : upK PF.name p.fs
theorem Calm.go {p : PS} (h : Calm p) : p.stopped = false := stopped_no h.dead h.stops
theorem mem_ins {f x : PF} {l : List PF} : x ∈ insK PF.name f l ↔ x = f ∨ x ∈ l := by rw [(ins_perm f l).mem_iff, List.mem_cons]
theorem mem_delK {x : PF} {nm : List UInt8} {l : List PF} : x ∈ delK PF.name nm l ↔ x ∈ l ∧ x.name ≠ nm := by
  unfold delK
  rw [List.mem_filter]
  simp
theorem look_mem {p : PS} (hup : upK PF.name p.fs) {f : PF} (hf : f ∈ p.fs) : p.look f.name = some f := by
  obtain ⟨pre, post, e⟩ := List.append_of_mem hf
  unfold PS.look
  rw [e] at hup ⊢
  exact look_of_parts hup rfl
theorem look_not {p : PS} {nm : List UInt8} (h : ∀ f ∈ p.fs, f.name ≠ nm) : p.look nm = none := by
  unfold PS.look lookK
  rw [List.find?_eq_none]
  intro f hf
  simpa using h f hf
theorem calm_app {p : PS} {nm : List UInt8} {ys : List Int} (h : Calm p) (hok : okName nm = true) (hr : (ys.length : Int) ≤ p.room - total p.fs) (hno : ∀ f ∈ p.fs, f.name ≠ nm) :
    appE p nm ys.length = 0 ∧ Calm (appP p nm ys) ∧ (appP p nm ys).fs = insK PF.name ⟨nm, ys, 0⟩ p.fs ∧ (appP p nm ys).room = p.room := by
  have hE := appE_ok h.go hok hr
  have ho : oldF p nm = ⟨nm, [], 0⟩ := by unfold oldF; rw [look_not hno]; rfl
  have hd : delK PF.name nm p.fs = p.fs := del_none (look_not hno)
  have hfs : (appP p nm ys).fs = insK PF.name ⟨nm, ys, 0⟩ p.fs := by
    rw [appP_yes hE, ho]
    show insK PF.name _ (delK PF.name nm p.begun.fs) = _
    rw [begun_fs, hd]
    rfl
  obtain ⟨_, b2, b3⟩ := begun_zero h.dead h.stops
  obtain ⟨a1, _, a3, a4⟩ := app_rest p nm ys
  refine ⟨hE, ⟨by rw [a4, b3], by rw [a3, b2], ?_⟩, hfs, by rw [a1, begun_room]⟩
  rw [hfs]
  exact up_ins h.up hno
theorem calm_sync {p : PS} {nm : List UInt8} {f : PF} (h : Calm p) (hok : okName nm = true) (hf : f ∈ p.fs) (hn : f.name = nm) :
    opE p nm = 0 ∧ Calm (syncP p nm) ∧ (syncP p nm).fs = insK PF.name ⟨nm, f.xs, f.xs.length⟩ (delK PF.name nm p.fs) ∧ (syncP p nm).room = p.room := by
  have hl := look_mem h.up hf
  rw [hn] at hl
  have hE : opE p nm = 0 := by rw [opE_go h.go]; unfold PS.fault; rw [hok, hl]; rfl
  have ho : oldF p nm = f := by unfold oldF; rw [hl]; rfl
  have hfs : (syncP p nm).fs = insK PF.name ⟨nm, f.xs, f.xs.length⟩ (delK PF.name nm p.fs) := by
    unfold syncP
    rw [if_pos hE, ho]
    show insK PF.name _ (delK PF.name nm p.begun.fs) = _
    rw [begun_fs]
  obtain ⟨_, b2, b3⟩ := begun_zero h.dead h.stops
  obtain ⟨a1, _, a3, a4⟩ := sync_rest p nm
  refine ⟨hE, ⟨by rw [a4, b3], by rw [a3, b2], ?_⟩, hfs, by rw [a1, begun_room]⟩
  rw [hfs]
  exact up_put h.up rfl
theorem calm_ren {p : PS} {a b : List UInt8} {f : PF} (h : Calm p) (hoa : okName a = true) (hob : okName b = true) (hf : f ∈ p.fs) (hn : f.name = a) :
    renE p a b = 0 ∧ Calm (renP p a b) ∧ (renP p a b).fs = insK PF.name ⟨b, f.xs, f.sy⟩ (delK PF.name b (delK PF.name a p.fs)) ∧ (renP p a b).room = p.room := by
  have hl := look_mem h.up hf
  rw [hn] at hl
  have hE : renE p a b = 0 := by rw [renE_go h.go hob]; unfold PS.fault; rw [hoa, hl]; rfl
  have ho : oldF p a = f := by unfold oldF; rw [hl]; rfl
  have hfs : (renP p a b).fs = insK PF.name ⟨b, f.xs, f.sy⟩ (delK PF.name b (delK PF.name a p.fs)) := by
    rw [renP_yes hE, ho]
    rfl
  obtain ⟨_, b2, b3⟩ := begun_zero h.dead h.stops
  obtain ⟨a1, _, a3, a4⟩ := ren_rest p a b
  refine ⟨hE, ⟨by rw [a4, b3], by rw [a3, b2], ?_⟩, hfs, by rw [a1, begun_room]⟩
  rw [hfs]
  exact up_put (up_del h.up) rfl
theorem calm_rem {p : PS} {nm : List UInt8} {f : PF} (h : Calm p) (hok : okName nm = true) (hf : f ∈ p.fs) (hn : f.name = nm) :
    opE p nm = 0 ∧ Calm (remP p nm) ∧ (remP p nm).fs = delK PF.name nm p.fs ∧ (remP p nm).room = p.room := by
  have hl := look_mem h.up hf
  rw [hn] at hl
  have hE : opE p nm = 0 := by rw [opE_go h.go]; unfold PS.fault; rw [hok, hl]; rfl
  have hfs := rem_fs h.go hok
  obtain ⟨_, b2, b3⟩ := begun_zero h.dead h.stops
  obtain ⟨a1, _, a3, a4⟩ := rem_rest p nm
  refine ⟨hE, ⟨by rw [a4, b3], by rw [a3, b2], ?_⟩, hfs, by rw [a1, begun_room]⟩
  rw [hfs]
  exact up_del h.up
theorem sname_ok (n : Nat) (hn : n < 100) : okName (sname n) = true := by
  have : ∀ n : Fin 100, okName (sname n) = true := by decide +kernel
  exact this ⟨n, hn⟩
theorem sname_new (n : Nat) : sname n ≠ newName := fun e => by
  have := congrArg List.length e
  exact absurd this (by show (17 : Nat) ≠ 8; decide)
theorem sname_inj {a b : Nat} (ha : a < 100) (hb : b < 100) (h : sname a = sname b) : a = b := by
  have := congrArg numS h
  rwa [numS_name a ha, numS_name b hb] at this
theorem new_ok : okName newName = true := rfl
/-- What a Save leaves, where there is room. -/
theorem save_calm {p : PS} {n : Nat} {bs : List Int} (h : Calm p) (hn : n < 100) (hr : (bs.length : Int) ≤ p.room - total p.fs) (hno : ∀ f ∈ p.fs, f.name ≠ newName) :
    saveE p n bs = 0 ∧ Calm (saveP p n bs) ∧ (saveP p n bs).room = p.room ∧ (∀ f, f ∈ (saveP p n bs).fs ↔ f = ⟨sname n, bs, bs.length⟩ ∨ (f ∈ p.fs ∧ f.name ≠ sname n)) := by
  have hleft : leftN p = false := by
    unfold leftN
    rw [decide_eq_false_iff_not]
    intro hm
    obtain ⟨f, hf, e⟩ := List.mem_map.1 hm
    exact hno f hf e
  obtain ⟨e1, c1, f1, r1⟩ := calm_app h new_ok hr hno
  have hA : layAE p false = 0 := rfl
  have hAP : layA p false = p := rfl
  have hm1 : (⟨newName, bs, 0⟩ : PF) ∈ (appP p newName bs).fs := by rw [f1, mem_ins]; exact .inl rfl
  obtain ⟨e2, c2, f2, r2⟩ := calm_sync c1 new_ok hm1 rfl
  have hlE : layE p bs false = 0 := by unfold layE; rw [hA, hAP, e1, e2]; rfl
  have hlP : layP p bs false = syncP (appP p newName bs) newName := by unfold layP; rw [hA, hAP, e1]; rfl
  have hm2 : (⟨newName, bs, bs.length⟩ : PF) ∈ (syncP (appP p newName bs) newName).fs := by rw [f2, mem_ins]; exact .inl rfl
  obtain ⟨e3, c3, f3, r3⟩ := calm_ren (b := sname n) c2 new_ok (sname_ok n hn) hm2 rfl
  have hsE : saveE p n bs = 0 := by unfold saveE; rw [h.dead, hleft, hlE, hlP, e3]; rfl
  have hsP : saveP p n bs = renP (syncP (appP p newName bs) newName) newName (sname n) := by unfold saveP; rw [h.dead, hleft, hlE, hlP]; rfl
  refine ⟨hsE, by rw [hsP]; exact c3, by rw [hsP, r3, r2, r1], fun f => ?_⟩
  rw [hsP, f3, mem_ins, mem_delK, mem_delK, f2, mem_ins, mem_delK, f1, mem_ins]
  constructor
  · rintro (rfl | ⟨⟨(rfl | ⟨(rfl | hf), h2⟩), h3⟩, h4⟩)
    · exact .inl rfl
    · exact absurd rfl h3
    · exact absurd rfl h3
    · exact .inr ⟨hf, h4⟩
  · rintro (rfl | ⟨hf, h4⟩)
    · exact .inl rfl
    · exact .inr ⟨⟨.inr ⟨.inr hf, hno f hf⟩, hno f hf⟩, h4⟩
/-- The Indexes of the files. -/
theorem mem_ixs {p : PS} (hnm : ∀ f ∈ p.fs, ShotName f.name) {m : Int} : m ∈ ixs p ↔ ∃ (n : Nat) (f : PF), f ∈ p.fs ∧ f.name = sname n ∧ 0 < n ∧ n < 100 ∧ m = n := by
  show m ∈ nums numS (p.fs.map PF.name) ↔ _
  unfold nums
  rw [List.mem_map]
  constructor
  · rintro ⟨x, hx, rfl⟩
    rw [List.mem_filter, List.mem_map] at hx
    obtain ⟨⟨f, hf, rfl⟩, h0⟩ := hx
    have h0' : 0 < numS f.name := by simpa using h0
    obtain ⟨h1, h2⟩ := shotName_back (hnm f hf) h0'
    exact ⟨numS f.name, f, hf, h2.symm, h0', h1, rfl⟩
  · rintro ⟨n, f, hf, hn, h0, h1, rfl⟩
    refine ⟨f.name, ?_, by rw [hn, numS_name n h1]⟩
    rw [List.mem_filter, List.mem_map]
    exact ⟨⟨f, hf, rfl⟩, by rw [hn, numS_name n h1]; simpa using h0⟩
theorem sname_lt (a b : Nat) (ha : a < 100) (hb : b < 100) (h : bytesBefore (sname a) (sname b) = true) : a < b := by
  have : ∀ a b : Fin 100, bytesBefore (sname a) (sname b) = true → a.1 < b.1 := by decide +kernel
  exact this ⟨a, ha⟩ ⟨b, hb⟩ h
/-- They rise. -/
theorem ixs_up {p : PS} (hup : upK PF.name p.fs) (hnm : ∀ f ∈ p.fs, ShotName f.name) : (ixs p).Pairwise (· < ·) := by
  show (nums numS (p.fs.map PF.name)).Pairwise (· < ·)
  unfold nums
  rw [List.pairwise_map]
  have h1 : ((p.fs.map PF.name).filter (fun x => decide (0 < numS x))).Pairwise (fun x y => bytesBefore x y = true) := (List.pairwise_map.2 hup).filter _
  refine h1.imp_of_mem (fun {x y} hx hy hxy => ?_)
  rw [List.mem_filter, List.mem_map] at hx hy
  obtain ⟨⟨f, hf, rfl⟩, h0⟩ := hx
  obtain ⟨⟨f2, hf2, rfl⟩, h02⟩ := hy
  obtain ⟨b1, b2⟩ := shotName_back (hnm f hf) (by simpa using h0)
  obtain ⟨b3, b4⟩ := shotName_back (hnm f2 hf2) (by simpa using h02)
  have := sname_lt (numS f.name) (numS f2.name) b1 b3 (by rw [b2, b4]; exact hxy)
  exact_mod_cast this
end Go.Proofs.YtdcpfjlnagigaaaGreatDoor
