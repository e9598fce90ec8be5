/- Append: bytes come behind a file's own. -/
import Derived.Test.YtdcpfjlnagigaaaGreatDoorDrop
namespace Go.Proofs.YtdcpfjlnagigaaaGreatDoor
open Go Go.RowKit
theorem HasF.app {B : Nat} {w w' : World} {f : Fl} {v' : Value} {ys : List Int} (hf : HasF B w f) (hy : isB ys) (h1 : w'.ownsRow B 5 1 v' (f.pf.xs.length + ys.length) (u8s f.pf.xs ++ u8s ys))
    (h2 : Upd w w' (fun k => some k = f.v.ownBlock)) (h3 : v'.ownBlock = f.v.ownBlock ∨ v'.ownBlock = some w.heap.size) :
    HasF B (w'.setCell ⟨f.blk, 0, none⟩ v') ⟨⟨f.nm, f.pf.xs ++ ys, f.pf.sy⟩, f.blk, v'⟩ ∧ Upd w (w'.setCell ⟨f.blk, 0, none⟩ v') (footF f) := by
  have hl : f.blk < w.heap.size := hf.lt (.inl rfl)
  have hnb : v'.ownBlock ≠ some f.blk := by
    rcases h3 with h | h
    · rw [h]; exact hf.ne
    · rw [h]; intro e; have := Option.some.inj e; omega
  have hn2 : ¬ (some f.blk = f.v.ownBlock) := fun e => hf.ne e.symm
  have hset := upd_cell w' f.blk 0 v'
  have e0 : w'.cell? ⟨f.blk, 0, none⟩ = some f.v := (h2.cell (p := ⟨f.blk, 0, none⟩) hl hn2).trans hf.c0
  refine ⟨⟨World.cell?_setCell_same _ _ _ e0, (World.cell?_setCell_other _ _ _ _ (by simp)).trans ((h2.cell (p := ⟨f.blk, 1, none⟩) hl hn2).trans hf.c1), by rw [World.frozen?_setCell]; exact (h2.frozen (p := ⟨f.blk, 0, none⟩) hl hn2).trans hf.f0,
    by rw [World.frozen?_setCell]; exact (h2.frozen (p := ⟨f.blk, 1, none⟩) hl hn2).trans hf.f1, ?_, hnb, hf.base, ?_, ?_, hf.okn⟩, ?_⟩
  · have := ownsRow_upd h1 hset (fun k hk e => hnb (by rw [hk, e]))
    simpa using this
  · intro x hx
    rcases List.mem_append.1 hx with hx | hx
    · exact hf.bytes x hx
    · exact hy x hx
  · have := hf.le
    simp; omega
  · exact (h2.mono (fun k _ e => .inr e.symm)).trans hset (fun j _ e => .inl e)
theorem app_done {B d : Nat} {w w' : World} {m : Option Nat} {pre post : List Fl} {f : Fl} {room used ops stops : Int} {dead : Bool} {v' : Value} {ys : List Int} (hc : DCells w d m room used ops stops dead) (hr : DRest B w d ⟨m, pre ++ f :: post⟩) (hy : isB ys)
    (h1 : w'.ownsRow B 5 1 v' (f.pf.xs.length + ys.length) (u8s f.pf.xs ++ u8s ys)) (h2 : Upd w w' (fun k => some k = f.v.ownBlock)) (h3 : v'.ownBlock = f.v.ownBlock ∨ v'.ownBlock = some w.heap.size) (u : Int) :
    DCells ((w'.setCell ⟨f.blk, 0, none⟩ v').setCell ⟨d, 2, none⟩ (.int .i64 u)) d m room u ops stops dead ∧
    DRest B ((w'.setCell ⟨f.blk, 0, none⟩ v').setCell ⟨d, 2, none⟩ (.int .i64 u)) d ⟨m, pre ++ ⟨⟨f.nm, f.pf.xs ++ ys, f.pf.sy⟩, f.blk, v'⟩ :: post⟩ ∧
    Upd w ((w'.setCell ⟨f.blk, 0, none⟩ v').setCell ⟨d, 2, none⟩ (.int .i64 u)) (fun k => k = d ∨ footF f k) := by
  have hfm : f ∈ pre ++ f :: post := by simp
  obtain ⟨hf', hu⟩ := (hr.files f hfm).app hy h1 h2 h3
  have hr1 : DRest B (w'.setCell ⟨f.blk, 0, none⟩ v') d ⟨m, pre ++ ⟨⟨f.nm, f.pf.xs ++ ys, f.pf.sy⟩, f.blk, v'⟩ :: post⟩ := hr.file rfl rfl hu hf' (fun k hk => by
    rcases h3 with h | h
    · exact .inl (h.symm.trans hk)
    · right; rw [h] at hk; have := Option.some.inj hk; omega) hc.lt
  refine ⟨(hc.upd hu (fun hk => (hr.off f hfm d hk).1 rfl)).set2 u, hr1.upd (upd_cell _ _ _ _) (fun k hk e => hr1.ne hk e), ?_⟩
  exact (hu.mono (fun _ _ h => .inr h)).trans (upd_cell _ _ _ _) (fun _ _ e => .inl e)
theorem appE_stop {p : PS} {nm : List UInt8} {n : Nat} (h : p.stopped = true) : appE p nm n = 13 := by unfold appE; rw [if_pos h]
theorem appE_arg {p : PS} {nm : List UInt8} {n : Nat} (h : p.stopped = false) (h2 : okName nm = false) : appE p nm n = 1 := by unfold appE; rw [h, h2]; rfl
theorem appE_full {p : PS} {nm : List UInt8} {n : Nat} (h : p.stopped = false) (h2 : okName nm = true) (h3 : p.room - total p.fs < n) : appE p nm n = 14 := by unfold appE; rw [h, h2]; simp; omega
theorem appE_ok {p : PS} {nm : List UInt8} {n : Nat} (h : p.stopped = false) (h2 : okName nm = true) (h3 : (n : Int) ≤ p.room - total p.fs) : appE p nm n = 0 := by unfold appE; rw [h, h2]; simp; omega
theorem appP_no {p : PS} {nm : List UInt8} {ys : List Int} (h : appE p nm ys.length ≠ 0) : appP p nm ys = p.begun := by unfold appP; rw [if_neg h]
theorem appP_yes {p : PS} {nm : List UInt8} {ys : List Int} (h : appE p nm ys.length = 0) : appP p nm ys = putP p.begun ⟨nm, (oldF p nm).xs ++ ys, (oldF p nm).sy⟩ := by unfold appP; rw [if_pos h]
theorem sane_begun {p : PS} (h : p.sane) (ho : p.ops < 1000000) : p.begun.sane := by
  unfold PS.begun
  split
  · exact ⟨h.room0, h.room1, h.stops0, h.stops1, h.ops0, h.ops1, h.tot, h.len⟩
  · have := h.stops0; have := h.stops1; have := h.ops0
    exact ⟨h.room0, h.room1, by show _ ≤ ite _ _ _; split <;> omega, by show ite _ _ _ ≤ _; split <;> omega, by show 0 ≤ p.ops + 1; omega, by show p.ops + 1 ≤ _; omega, h.tot, h.len⟩
set_option maxHeartbeats 1000000 in
theorem append_no (B d : Nat) (g : Gu) (p : PS) (s : ByteArray) (v : Value) (ys : List Int) (w : World) (hd : Dk B w d g p) (hs : p.sane) (hv : Sees w v ys) (hl : ys.length ≤ 1000000) (hE : appE p s.data.toList ys.length ≠ 0) :
    Calls Tryz.prog 22 #[ptr d, .string s, v] w fun e w' => e = .returned (.int .i64 (appE p s.data.toList ys.length)) ∧ DkPost B w w' d g (appP p s.data.toList ys) := by
  rw [appP_no hE]
  have hbeg := begin_any B d g p w hd hs
  cases hst : p.stopped with
  | true =>
    rw [appE_stop hst]
    rw [begE_yes hst] at hbeg
    clear hE hd hs hv
    go_enter Tryz.func22, Tryz.ntmps22
    go_wp2_with (go_at_call 51; refine hbeg.mono ?_; rintro e w1 ⟨rfl, hd1, hu1⟩)
    go_ret
    exact ⟨rfl, DkPost.same hd1 hu1⟩
  | false =>
    rw [begE_no hst] at hbeg
    cases hok : okName s.data.toList with
    | false =>
      rw [appE_arg hst hok]
      clear hE hd hs hv
      go_enter Tryz.func22, Tryz.ntmps22
      go_wp2_with (first | (go_at_call 51; refine hbeg.mono ?_; rintro e w1 ⟨rfl, hd1, hu1⟩) | (go_at_call 52; refine (name_any _ _).mono ?_; rintro e w2 ⟨rfl, hb2⟩))
      go_ret
      exact ⟨rfl, DkPost.same (hd1.below hb2) (hu1.trans (Upd.ofBelow hb2) (fun _ _ h => h))⟩
    | true =>
      have h3 : p.room - total p.fs < ys.length := by
        rcases Int.lt_or_le (p.room - total p.fs) ys.length with h | h
        · exact h
        · exact absurd (appE_ok hst hok h) hE
      rw [appE_full hst hok h3]
      obtain ⟨ao, cp, hvf⟩ : ∃ ao cp, v = .slice ao ys.length cp := by
        rcases hv with ⟨rfl, ao, cap, rfl, _⟩ | ⟨b, off, cap, rfl, _⟩ <;> exact ⟨_, _, rfl⟩
      subst hvf
      have r0 := hs.room0; have r1 := hs.room1; have t1 := hs.tot
      have HFS := begun_fs p
      have HRM := begun_room p
      clear hE hd hs hv
      go_enter Tryz.func22, Tryz.ntmps22
      go_wp2_with (first | (go_at_call 51; refine hbeg.mono ?_; rintro e w1 ⟨rfl, hd1, hu1⟩) | (go_at_call 52; refine (name_any _ _).mono ?_; rintro e w2 ⟨rfl, hb2⟩; have hd2 := hd1.below hb2; have c1 := hd2.cells.c1; have c2 := hd2.cells.c2; rw [HRM] at c1; rw [HFS] at c2; have HD2 := Hid.mk' hd2; have HU2 : Hid (Upd w w2 (fun k => k = d)) := hu1.trans (Upd.ofBelow hb2) (fun _ _ h => h); clear hd2 hd1 hu1 hb2 HRM HFS hbeg))
      go_quiet (fail)
      go_wp2
      go_ret
      exact ⟨rfl, DkPost.same (HD2.out.upd (Upd.drewN _ _ (fun _ => False)) (fun _ _ h => h)) (HU2.out.trans (Upd.drewN _ _ _) (fun _ _ h => h))⟩
theorem foot_file {d N : Nat} {m : Option Nat} {pre post : List Fl} {f f' : Fl} (hb : f'.blk = f.blk) (ho : ∀ k, f'.v.ownBlock = some k → f.v.ownBlock = some k ∨ N ≤ k) : ∀ k, Foot d ⟨m, pre ++ f' :: post⟩ k → Foot d ⟨m, pre ++ f :: post⟩ k ∨ N ≤ k := by
  intro k hk
  rcases hk with hk | hk | ⟨x, hx, hk⟩
  · exact .inl (.inl hk)
  · exact .inl (.inr (.inl hk))
  · have hx : x = f' ∨ x ∈ pre ++ f :: post := by
      rcases List.mem_append.1 hx with hx | hx
      · exact .inr (by simp [hx])
      · rcases List.mem_cons.1 hx with hx | hx
        · exact .inl hx
        · exact .inr (by simp [hx])
    rcases hx with rfl | hx
    · rcases hk with hk | hk
      · exact .inl (.inr (.inr ⟨f, by simp, .inl (by rw [hk, hb])⟩))
      · rcases ho k hk with h | h
        · exact .inl (.inr (.inr ⟨f, by simp, .inr h⟩))
        · exact .inr h
    · exact .inl (.inr (.inr ⟨x, hx, hk⟩))
theorem Sees.form {w : World} {v : Value} {zs : List Int} (h : Sees w v zs) : ∃ ao cap, v = .slice ao zs.length cap := by
  rcases h with ⟨rfl, ao, cap, rfl, _⟩ | ⟨b, off, cap, rfl, _⟩ <;> exact ⟨_, _, rfl⟩
set_option maxRecDepth 100000 in
set_option maxHeartbeats 2000000 in
theorem append_old (B d : Nat) (g : Gu) (p : PS) (s : ByteArray) (v : Value) (ys : List Int) (w : World) (hd : Dk B w d g p) (hs : p.sane) (hB : B ≤ w.heap.size) (hv : Sees w v ys) (hy : isB ys) (hoff : ∀ k, v.ownBlock = some k → 0 < ys.length → ¬ Foot d g k) (hl : ys.length ≤ 1000000)
    (hE : appE p s.data.toList ys.length = 0) (f : Fl) (hlk : lookK Fl.nm s.data.toList g.fs = some f) :
    Calls Tryz.prog 22 #[ptr d, .string s, v] w fun e w' => e = .returned (.int .i64 0) ∧ DkPost B w w' d g (appP p s.data.toList ys) := by
  rw [appP_yes hE]
  obtain ⟨i0, hi, hz0, hz1, hz2⟩ := info_parts info5
  have hbeg := begin_any B d g p w hd hs
  have hst : p.stopped = false := by
    cases h : p.stopped with
    | false => rfl
    | true => rw [appE_stop h] at hE; cases hE
  have hok : okName s.data.toList = true := by
    cases h : okName s.data.toList with
    | true => rfl
    | false => rw [appE_arg hst h] at hE; cases hE
  have h3 : (ys.length : Int) ≤ p.room - total p.fs := by
    rcases Int.lt_or_le (p.room - total p.fs) ys.length with h | h
    · rw [appE_full hst hok h] at hE; cases hE
    · exact h
  rw [begE_no hst] at hbeg
  have hsz : s.size ≤ maxLen := by
    have := (okName_len hok).2
    rw [Array.length_toList] at this
    have h2 : s.size ≤ 40 := this
    unfold maxLen; omega
  obtain ⟨hfn, pre, post, hfs⟩ := look_parts hlk
  have hfm : f ∈ g.fs := by rw [hfs]; simp
  have r0 := hs.room0; have r1 := hs.room1; have t1 := hs.tot
  have hft : f.pf.xs.length ≤ total p.fs := by
    rw [hd.view, hfs, List.map_append, List.map_cons, total_append, total_cons]; omega
  have hbd : f.blk ≠ d := (hd.rest.off f hfm f.blk (.inl rfl)).1
  have HFS := begun_fs p
  have HRM := begun_room p
  have HOLD : Hid (putP p.begun ⟨s.data.toList, (oldF p s.data.toList).xs ++ ys, (oldF p s.data.toList).sy⟩ = { p.begun with fs := (pre ++ ⟨⟨f.nm, f.pf.xs ++ ys, f.pf.sy⟩, f.blk, .tuple #[]⟩ :: post).map Fl.pf }) := by
    show _ = _
    have ho : oldF p s.data.toList = f.pf := by unfold oldF; rw [view_look hd, hlk]; rfl
    unfold putP
    rw [ho, HFS, hd.view, hfs]
    simp only [List.map_append, List.map_cons]
    have hup := upf hd.rest.up
    rw [hfs, List.map_append, List.map_cons] at hup
    rw [put_parts hup hfn rfl, ← hfn]
  have HTOT : Hid ((total p.fs : Int) + ys.length = total ((pre ++ (⟨⟨f.nm, f.pf.xs ++ ys, f.pf.sy⟩, f.blk, .tuple #[]⟩ : Fl) :: post).map Fl.pf)) := by
    show _ = _
    rw [hd.view, hfs]
    simp only [List.map_append, List.map_cons, total_append, total_cons, List.length_append]
    omega
  obtain ⟨ao, cp, hvf⟩ := hv.form
  have HOFF := Hid.mk' hoff
  have HD := Hid.mk' hd
  have HV := Hid.mk' hv
  clear hd hs hE hoff hv
  subst hvf
  go_enter Tryz.func22, Tryz.ntmps22
  go_wp2_with (first | (go_at_call 51; refine hbeg.mono ?_; rintro e w1 ⟨rfl, hd1, hu1⟩) | (go_at_call 52; refine (name_any _ _).mono ?_; rintro e w2 ⟨rfl, hb2⟩; have hd2 := hd1.below hb2; have HD2 := Hid.mk' hd2; have c1 := hd2.cells.c1; have c2 := hd2.cells.c2; rw [HRM] at c1; rw [HFS] at c2; have HU2 : Hid (Upd w w2 (fun k => k = d)) := hu1.trans (Upd.ofBelow hb2) (fun _ _ h => h); clear hd2 hd1 hu1 hb2 HRM HFS hbeg))
  go_quiet (fail)
  have HD3 : Hid (Dk B (w2.drewN nq) d g p.begun) := HD2.out.upd (Upd.drewN _ _ (fun _ => False)) (fun _ _ h => h)
  have HU3 : Hid (Upd w (w2.drewN nq) (fun k => k = d)) := HU2.out.trans (Upd.drewN _ _ _) (fun _ _ h => h)
  have hsz3 : w.heap.size ≤ (w2.drewN nq).heap.size := HU3.out.size
  generalize w2.drewN nq = w3 at *
  clear c1 c2 HU2 HD2
  have c0 := HD3.out.cells.c0; have c2 := HD3.out.cells.c2; have f2 := HD3.out.cells.f2
  rw [begun_fs p] at c2
  have hlu := HD3.out.rest.lookup s hsz
  rw [hlk] at hlu
  simp only [Option.map_some, Option.isSome_some] at hlu
  have hff := HD3.out.rest.files f hfm
  have g0 := hff.c0; have g1 := hff.f0
  have hsee : Sees w3 (.slice ao ys.length cp) ys := HV.out.upd HU3.out (fun k hk h0 e => HOFF.out k hk h0 (.inl e))
  have hsrc := Src_sees hsee
  have hdl := HD3.out.cells.lt
  have hfl := hff.lt (.inl rfl)
  obtain ⟨fo, fc, hfv⟩ := owns_form hff.own
  have hfown := hff.own
  have hfne := hff.ne
  have hdo : ∀ k, f.v.ownBlock = some k → k ≠ d := fun k hk => (HD3.out.rest.off f hfm k (.inr hk)).1
  rw [hfv] at g0 hfown hfne hdo
  have hnd : ¬ (p.room - (total p.fs : Int) < ys.length) := by omega
  clear hff hsee
  go_wp2_with (at_builtin; refine wpList_app _ rfl (.tmp 51) (.tmp 52) 35 35 rfl B 5 i0 Tryz.underlying35 hi hz0 hz1 hz2 (.slice fo f.pf.xs.length fc) f.pf.xs.length (u8s f.pf.xs) rfl hfown (.slice ao ys.length cp) rfl _ _ hsrc (by omega) (by omega) ?_; intro v' w4 h1 h2 h5 h6; obtain ⟨ao', c', rfl⟩ := owns_form h1; have e0 := (h2.cell (p := ⟨f.blk, 0, none⟩) hfl (fun e => hfne e.symm)).trans g0; have e1 := (h2.frozen (p := ⟨f.blk, 0, none⟩) hfl (fun e => hfne e.symm)).trans g1; have e2 := (h2.cell (p := ⟨d, 2, none⟩) hdl (fun e => hdo d e.symm rfl)).trans c2; have e3 := (h2.frozen (p := ⟨d, 2, none⟩) hdl (fun e => hdo d e.symm rfl)).trans f2)
  go_ret
  rw [← hfv] at h2 h5
  have hg : g = ⟨g.m, pre ++ f :: post⟩ := by rw [← hfs]
  have hr3 := HD3.out.rest
  rw [hg] at hr3
  obtain ⟨a1, a2, a3⟩ := app_done HD3.out.cells hr3 hy h1 h2 h5 ((total p.fs : Int) + ys.length)
  refine ⟨rfl, ⟨g.m, pre ++ ⟨⟨f.nm, f.pf.xs ++ ys, f.pf.sy⟩, f.blk, _⟩ :: post⟩, ⟨by rw [HOLD.out]; simp, ?_, a2⟩, ?_, ?_⟩
  · rw [HOLD.out]
    show DCells _ _ _ p.begun.room (total (List.map Fl.pf (pre ++ _ :: post))) p.begun.ops p.begun.stops p.begun.dead
    rw [← HTOT.out]
    exact a1
  · refine (HU3.out.mono (fun _ _ h => .inl h)).trans a3 (fun j _ h => ?_)
    rcases h with h | h
    · exact .inl h
    · exact .inr (.inr ⟨f, hfm, h⟩)
  · have := foot_file (d := d) (m := g.m) (pre := pre) (post := post) (f := f) (f' := ⟨⟨f.nm, f.pf.xs ++ ys, f.pf.sy⟩, f.blk, .slice ao' (f.pf.xs.length + ys.length) c'⟩) (N := w.heap.size) rfl (fun k hk => by
      rcases h5 with h | h
      · exact .inl (h.symm.trans hk)
      · right; have := Option.some.inj (h.symm.trans hk); omega)
    rw [← hfs] at this
    exact this
theorem lay_any (B d : Nat) (g : Gu) (f : Fl) (s : ByteArray) (w : World) (room used ops stops : Int) (dead : Bool) (hc : DCells w d g.m room used ops stops dead) (hr : DRest B w d g) (hf : HasF B w f) (hs : s.data.toList = f.nm)
    (ho : ∀ k, footF f k → k ≠ d ∧ g.m ≠ some k ∧ ∀ f2 ∈ g.fs, f2.nm ≠ f.nm → ¬ footF f2 k) (hn : g.fs.length < 1000000) (hB : B ≤ w.heap.size) :
    Calls Tryz.prog 53 #[ptr d, .string s, ptr f.blk] w fun e w' => e = .returned (.tuple #[]) ∧ ∃ b, (g.m = some b ∨ w.heap.size ≤ b) ∧ DCells w' d (some b) room used ops stops dead ∧ DRest B w' d ⟨some b, insK Fl.nm f (delK Fl.nm f.nm g.fs)⟩ ∧ Upd w w' (fun k => k = d ∨ g.m = some k) := by
  cases hm : g.m with
  | none =>
    rw [hm] at hc
    have hfs : g.fs = [] := by
      rcases hr.map with ⟨_, e⟩ | ⟨b, e, _⟩
      · exact e
      · rw [hm] at e; cases e
    refine (lay_none B d f s w room used ops stops dead hc hf hs (fun k hk => (ho k hk).1) hB hr.base).mono ?_
    rintro e w' ⟨rfl, h1, h2, h3⟩
    exact ⟨rfl, w.heap.size, .inr (Nat.le_refl _), h1, by rw [hfs]; exact h2, h3.mono (fun _ _ h => .inl h)⟩
  | some b =>
    rw [hm] at hc
    refine (lay_some B d b g f s w room used ops stops dead hc hr hm hf hs (fun k hk => ⟨(ho k hk).1, fun e => (ho k hk).2.1 (by rw [hm, e]), (ho k hk).2.2⟩) hn).mono ?_
    rintro e w' ⟨rfl, h1, h2, h3⟩
    exact ⟨rfl, b, .inl rfl, h1, h2, h3.mono (fun k _ h => .inr (by rw [h]))⟩
theorem HasF.fresh {B : Nat} (w : World) (nm : List UInt8) (hB : B ≤ w.heap.size) (hok : okName nm = true) : HasF B (w.alloc (.cells #[.slice none 0 0, .int .i64 0] 99)) ⟨⟨nm, [], 0⟩, w.heap.size, .slice none 0 0⟩ := by
  refine ⟨by simp, by simp, by simp, by simp, World.ownsRow_nil _ _ _ _, (fun e => by cases e), hB, (fun _ h => by cases h), Nat.le_refl _, hok⟩
set_option maxRecDepth 100000 in
set_option maxHeartbeats 2000000 in
theorem append_new (B d : Nat) (g : Gu) (p : PS) (s : ByteArray) (v : Value) (ys : List Int) (w : World) (hd : Dk B w d g p) (hs : p.sane) (hB : B ≤ w.heap.size) (hv : Sees w v ys) (hy : isB ys) (hoff : ∀ k, v.ownBlock = some k → 0 < ys.length → ¬ Foot d g k) (hl : ys.length ≤ 1000000)
    (hE : appE p s.data.toList ys.length = 0) (hlk : lookK Fl.nm s.data.toList g.fs = none) :
    Calls Tryz.prog 22 #[ptr d, .string s, v] w fun e w' => e = .returned (.int .i64 0) ∧ DkPost B w w' d g (appP p s.data.toList ys) := by
  rw [appP_yes hE]
  obtain ⟨i0, hi, hz0, hz1, hz2⟩ := info_parts info5
  have hbeg := begin_any B d g p w hd hs
  have hst : p.stopped = false := by
    cases h : p.stopped with
    | false => rfl
    | true => rw [appE_stop h] at hE; cases hE
  have hok : okName s.data.toList = true := by
    cases h : okName s.data.toList with
    | true => rfl
    | false => rw [appE_arg hst h] at hE; cases hE
  have h3 : (ys.length : Int) ≤ p.room - total p.fs := by
    rcases Int.lt_or_le (p.room - total p.fs) ys.length with h | h
    · rw [appE_full hst hok h] at hE; cases hE
    · exact h
  rw [begE_no hst] at hbeg
  have hsz : s.size ≤ maxLen := by
    have := (okName_len hok).2
    rw [Array.length_toList] at this
    have h2 : s.size ≤ 40 := this
    unfold maxLen; omega
  have r0 := hs.room0; have r1 := hs.room1; have t1 := hs.tot
  have hfn : g.fs.length < 1000000 := by have := hs.len; rw [hd.view, List.length_map] at this; exact this
  have HFS := begun_fs p
  have HRM := begun_room p
  obtain ⟨pre, post, hfs, _hx, HPRE, HPOST⟩ := ins_split (k := Fl.nm) (⟨⟨s.data.toList, [], 0⟩, 0, .tuple #[]⟩ : Fl) hd.rest.up (fun x hx => look_none hlk x hx)
  have hdel := del_none hlk
  have HINS : ∀ f : Fl, f.nm = s.data.toList → insK Fl.nm f g.fs = pre ++ f :: post := fun f hf => by
    rw [hfs]
    exact ins_parts (fun x hx => by rw [hf]; exact HPRE x hx) (fun x hx => by rw [hf]; exact HPOST x hx)
  have HVW : Hid (∀ f : Fl, f.pf = ⟨s.data.toList, ys, 0⟩ → insK PF.name ⟨s.data.toList, ys, 0⟩ p.fs = (pre ++ f :: post).map Fl.pf) := fun f hf => by
    rw [← HINS f (by rw [Fl.nm, hf]), map_ins name_pf, hf, hd.view]
  have HOLD : Hid ((putP p.begun ⟨s.data.toList, (oldF p s.data.toList).xs ++ ys, (oldF p s.data.toList).sy⟩) = { p.begun with fs := insK PF.name ⟨s.data.toList, ys, 0⟩ p.fs }) := by
    show _ = _
    have ho : oldF p s.data.toList = ⟨s.data.toList, [], 0⟩ := by unfold oldF; rw [view_look hd, hlk]; rfl
    have hdn : delK PF.name s.data.toList p.fs = p.fs := del_none (by rw [show lookK PF.name s.data.toList p.fs = p.look s.data.toList from rfl, view_look hd, hlk]; rfl)
    unfold putP
    rw [ho, HFS]
    show PS.mk (insK PF.name _ (delK PF.name s.data.toList p.fs)) _ _ _ _ = _
    rw [hdn]
    rfl
  obtain ⟨ao, cp, hvf⟩ := hv.form
  have HOFF := Hid.mk' hoff
  have HD := Hid.mk' hd
  have HV := Hid.mk' hv
  clear hd hs hE hoff hv
  subst hvf
  go_enter Tryz.func22, Tryz.ntmps22
  go_wp2_with (first | (go_at_call 51; refine hbeg.mono ?_; rintro e w1 ⟨rfl, hd1, hu1⟩) | (go_at_call 52; refine (name_any _ _).mono ?_; rintro e w2 ⟨rfl, hb2⟩; have hd2 := hd1.below hb2; have HD2 := Hid.mk' hd2; have c1 := hd2.cells.c1; have c2 := hd2.cells.c2; rw [HRM] at c1; rw [HFS] at c2; have HU2 : Hid (Upd w w2 (fun k => k = d)) := hu1.trans (Upd.ofBelow hb2) (fun _ _ h => h); clear hd2 hd1 hu1 hb2 HRM HFS hbeg))
  go_quiet (fail)
  have HD3 : Hid (Dk B (w2.drewN nq) d g p.begun) := HD2.out.upd (Upd.drewN _ _ (fun _ => False)) (fun _ _ h => h)
  have HU3 : Hid (Upd w (w2.drewN nq) (fun k => k = d)) := HU2.out.trans (Upd.drewN _ _ _) (fun _ _ h => h)
  have hsz3 : w.heap.size ≤ (w2.drewN nq).heap.size := HU3.out.size
  generalize w2.drewN nq = w3 at *
  clear c1 c2 HU2 HD2
  have c0 := HD3.out.cells.c0
  have hlu := HD3.out.rest.lookup s hsz
  rw [hlk] at hlu
  simp only [Option.map_none, Option.isSome_none] at hlu
  have hnd : ¬ (p.room - (total p.fs : Int) < ys.length) := by omega
  have hf0 := HasF.fresh (B := B) w3 s.data.toList (by omega) hok
  have hua : Upd w3 (w3.alloc (.cells #[.slice none 0 0, .int .i64 0] 99)) (fun _ => False) := Upd.alloc _ _ _
  have hlay := lay_any B d g ⟨⟨s.data.toList, [], 0⟩, w3.heap.size, .slice none 0 0⟩ s _ _ _ _ _ _ (HD3.out.cells.upd hua (fun h => h)) (HD3.out.rest.upd hua (fun _ _ h => h)) hf0 rfl (fun k hk => by
    rcases hk with rfl | hk
    · have hd := HD3.out.cells.lt
      refine ⟨by show w3.heap.size ≠ d; omega, fun e => ?_, fun f2 hf2 _ h => ?_⟩
      · have := HD3.out.rest.lt (.inl e); simp at this
      · have := HD3.out.rest.lt (.inr ⟨f2, hf2, h⟩); simp at this
    · cases hk) hfn (by simp; omega)
  have hINS0 := HINS ⟨⟨s.data.toList, [], 0⟩, w3.heap.size, .slice none 0 0⟩ rfl
  rw [show ({ pf := { name := s.data.toList, xs := [], sy := 0 }, blk := w3.heap.size, v := Value.slice none 0 0 } : Fl).nm = s.data.toList from rfl, hdel, hINS0] at hlay
  clear hINS0 HINS HPRE HPOST hdel hf0 hua
  go_wp2_with fail
  refine hlay.mono ?_
  rintro e w5 ⟨rfl, b, hb, hc5, hr5, hu5⟩
  rw [begun_fs] at hc5
  have hsa : (w3.alloc (.cells #[.slice none 0 0, .int .i64 0] 99)).heap.size = w3.heap.size + 1 := by simp
  have hs5 := hu5.size
  rw [hsa] at hb hs5
  have c2 := hc5.c2; have f2 := hc5.f2; have hdl := hc5.lt
  have hff := hr5.files ⟨⟨s.data.toList, [], 0⟩, w3.heap.size, .slice none 0 0⟩ (by simp)
  have g0 : w5.cell? ⟨w3.heap.size, 0, none⟩ = some (.slice none 0 0) := hff.c0
  have g1 : w5.frozen? ⟨w3.heap.size, 0, none⟩ = false := hff.f0
  have hfl : w3.heap.size < w5.heap.size := by omega
  have hbd : w3.heap.size ≠ d := (hr5.off ⟨⟨s.data.toList, [], 0⟩, w3.heap.size, .slice none 0 0⟩ (by simp) w3.heap.size (.inl rfl)).1
  have hu35 : Upd w w5 (fun k => k = d ∨ g.m = some k) := ((HU3.out.mono (fun _ _ h => .inl h)).trans (Upd.alloc w3 _ _) (fun _ _ h => h)).trans hu5 (fun _ _ h => h)
  have hsee : Sees w5 (.slice ao ys.length cp) ys := HV.out.upd hu35 (fun k hk h0 e => HOFF.out k hk h0 (by
    rcases e with e | e
    · exact .inl e
    · exact .inr (.inl e)))
  have hsrc := Src_sees hsee
  have hfown : w5.ownsRow B 5 1 (.slice none 0 0) 0 [] := World.ownsRow_nil _ _ _ _
  have HC5 := Hid.mk' hc5; have HR5 := Hid.mk' hr5; have HU5 := Hid.mk' hu35; have HB5 := Hid.mk' hb
  clear hff hsee hc5 hr5 hu35 hu5 hb hlay hlu c0
  go_wp2_with (at_builtin; refine wpList_app _ rfl (.tmp 51) (.tmp 52) 35 35 rfl B 5 i0 Tryz.underlying35 hi hz0 hz1 hz2 (.slice none 0 0) 0 [] rfl hfown (.slice ao ys.length cp) rfl _ _ hsrc (by omega) (by omega) ?_; intro v' w6 h1 h2 h5 h6; obtain ⟨ao', c', rfl⟩ := owns_form h1; have e0 := (h2.cell (p := ⟨w3.heap.size, 0, none⟩) hfl (fun e => by cases e)).trans g0; have e1 := (h2.frozen (p := ⟨w3.heap.size, 0, none⟩) hfl (fun e => by cases e)).trans g1; have e2 := (h2.cell (p := ⟨d, 2, none⟩) hdl (fun e => by cases e)).trans c2; have e3 := (h2.frozen (p := ⟨d, 2, none⟩) hdl (fun e => by cases e)).trans f2)
  go_ret
  obtain ⟨a1, a2, a3⟩ := app_done HC5.out HR5.out hy h1 h2 h5 ((total p.fs : Int) + ys.length)
  simp only [Nat.zero_add] at a1 a2 a3 h5
  refine ⟨rfl, ⟨some b, pre ++ ⟨⟨s.data.toList, [] ++ ys, 0⟩, w3.heap.size, .slice ao' ys.length c'⟩ :: post⟩, ⟨?_, ?_, a2⟩, ?_, ?_⟩
  · rw [HOLD.out]; exact HVW.out _ rfl
  · rw [HOLD.out]
    show DCells _ _ _ p.begun.room (total (insK PF.name _ p.fs)) p.begun.ops p.begun.stops p.begun.dead
    rw [total_ins]
    have e : ((({ name := s.data.toList, xs := ys, sy := 0 } : PF).xs.length + total p.fs : Nat) : Int) = (total p.fs : Int) + ys.length := by show ((ys.length + total p.fs : Nat) : Int) = _; omega
    rw [e]
    exact a1
  · refine (HU5.out.mono (fun k _ h => ?_)).trans a3 (fun j hj h => ?_)
    · rcases h with h | h
      · exact .inl h
      · exact .inr (.inl h)
    · rcases h with h | h | h
      · exact .inl h
      · have : j = w3.heap.size := h
        omega
      · cases h
  · intro k hk
    rcases hk with hk | hk | ⟨x, hx, hk⟩
    · exact .inl (.inl hk)
    · have hk : b = k := Option.some.inj hk
      rcases HB5.out with h | h
      · exact .inl (.inr (.inl (by rw [h, hk])))
      · right; omega
    · rcases List.mem_append.1 hx with hx | hx
      · exact .inl (.inr (.inr ⟨x, by rw [hfs]; simp [hx], hk⟩))
      · rcases List.mem_cons.1 hx with rfl | hx
        · right
          rcases hk with hk | hk
          · have hk : k = w3.heap.size := hk
            omega
          · rcases h5 with h | h
            · have := h.symm.trans hk; cases this
            · have := Option.some.inj (h.symm.trans hk); omega
        · exact .inl (.inr (.inr ⟨x, by rw [hfs]; simp [hx], hk⟩))
theorem append_any (B d : Nat) (g : Gu) (p : PS) (s : ByteArray) (v : Value) (ys : List Int) (w : World) (hd : Dk B w d g p) (hs : p.sane) (hB : B ≤ w.heap.size) (hv : Sees w v ys) (hy : isB ys) (hoff : ∀ k, v.ownBlock = some k → 0 < ys.length → ¬ Foot d g k) (hl : ys.length ≤ 1000000) :
    Calls Tryz.prog 22 #[ptr d, .string s, v] w fun e w' => e = .returned (.int .i64 (appE p s.data.toList ys.length)) ∧ DkPost B w w' d g (appP p s.data.toList ys) := by
  by_cases hE : appE p s.data.toList ys.length = 0
  · rw [hE]
    cases hlk : lookK Fl.nm s.data.toList g.fs with
    | none => exact append_new B d g p s v ys w hd hs hB hv hy hoff hl hE hlk
    | some f => exact append_old B d g p s v ys w hd hs hB hv hy hoff hl hE f hlk
  · exact append_no B d g p s v ys w hd hs hv hl hE
end Go.Proofs.YtdcpfjlnagigaaaGreatDoor
