/- Sync, Remove, Rename, Read: what they answer, and what they leave. -/
import Derived.Test.YtdcpfjlnagigaaaGreatDoorAppend
namespace Go.Proofs.YtdcpfjlnagigaaaGreatDoor
open Go Go.RowKit
theorem fault_begun (p : PS) (nm : List UInt8) : p.begun.fault nm = p.fault nm := by unfold PS.fault PS.look; rw [begun_fs]
theorem fault_cases (p : PS) (nm : List UInt8) : p.fault nm = 0 ∨ p.fault nm = 1 ∨ p.fault nm = 2 := by unfold PS.fault; split <;> (try split) <;> simp
theorem fault_found {B : Nat} {w : World} {d : Nat} {g : Gu} {p : PS} (hd : Dk B w d g p) {nm : List UInt8} (h : p.fault nm = 0) : okName nm = true ∧ ∃ f, lookK Fl.nm nm g.fs = some f ∧ foundP g p nm = some ⟨f.blk, 0, none⟩ ∧ oldF p nm = f.pf := by
  have hv := view_look hd nm
  cases hok : okName nm with
  | false => unfold PS.fault at h; rw [hok] at h; cases h
  | true =>
    cases hl : lookK Fl.nm nm g.fs with
    | none => unfold PS.fault at h; rw [hok, hv, hl] at h; cases h
    | some f => exact ⟨rfl, f, rfl, by unfold foundP; rw [h, hl]; rfl, by unfold oldF; rw [hv, hl]; rfl⟩
theorem foundP_no {g : Gu} {p : PS} {nm : List UInt8} (h : p.fault nm ≠ 0) : foundP g p nm = none := by unfold foundP; rw [if_neg h]
theorem opE_stop {p : PS} {nm : List UInt8} (h : p.stopped = true) : opE p nm = 13 := by unfold opE; rw [if_pos h]
theorem opE_go {p : PS} {nm : List UInt8} (h : p.stopped = false) : opE p nm = p.fault nm := by unfold opE; rw [h]; rfl
theorem syncP_no {p : PS} {nm : List UInt8} (h : opE p nm ≠ 0) : syncP p nm = p.begun := by unfold syncP; rw [if_neg h]
theorem remP_no {p : PS} {nm : List UInt8} (h : opE p nm ≠ 0) : remP p nm = p.begun := by unfold remP; rw [if_neg h]
theorem HasF.sync {B : Nat} {w : World} {f : Fl} (hf : HasF B w f) : HasF B (w.setCell ⟨f.blk, 1, none⟩ (.int .i64 f.pf.xs.length)) ⟨⟨f.nm, f.pf.xs, f.pf.xs.length⟩, f.blk, f.v⟩ := by
  have hset := upd_cell w f.blk 1 (.int .i64 f.pf.xs.length)
  exact ⟨(World.cell?_setCell_other _ _ _ _ (by simp)).trans hf.c0, World.cell?_setCell_same _ _ _ hf.c1, by rw [World.frozen?_setCell]; exact hf.f0, by rw [World.frozen?_setCell]; exact hf.f1,
    ownsRow_upd hf.own hset (fun k hk e => hf.ne (by rw [hk, e])), hf.ne, hf.base, hf.bytes, Nat.le_refl _, hf.okn⟩
set_option maxRecDepth 100000 in
set_option maxHeartbeats 1000000 in
theorem sync_any (B d : Nat) (g : Gu) (p : PS) (s : ByteArray) (w : World) (hd : Dk B w d g p) (hs : p.sane) :
    Calls Tryz.prog 58 #[ptr d, .string s] w fun e w' => e = .returned (.int .i64 (opE p s.data.toList)) ∧ DkPost B w w' d g (syncP p s.data.toList) := by
  have hbeg := begin_any B d g p w hd hs
  cases hst : p.stopped with
  | true =>
    have h := opE_stop (nm := s.data.toList) hst
    rw [syncP_no (by rw [h]; decide), h]
    rw [begE_yes hst] at hbeg
    clear hd hs
    go_enter Tryz.func58, Tryz.ntmps58
    go_wp2_with (go_at_call 51; refine hbeg.mono ?_; rintro e w1 ⟨rfl, hd1, hu1⟩)
    go_ret
    exact ⟨rfl, DkPost.same hd1 hu1⟩
  | false =>
    rw [begE_no hst] at hbeg
    have hE := opE_go (nm := s.data.toList) hst
    have hfind := fun w1 (h : Dk B w1 d g p.begun) => find_any B d g p.begun s w1 h
    rw [fault_begun] at hfind
    by_cases hf : p.fault s.data.toList = 0
    · obtain ⟨hok, f, hlk, hfp, hof⟩ := fault_found hd hf
      have hfp' : foundP g p.begun s.data.toList = some ⟨f.blk, 0, none⟩ := by unfold foundP at hfp ⊢; rw [fault_begun]; exact hfp
      rw [hE, hf, show syncP p s.data.toList = putP p.begun ⟨s.data.toList, (oldF p s.data.toList).xs, (oldF p s.data.toList).xs.length⟩ from by unfold syncP; rw [if_pos (hE.trans hf)]]
      rw [hf, hfp'] at hfind
      obtain ⟨hfn, pre, post, hfs⟩ := look_parts hlk
      have hfm : f ∈ g.fs := by rw [hfs]; simp
      have hup := upf hd.rest.up
      rw [hfs, List.map_append, List.map_cons] at hup
      have HOLD : Hid (putP p.begun ⟨s.data.toList, (oldF p s.data.toList).xs, (oldF p s.data.toList).xs.length⟩ = { p.begun with fs := (pre ++ (⟨⟨f.nm, f.pf.xs, f.pf.xs.length⟩, f.blk, f.v⟩ : Fl) :: post).map Fl.pf }) := by
        show _ = _
        unfold putP
        rw [hof, begun_fs, hd.view, hfs]
        simp only [List.map_append, List.map_cons]
        rw [put_parts hup hfn rfl, ← hfn]
      have HTOT : Hid (total p.fs = total ((pre ++ (⟨⟨f.nm, f.pf.xs, f.pf.xs.length⟩, f.blk, f.v⟩ : Fl) :: post).map Fl.pf)) := by
        show _ = _
        rw [hd.view, hfs]
        simp only [List.map_append, List.map_cons, total_append, total_cons]
      obtain ⟨fo, fc, hfv⟩ := owns_form (hd.rest.files f hfm).own
      have hbd : f.blk ≠ d := (hd.rest.off f hfm f.blk (.inl rfl)).1
      clear hd hs hup hof hE hfp hfp'
      go_enter Tryz.func58, Tryz.ntmps58
      go_wp2_with (first | (go_at_call 51; refine hbeg.mono ?_; rintro e w1 ⟨rfl, hd1, hu1⟩) | (go_at_call 66; refine (hfind _ hd1).mono ?_; rintro e w2 ⟨rfl, hb2⟩; have HD2 := Hid.mk' (hd1.below hb2); have HU2 : Hid (Upd w w2 (fun k => k = d)) := hu1.trans (Upd.ofBelow hb2) (fun _ _ h => h); have c0 := (HD2.out.rest.files f hfm).c0; have c1 := (HD2.out.rest.files f hfm).c1; have f1 := (HD2.out.rest.files f hfm).f1; rw [hfv] at c0; clear hd1 hu1 hb2 hbeg))
      go_ret
      have hset := upd_cell w2 f.blk 1 (.int .i64 f.pf.xs.length)
      have hg : g = ⟨g.m, pre ++ f :: post⟩ := by rw [← hfs]
      have hr3 := HD2.out.rest
      rw [hg] at hr3
      refine ⟨rfl, ⟨g.m, pre ++ ⟨⟨f.nm, f.pf.xs, f.pf.xs.length⟩, f.blk, f.v⟩ :: post⟩, ⟨by rw [HOLD.out], ?_, hr3.file rfl rfl (hset.mono (fun _ _ h => .inl h)) (HD2.out.rest.files f hfm).sync (fun k hk => .inl hk) HD2.out.cells.lt⟩, ?_, ?_⟩
      · rw [HOLD.out]
        show DCells _ _ _ p.begun.room (total (List.map Fl.pf (pre ++ _ :: post))) p.begun.ops p.begun.stops p.begun.dead
        have hc := HD2.out.cells.upd hset (fun e => hbd e.symm)
        rw [begun_fs, HTOT.out] at hc
        exact hc
      · refine (HU2.out.mono (fun _ _ h => .inl h)).trans hset (fun j _ h => .inr (.inr ⟨f, hfm, .inl h⟩))
      · have := foot_file (d := d) (m := g.m) (pre := pre) (post := post) (f := f) (f' := ⟨⟨f.nm, f.pf.xs, f.pf.xs.length⟩, f.blk, f.v⟩) (N := w.heap.size) rfl (fun k hk => .inl hk)
        rw [← hfs] at this
        exact this
    · rw [syncP_no (by rw [hE]; exact hf), hE]
      rw [foundP_no (by rw [fault_begun]; exact hf)] at hfind
      have hcs : p.fault s.data.toList = 1 ∨ p.fault s.data.toList = 2 := by rcases fault_cases p s.data.toList with h | h | h; exact absurd h hf; exact .inl h; exact .inr h
      clear hd hs hE
      rcases hcs with h | h
      all_goals
        rw [h]
        rw [h] at hfind
        clear h hf
        go_enter Tryz.func58, Tryz.ntmps58
        go_wp2_with (first | (go_at_call 51; refine hbeg.mono ?_; rintro e w1 ⟨rfl, hd1, hu1⟩) | (go_at_call 66; refine (hfind _ hd1).mono ?_; rintro e w2 ⟨rfl, hb2⟩))
        go_ret
        exact ⟨rfl, DkPost.same (hd1.below hb2) (hu1.trans (Upd.ofBelow hb2) (fun _ _ h => h))⟩
theorem own_lower {W : World} {base base' : Nat} {e : TypeId} {size : Nat} {v : Value} {k : Nat} {xs : List Value} (h : W.ownsRow base e size v k xs) (hb : base' ≤ base) : W.ownsRow base' e size v k xs := by
  refine ⟨h.1, ?_⟩
  rcases h.2 with hn | ⟨g, cap, cur, hv, hbg, rest⟩
  · exact .inl hn
  · exact .inr ⟨g, cap, cur, hv, by omega, rest⟩
theorem ok_size {s : ByteArray} (h : okName s.data.toList = true) : s.size ≤ maxLen := by
  have := (okName_len h).2
  rw [Array.length_toList] at this
  have h2 : s.size ≤ 40 := this
  unfold maxLen; omega
theorem foot_del {d : Nat} {g : Gu} {nm : List UInt8} : ∀ k, Foot d ⟨g.m, delK Fl.nm nm g.fs⟩ k → Foot d g k := by
  intro k hk
  rcases hk with hk | hk | ⟨x, hx, hk⟩
  · exact .inl hk
  · exact .inr (.inl hk)
  · exact .inr (.inr ⟨x, (mem_del hx).1, hk⟩)
set_option maxRecDepth 100000 in
set_option maxHeartbeats 1000000 in
theorem remove_any (B d : Nat) (g : Gu) (p : PS) (s : ByteArray) (w : World) (hd : Dk B w d g p) (hs : p.sane) :
    Calls Tryz.prog 46 #[ptr d, .string s] w fun e w' => e = .returned (.int .i64 (opE p s.data.toList)) ∧ DkPost B w w' d g (remP p s.data.toList) := by
  have hbeg := begin_any B d g p w hd hs
  cases hst : p.stopped with
  | true =>
    have h := opE_stop (nm := s.data.toList) hst
    rw [remP_no (by rw [h]; decide), h]
    rw [begE_yes hst] at hbeg
    clear hd hs
    go_enter Tryz.func46, Tryz.ntmps46
    go_wp2_with (go_at_call 51; refine hbeg.mono ?_; rintro e w1 ⟨rfl, hd1, hu1⟩)
    go_ret
    exact ⟨rfl, DkPost.same hd1 hu1⟩
  | false =>
    rw [begE_no hst] at hbeg
    have hE := opE_go (nm := s.data.toList) hst
    have hfind := fun w1 (h : Dk B w1 d g p.begun) => find_any B d g p.begun s w1 h
    rw [fault_begun] at hfind
    by_cases hf : p.fault s.data.toList = 0
    · obtain ⟨hok, f, hlk, hfp, hof⟩ := fault_found hd hf
      have hfp' : foundP g p.begun s.data.toList = some ⟨f.blk, 0, none⟩ := by unfold foundP at hfp ⊢; rw [fault_begun]; exact hfp
      rw [hE, hf, show remP p s.data.toList = { p.begun with fs := delK PF.name s.data.toList p.fs } from by unfold remP; rw [if_pos (hE.trans hf)]]
      rw [hf, hfp'] at hfind
      have htd := total_del (upf hd.rest.up) (nm := s.data.toList) (f := f.pf) (by rw [← hd.view]; exact (view_look hd s.data.toList).trans (by rw [hlk]; rfl))
      rw [← hd.view] at htd
      have hL : lenAt g.fs s.data.toList = f.pf.xs.length := by unfold lenAt; rw [hlk]; rfl
      have htot := hs.tot
      have hsz := ok_size hok
      have hdrop := fun w1 (h : Dk B w1 d g p.begun) => drop_any B d g s w1 _ _ _ _ _ h.cells h.rest hsz (by rw [hL, begun_fs]; omega) (by rw [begun_fs]; omega)
      rw [hL] at hdrop
      have HVW := Hid.mk' hd.view
      clear hd hs hof hE hfp hfp'
      go_enter Tryz.func46, Tryz.ntmps46
      go_wp2_with (first | (go_at_call 51; refine hbeg.mono ?_; rintro e w1 ⟨rfl, hd1, hu1⟩) | (go_at_call 66; refine (hfind _ hd1).mono ?_; rintro e w2 ⟨rfl, hb2⟩) | (go_at_call 67; refine (hdrop _ (hd1.below hb2)).mono ?_; rintro e w3 ⟨rfl, hc3, hr3, hu3⟩))
      go_ret
      refine ⟨rfl, ⟨g.m, delK Fl.nm s.data.toList g.fs⟩, ⟨?_, ?_, hr3⟩, ?_, fun k hk => .inl (foot_del k hk)⟩
      · show delK PF.name s.data.toList p.fs = _
        rw [map_del name_pf, ← HVW.out]
      · rw [begun_fs] at hc3
        have e : ((total p.fs : Int) - f.pf.xs.length) = ((total (delK PF.name s.data.toList p.fs) : Nat) : Int) := by omega
        rw [e] at hc3
        exact hc3
      · refine ((hu1.trans (Upd.ofBelow hb2) (fun _ _ h => h)).mono (fun _ _ h => .inl h)).trans hu3 (fun j _ h => ?_)
        rcases h with h | h
        · exact .inl h
        · exact .inr (.inl h)
    · rw [remP_no (by rw [hE]; exact hf), hE]
      rw [foundP_no (by rw [fault_begun]; exact hf)] at hfind
      have hcs : p.fault s.data.toList = 1 ∨ p.fault s.data.toList = 2 := by rcases fault_cases p s.data.toList with h | h | h; exact absurd h hf; exact .inl h; exact .inr h
      clear hd hs hE
      rcases hcs with h | h
      all_goals
        rw [h]
        rw [h] at hfind
        clear h hf
        go_enter Tryz.func46, Tryz.ntmps46
        go_wp2_with (first | (go_at_call 51; refine hbeg.mono ?_; rintro e w1 ⟨rfl, hd1, hu1⟩) | (go_at_call 66; refine (hfind _ hd1).mono ?_; rintro e w2 ⟨rfl, hb2⟩))
        go_ret
        exact ⟨rfl, DkPost.same (hd1.below hb2) (hu1.trans (Upd.ofBelow hb2) (fun _ _ h => h))⟩
set_option maxRecDepth 100000 in
set_option maxHeartbeats 1000000 in
theorem read_any (B d : Nat) (g : Gu) (p : PS) (s : ByteArray) (w : World) (hd : Dk B w d g p) (ht : total p.fs ≤ 1000000) :
    Calls Tryz.prog 79 #[ptr d, .string s] w fun e w' => ∃ v, e = .returned (.tuple #[v, .int .i64 (readE p s.data.toList)]) ∧ w'.ownsRow w.heap.size 5 1 v (readB p s.data.toList).length (u8s (readB p s.data.toList)) ∧ Below w.heap.size w w' := by
  have c5 := hd.cells.c5
  cases hdd : p.dead with
  | true =>
    have hE : readE p s.data.toList = 13 := by unfold readE; rw [if_pos hdd]
    have hB : readB p s.data.toList = [] := by unfold readB; rw [hE]; rfl
    rw [hE, hB]
    rw [hdd] at c5
    clear hd
    go_enter Tryz.func79, Tryz.ntmps79
    go_wp2
    go_ret2
    exact ⟨_, rfl, World.ownsRow_nil _ _ _ _, Below.refl _ _⟩
  | false =>
    rw [hdd] at c5
    have hE : readE p s.data.toList = p.fault s.data.toList := by unfold readE; rw [hdd]; rfl
    have hfind := find_any B d g p s w hd
    by_cases hf : p.fault s.data.toList = 0
    · obtain ⟨hok, f, hlk, hfp, hof⟩ := fault_found hd hf
      have hB : readB p s.data.toList = f.pf.xs := by unfold readB; rw [hE, hf, hof]; rfl
      rw [hE, hf, hB]
      rw [hf, hfp] at hfind
      obtain ⟨hfn, pre, post, hfs⟩ := look_parts hlk
      have hfm : f ∈ g.fs := by rw [hfs]; simp
      have hfl : f.pf.xs.length ≤ 1000000 := by
        rw [hd.view, hfs, List.map_append, List.map_cons, total_append, total_cons] at ht; omega
      obtain ⟨fo, fc, hfv⟩ := owns_form (hd.rest.files f hfm).own
      have HF := Hid.mk' (hd.rest.files f hfm)
      clear hd ht hfs
      go_enter Tryz.func79, Tryz.ntmps79
      go_wp2_with (first | (go_at_call 66; refine hfind.mono ?_; rintro e w2 ⟨rfl, hb2⟩; have hf2 := HF.out.upd (S := fun _ => False) (Upd.ofBelow hb2) (fun _ _ h => h); have c0 := hf2.c0; have hsee := sees_own hf2.own; rw [hfv] at c0 hsee; clear hf2) | (go_at_call 91; refine (clone_any _ _ _ hsee hfl).mono ?_; rintro e w3 ⟨v', rfl, ho3, hb3⟩))
      go_ret2
      have hs2 := hb2.size
      refine ⟨v', rfl, ?_, hb2.trans (hb3.mono hs2)⟩
      exact own_lower ho3 hs2
    · have hB : readB p s.data.toList = [] := by unfold readB; rw [hE, if_neg hf]
      rw [hE, hB]
      rw [foundP_no hf] at hfind
      have hcs : p.fault s.data.toList = 1 ∨ p.fault s.data.toList = 2 := by rcases fault_cases p s.data.toList with h | h | h; exact absurd h hf; exact .inl h; exact .inr h
      clear hd hE
      rcases hcs with h | h
      all_goals
        rw [h]
        rw [h] at hfind
        clear h hf
        go_enter Tryz.func79, Tryz.ntmps79
        go_wp2_with (go_at_call 66; refine hfind.mono ?_; rintro e w2 ⟨rfl, hb2⟩)
        go_ret2
        exact ⟨_, rfl, World.ownsRow_nil _ _ _ _, hb2⟩
end Go.Proofs.YtdcpfjlnagigaaaGreatDoor
