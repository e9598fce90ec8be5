/- The document's disk: Sync, Read, List. -/
import Derived.Test.YtmfhfabfhoiegaaRefF
namespace Go.Proofs.Ytmfhfabfhoiegaa
open Go Go.RowKit
theorem rrow_set1 (pre post : List Rl) (f : Rl) (u : Value) : (rrow (pre ++ f :: post)).set (pre.length * 3 + 1) u = rrow (pre ++ ⟨f.pf, f.s, u⟩ :: post) := by
  rw [rrow_append, rrow_append, List.set_append_right _ _ (by rw [rrow_len]; omega), rrow_len, show pre.length * 3 + 1 - pre.length * 3 = 1 from by omega]
  rfl
theorem rrow_set2 (pre post : List Rl) (f : Rl) (m : Nat) : (rrow (pre ++ f :: post)).set (pre.length * 3 + 2) (.int .i64 m) = rrow (pre ++ ⟨⟨f.pf.name, f.pf.xs, m⟩, f.s, f.v⟩ :: post) := by
  rw [rrow_append, rrow_append, List.set_append_right _ _ (by rw [rrow_len]; omega), rrow_len, show pre.length * 3 + 2 - pre.length * 3 = 2 from by omega]
  rfl
theorem mem_mid {α : Type} {pre post : List α} {f f' x : α} (hx : x ∈ pre ++ f' :: post) : x = f' ∨ x ∈ pre ++ f :: post := by
  rcases List.mem_append.1 hx with h | h
  · exact .inr (by simp [h])
  · rcases List.mem_cons.1 h with h | h
    · exact .inl h
    · exact .inr (by simp [h])
/-- One file is another now, in its place. -/
theorem Rk.file {B : Nat} {w1 w2 : World} {x : Nat} {h : Ru} {p p' : PS} {left : Int} {pre post : List Rl} {f f' : Rl} (r : Rk B w1 x h p left) (hl : h.l = pre ++ f :: post) (hrow : w2.ownsRow B 74 3 h.v (pre ++ f' :: post).length (rrow (pre ++ f' :: post))) (hu : Upd w1 w2 (fun k => h.v.ownBlock = some k))
    (hn : f'.nm = f.nm) (hv : f'.v.ownBlock = f.v.ownBlock) (hok : OkR w2 f') (hp : p'.fs = (pre ++ f' :: post).map Rl.pf) (h1 : p'.room = p.room) (h2 : p'.ops = p.ops) (h3 : p'.stops = p.stops) (h4 : p'.dead = p.dead) : Rk B w2 x ⟨h.v, pre ++ f' :: post⟩ p' left := by
  have hfm : f ∈ h.l := by rw [hl]; simp
  have hm : ∀ q ∈ pre ++ f' :: post, q = f' ∨ q ∈ h.l := fun q hq => by rw [hl]; exact mem_mid hq
  have hlf : leftOk p' left := by obtain ⟨a, b, c⟩ := r.left; exact ⟨fun e => by rw [h3]; exact a (by rw [← h4]; exact e), b, c⟩
  have hup := r.up
  rw [hl] at hup
  have hup1 := List.pairwise_append.1 hup
  have hup2 := List.pairwise_cons.1 hup1.2.1
  refine ⟨hp, ?_, ⟨hrow, fun q hq => ?_, r.rest.base, r.rest.vx, fun q hq k hk => ?_⟩, hlf, ?_⟩
  · rw [h1, h2, h4]; exact r.cells.upd hu (fun e => r.rest.vx e)
  · rcases hm q hq with rfl | e
    · exact hok
    · exact (r.rest.ok q e).upd hu (fun k hk e' => (r.rest.off q e k hk).2.2.2 e')
  · have : B ≤ k ∧ k < w1.heap.size ∧ k ≠ x ∧ h.v.ownBlock ≠ some k := by
      rcases hm q hq with rfl | e
      · exact r.rest.off f hfm k (by rw [← hv]; exact hk)
      · exact r.rest.off q e k hk
    exact ⟨this.1, Nat.lt_of_lt_of_le this.2.1 hu.size, this.2.2.1, this.2.2.2⟩
  · refine List.pairwise_append.2 ⟨hup1.1, List.pairwise_cons.2 ⟨fun q hq => ?_, hup2.2⟩, fun a ha b hb => ?_⟩
    · rw [hn]; exact hup2.1 q hq
    · rcases List.mem_cons.1 hb with rfl | hb
      · rw [hn]; exact hup1.2.2 a ha f (by simp)
      · exact hup1.2.2 a ha b (by simp [hb])
theorem foot_mid {x : Nat} {h : Ru} {pre post : List Rl} {f f' : Rl} (hl : h.l = pre ++ f :: post) (hv : f'.v.ownBlock = f.v.ownBlock) {k : Nat} (hk : FootX x ⟨h.v, pre ++ f' :: post⟩ k) : FootX x h k := by
  rcases hk with e | e | ⟨q, hq, e⟩
  · exact .inl e
  · exact .inr (.inl e)
  · have hq : q = f' ∨ q ∈ h.l := by rw [hl]; exact mem_mid hq
    rcases hq with rfl | hq
    · exact .inr (.inr ⟨f, by rw [hl]; simp, by rw [← hv]; exact e⟩)
    · exact .inr (.inr ⟨q, hq, e⟩)
/-- The cells of the file in the midst. -/
theorem Rk.mid {B : Nat} {w : World} {x : Nat} {h : Ru} {p : PS} {left : Int} {pre post : List Rl} {f : Rl} (r : Rk B w x h p left) (hl : h.l = pre ++ f :: post) : ∃ g c, h.v = .slice (some ⟨g, 0, none⟩) h.l.length c ∧ w.cell? ⟨g, pre.length * 3, none⟩ = some (.string f.s) ∧ w.cell? ⟨g, pre.length * 3 + 1, none⟩ = some f.v ∧ w.cell? ⟨g, pre.length * 3 + 2, none⟩ = some (.int .i64 f.pf.sy) ∧ (∀ j, w.frozen? ⟨g, j, none⟩ = false) := by
  have hk : pre.length < h.l.length := by rw [hl]; simp
  obtain ⟨g, c, hv, _, _, e0, e1, e2⟩ := row_at r.rest.row hk
  have hf : h.l[pre.length] = f := by simp [hl]
  rw [hf] at e0 e1 e2
  refine ⟨g, c, hv, e0, e1, e2, fun j => ?_⟩
  have := r.rest.row
  rw [hv] at this
  exact this.frozenAt j
set_option maxRecDepth 100000 in
set_option maxHeartbeats 1000000 in
theorem rsync_any (B x : Nat) (h : Ru) (p : PS) (left : Int) (s : ByteArray) (w : World) (hd : Rk B w x h p left) (hs : p.sane) (hl : s.size ≤ 1000000) :
    Calls Try.prog 15 #[ptr x, .string s] w fun e w' => e = .returned (.int .i64 (opE p s.data.toList)) ∧ RkPost B w w' x h (syncP p s.data.toList) := by
  have hone := one_any B x h p left s w hd hs hl
  by_cases hE : opE p s.data.toList = 0
  · have hf : p.fault s.data.toList = 0 := by
      cases hst : p.stopped with
      | true => rw [opE_stop hst] at hE; cases hE
      | false => rw [opE_go hst] at hE; exact hE
    obtain ⟨_, f, pre, post, hlk, hof, hfn, hlp, hk⟩ := hd.fault hf
    have hI : oneI p h.l s.data.toList = pre.length := by unfold oneI; rw [if_pos hE, hk]
    have hln := hs.len
    have hlen := hd.len
    have hup := hd.up
    rw [hlp] at hup
    have HP : Hid (syncP p s.data.toList = { p.begun with fs := (pre ++ (⟨⟨f.pf.name, f.pf.xs, f.pf.xs.length⟩, f.s, f.v⟩ : Rl) :: post).map Rl.pf }) := by
      show _ = _
      unfold syncP putP
      rw [if_pos hE, hof, begun_fs, hd.view, hlp]
      have hup' : upK PF.name ((pre ++ f :: post).map Rl.pf) := List.pairwise_map.2 hup
      simp only [List.map_append, List.map_cons] at hup' ⊢
      rw [put_parts hup' hfn rfl, ← hfn]
    have hpl : pre.length < h.l.length := by rw [hlp]; simp
    rw [hE, hI] at hone
    rw [hE]
    obtain ⟨n, hnn⟩ : ∃ n, h.l.length = n := ⟨_, rfl⟩
    have hki : (pre.length : Int) < (n : Int) := by omega
    have hk0 : (0 : Int) ≤ (pre.length : Int) := by omega
    clear hd hs hup hof hE hI hlk hk hf
    go_enter Try.func15, Try.ntmps15
    go_wp2_with (go_at_call 40; refine hone.mono ?_; rintro e w1 ⟨rfl, l1, hq, hu⟩; have c0 := hq.cells.c0; obtain ⟨g, c, hv, e0, e1, e2, hfz⟩ := hq.mid hlp; obtain ⟨bo, bc, hbv⟩ := sees_form (hq.rest.ok f (by rw [hlp]; simp)).sees; have HQ := Hid.mk' hq; have HU := Hid.mk' hu; have fz := hfz (pre.length * 3 + 2); rw [hv, hnn] at c0; rw [hbv] at e1; have HV := Hid.mk' hv; clear hq hu hone e0 hfz hv hbv)
    go_region
    all_goals
      go_wp2
      go_ret
      have hrow := HQ.out.rest.row
      rw [HV.out] at hrow
      have hst := hrow.stored (pre.length * 3 + 2) (.int .i64 f.pf.xs.length)
      have hset : Upd w1 (w1.setCell ⟨g, pre.length * 3 + 2, none⟩ (.int .i64 f.pf.xs.length)).drew (fun k => h.v.ownBlock = some k) := ((upd_cell w1 g (pre.length * 3 + 2) (.int .i64 f.pf.xs.length)).mono (fun k _ e => by rw [HV.out, e]; rfl)).drew
      have hrow2 : (w1.setCell ⟨g, pre.length * 3 + 2, none⟩ (.int .i64 f.pf.xs.length)).drew.ownsRow B 74 3 h.v (pre ++ (⟨⟨f.pf.name, f.pf.xs, f.pf.xs.length⟩, f.s, f.v⟩ : Rl) :: post).length (rrow (pre ++ (⟨⟨f.pf.name, f.pf.xs, f.pf.xs.length⟩, f.s, f.v⟩ : Rl) :: post)) := by
        have := hst.1
        rw [hlp, rrow_set2] at this
        rw [HV.out, hlp]
        simp only [List.length_append, List.length_cons] at this ⊢
        exact this
      have hokf := HQ.out.rest.ok f (by rw [hlp]; simp)
      have hok2 : OkR (w1.setCell ⟨g, pre.length * 3 + 2, none⟩ (.int .i64 f.pf.xs.length)).drew (⟨⟨f.pf.name, f.pf.xs, f.pf.xs.length⟩, f.s, f.v⟩ : Rl) := by
        have := hokf.upd hset (fun k hk e => (HQ.out.rest.off f (by rw [hlp]; simp) k hk).2.2.2 e)
        exact ⟨this.name, this.sees, this.bytes, Nat.le_refl _⟩
      refine ⟨rfl, ⟨h.v, _⟩, l1, HQ.out.file hlp hrow2 hset rfl rfl hok2 (by rw [HP.out]) (by rw [HP.out]) (by rw [HP.out]) (by rw [HP.out]) (by rw [HP.out]), ?_, fun k hk => .inl (foot_mid (f' := ⟨⟨f.pf.name, f.pf.xs, f.pf.xs.length⟩, f.s, f.v⟩) hlp rfl hk)⟩
      exact (HU.out.mono (fun _ _ e => .inl e)).trans hset (fun _ _ e => .inr (.inl e))
  · have hP : syncP p s.data.toList = p.begun := syncP_no hE
    have hEb : (opE p s.data.toList == 0) = false := beq_eq_false_iff_ne.2 hE
    rw [hP]
    clear hd hs
    go_enter Try.func15, Try.ntmps15
    go_wp2_with (go_at_call 40; refine hone.mono ?_; rintro e w1 ⟨rfl, l1, hq, hu⟩)
    go_ret
    exact ⟨rfl, RkPost.same hq hu⟩
theorem readE_d {p : PS} {nm : List UInt8} (h : p.dead = true) : Ytmfhfabfhoiegaa.readE p nm = 13 := by unfold readE; rw [if_pos h]
theorem readE_l {p : PS} {nm : List UInt8} (h : p.dead = false) : Ytmfhfabfhoiegaa.readE p nm = p.fault nm := by unfold readE; rw [h]; rfl
theorem readB_no {p : PS} {nm : List UInt8} (h : Ytmfhfabfhoiegaa.readE p nm ≠ 0) : readB p nm = [] := by unfold readB; rw [if_neg h]
set_option maxRecDepth 100000 in
set_option maxHeartbeats 1000000 in
theorem rread_any (B x : Nat) (h : Ru) (p : PS) (left : Int) (s : ByteArray) (w : World) (hd : Rk B w x h p left) (hs : p.sane) (hl : s.size ≤ 1000000) :
    Calls Try.prog 21 #[ptr x, .string s] w fun e w' => ∃ v, e = .returned (.tuple #[v, .int .i64 (readE p s.data.toList)]) ∧ w'.ownsRow w.heap.size 5 1 v (readB p s.data.toList).length (u8s (readB p s.data.toList)) ∧ Below w.heap.size w w' := by
  have hname := fun w' => rname_any s w' hl
  have hat := rat_any B x h p left s w hd hs.len
  have c4 := hd.cells.c4
  have c0 := hd.cells.c0
  cases hdd : p.dead with
  | true =>
    have hE := readE_d (nm := s.data.toList) hdd
    rw [readB_no (by rw [hE]; decide), hE]
    rw [hdd] at c4
    clear hd hs hat c0
    go_enter Try.func21, Try.ntmps21
    go_wp2
    go_ret2
    exact ⟨_, rfl, World.ownsRow_nil _ _ _ _, Below.refl _ _⟩
  | false =>
    have hE := readE_l (nm := s.data.toList) hdd
    rw [hdd] at c4
    cases hok : okName s.data.toList with
    | false =>
      rw [Rk.fault1 hok] at hE
      rw [readB_no (by rw [hE]; decide), hE]
      rw [hok] at hname
      clear hd hs hat c0
      go_enter Try.func21, Try.ntmps21
      go_wp2_with (go_at_call 32; refine (hname _).mono ?_; rintro e w1 ⟨rfl, rfl⟩)
      go_ret2
      exact ⟨_, rfl, World.ownsRow_nil _ _ _ _, Below.refl _ _⟩
    | true =>
      rw [hok] at hname
      by_cases hf : p.fault s.data.toList = 0
      · rw [hf] at hE
        obtain ⟨_, f, pre, post, hlk, hof, hfn, hlp, hk⟩ := hd.fault hf
        have hB : readB p s.data.toList = f.pf.xs := by unfold readB; rw [if_pos hE, hof]
        have hfm : f ∈ h.l := by rw [hlp]; simp
        have hxl : f.pf.xs.length ≤ 1000000 := by
          have := mem_total (f := f.pf) (l := p.fs) (by rw [hd.view]; exact List.mem_map.2 ⟨f, hfm, rfl⟩)
          have := hs.tot; omega
        rw [hE, hB]
        rw [hk] at hat
        obtain ⟨g, c, hv, e0, e1, e2, hfz⟩ := hd.mid hlp
        have hsee := (hd.rest.ok f hfm).sees
        obtain ⟨bo, bc, hbv⟩ := sees_form hsee
        have hal : Below w.heap.size w (w.alloc (.cells #[] 5)) := (Below.refl _ _).alloc (Nat.le_refl _) _
        have hgl : g < w.heap.size := World.block_lt_of_cell? _ _ e0
        have hxx : x < w.heap.size := hd.cells.lt
        have e1' := (hal.cell (p := ⟨g, pre.length * 3 + 1, none⟩) hgl).trans e1
        have c0' := (hal.cell (p := ⟨x, 0, none⟩) hxx).trans c0
        have hsrc := Src_sees (hsee.below hal)
        obtain ⟨i0, hi, hz0, hz1, hz2⟩ := info_parts info5
        have hown : (w.alloc (.cells #[] 5)).ownsRow w.heap.size 5 1 (.slice (some ⟨w.heap.size, 0, none⟩) 0 0) 0 [] := World.ownsRow_lit (size := 1) (e := 5) w #[] 0 (Nat.le_refl _) (by decide) rfl
        have hpl : pre.length < h.l.length := by rw [hlp]; simp
        have hln := hs.len
        have hlen := hd.len
        obtain ⟨n, hnn⟩ : ∃ n, h.l.length = n := ⟨_, rfl⟩
        have hki : (pre.length : Int) < (n : Int) := by omega
        rw [hv, hnn] at c0 c0'
        rw [hbv] at e1 e1' hsrc
        have HS := Hid.mk' hsee
        clear hd hs hlk hof hk hf hE hB hsee hbv e0 e2 hfz
        go_enter Try.func21, Try.ntmps21
        go_wp2_with (first | (go_at_call 32; refine (hname _).mono ?_; rintro e w1 ⟨rfl, rfl⟩) | (go_at_call 37; refine hat.mono ?_; rintro e w1 ⟨rfl, rfl⟩) | (at_builtin; refine wpList_app _ rfl (.tmp 19) (.tmp 27) 31 31 rfl w1.heap.size 5 i0 Try.underlying31 hi hz0 hz1 hz2 _ 0 [] rfl hown _ rfl _ _ hsrc (by omega) (by simp) ?_; intro v' w' h1 h2 h3 h4))
        go_ret2
        refine ⟨_, rfl, by simpa using h1, ?_⟩
        exact ((Below.refl _ _).alloc (Nat.le_refl _) _).trans (h2.below (by simp) (fun k hk e => by have := Option.some.inj (show some k = some w1.heap.size from e); omega))
      · obtain ⟨hf2, hk⟩ := hd.fault2 hok hf
        rw [hf2] at hE
        rw [readB_no (by rw [hE]; decide), hE]
        rw [hk] at hat
        clear hd hs c0
        go_enter Try.func21, Try.ntmps21
        go_wp2_with (first | (go_at_call 32; refine (hname _).mono ?_; rintro e w1 ⟨rfl, rfl⟩) | (go_at_call 37; refine hat.mono ?_; rintro e w1 ⟨rfl, rfl⟩))
        go_ret2
        exact ⟨_, rfl, World.ownsRow_nil _ _ _ _, Below.refl _ _⟩
theorem info9s : (Try.prog.info? 9).map (fun i => (i.zero.map (fun z => z.cells.size), i.size, decide (i.bytes ≤ 1000))) = some (some 1, 1, true) := by kernel_rfl
theorem info9_parts : ∃ i z, Try.prog.info? 9 = some i ∧ i.zero = some z ∧ i.size = 1 ∧ z.cells.size = 1 ∧ i.bytes ≤ 1000 := by
  have h := info9s
  cases hi : Try.prog.info? 9 with
  | none => rw [hi] at h; cases h
  | some i =>
    rw [hi] at h
    simp only [Option.map_some, Option.some.injEq, Prod.mk.injEq, decide_eq_true_eq] at h
    obtain ⟨h1, h2, h3⟩ := h
    cases hz : i.zero with
    | none => rw [hz] at h1; cases h1
    | some z => rw [hz] at h1; exact ⟨i, z, rfl, hz, h2, Option.some.inj h1, h3⟩
theorem Src_str (w : World) (s : ByteArray) : Src Try.prog 1 45 (.slice (some ⟨w.heap.size, 0, none⟩) 1 1) 1 [.string s] (w.alloc (.cells #[.string s] 9)) := by
  refine Src.ofSlice _ Try.underlying45 ⟨w.heap.size, 0, none⟩ 1 1 [.string s] rfl (fun j u h => ?_) (fun u hu => by obtain rfl := List.mem_singleton.1 hu; rfl)
  rw [Addr.add_lit, cell_of_row _ _ _ _ _ _ (heap_alloc_new w _), Nat.zero_add]
  simpa using h
theorem enc_of {s : ByteArray} {nm : List UInt8} (h : s.data.toList = nm) : Value.string s = encStr nm := by
  subst h
  rfl
set_option maxRecDepth 100000 in
set_option maxHeartbeats 1000000 in
theorem rlist_any (B x : Nat) (h : Ru) (p : PS) (left : Int) (w : World) (hd : Rk B w x h p left) (hs : p.sane) :
    Calls Try.prog 23 #[ptr x] w fun e w' => ∃ v, e = .returned (.tuple #[v, .int .i64 (listE p)]) ∧ w'.ownsRow w.heap.size 9 1 v (listB p).length (strs (listB p)) ∧ Below w.heap.size w w' := by
  have c4 := hd.cells.c4
  have c0 := hd.cells.c0
  cases hdd : p.dead with
  | true =>
    have h1 : listE p = 13 := by unfold listE; rw [if_pos hdd]
    have h2 : listB p = [] := by unfold listB; rw [if_pos hdd]
    rw [h1, h2]
    rw [hdd] at c4
    clear hd hs c0
    go_enter Try.func23, Try.ntmps23
    go_wp2
    go_ret2
    exact ⟨_, rfl, World.ownsRow_nil _ _ _ _, Below.refl _ _⟩
  | false =>
    have h1 : listE p = 0 := by unfold listE; rw [hdd]; rfl
    have h2 : listB p = p.fs.map PF.name := by unfold listB; rw [hdd]; rfl
    rw [h1, h2, List.length_map]
    rw [hdd] at c4
    obtain ⟨i0, z0, hi, hz, hsz, hzs, hby⟩ := info9_parts
    obtain ⟨ao, c, hv⟩ := hd.form
    have hlen := hd.len
    have hln := hs.len
    have hxx : x < w.heap.size := hd.cells.lt
    have HA : Hid (∀ k (hk : k < p.fs.length), ∃ g s, ao = some ⟨g, 0, none⟩ ∧ g < w.heap.size ∧ w.cell? ⟨g, k * 3, none⟩ = some (.string s) ∧ strs ((p.fs.take (k + 1)).map PF.name) = strs ((p.fs.take k).map PF.name) ++ [.string s]) := by
      intro k hk
      have hkl : k < h.l.length := by omega
      have hr := hd.rest.row
      rw [hv] at hr
      obtain ⟨g, cc, hve, _, hg, e0, e1, e2⟩ := row_at hr hkl
      have hve := Value.slice.inj hve
      have hpf : h.l[k].pf = p.fs[k] := by simp [hd.view]
      refine ⟨g, _, hve.1, hg, e0, ?_⟩
      rw [List.take_succ_eq_append_getElem hk, List.map_append, strs, List.map_append]
      congr 1
      have := (hd.rest.ok h.l[k] (List.getElem_mem hkl)).name
      rw [hpf] at this
      rw [enc_of this]
      rfl
    have HE : Hid (strs ((p.fs.take p.fs.length).map PF.name) = strs (p.fs.map PF.name)) := by show _ = _; rw [List.take_length]
    rw [hv, hlen] at c0
    obtain ⟨n, hnn⟩ : ∃ n, p.fs.length = n := ⟨_, rfl⟩
    rw [hnn] at c0 hln HE HA ⊢
    clear hd hs hlen hv
    go_enter Try.func23, Try.ntmps23
    go_wp2
    go_loopg [4, 5] n (fun g0 o i wx => ∃ k : Nat, k ≤ n ∧ g0 = n - k ∧ i = .int .i64 k ∧ wx.ownsRow w.heap.size 9 1 o k (strs ((p.fs.take k).map PF.name)) ∧ Below w.heap.size w wx)
    case atStart => exact ⟨0, by omega, rfl, rfl, World.ownsRow_nil _ _ _ _, Below.refl _ _⟩
    case round =>
      obtain ⟨k, hk, hg0, rfl, ho, hb⟩ := hrel
      have x0 := (hb.cell (p := ⟨x, 0, none⟩) hxx).trans c0
      by_cases hlt : k < n
      · obtain ⟨g, s, rfl, hg, e0, hts⟩ := HA.out k hlt
        have y0 := (hb.cell (p := ⟨g, k * 3, none⟩) hg).trans e0
        have hsrc := Src_str wr s
        have hal := hb.alloc hb.size (.cells #[.string s] 9)
        have ho2 := ownsRow_upd ho (Upd.alloc wr (.cells #[.string s] 9) (fun _ => False)) (fun _ _ h => h)
        have hs2 := hal.size
        have HF : Hid (∀ v' w', w'.ownsRow w.heap.size 9 1 v' (k + 1) (strs ((p.fs.take k).map PF.name) ++ [.string s]) → Upd (wr.alloc (.cells #[.string s] 9)) w' (fun k => some k = u4.ownBlock) → w'.ownsRow w.heap.size 9 1 v' (k + 1) (strs ((p.fs.take (k + 1)).map PF.name)) ∧ Below w.heap.size w w') := by
          intro v' w' q1 q2
          refine ⟨by rw [hts]; exact q1, hal.trans (q2.below hs2 (fun j hj e => ?_))⟩
          have := (ho.lt j e.symm).1; omega
        generalize strs ((p.fs.take k).map PF.name) = R at *
        clear ho hb hts hal
        go_wp2_with (
          at_builtin
          refine wpList_appS _ rfl (.tmp 19) (.tmp 28) 45 45 rfl w.heap.size 9 i0 z0 1 Try.underlying45 hi hz hsz hzs hby _ k R rfl ho2 _ rfl 1 [.string s] hsrc (by omega) hs2 ?_
          intro v' w' h1 h2 h3 h4
          have HX := Hid.mk' (HF.out _ _ h1 h2)
          clear h1 h2 h3 h4 HF)
        go_roundg (n - (k + 1))
        case measure => omega
        case rel => exact ⟨k + 1, by omega, rfl, by go_num, HX.out.1, HX.out.2⟩
      · obtain rfl : k = n := by omega
        have HX : Hid (wr.ownsRow w.heap.size 9 1 u4 k (strs (p.fs.map PF.name)) ∧ Below w.heap.size w wr) := by rw [← HE.out]; exact ⟨ho, hb⟩
        clear ho hb
        go_wp2
        go_ret2
        exact ⟨_, rfl, HX.out.1, HX.out.2⟩
end Go.Proofs.Ytmfhfabfhoiegaa
