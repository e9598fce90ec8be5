/- Crash: of what is not synced a front stays, as the picks say. -/
import Derived.Test.YtdcpfjlnagigaaaGreatDoorNames
namespace Go.Proofs.YtdcpfjlnagigaaaGreatDoor
open Go Go.RowKit
theorem crashN_snoc (f : PF) : ∀ (n : Nat) (l : List PF), crashN n (l ++ [f]) = if f.xs.length = f.sy then crashN n l else crashN n l + 1
  | n, [] => by simp only [List.nil_append, crashN]
  | n, g :: r => by
    simp only [List.cons_append, crashN]
    by_cases h : g.xs.length = g.sy
    · simp only [if_pos h]; exact crashN_snoc f n r
    · simp only [if_neg h]; exact crashN_snoc f (n + 1) r
theorem crashL_snoc (picks : List Int) (f : PF) : ∀ (n : Nat) (l : List PF), crashL picks n (l ++ [f]) = crashL picks n l ++ [if f.xs.length = f.sy then f else f.lost (picks.getD (crashN n l) 0)]
  | n, [] => by
    simp only [List.nil_append, crashL, crashN]
    split <;> rfl
  | n, g :: r => by
    simp only [List.cons_append, crashL, crashN]
    by_cases h : g.xs.length = g.sy
    · simp only [if_pos h, crashL_snoc picks f n r, List.cons_append]
    · simp only [if_neg h, crashL_snoc picks f (n + 1) r, List.cons_append]
theorem crashL_len (picks : List Int) : ∀ (n : Nat) (l : List PF), (crashL picks n l).length = l.length
  | _, [] => rfl
  | n, f :: r => by
    simp only [crashL]
    split <;> simp [crashL_len]
theorem crashN_le : ∀ (n : Nat) (l : List PF), crashN n l ≤ n + l.length
  | _, [] => by simp [crashN]
  | n, f :: r => by
    simp only [crashN, List.length_cons]
    split
    · have := crashN_le n r; omega
    · have := crashN_le (n + 1) r; omega
theorem crashL_total (picks : List Int) : ∀ (n : Nat) (l : List PF), total (crashL picks n l) ≤ total l
  | _, [] => Nat.le_refl _
  | n, f :: r => by
    have hl : ∀ q, (f.lost q).xs.length ≤ f.xs.length := fun q => by simp [PF.lost]; omega
    simp only [crashL]
    split
    · rw [total_cons, total_cons]; have := crashL_total picks n r; omega
    · rw [total_cons, total_cons]; have := crashL_total picks (n + 1) r; have := hl (picks.getD n 0); omega
theorem mem_total {f : PF} {l : List PF} (h : f ∈ l) : f.xs.length ≤ total l := by
  obtain ⟨a, b, rfl⟩ := List.append_of_mem h
  rw [total_append, total_cons]; omega
theorem total_lost (f : PF) (pick : Int) : (f.lost pick).xs.length ≤ f.xs.length := by simp [PF.lost]; omega
/-- A disk of which the first k files have crashed. -/
def partP (p : PS) (picks : List Int) (k : Nat) : PS := ⟨crashL picks 0 (p.fs.take k) ++ p.fs.drop k, p.room, p.ops, p.stops, p.dead⟩
theorem partP_zero (p : PS) (picks : List Int) : partP p picks 0 = p := rfl
theorem partP_end (p : PS) (picks : List Int) : partP p picks p.fs.length = ⟨crashL picks 0 p.fs, p.room, p.ops, p.stops, p.dead⟩ := by
  unfold partP; rw [List.take_length, List.drop_length, List.append_nil]
def CrashAt (B : Nat) (w wx : World) (d : Nat) (g : Gu) (p : PS) (picks : List Int) (k : Nat) : Prop :=
  ∃ g', Dk B wx d g' (partP p picks k) ∧ Upd w wx (Foot d g) ∧ ∀ j, Foot d g' j → Foot d g j
theorem DRest.lookup1 {B : Nat} {w : World} {d : Nat} {g : Gu} (h : DRest B w d g) (s : ByteArray) (hs : s.size ≤ maxLen) {f : Fl} (hl : lookK Fl.nm s.data.toList g.fs = some f) :
    (Instr.lookup 63 (.map g.m) (.string s) false).run Tryz.prog w = .ok (ptr f.blk) w := by
  have hkey := key_str s hs
  have K : Maps.Keyed Tryz.prog 9 := Maps.string_keyed Tryz.underlying9
  rcases h.map with ⟨e, e2⟩ | ⟨b, e, _, _, hm⟩
  · rw [e2] at hl; cases hl
  · rw [e]
    obtain ⟨v, ps, hrun, hv⟩ := hm.lookup K Tryz.underlying63 (zero68 w) (zd := .lit (.int .i64 (-1))) (zp := []) rfl hkey
    rw [hrun]
    rw [at_ents, hl] at hv
    rw [Rf_hit hv]
theorem crash_parts {B : Nat} {wx : World} {d : Nat} {g' : Gu} {p : PS} {picks : List Int} {k : Nat} (h : Dk B wx d g' (partP p picks k)) (hk : k < p.fs.length) :
    ∃ pre f post, g'.fs = pre ++ f :: post ∧ pre.map Fl.pf = crashL picks 0 (p.fs.take k) ∧ f.pf = p.fs[k] ∧ post.map Fl.pf = p.fs.drop (k + 1) := by
  have hv : crashL picks 0 (p.fs.take k) ++ p.fs.drop k = g'.fs.map Fl.pf := h.view
  rw [List.drop_eq_getElem_cons hk] at hv
  obtain ⟨pre, rest, h1, h2, h3⟩ := List.map_eq_append_iff.1 hv.symm
  obtain ⟨f, post, h4, h5, h6⟩ := List.map_eq_cons_iff.1 h3
  exact ⟨pre, f, post, by rw [h1, h4], h2, h5, h6⟩
theorem crash_step_same {p : PS} {picks : List Int} {k : Nat} (hk : k < p.fs.length) (h : p.fs[k].xs.length = p.fs[k].sy) : partP p picks (k + 1) = partP p picks k ∧ crashN 0 (p.fs.take (k + 1)) = crashN 0 (p.fs.take k) := by
  unfold partP
  rw [List.take_succ_eq_append_getElem hk, crashL_snoc, crashN_snoc, if_pos h, if_pos h, List.drop_eq_getElem_cons hk]
  simp
theorem crash_step {p : PS} {picks : List Int} {k : Nat} (hk : k < p.fs.length) (h : p.fs[k].xs.length ≠ p.fs[k].sy) : (partP p picks (k + 1)).fs = crashL picks 0 (p.fs.take k) ++ (p.fs[k].lost (picks.getD (crashN 0 (p.fs.take k)) 0)) :: p.fs.drop (k + 1) ∧ crashN 0 (p.fs.take (k + 1)) = crashN 0 (p.fs.take k) + 1 := by
  unfold partP
  rw [List.take_succ_eq_append_getElem hk, crashL_snoc, crashN_snoc, if_neg h, if_neg h]
  simp
/-- One file has lost what was picked, and the room is free. -/
theorem crash_next {B d k : Nat} {w wx wy : World} {g g' : Gu} {p : PS} {picks : List Int} {pre post : List Fl} {f : Fl} {v' : Value} {pick : Int} (hd : Dk B wx d g' (partP p picks k)) (hu : Upd w wx (Foot d g)) (hft : ∀ j, Foot d g' j → Foot d g j)
    (hk : k < p.fs.length) (hfs : g'.fs = pre ++ f :: post) (h1 : pre.map Fl.pf = crashL picks 0 (p.fs.take k)) (h2 : f.pf = p.fs[k]) (h3 : post.map Fl.pf = p.fs.drop (k + 1)) (hne : p.fs[k].xs.length ≠ p.fs[k].sy) (hpick : pick = picks.getD (crashN 0 (p.fs.take k)) 0)
    (ho : v'.ownBlock = f.v.ownBlock) (hf : HasF B wy ⟨f.pf.lost pick, f.blk, v'⟩) (hy : Upd wx wy (fun j => j = f.blk)) :
    CrashAt B w (wy.setCell ⟨d, 2, none⟩ (.int .i64 ((total (partP p picks k).fs : Int) - ((f.pf.xs.length : Int) - (f.pf.lost pick).xs.length)))) d g p picks (k + 1) := by
  obtain ⟨e1, _⟩ := crash_step (picks := picks) hk hne
  rw [← hpick, ← h2] at e1
  have hfm : f ∈ g'.fs := by rw [hfs]; simp
  have hbd : f.blk ≠ d := (hd.rest.off f hfm f.blk (.inl rfl)).1
  have hg : g' = ⟨g'.m, pre ++ f :: post⟩ := by rw [← hfs]
  have hr := hd.rest
  rw [hg] at hr
  have hr1 : DRest B wy d ⟨g'.m, pre ++ ⟨f.pf.lost pick, f.blk, v'⟩ :: post⟩ := hr.file rfl rfl (hy.mono (fun _ _ h => .inl h)) hf (fun j hj => .inl (ho.symm.trans hj)) hd.cells.lt
  have hset := upd_cell wy d 2 (.int .i64 ((total (partP p picks k).fs : Int) - ((f.pf.xs.length : Int) - (f.pf.lost pick).xs.length)))
  have htl := total_lost f.pf pick
  have htot : (total (partP p picks k).fs : Int) - ((f.pf.xs.length : Int) - (f.pf.lost pick).xs.length) = total (partP p picks (k + 1)).fs := by
    rw [e1, hd.view, hfs, List.map_append, List.map_cons, h1, h3]
    simp only [total_append, total_cons]
    omega
  refine ⟨⟨g'.m, pre ++ ⟨f.pf.lost pick, f.blk, v'⟩ :: post⟩, ⟨?_, ?_, hr1.upd hset (fun j hj e => hr1.ne hj e)⟩, ?_, ?_⟩
  · rw [e1]; simp [h1, h3]
  · have := (hd.cells.upd hy (fun e => hbd e.symm)).set2 ((total (partP p picks k).fs : Int) - ((f.pf.xs.length : Int) - (f.pf.lost pick).xs.length))
    rw [htot] at this ⊢
    exact this
  · refine (hu.trans hy (fun j _ e => hft j (.inr (.inr ⟨f, hfm, .inl e⟩)))).trans hset (fun j _ e => .inl e)
  · intro j hj
    have := foot_file (d := d) (m := g'.m) (pre := pre) (post := post) (f := f) (f' := ⟨f.pf.lost pick, f.blk, v'⟩) (N := j + 1) rfl (fun k hk => .inl (ho.symm.trans hk)) j hj
    rcases this with h | h
    · rw [← hfs] at h; exact hft j h
    · omega
theorem SeesI.at {w wx : World} {S : Nat → Prop} {v : Value} {zs : List Int} (h : SeesI w v zs) (hu : Upd w wx S) (hS : ∀ k, v.ownBlock = some k → 0 < zs.length → ¬ S k) (k : Nat) (hk : k < zs.length) : ∃ b off cap, v = .slice (some ⟨b, off, none⟩) zs.length cap ∧ wx.cell? ⟨b, off + k, none⟩ = some (.int .i64 (zs.getD k 0)) := by
  rcases h with ⟨rfl, _⟩ | ⟨b, off, cap, rfl, h0, hb, hc⟩
  · simp at hk
  · exact ⟨b, off, cap, rfl, (hu.cell (p := ⟨b, off + k, none⟩) hb (hS b rfl h0)).trans (hc k hk)⟩
set_option maxRecDepth 100000 in
set_option maxHeartbeats 2000000 in
theorem crash_any (B d : Nat) (g : Gu) (p : PS) (vp : Value) (picks : List Int) (w : World) (hd : Dk B w d g p) (hs : p.sane) (hv : SeesI w vp picks) (hoff : ∀ k, vp.ownBlock = some k → 0 < picks.length → ¬ Foot d g k) :
    Calls Tryz.prog 19 #[ptr d, vp] w fun e w' => e = .returned (.int .i64 (crashN 0 p.fs)) ∧ DkPost B w w' d g (crashP p picks) := by
  have hnames := names_any B d g p w hd hs.len
  have hlen := hs.len
  have htot := hs.tot
  obtain ⟨pa, pc, hvp⟩ := hv.form
  subst hvp
  have HD := Hid.mk' hd
  have HV := Hid.mk' hv
  have HOFF := Hid.mk' hoff
  have HCN := Hid.mk' (fun k => crashN_le 0 (p.fs.take k))
  clear hd hs hv hoff
  go_enter Tryz.func19, Tryz.ntmps19
  go_wp2_with (go_at_call 48; refine hnames.mono ?_; rintro e w1 ⟨vn, rfl, ho, hb1⟩; obtain ⟨na, nc, rfl⟩ := owns_form ho)
  have HB1 := Hid.mk' hb1
  have HO := Hid.mk' ho
  have hs1 := hb1.size
  clear hb1 ho hnames
  go_loopg [5, 13] p.fs.length (fun g0 c i wx => ∃ k : Nat, k ≤ p.fs.length ∧ g0 = p.fs.length - k ∧ i = .int .i64 k ∧ c = .int .i64 (crashN 0 (p.fs.take k)) ∧ CrashAt B w1 wx d g p picks k)
  case atStart => exact ⟨0, by omega, rfl, rfl, rfl, g, by rw [partP_zero]; exact HD.out.below HB1.out, Upd.refl _ _, fun _ h => h⟩
  case round =>
    obtain ⟨k, hk, hg0, rfl, rfl, g', hd', hu', hft⟩ := hrel
    have hcn := HCN.out k
    rw [List.length_take, Nat.zero_add] at hcn
    by_cases hlt : k < p.fs.length
    · obtain ⟨pre, f, post, hfs, hp1, hp2, hp3⟩ := crash_parts hd' hlt
      have hfm : f ∈ g'.fs := by rw [hfs]; simp
      have hff := hd'.rest.files f hfm
      have hup := hd'.rest.up
      rw [hfs] at hup
      have hnm : f.nm = p.fs[k].name := by rw [← hp2]
      have hlk : lookK Fl.nm p.fs[k].name g'.fs = some f := by rw [hfs]; exact look_of_parts hup hnm
      have hok := okName_len hff.okn
      rw [hnm] at hok
      have hlu := hd'.rest.lookup1 ⟨p.fs[k].name.toArray⟩ (by show p.fs[k].name.toArray.size ≤ _; unfold maxLen; simp; omega) (f := f) (by simpa using hlk)
      obtain ⟨gb, nc', hvn, hgb, hgl⟩ := HO.out.form (by omega)
      cases hvn
      have hcell := HO.out.cellAt k (by simp; omega)
      simp only [strs, List.getElem?_map, List.getElem?_eq_getElem hlt, Option.map_some] at hcell
      have hnf : ¬ Foot d g gb := fun h => by have := HD.out.lt h; omega
      have hcell := (hu'.cell (p := ⟨gb, k, none⟩) hgl hnf).trans hcell
      have c0 := hd'.cells.c0
      have hxl : f.pf.xs.length ≤ 1000000 := by
        have := mem_total (List.getElem_mem hlt)
        rw [← hp2] at this; omega
      have hle := hff.le
      have hloose := loose_any B f wr hff hxl
      rw [show encStr p.fs[k].name = .string ⟨p.fs[k].name.toArray⟩ from rfl] at hcell
      generalize hnn : (⟨p.fs[k].name.toArray⟩ : ByteArray) = nn at hlu hcell
      by_cases hsy : f.pf.xs.length = f.pf.sy
      · rw [hsy, Int.sub_self] at hloose
        obtain ⟨e1, e2⟩ := crash_step_same (picks := picks) hlt (by rw [← hp2]; exact hsy)
        have HC : Hid (CrashAt B w1 wr d g p picks (k + 1)) := ⟨g', by rw [e1]; exact hd', hu', hft⟩
        rw [← e2]
        clear hff hd' hu' hft hup hlk hfs hp1 hp2 hp3 hnm hfm e1 e2 hcn
        go_wp2_with (go_at_call 49; refine hloose.mono ?_; rintro e w2 ⟨rfl, n2, rfl⟩)
        go_roundg (p.fs.length - (k + 1))
        case measure => omega
        case rel =>
          obtain ⟨g2, q1, q2, q3⟩ := HC.out
          exact ⟨k + 1, by omega, rfl, by go_num, rfl, g2, q1.upd (Upd.drewN _ _ (fun _ => False)) (fun _ _ h => h), q2.trans (Upd.drewN _ _ _) (fun _ _ h => h), q3⟩
      · obtain ⟨e1, e2⟩ := crash_step (picks := picks) hlt (by rw [← hp2]; exact hsy)
        have hz : ((f.pf.xs.length : Int) - f.pf.sy == 0) = false := by simp; omega
        obtain ⟨L, hL⟩ : ∃ L : Int, (f.pf.xs.length : Int) - f.pf.sy = L := ⟨_, rfl⟩
        rw [hL] at hloose hz
        have HNX := Hid.mk' (fun (wx wy : World) (v' : Value) (hx : Dk B wx d g' (partP p picks k)) (hux : Upd w1 wx (Foot d g)) => crash_next (wy := wy) (v' := v') hx hux hft hlt hfs hp1 hp2 hp3 (by rw [← hp2]; exact hsy) rfl)
        obtain ⟨c, hc⟩ : ∃ c : Nat, crashN 0 (p.fs.take k) = c := ⟨_, rfl⟩
        rw [hc] at HNX hcn e2 ⊢
        obtain ⟨pk, hpk⟩ : ∃ pk : Int, picks.getD c 0 = pk := ⟨_, rfl⟩
        rw [hpk] at HNX
        have hlose := fun wx (h : HasF B wx f) => lose_any B f pk wx h hxl (by omega)
        have HDX := Hid.mk' hd'
        have HUX := Hid.mk' hu'
        have hbd : f.blk ≠ d := (hd'.rest.off f hfm f.blk (.inl rfl)).1
        have hdl := hd'.cells.lt
        have htk : total (partP p picks k).fs ≤ 1000000 ∧ f.pf.xs.length ≤ total (partP p picks k).fs := by
          refine ⟨?_, mem_total (by rw [hd'.view]; exact List.mem_map.2 ⟨f, hfm, rfl⟩)⟩
          have h1 := crashL_total picks 0 (p.fs.take k)
          have h2 : total (p.fs.take k) + total (p.fs.drop k) = total p.fs := by rw [← total_append, List.take_append_drop]
          show total (_ ++ _) ≤ _
          rw [total_append]; omega
        have htl := total_lost f.pf pk
        obtain ⟨T, hT⟩ : ∃ T : Nat, total (partP p picks k).fs = T := ⟨_, rfl⟩
        obtain ⟨G, hG⟩ : ∃ G : Int, (f.pf.xs.length : Int) - (f.pf.lost pk).xs.length = G := ⟨_, rfl⟩
        have hGb : 0 ≤ G ∧ G ≤ T := by omega
        simp only [hG] at hlose HNX
        simp only [hT] at HNX
        clear hff hd' hu' hft hup hlk hfs hp1 hp2 hp3 hnm e1 hc hle hL
        by_cases hcl : c < picks.length
        · obtain ⟨pb, po, pcap, hpe, hpc⟩ := HV.out.at ((Upd.ofBelow HB1.out (S := Foot d g)).trans HUX.out (fun _ _ h => h)) (fun j hj h0 => HOFF.out j hj h0) c hcl
          have hpe := Value.slice.inj hpe
          obtain ⟨rfl, _, rfl⟩ := hpe
          rw [hpk] at hpc
          go_wp2_with (go_at_call 49; refine hloose.mono ?_; rintro e w2 ⟨rfl, n2, rfl⟩; replace hpc := hpc)
          have HD2 : Hid (Dk B (wr.drewN n2) d g' (partP p picks k)) := HDX.out.upd (Upd.drewN _ _ (fun _ => False)) (fun _ _ h => h)
          have HU2 : Hid (Upd w1 (wr.drewN n2) (Foot d g)) := HUX.out.trans (Upd.drewN _ _ _) (fun _ _ h => h)
          generalize wr.drewN n2 = w2 at HD2 HU2 ⊢
          have c2 := HD2.out.cells.c2
          have f2 := HD2.out.cells.f2
          have hd2 := HD2.out.cells.lt
          rw [hT] at c2
          have HF2 := Hid.mk' (HD2.out.rest.files f hfm)
          clear hlu hcell c0 hloose hz
          go_region_with (go_at_call 50; refine (hlose _ (HF2.out.upd ((Upd.refl _ (fun _ => False)).drew) (fun _ _ h => h))).mono ?_; rintro e w3 ⟨rfl, v', ho3, hf3, hu3⟩; have HX := Hid.mk' (HNX.out _ w3 v' (HD2.out.upd ((Upd.refl _ (fun _ => False)).drew) (fun _ _ h => h)) (HU2.out.drew) ho3 hf3 hu3); replace c2 := (hu3.cell (p := ⟨d, 2, none⟩) hd2 (fun e => hbd e.symm)).trans c2; replace f2 := (hu3.frozen (p := ⟨d, 2, none⟩) hd2 (fun e => hbd e.symm)).trans f2; clear hf3 hu3 ho3)
          all_goals
            go_wp2
            go_roundg (p.fs.length - (k + 1))
            case measure => omega
            case rel => exact ⟨k + 1, by omega, rfl, by go_num, by rw [e2]; go_num, HX.out⟩
        · have hpk0 : pk = 0 := by rw [← hpk, List.getD_eq_getElem?_getD, List.getElem?_eq_none (by omega)]; rfl
          subst hpk0
          go_wp2_with (go_at_call 49; refine hloose.mono ?_; rintro e w2 ⟨rfl, n2, rfl⟩)
          have HD2 : Hid (Dk B (wr.drewN n2) d g' (partP p picks k)) := HDX.out.upd (Upd.drewN _ _ (fun _ => False)) (fun _ _ h => h)
          have HU2 : Hid (Upd w1 (wr.drewN n2) (Foot d g)) := HUX.out.trans (Upd.drewN _ _ _) (fun _ _ h => h)
          generalize wr.drewN n2 = w2 at HD2 HU2 ⊢
          have c2 := HD2.out.cells.c2
          have f2 := HD2.out.cells.f2
          have hd2 := HD2.out.cells.lt
          rw [hT] at c2
          have HF2 := Hid.mk' (HD2.out.rest.files f hfm)
          clear hlu hcell c0 hloose hz
          go_region_with (go_at_call 50; refine (hlose _ (HF2.out.upd ((Upd.refl _ (fun _ => False)).drew) (fun _ _ h => h))).mono ?_; rintro e w3 ⟨rfl, v', ho3, hf3, hu3⟩; have HX := Hid.mk' (HNX.out _ w3 v' (HD2.out.upd ((Upd.refl _ (fun _ => False)).drew) (fun _ _ h => h)) (HU2.out.drew) ho3 hf3 hu3); replace c2 := (hu3.cell (p := ⟨d, 2, none⟩) hd2 (fun e => hbd e.symm)).trans c2; replace f2 := (hu3.frozen (p := ⟨d, 2, none⟩) hd2 (fun e => hbd e.symm)).trans f2; clear hf3 hu3 ho3)
          all_goals
            go_wp2
            go_roundg (p.fs.length - (k + 1))
            case measure => omega
            case rel => exact ⟨k + 1, by omega, rfl, by go_num, by rw [e2]; go_num, HX.out⟩
    · obtain rfl : k = p.fs.length := by omega
      rw [partP_end] at hd'
      rw [List.take_length]
      have c4 := hd'.cells.c4; have c5 := hd'.cells.c5; have f4 := hd'.cells.f4; have f5 := hd'.cells.f5
      have HC : Hid (Dk B wr d g' ⟨crashL picks 0 p.fs, p.room, p.ops, p.stops, p.dead⟩) := hd'
      have HUX := Hid.mk' hu'
      have HFT := Hid.mk' hft
      clear hd' hu' hft hcn
      go_wp2
      go_ret
      have hs5 := upd_cell wr d 5 (.bool false)
      have hs4 := upd_cell (wr.setCell ⟨d, 5, none⟩ (.bool false)) d 4 (.int .i64 0)
      refine ⟨rfl, g', ⟨HC.out.view, (HC.out.cells.set5 false).set4 0, (HC.out.rest.upd hs5 (fun j hj e => HC.out.rest.ne hj e)).upd hs4 (fun j hj e => HC.out.rest.ne hj e)⟩, ?_, fun j hj => .inl (HFT.out j hj)⟩
      exact (((Upd.ofBelow HB1.out).trans HUX.out (fun _ _ h => h)).trans hs5 (fun _ _ e => .inl e)).trans hs4 (fun _ _ e => .inl e)
end Go.Proofs.YtdcpfjlnagigaaaGreatDoor
