/- The chapter's example: known. -/
import Derived.Test.YtdcpfjlnagigaaaGreatDoorSK3
namespace Go.Proofs.YtdcpfjlnagigaaaGreatDoor
open Go Go.RowKit
theorem play0 : PlayAt (q0 65536) 65536 0 := ⟨rfl, by decide, by decide, by show _ ≤ (0 : Int); decide, by show (0 : Int) ≤ _; decide, by show (0 : Int) ≤ 0; decide, by show (0 : Int) ≤ _; decide, by show (0 : Nat) ≤ 0; decide, by show (0 : Nat) ≤ 0; decide⟩
theorem calm0 : Calm (q0 65536) := ⟨rfl, rfl, List.Pairwise.nil⟩
def s7 : Sh := ⟨7, 2, [1, 2], [120]⟩
theorem s7_ok : s7.ok 7 := ⟨rfl, by decide, by decide, by decide, by decide, fun x hx => by
  have hx : x ∈ [(120 : Int)] := hx
  rw [List.mem_singleton.1 hx]; decide, by decide⟩
theorem s7_fine : s7.fine := ⟨by decide, by decide, ⟨by decide, by decide⟩, by decide, (fun v hv => by
  have hv : v ∈ [(1 : Int), 2] := hv
  rcases List.mem_cons.1 hv with rfl | hv
  · exact ⟨by decide, by decide⟩
  · rw [List.mem_singleton.1 hv]; exact ⟨by decide, by decide⟩), s7_ok.db, by decide⟩
theorem s7_len : (frameB s7.body).length = 46 := by rw [frameB_len, Sh.body_len]; rfl
abbrev p7 : PS := saveP (q0 65536) 7 (frameB s7.body)
theorem p7_facts : saveE (q0 65536) 7 (frameB s7.body) = 0 ∧ Calm p7 ∧ p7.fs = [⟨sname 7, frameB s7.body, (frameB s7.body).length⟩] := by
  obtain ⟨e1, c1, _, m1⟩ := save_calm (p := q0 65536) (n := 7) (bs := frameB s7.body) calm0 (by decide) (by rw [s7_len]; decide) (fun f hf => by cases hf)
  refine ⟨e1, c1, ?_⟩
  have hall : ∀ f ∈ p7.fs, f = ⟨sname 7, frameB s7.body, (frameB s7.body).length⟩ := fun f hf => by
    rcases (m1 f).1 hf with h | ⟨h, _⟩
    · exact h
    · cases h
  have hm : (⟨sname 7, frameB s7.body, (frameB s7.body).length⟩ : PF) ∈ p7.fs := (m1 _).2 (.inl rfl)
  have hup := c1.up
  generalize p7.fs = l at hall hm hup ⊢
  match l, hall, hm, hup with
  | [], _, h0, _ => cases h0
  | [a], h, _, _ => rw [h a List.mem_cons_self]
  | a :: b :: r, h, _, hu =>
    exfalso
    have h1 := (List.pairwise_cons.1 hu).1 b List.mem_cons_self
    rw [h a List.mem_cons_self, h b (List.mem_cons_of_mem _ List.mem_cons_self)] at h1
    have := sname_lt 7 7 (by omega) (by omega) h1
    omega
theorem p7_names : ∀ f ∈ p7.fs, ShotName f.name := fun f hf => by
  rw [p7_facts.2.2, List.mem_singleton] at hf
  exact .inl ⟨7, by decide, by decide, by rw [hf]⟩
theorem p7_ixs : ixs p7 = [7] := by
  show nums numS (p7.fs.map PF.name) = _
  rw [p7_facts.2.2]
  rfl
def got7 (m : Int) : Option Sh := if m = 7 then some s7 else none
theorem p7_file : ∀ m ∈ ixs p7, FileAt p7 got7 m := fun m hm => by
  rw [p7_ixs, List.mem_singleton] at hm
  subst hm
  have hf : (⟨sname 7, frameB s7.body, (frameB s7.body).length⟩ : PF) ∈ p7.fs := by rw [p7_facts.2.2]; exact List.mem_singleton.2 rfl
  obtain ⟨r1, r2⟩ := read_yes p7_facts.2.1.up p7_facts.2.1.dead hf (sname_ok 7 (by decide))
  exact ⟨7, rfl, by decide, r1, .inl ⟨s7, rfl, r2, s7_fine, rfl⟩⟩
theorem seesI_two (w : World) (x y : Int) : SeesI (w.alloc (.cells #[.int .i64 x, .int .i64 y] 3)) (.slice (some ⟨w.heap.size, 0, none⟩) 2 2) [x, y] := by
  refine .inr ⟨w.heap.size, 0, 2, rfl, by simp, by simp, fun i hi => ?_⟩
  rw [cell_of_row _ _ _ _ _ _ (heap_alloc_new w _)]
  match i, hi with
  | 0, _ => rfl
  | 1, _ => rfl
  | i + 2, h => exact absurd h (by show ¬ i + 2 < 2; omega)
theorem load0 (hPY : ParseYes) (B d : Nat) (w : World) (hd : Dk B w d ⟨none, []⟩ (q0 65536)) (hT : HasTab w) : Calls Tryz.prog 12 #[ptr d] w fun e w' => e = .returned (.tuple #[.agg #[.int .i64 0, .int .i64 0, .slice none 0 0], .slice none 0 0, .int .i64 2]) ∧ Below w.heap.size w w' := by
  refine (load_any hPY B d _ (q0 65536) w hd (by show (0 : Nat) ≤ _; decide) (by show (0 : Nat) < _; decide) rfl (fun f hf => by cases hf) hT (fun _ => none) (fun m hm => by cases hm)).mono ?_
  rintro e w' ⟨(⟨rfl, _⟩ | ⟨k, s, vv, dv, hk, _⟩), hb⟩
  · exact ⟨rfl, hb⟩
  · exact absurd hk (by show ¬ k < 0; omega)
theorem load7 (hPY : ParseYes) (B d : Nat) (g : Gu) (w : World) (hd : Dk B w d g p7) (hT : HasTab w) : Calls Tryz.prog 12 #[ptr d] w fun e w' => (∃ vv dv, e = .returned (.tuple #[.agg #[.int .i64 7, .int .i64 2, vv], dv, .int .i64 0]) ∧ SeesI w' vv [1, 2] ∧ Sees w' dv [120]) ∧ Below w.heap.size w w' := by
  have hfs := p7_facts.2.2
  refine (load_any hPY B d g p7 w hd (by rw [hfs]; show total [_] ≤ _; simp only [total, List.map_cons, List.map_nil, List.sum_cons, List.sum_nil]; rw [s7_len]; decide) (by rw [hfs]; decide) p7_facts.2.1.dead p7_names hT got7 p7_file).mono ?_
  rintro e w' ⟨(⟨rfl, hno⟩ | ⟨k, s, vv, dv, hk, hg, _, rfl, h1, h2, _⟩), hb⟩
  · have := hno 7 (by rw [p7_ixs]; exact List.mem_singleton.2 rfl)
    exact absurd this (by unfold got7; rw [if_pos rfl]; exact fun e => by cases e)
  · rw [p7_ixs] at hk hg
    obtain rfl : k = 0 := by have : k < 1 := hk; omega
    have hs : s = s7 := by
      have : some s7 = some s := hg
      exact (Option.some.inj this).symm
    subst hs
    exact ⟨⟨vv, dv, rfl, h1, h2⟩, hb⟩
set_option maxRecDepth 100000 in
set_option maxHeartbeats 4000000 in
theorem known_any (hPY : ParseYes) (w : World) (hT : HasTab w) : Calls Tryz.prog 6 #[] w fun e w' => e = .returned (.bool true) ∧ Below w.heap.size w w' := by
  have hnew := new_dk w.heap.size 65536 w (by decide) (Nat.le_refl _)
  have HT := Hid.mk' hT
  clear hT
  go_enter Tryz.func6, Tryz.ntmps6
  go_wp2_with fail
  refine hnew.mono ?_
  rintro e w1 ⟨d, hde, rfl, hd1, hb1⟩
  have HDE := Hid.mk' hde
  have hl0 := load0 hPY _ d w1 hd1 (HT.out.below hb1)
  have HD1 := Hid.mk' hd1
  have HB1 := Hid.mk' hb1
  clear hde hd1 hb1 hnew
  go_wp2_with fail
  refine hl0.mono ?_
  rintro e w2 ⟨rfl, hb2⟩
  have HD2 := Hid.mk' (HD1.out.below hb2)
  have HB2 : Hid (Below w.heap.size w w2) := HB1.out.trans (hb2.mono HB1.out.size)
  clear hb2 hl0 HD1 HB1
  have hszX : ((w2.alloc (.cells #[.int .i64 0, .int .i64 0, .slice none 0 0] 34)).alloc (.cells #[.int .i64 1, .int .i64 2] 3)).heap.size = w2.heap.size + 1 + 1 := by simp
  have hcv := Lib.run_convert_bytes_const (P := Tryz.prog) ((w2.alloc (.cells #[.int .i64 0, .int .i64 0, .slice none 0 0] 34)).alloc (.cells #[.int .i64 1, .int .i64 2] 3)) 35 5 #[.int .u8 120] 1 1 Tryz.underlying35 Tryz.underlying5
  rw [hszX] at hcv
  have hsv0 := seesI_two (w2.alloc (.cells #[.int .i64 0, .int .i64 0, .slice none 0 0] 34)) 1 2
  rw [World.size_alloc] at hsv0
  obtain ⟨wX, hwX⟩ : ∃ wX, wX = ((w2.alloc (.cells #[.int .i64 0, .int .i64 0, .slice none 0 0] 34)).alloc (.cells #[.int .i64 1, .int .i64 2] 3)).alloc (.cells #[.int .u8 120] 5 (1, 2)) := ⟨_, rfl⟩
  have hbX0 : Below w2.heap.size w2 wX := by rw [hwX]; exact ((((Below.refl _ w2).alloc (Nat.le_refl _) _).alloc (by simp) _).alloc (by simp; omega) _)
  have hsvX : SeesI wX (.slice (some ⟨w2.heap.size + 1, 0, none⟩) 2 2) [1, 2] := by
    rw [hwX]
    exact hsv0.upd (Upd.alloc _ _ (fun _ => False)) (fun _ _ _ => id)
  have hsdX : Sees wX (.slice (some ⟨w2.heap.size + 1 + 1, 0, none⟩) 1 1) [120] := by
    rw [hwX]
    have h := sees_new ((w2.alloc (.cells #[.int .i64 0, .int .i64 0, .slice none 0 0] 34)).alloc (.cells #[.int .i64 1, .int .i64 2] 3)) [120] (1, 2) (by decide) (by decide)
    rw [hszX] at h
    exact h
  have hszB : w.heap.size ≤ w2.heap.size := HB2.out.size
  have hsave := save_any w.heap.size d _ (q0 65536) 65536 0 7 s7 _ _ wX (HD2.out.below hbX0) (Nat.le_trans hszB hbX0.size) (HT.out.below (HB2.out.trans (hbX0.mono hszB))) play0 (by decide) s7_ok hsvX hsdX
  rw [p7_facts.1] at hsave
  have HBX : Hid (Below w.heap.size w wX) := HB2.out.trans (hbX0.mono hszB)
  have HDX := Hid.mk' (HD2.out.below hbX0)
  clear hsv0 hsvX hsdX hbX0 HB2 HD2 hszX hszB
  go_wp2_with fail
  rw [← hwX]
  refine hsave.mono ?_
  rintro e w3 ⟨rfl, hpo, _⟩
  obtain ⟨g3, hd3, hb3⟩ := hpo.go HDX.out HBX.out.size
  have HB3 : Hid (Below w.heap.size w w3) := HBX.out.trans hb3
  have hl7 := load7 hPY w.heap.size d g3 w3 hd3 (HT.out.below HB3.out)
  have HD3 := Hid.mk' hd3
  clear hwX hsave hpo hd3 hb3 HDX HBX hcv
  go_wp2_with fail
  refine hl7.mono ?_
  rintro e w4 ⟨⟨vv, dv, rfl, hvv, hdv⟩, hb4⟩
  obtain ⟨vo, vc, rfl⟩ := hvv.form
  obtain ⟨do_, dc, rfl⟩ := hdv.form
  have hb5 : ∀ o, Below w4.heap.size w4 (w4.alloc o) := fun o => (Below.refl _ _).alloc (Nat.le_refl _) o
  have hli := fun o => list_any w.heap.size d g3 p7 (w4.alloc o) ((HD3.out.below hb4).below (hb5 o)) (by rw [p7_facts.2.2]; decide)
  have hlE : listE p7 = 0 := by unfold listE; rw [p7_facts.2.1.dead]; rfl
  have hlB : listB p7 = [sname 7] := by unfold listB; rw [p7_facts.2.1.dead, p7_facts.2.2]; rfl
  rw [hlE, hlB] at hli
  have HB4 : Hid (Below w.heap.size w w4) := HB3.out.trans (hb4.mono HB3.out.size)
  have HDV := Hid.mk' hdv
  clear hvv hdv hb4 hl7 HD3 HB3 hlE hlB
  go_wp2_with fail
  refine (hli _).mono ?_
  rintro e w6 ⟨v6, rfl, ho6, hb6⟩
  have hsd6 : Sees w6 (.slice do_ [(120 : Int)].length dc) [120] := (HDV.out.below (hb5 _)).below hb6
  have hcv6 : (convert 35 9 (.slice do_ 1 dc)).run Tryz.prog w6 = .ok (.string (⟨#[120]⟩ : ByteArray)) w6 := conv_sees hsd6
  have hrow6 := (hb6.block w4.heap.size (by simp)).trans (heap_alloc_new w4 _)
  have k0 : w6.cell? ⟨w4.heap.size, 0, none⟩ = some (.int .i64 7) := (cell_of_row _ _ _ _ _ _ hrow6).trans rfl
  obtain ⟨a6, c6, rfl⟩ := owns_form ho6
  obtain ⟨g6, hg6⟩ : ∃ g6, a6 = some ⟨g6, 0, none⟩ := by
    rcases ho6.2 with ⟨h, h0⟩ | ⟨g', cap, cur, h, _⟩
    · exact absurd h0 (by decide)
    · simp only [Value.slice.injEq] at h
      exact ⟨g', h.1⟩
  subst hg6
  have k6 : w6.cell? ⟨g6, 0, none⟩ = some (.string ⟨(sname 7).toArray⟩) := by
    rw [ho6.cellAt 0 (by decide)]
    rfl
  have HB6 : Hid (Below w.heap.size w w6) := (HB4.out.alloc HB4.out.size _).trans (hb6.mono (by have := HB4.out.size; simp; omega))
  clear ho6 hb6 hrow6 hli hb5 hsd6 HDV
  go_wp2
  go_ret
  exact ⟨rfl, HB6.out⟩
end Go.Proofs.YtdcpfjlnagigaaaGreatDoor
