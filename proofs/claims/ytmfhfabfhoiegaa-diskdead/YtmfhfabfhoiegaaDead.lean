/- DiskDead, walked: from the operation on at which it was to stop a disk does nothing, and tells nothing, till it crashes. -/
import Derived.Test.YtmfhfabfhoiegaaDeadP
namespace Go.Proofs.Ytmfhfabfhoiegaa
open Go Go.RowKit
/-- What one call of a story leaves: an error that is ErrDead just where it must be. -/
def DeadPost (B : Nat) (w0 w' : World) (d n c' : Nat) (E : Int) : Prop := ((E = 13) ↔ n ≤ c') ∧ ∃ g p, Dk B w' d g p ∧ DeadAt p n c' ∧ Below B w0 w'
section
variable {B d n c : Nat} {g : Gu} {p : PS} {w0 w : World}
theorem dead_app (hd : Dk B w d g p) (hda : DeadAt p n c) (h1 : 1 ≤ n) (h9 : n ≤ 9) (hc : c ≤ 40) (hb : Below B w0 w) (hB : B ≤ w0.heap.size) (s : ByteArray) (v : Value) (ys : List Int) (hv : Sees w v ys) (hy : isB ys) (hl : ys.length ≤ 500) (hoff : ∀ k, v.ownBlock = some k → 0 < ys.length → ¬ Foot d g k) :
    Calls Try.prog 12 #[ptr d, .string s, v] w fun e w' => ∃ E, e = .returned (.int .i64 E) ∧ DeadPost B w0 w' d n (c + 1) E := by
  have hs := hb.size
  refine (append_any B d g p s v ys w hd (hda.sane h1 h9 hc) (by omega) hv hy hoff (by omega)).mono ?_
  rintro e w' ⟨rfl, hp⟩
  obtain ⟨g', k1, k2⟩ := hp.go hd (by omega)
  obtain ⟨a1, a2, a3, a4⟩ := app_rest p s.data.toList ys
  have ht := app_total_le (nm := s.data.toList) (ys := ys) hd.up
  refine ⟨_, rfl, by rw [appE_dead, hda.stopped, decide_eq_true_eq], g', _, k1, hda.next a1 a2 a3 a4 (by omega) (app_len _ _ _), hb.trans k2⟩
theorem dead_sync (hd : Dk B w d g p) (hda : DeadAt p n c) (h1 : 1 ≤ n) (h9 : n ≤ 9) (hc : c ≤ 40) (hb : Below B w0 w) (hB : B ≤ w0.heap.size) (s : ByteArray) :
    Calls Try.prog 14 #[ptr d, .string s] w fun e w' => ∃ E, e = .returned (.int .i64 E) ∧ DeadPost B w0 w' d n (c + 1) E := by
  have hs := hb.size
  refine (sync_any B d g p s w hd (hda.sane h1 h9 hc)).mono ?_
  rintro e w' ⟨rfl, hp⟩
  obtain ⟨g', k1, k2⟩ := hp.go hd (by omega)
  obtain ⟨a1, a2, a3, a4⟩ := sync_rest p s.data.toList
  have ht := sync_total (nm := s.data.toList) hd.up
  refine ⟨_, rfl, by rw [opE_dead, hda.stopped, decide_eq_true_eq], g', _, k1, hda.next a1 a2 a3 a4 (by omega) ht.2, hb.trans k2⟩
theorem dead_ren (hd : Dk B w d g p) (hda : DeadAt p n c) (h1 : 1 ≤ n) (h9 : n ≤ 9) (hc : c ≤ 40) (hb : Below B w0 w) (hB : B ≤ w0.heap.size) (s t : ByteArray) :
    Calls Try.prog 16 #[ptr d, .string s, .string t] w fun e w' => ∃ E, e = .returned (.int .i64 E) ∧ DeadPost B w0 w' d n (c + 1) E := by
  have hs := hb.size
  refine (rename_any B d g p s t w hd (hda.sane h1 h9 hc)).mono ?_
  rintro e w' ⟨rfl, hp⟩
  obtain ⟨g', k1, k2⟩ := hp.go hd (by omega)
  obtain ⟨a1, a2, a3, a4⟩ := ren_rest p s.data.toList t.data.toList
  have ht := ren_total (a := s.data.toList) (b := t.data.toList) hd.up
  refine ⟨_, rfl, by rw [renE_dead, hda.stopped, decide_eq_true_eq], g', _, k1, hda.next a1 a2 a3 a4 (by omega) ht.2, hb.trans k2⟩
theorem dead_rem (hd : Dk B w d g p) (hda : DeadAt p n c) (h1 : 1 ≤ n) (h9 : n ≤ 9) (hc : c ≤ 40) (hb : Below B w0 w) (hB : B ≤ w0.heap.size) (s : ByteArray) :
    Calls Try.prog 18 #[ptr d, .string s] w fun e w' => ∃ E, e = .returned (.int .i64 E) ∧ DeadPost B w0 w' d n (c + 1) E := by
  have hs := hb.size
  refine (remove_any B d g p s w hd (hda.sane h1 h9 hc)).mono ?_
  rintro e w' ⟨rfl, hp⟩
  obtain ⟨g', k1, k2⟩ := hp.go hd (by omega)
  obtain ⟨a1, a2, a3, a4⟩ := rem_rest p s.data.toList
  have ht := rem_total p s.data.toList
  refine ⟨_, rfl, by rw [opE_dead, hda.stopped, decide_eq_true_eq], g', _, k1, hda.next a1 a2 a3 a4 (by omega) (by omega), hb.trans k2⟩
theorem dead_read (hd : Dk B w d g p) (hda : DeadAt p n c) (hc : c ≤ 40) (hb : Below B w0 w) (hB : B ≤ w0.heap.size) (s : ByteArray) :
    Calls Try.prog 20 #[ptr d, .string s] w fun e w' => ∃ a m q E, e = .returned (.tuple #[.slice a m q, .int .i64 E]) ∧ DeadPost B w0 w' d n c E := by
  have hs := hb.size
  refine (read_any B d g p s w hd (by have := hda.tot; omega)).mono ?_
  rintro e w' ⟨v, rfl, ho, hb'⟩
  obtain ⟨a, q, rfl⟩ := owns_form ho
  exact ⟨_, _, _, _, rfl, by rw [readE_dead, hda.dead, decide_eq_true_eq], g, p, hd.below hb', hda, hb.trans (hb'.mono (by omega))⟩
theorem dead_list (hd : Dk B w d g p) (hda : DeadAt p n c) (hc : c ≤ 40) (hb : Below B w0 w) (hB : B ≤ w0.heap.size) :
    Calls Try.prog 22 #[ptr d] w fun e w' => ∃ a m q E, e = .returned (.tuple #[.slice a m q, .int .i64 E]) ∧ DeadPost B w0 w' d n c E := by
  have hs := hb.size
  refine (list_any B d g p w hd (by have := hda.len; omega)).mono ?_
  rintro e w' ⟨v, rfl, ho, hb'⟩
  obtain ⟨a, q, rfl⟩ := owns_form ho
  exact ⟨_, _, _, _, rfl, by rw [listE_dead, hda.dead, decide_eq_true_eq], g, p, hd.below hb', hda, hb.trans (hb'.mono (by omega))⟩
end
theorem DeadAt.opsV {p : PS} {n c : Nat} (h : DeadAt p n c) : (n ≤ c → p.ops = (n : Int) - 1) ∧ (¬ n ≤ c → p.ops = c) := ⟨fun hc => (h.over hc).2.2, fun hc => (h.live (by omega)).2.2⟩
def deadRel (B : Nat) (w0 wx : World) (d n c : Nat) : Prop := ∃ g p, Dk B wx d g p ∧ DeadAt p n c ∧ Below B w0 wx
set_option maxRecDepth 100000 in
set_option maxHeartbeats 4000000 in
theorem dead_walk (x : Int) (v : Value) (cs : List Cl) (w : World) (_hx : -9223372036854775808 ≤ x ∧ x ≤ 9223372036854775807) (hv : SeesC w v cs) (_hl : cs.length ≤ maxLen) :
    Calls Try.prog 7 #[.int .i64 x, v] w fun e w' => e = .returned (.bool true) ∧ Below w.heap.size w w' := by
  obtain ⟨N0, hN9, hN⟩ := withinF_nat x 9 (by decide)
  have hwi := within_any x 9
  rw [hN] at hwi
  obtain ⟨vo, vc, hvv⟩ := hv.form
  subst hvv
  have HV := Hid.mk' hv
  have heq : ∀ (w' : World) (d : Nat), (binOp .eql 24 (ptr d) (.pointer none)).run Try.prog w' = .ok (.bool false) w' := fun _ _ => by kernel_rfl
  clear hv hN _hx
  go_enter Try.func7, Try.ntmps7
  go_wp2_with (go_at_call 9; refine (known_any _).mono ?_; rintro e w0 ⟨rfl, hb0⟩)
  have hs0 := hb0.size
  refine (new_dk w.heap.size 65536 w0 (by decide) hs0).mono ?_
  rintro e w1 ⟨d, hdd, rfl, hd1, hb1⟩
  replace hb1 := hb0.trans (hb1.mono hs0)
  have hs1 := hb1.size
  clear hdd hb0 hs0
  obtain ⟨n, hn⟩ : ∃ n : Nat, n = 1 + N0 := ⟨_, rfl⟩
  have hnz : (1 : Int) + N0 = n := by omega
  have hst := stop_any w.heap.size d _ _ (n : Int) w1 hd1
  have hn1 : 1 ≤ n := by omega
  have hn9 : n ≤ 9 := by omega
  clear hn
  go_wp2_with (first | (go_at_call 33; refine (hwi _ (by decide) (by decide)).mono ?_; rintro e w1 ⟨rfl, rfl⟩) | (go_at_call 24; refine hst.mono ?_; rintro e w2 ⟨rfl, hd2, hu2⟩))
  have hb2 : Below w.heap.size w w2 := hb1.trans (hu2.below hs1 (fun j hj e => by have := hd1.rest.base; omega))
  have HI : Hid (deadRel w.heap.size w w2 d n 0) := ⟨_, _, hd2, ⟨rfl, fun _ => ⟨rfl, by show (n : Int) = _; omega, rfl⟩, fun h => by omega, by simp [q0, total], by simp [q0]⟩, hb2⟩
  clear hd1 hb1 hs1 hd2 hu2 hb2 hst hwi hnz hN9
  go_loopg [7, 8] 40 (fun g0 cc i wx => ∃ (k c : Nat), k ≤ 40 ∧ c ≤ k ∧ g0 = 40 - k ∧ i = .int .i64 k ∧ cc = .int .i64 c ∧ deadRel w.heap.size w wx d n c)
  case atStart => exact ⟨0, 0, by omega, by omega, rfl, rfl, rfl, HI.out⟩
  case round =>
    obtain ⟨k, c, hk, hck, hg0, rfl, rfl, g, p, hd, hda, hb⟩ := hrel
    have hs := hb.size
    by_cases hlt : k < cs.length ∧ k < 40
    · obtain ⟨h1, h2⟩ := hlt
      obtain ⟨vb, off, rfl, hvb, hcl⟩ := HV.out.at h1
      generalize cs.getD k noCl = cl at hcl
      have hc := hcl.below hvb hb
      obtain ⟨co, cc, hdv⟩ := hc.data.form
      have e0 := hc.c0; have e1 := hc.c1; have e2 := hc.c2; have e3 := hc.c3; have e4 := hc.c4; have e5 := hc.c5
      rw [hdv] at e4
      obtain ⟨po, pc, hpv⟩ := hc.picks.form
      rw [hpv] at e5
      have hdl := hc.dl
      by_cases hlong : 500 < cl.data.length
      · have HREL : Hid (deadRel w.heap.size w wr d n c) := ⟨g, p, hd, hda, hb⟩
        clear hd hda hb hc hcl
        go_wp2_with fail
        go_roundg (40 - (k + 1))
        case measure => omega
        case rel =>
          obtain ⟨g7, p7, q1, q2, q3⟩ := HREL.out
          exact ⟨k + 1, c, by omega, by omega, rfl, by go_num, rfl, g7, p7, q1.below ((Below.refl _ _).alloc (Nat.le_refl _) _), q2, q3.alloc hs _⟩
      · obtain ⟨r, hr3, hr⟩ := withinF_nat cl.n 3 (by decide)
        have hwr : ∀ w', Calls Try.prog 33 #[.int .i64 cl.n, .int .i64 3] w' fun e w'' => e = .returned (.int .i64 (r : Int)) ∧ w'' = w' := fun w' => by
          have := within_any cl.n 3 w' (by decide) (by decide)
          rw [hr] at this
          exact this
        obtain ⟨m, hm6, hm⟩ := withinF_nat cl.kind 6 (by decide)
        have hwm : ∀ w', Calls Try.prog 33 #[.int .i64 cl.kind, .int .i64 6] w' fun e w'' => e = .returned (.int .i64 (m : Int)) ∧ w'' = w' := fun w' => by
          have := within_any cl.kind 6 w' (by decide) (by decide)
          rw [hm] at this
          exact this
        have hu8 := u8_small r (by omega)
        have hw64 : IntKind.i64.wrap (97 + (r : Int)) = 97 + r := by rw [IntKind.wrap_i64]; omega
        have hal : Below wr.heap.size wr ((wr.alloc (.cells #[.int .i64 cl.kind, .int .i64 cl.n, .string cl.a, .string cl.b, .slice co cl.data.length cc, .slice po cl.picks.length pc] 34)).alloc (.cells #[.int .u8 (97 + r)] 5)) := ((Below.refl _ _).alloc (Nat.le_refl _) _).alloc (by simp) _
        have A1 : (convert 31 9 (.slice (some ⟨wr.heap.size + 1, 0, none⟩) 1 1)).run Try.prog ((wr.alloc (.cells #[.int .i64 cl.kind, .int .i64 cl.n, .string cl.a, .string cl.b, .slice co cl.data.length cc, .slice po cl.picks.length pc] 34)).alloc (.cells #[.int .u8 (97 + r)] 5)) = .ok (.string (strOfNums [97 + (r : Int)])) ((wr.alloc (.cells #[.int .i64 cl.kind, .int .i64 cl.n, .string cl.a, .string cl.b, .slice co cl.data.length cc, .slice po cl.picks.length pc] 34)).alloc (.cells #[.int .u8 (97 + r)] 5)) := by
          have := conv_sees (sees_new (wr.alloc (.cells #[.int .i64 cl.kind, .int .i64 cl.n, .string cl.a, .string cl.b, .slice co cl.data.length cc, .slice po cl.picks.length pc] 34)) [97 + (r : Int)] (0, 0) (by simp) (by simp [maxLen]))
          rw [show (wr.alloc (.cells #[.int .i64 cl.kind, .int .i64 cl.n, .string cl.a, .string cl.b, .slice co cl.data.length cc, .slice po cl.picks.length pc] 34)).heap.size = wr.heap.size + 1 from by simp] at this
          exact this
        have hd2 := hd.below hal
        have hb2 := hb.trans (hal.mono hs)
        have hsee := hc.data.below hal
        have hsoff := hcl.data.off hd2 (Nat.le_refl _)
        rw [hdv] at hsee hsoff
        clear hd hb hr hm hal
        rcases (by omega : m = 0 ∨ m = 1 ∨ m = 2 ∨ m = 3 ∨ m = 4 ∨ m = 5) with rfl | rfl | rfl | rfl | rfl | rfl
        · have hcall := dead_app hd2 hda hn1 hn9 (by omega) hb2 (Nat.le_refl _) (strOfNums [97 + (r : Int)]) (.slice co cl.data.length cc) cl.data hsee hc.bytes (by omega) hsoff
          have HC := Hid.mk' hcall
          clear hcall hd2 hda hb2 hsee hsoff hc hcl
          go_wp2_with (first | (go_at_call 33; with_reducible refine (hwr _).mono ?_; rintro e _ ⟨rfl, rfl⟩) | (go_at_call 33; with_reducible refine (hwm _).mono ?_; rintro e _ ⟨rfl, rfl⟩))
          clear hu8 hw64 A1 hwr hwm e0 e1 e2 e3 e4 e5 hdv hpv hdl hlong hr3 HV HI heq
          refine HC.out.mono ?_
          rintro e w5 ⟨E, rfl, hE, g5, p5, hd5, hda5, hb5⟩
          have hbn := neqB
          have hO := ops_any _ _ _ _ _ hd5
          have HR5 : Hid (deadRel w.heap.size w w5 d n (c + 1)) := ⟨g5, p5, hd5, hda5, hb5⟩
          by_cases h13 : n ≤ (c + 1)
          · have hE' := hE.2 h13
            clear hE
            subst hE'
            rw [hda5.opsV.1 h13] at hO
            have hdec : decide (n ≤ c + 1) = true := decide_eq_true h13
            have hdeci : decide ((n : Int) ≤ (c : Int) + 1) = true := decide_eq_true (by omega)
            have hmin : min ((c : Int) + 1) ((n : Int) - 1) = (n : Int) - 1 := by omega
            clear hd5 hda5 hb5 HC h13
            go_wp2_with (go_at_call 28; refine hO.mono ?_; rintro e w5 ⟨rfl, rfl⟩)
            go_roundg (40 - (k + 1))
            case measure => omega
            case rel => exact ⟨k + 1, _, by omega, by omega, rfl, by go_num, by go_num, HR5.out⟩
          · have hE2 : (E == 13) = false := (by rw [beq_eq_false_iff_ne]; exact fun e => h13 (hE.1 e))
            rw [hda5.opsV.2 h13] at hO
            rw [Int.natCast_add, Int.natCast_one] at hO
            have hdec : decide (n ≤ c + 1) = false := decide_eq_false h13
            have hdeci : decide ((n : Int) ≤ (c : Int) + 1) = false := decide_eq_false (by omega)
            have hmin : min ((c : Int) + 1) ((n : Int) - 1) = ((c : Int) + 1) := by omega
            clear hd5 hda5 hb5 HC hE h13
            go_wp2_with (go_at_call 28; refine hO.mono ?_; rintro e w5 ⟨rfl, rfl⟩)
            go_roundg (40 - (k + 1))
            case measure => omega
            case rel => exact ⟨k + 1, _, by omega, by omega, rfl, by go_num, by go_num, HR5.out⟩
        · have hcall := dead_sync hd2 hda hn1 hn9 (by omega) hb2 (Nat.le_refl _) (strOfNums [97 + (r : Int)])
          have HC := Hid.mk' hcall
          clear hcall hd2 hda hb2 hsee hsoff hc hcl
          go_wp2_with (first | (go_at_call 33; with_reducible refine (hwr _).mono ?_; rintro e _ ⟨rfl, rfl⟩) | (go_at_call 33; with_reducible refine (hwm _).mono ?_; rintro e _ ⟨rfl, rfl⟩))
          clear hu8 hw64 A1 hwr hwm e0 e1 e2 e3 e4 e5 hdv hpv hdl hlong hr3 HV HI heq
          refine HC.out.mono ?_
          rintro e w5 ⟨E, rfl, hE, g5, p5, hd5, hda5, hb5⟩
          have hbn := neqB
          have hO := ops_any _ _ _ _ _ hd5
          have HR5 : Hid (deadRel w.heap.size w w5 d n (c + 1)) := ⟨g5, p5, hd5, hda5, hb5⟩
          by_cases h13 : n ≤ (c + 1)
          · have hE' := hE.2 h13
            clear hE
            subst hE'
            rw [hda5.opsV.1 h13] at hO
            have hdec : decide (n ≤ c + 1) = true := decide_eq_true h13
            have hdeci : decide ((n : Int) ≤ (c : Int) + 1) = true := decide_eq_true (by omega)
            have hmin : min ((c : Int) + 1) ((n : Int) - 1) = (n : Int) - 1 := by omega
            clear hd5 hda5 hb5 HC h13
            go_wp2_with (go_at_call 28; refine hO.mono ?_; rintro e w5 ⟨rfl, rfl⟩)
            go_roundg (40 - (k + 1))
            case measure => omega
            case rel => exact ⟨k + 1, _, by omega, by omega, rfl, by go_num, by go_num, HR5.out⟩
          · have hE2 : (E == 13) = false := (by rw [beq_eq_false_iff_ne]; exact fun e => h13 (hE.1 e))
            rw [hda5.opsV.2 h13] at hO
            rw [Int.natCast_add, Int.natCast_one] at hO
            have hdec : decide (n ≤ c + 1) = false := decide_eq_false h13
            have hdeci : decide ((n : Int) ≤ (c : Int) + 1) = false := decide_eq_false (by omega)
            have hmin : min ((c : Int) + 1) ((n : Int) - 1) = ((c : Int) + 1) := by omega
            clear hd5 hda5 hb5 HC hE h13
            go_wp2_with (go_at_call 28; refine hO.mono ?_; rintro e w5 ⟨rfl, rfl⟩)
            go_roundg (40 - (k + 1))
            case measure => omega
            case rel => exact ⟨k + 1, _, by omega, by omega, rfl, by go_num, by go_num, HR5.out⟩
        · have hcall := dead_ren hd2 hda hn1 hn9 (by omega) hb2 (Nat.le_refl _) (strOfNums [97 + (r : Int)]) ⟨#[122]⟩
          have HC := Hid.mk' hcall
          clear hcall hd2 hda hb2 hsee hsoff hc hcl
          go_wp2_with (first | (go_at_call 33; with_reducible refine (hwr _).mono ?_; rintro e _ ⟨rfl, rfl⟩) | (go_at_call 33; with_reducible refine (hwm _).mono ?_; rintro e _ ⟨rfl, rfl⟩))
          clear hu8 hw64 A1 hwr hwm e0 e1 e2 e3 e4 e5 hdv hpv hdl hlong hr3 HV HI heq
          refine HC.out.mono ?_
          rintro e w5 ⟨E, rfl, hE, g5, p5, hd5, hda5, hb5⟩
          have hbn := neqB
          have hO := ops_any _ _ _ _ _ hd5
          have HR5 : Hid (deadRel w.heap.size w w5 d n (c + 1)) := ⟨g5, p5, hd5, hda5, hb5⟩
          by_cases h13 : n ≤ (c + 1)
          · have hE' := hE.2 h13
            clear hE
            subst hE'
            rw [hda5.opsV.1 h13] at hO
            have hdec : decide (n ≤ c + 1) = true := decide_eq_true h13
            have hdeci : decide ((n : Int) ≤ (c : Int) + 1) = true := decide_eq_true (by omega)
            have hmin : min ((c : Int) + 1) ((n : Int) - 1) = (n : Int) - 1 := by omega
            clear hd5 hda5 hb5 HC h13
            go_wp2_with (go_at_call 28; refine hO.mono ?_; rintro e w5 ⟨rfl, rfl⟩)
            go_roundg (40 - (k + 1))
            case measure => omega
            case rel => exact ⟨k + 1, _, by omega, by omega, rfl, by go_num, by go_num, HR5.out⟩
          · have hE2 : (E == 13) = false := (by rw [beq_eq_false_iff_ne]; exact fun e => h13 (hE.1 e))
            rw [hda5.opsV.2 h13] at hO
            rw [Int.natCast_add, Int.natCast_one] at hO
            have hdec : decide (n ≤ c + 1) = false := decide_eq_false h13
            have hdeci : decide ((n : Int) ≤ (c : Int) + 1) = false := decide_eq_false (by omega)
            have hmin : min ((c : Int) + 1) ((n : Int) - 1) = ((c : Int) + 1) := by omega
            clear hd5 hda5 hb5 HC hE h13
            go_wp2_with (go_at_call 28; refine hO.mono ?_; rintro e w5 ⟨rfl, rfl⟩)
            go_roundg (40 - (k + 1))
            case measure => omega
            case rel => exact ⟨k + 1, _, by omega, by omega, rfl, by go_num, by go_num, HR5.out⟩
        · have hcall := dead_rem hd2 hda hn1 hn9 (by omega) hb2 (Nat.le_refl _) (strOfNums [97 + (r : Int)])
          have HC := Hid.mk' hcall
          clear hcall hd2 hda hb2 hsee hsoff hc hcl
          go_wp2_with (first | (go_at_call 33; with_reducible refine (hwr _).mono ?_; rintro e _ ⟨rfl, rfl⟩) | (go_at_call 33; with_reducible refine (hwm _).mono ?_; rintro e _ ⟨rfl, rfl⟩))
          clear hu8 hw64 A1 hwr hwm e0 e1 e2 e3 e4 e5 hdv hpv hdl hlong hr3 HV HI heq
          refine HC.out.mono ?_
          rintro e w5 ⟨E, rfl, hE, g5, p5, hd5, hda5, hb5⟩
          have hbn := neqB
          have hO := ops_any _ _ _ _ _ hd5
          have HR5 : Hid (deadRel w.heap.size w w5 d n (c + 1)) := ⟨g5, p5, hd5, hda5, hb5⟩
          by_cases h13 : n ≤ (c + 1)
          · have hE' := hE.2 h13
            clear hE
            subst hE'
            rw [hda5.opsV.1 h13] at hO
            have hdec : decide (n ≤ c + 1) = true := decide_eq_true h13
            have hdeci : decide ((n : Int) ≤ (c : Int) + 1) = true := decide_eq_true (by omega)
            have hmin : min ((c : Int) + 1) ((n : Int) - 1) = (n : Int) - 1 := by omega
            clear hd5 hda5 hb5 HC h13
            go_wp2_with (go_at_call 28; refine hO.mono ?_; rintro e w5 ⟨rfl, rfl⟩)
            go_roundg (40 - (k + 1))
            case measure => omega
            case rel => exact ⟨k + 1, _, by omega, by omega, rfl, by go_num, by go_num, HR5.out⟩
          · have hE2 : (E == 13) = false := (by rw [beq_eq_false_iff_ne]; exact fun e => h13 (hE.1 e))
            rw [hda5.opsV.2 h13] at hO
            rw [Int.natCast_add, Int.natCast_one] at hO
            have hdec : decide (n ≤ c + 1) = false := decide_eq_false h13
            have hdeci : decide ((n : Int) ≤ (c : Int) + 1) = false := decide_eq_false (by omega)
            have hmin : min ((c : Int) + 1) ((n : Int) - 1) = ((c : Int) + 1) := by omega
            clear hd5 hda5 hb5 HC hE h13
            go_wp2_with (go_at_call 28; refine hO.mono ?_; rintro e w5 ⟨rfl, rfl⟩)
            go_roundg (40 - (k + 1))
            case measure => omega
            case rel => exact ⟨k + 1, _, by omega, by omega, rfl, by go_num, by go_num, HR5.out⟩
        · have hcall := dead_read hd2 hda (by omega) hb2 (Nat.le_refl _) (strOfNums [97 + (r : Int)])
          have HC := Hid.mk' hcall
          clear hcall hd2 hda hb2 hsee hsoff hc hcl
          go_wp2_with (first | (go_at_call 33; with_reducible refine (hwr _).mono ?_; rintro e _ ⟨rfl, rfl⟩) | (go_at_call 33; with_reducible refine (hwm _).mono ?_; rintro e _ ⟨rfl, rfl⟩))
          clear hu8 hw64 A1 hwr hwm e0 e1 e2 e3 e4 e5 hdv hpv hdl hlong hr3 HV HI heq
          refine HC.out.mono ?_
          rintro e w5 ⟨va5, vm5, vq5, E, rfl, hE, g5, p5, hd5, hda5, hb5⟩
          have hbn := neqB
          have hO := ops_any _ _ _ _ _ hd5
          have HR5 : Hid (deadRel w.heap.size w w5 d n c) := ⟨g5, p5, hd5, hda5, hb5⟩
          by_cases h13 : n ≤ c
          · have hE' := hE.2 h13
            clear hE
            subst hE'
            rw [hda5.opsV.1 h13] at hO
            have hdec : decide (n ≤ c) = true := decide_eq_true h13
            have hdeci : decide ((n : Int) ≤ (c : Int)) = true := decide_eq_true (by omega)
            have hmin : min (c : Int) ((n : Int) - 1) = (n : Int) - 1 := by omega
            clear hd5 hda5 hb5 HC h13
            go_wp2_with (go_at_call 28; refine hO.mono ?_; rintro e w5 ⟨rfl, rfl⟩)
            go_roundg (40 - (k + 1))
            case measure => omega
            case rel => exact ⟨k + 1, _, by omega, by omega, rfl, by go_num, by go_num, HR5.out⟩
          · have hE2 : (E == 13) = false := (by rw [beq_eq_false_iff_ne]; exact fun e => h13 (hE.1 e))
            rw [hda5.opsV.2 h13] at hO
            skip
            have hdec : decide (n ≤ c) = false := decide_eq_false h13
            have hdeci : decide ((n : Int) ≤ (c : Int)) = false := decide_eq_false (by omega)
            have hmin : min (c : Int) ((n : Int) - 1) = (c : Int) := by omega
            clear hd5 hda5 hb5 HC hE h13
            go_wp2_with (go_at_call 28; refine hO.mono ?_; rintro e w5 ⟨rfl, rfl⟩)
            go_roundg (40 - (k + 1))
            case measure => omega
            case rel => exact ⟨k + 1, _, by omega, by omega, rfl, by go_num, by go_num, HR5.out⟩
        · have hcall := dead_list hd2 hda (by omega) hb2 (Nat.le_refl _)
          have HC := Hid.mk' hcall
          clear hcall hd2 hda hb2 hsee hsoff hc hcl
          go_wp2_with (first | (go_at_call 33; with_reducible refine (hwr _).mono ?_; rintro e _ ⟨rfl, rfl⟩) | (go_at_call 33; with_reducible refine (hwm _).mono ?_; rintro e _ ⟨rfl, rfl⟩))
          clear hu8 hw64 A1 hwr hwm e0 e1 e2 e3 e4 e5 hdv hpv hdl hlong hr3 HV HI heq
          refine HC.out.mono ?_
          rintro e w5 ⟨va5, vm5, vq5, E, rfl, hE, g5, p5, hd5, hda5, hb5⟩
          have hbn := neqB
          have hO := ops_any _ _ _ _ _ hd5
          have HR5 : Hid (deadRel w.heap.size w w5 d n c) := ⟨g5, p5, hd5, hda5, hb5⟩
          by_cases h13 : n ≤ c
          · have hE' := hE.2 h13
            clear hE
            subst hE'
            rw [hda5.opsV.1 h13] at hO
            have hdec : decide (n ≤ c) = true := decide_eq_true h13
            have hdeci : decide ((n : Int) ≤ (c : Int)) = true := decide_eq_true (by omega)
            have hmin : min (c : Int) ((n : Int) - 1) = (n : Int) - 1 := by omega
            clear hd5 hda5 hb5 HC h13
            go_wp2_with (go_at_call 28; refine hO.mono ?_; rintro e w5 ⟨rfl, rfl⟩)
            go_roundg (40 - (k + 1))
            case measure => omega
            case rel => exact ⟨k + 1, _, by omega, by omega, rfl, by go_num, by go_num, HR5.out⟩
          · have hE2 : (E == 13) = false := (by rw [beq_eq_false_iff_ne]; exact fun e => h13 (hE.1 e))
            rw [hda5.opsV.2 h13] at hO
            skip
            have hdec : decide (n ≤ c) = false := decide_eq_false h13
            have hdeci : decide ((n : Int) ≤ (c : Int)) = false := decide_eq_false (by omega)
            have hmin : min (c : Int) ((n : Int) - 1) = (c : Int) := by omega
            clear hd5 hda5 hb5 HC hE h13
            go_wp2_with (go_at_call 28; refine hO.mono ?_; rintro e w5 ⟨rfl, rfl⟩)
            go_roundg (40 - (k + 1))
            case measure => omega
            case rel => exact ⟨k + 1, _, by omega, by omega, rfl, by go_num, by go_num, HR5.out⟩
    · have hlt2 : ¬ ((k : Int) < cs.length ∧ (k : Int) < 40) := by omega
      have hsn := hda.sane hn1 hn9 (by omega)
      have hcr := crash_any w.heap.size d g p (.slice none 0 0) [] wr hd hsn (.inl ⟨rfl, _, _, rfl⟩) (fun _ h => by cases h)
      have hct := crashL_total [] 0 p.fs
      have hcl := crashL_len [] 0 p.fs
      have ht := hda.tot
      have hlen := hda.len
      have hroom := hda.room
      have HX : Hid (∀ w', DkPost w.heap.size wr w' d g (crashP p []) → ∃ g', Dk w.heap.size w' d g' (crashP p []) ∧ Below w.heap.size w w') := fun w' hp => by
        obtain ⟨g', k1, k2⟩ := hp.go hd hs
        exact ⟨g', k1, hb.trans k2⟩
      clear hd hda hb
      go_wp2_with fail
      all_goals
        refine hcr.mono ?_
        rintro e w5 ⟨rfl, hp5⟩
        obtain ⟨g5, hd5, hb5⟩ := HX.out w5 hp5
        have hs5 := hb5.size
        clear hp5 hcr
        have hls := list_any w.heap.size d g5 _ w5 hd5 (by show (crashL [] 0 p.fs).length < _; omega)
        rw [show listE (crashP p []) = 0 from rfl] at hls
        go_wp2_with (go_at_call 22; refine hls.mono ?_; rintro e w6 ⟨v6, rfl, _, hb6⟩)
        have hd6 := hd5.below hb6
        have hb6' := hb5.trans (hb6.mono hs5)
        have hs6 := hb6'.size
        have hA := append_any w.heap.size d g5 (crashP p []) ⟨#[113]⟩ (.slice none 0 0) [] w6 hd6 ⟨hsn.room0, hsn.room1, by show _ ≤ (0 : Int); decide, by show (0 : Int) ≤ _; decide, hsn.ops0, hsn.ops1, by show total (crashL [] 0 p.fs) ≤ _; omega, by show (crashL [] 0 p.fs).length < _; omega⟩ hs6 (.inl ⟨rfl, _, _, rfl, (fun _ => rfl), by decide⟩) (fun _ h => by cases h) (fun _ h => by cases h) (by decide)
        rw [appE_ok (p := crashP p []) rfl rfl (by show ((0 : Nat) : Int) ≤ p.room - total (crashL [] 0 p.fs); rw [hroom]; omega)] at hA
        clear hd5 hb5 hls hb6
        go_wp2_with (go_at_call 12; refine hA.mono ?_; rintro e w7 ⟨rfl, hp7⟩)
        obtain ⟨g7, hd7, hb7⟩ := hp7.go hd6 hs6
        go_ret
        exact ⟨rfl, hb6'.trans hb7⟩
end Go.Proofs.Ytmfhfabfhoiegaa
