/- DiskFull, walked: files have just the room there is. -/
import Derived.Test.YtmfhfabfhoiegaaMore
import Derived.Deep.RegionWith
import Derived.Deep.CutRange
namespace Go.Proofs.Ytmfhfabfhoiegaa
open Go Go.RowKit
/-- A disk as DiskFull has it, k operations on, files of the names from the j-th on. -/
structure FullAt (p : PS) (room : Int) (o : Int) (j : Nat) : Prop where
  room : p.room = room
  ops : p.ops = o
  stops : p.stops = 0
  dead : p.dead = false
  names : ∀ f ∈ p.fs, ∃ r, j ≤ r ∧ r < 5 ∧ f.name = nmR r
theorem FullAt.sane {p : PS} {room o : Int} {j : Nat} (h : FullAt p room o j) (h1 : 0 ≤ room) (h2 : room ≤ 500) (h3 : 0 ≤ o) (h4 : o ≤ 100) (h5 : (total p.fs : Int) ≤ room) (h6 : p.fs.length ≤ 100) : p.sane :=
  ⟨by rw [h.room]; exact h1, by rw [h.room]; omega, by rw [h.stops]; decide, by rw [h.stops]; decide, by rw [h.ops]; exact h3, by rw [h.ops]; omega, by omega, by omega⟩
theorem FullAt.app {p : PS} {room o : Int} {j r : Nat} (h : FullAt p room o j) (hj : j ≤ r) (hr : r < 5) (ys : List Int) : FullAt (appP p (nmR r) ys) room (o + 1) j := by
  obtain ⟨a1, a2, a3, a4⟩ := app_rest p (nmR r) ys
  obtain ⟨b1, b2, b3⟩ := begun_zero h.dead h.stops
  refine ⟨by rw [a1, begun_room, h.room], by rw [a2, b1, h.ops], by rw [a3, b2], by rw [a4, b3], fun f hf => ?_⟩
  rcases app_mem hf with e | e
  · exact ⟨r, hj, hr, e⟩
  · exact h.names f e
theorem FullAt.rem {p : PS} {room o : Int} {j : Nat} (h : FullAt p room o j) (hj : j < 5) : FullAt (remP p (nmR j)) room (o + 1) (j + 1) := by
  obtain ⟨a1, a2, a3, a4⟩ := rem_rest p (nmR j)
  obtain ⟨b1, b2, b3⟩ := begun_zero h.dead h.stops
  refine ⟨by rw [a1, begun_room, h.room], by rw [a2, b1, h.ops], by rw [a3, b2], by rw [a4, b3], fun f hf => ?_⟩
  rw [rem_fs (stopped_no h.dead h.stops) (nmR_ok j (by omega))] at hf
  obtain ⟨h1, h2⟩ := mem_del hf
  obtain ⟨r, r1, r2, r3⟩ := h.names f h1
  refine ⟨r, ?_, r2, r3⟩
  rcases Nat.lt_or_eq_of_le r1 with r1 | r1
  · exact r1
  · subst r1; exact absurd r3 h2
theorem FullAt.empty {p : PS} {room o : Int} (h : FullAt p room o 5) : p.fs = [] := by
  cases hf : p.fs with
  | nil => rfl
  | cons f r => obtain ⟨q, h1, h2, _⟩ := h.names f (by rw [hf]; simp); omega
theorem FullAt.appE {p : PS} {room o : Int} {j r : Nat} (h : FullAt p room o j) (hr : r < 5) (n : Nat) : appE p (nmR r) n = if (n : Int) ≤ room - total p.fs then 0 else 14 := by
  unfold Ytmfhfabfhoiegaa.appE
  rw [stopped_no h.dead h.stops, nmR_ok r (by omega), h.room]
  rfl
def fullRel (B : Nat) (w0 wx : World) (d : Nat) (room : Int) (k j : Nat) (u : Nat) : Prop :=
  ∃ g p, Dk B wx d g p ∧ FullAt p room k j ∧ total p.fs = u ∧ (u : Int) ≤ room ∧ p.fs.length ≤ k ∧ Below B w0 wx
set_option maxRecDepth 100000 in
set_option maxHeartbeats 2000000 in
theorem full_walk (x : Int) (v : Value) (zs : List Int) (w : World) (_hx : -9223372036854775808 ≤ x ∧ x ≤ 9223372036854775807) (hv : SeesI w v zs) (_hl : zs.length ≤ 140737488355328) :
    Calls Try.prog 6 #[.int .i64 x, v] w fun e w' => e = .returned (.bool true) ∧ Below w.heap.size w w' := by
  obtain ⟨R, hR5, hR⟩ := withinF_nat x 500 (by decide)
  have hwi := within_any x 500
  rw [hR] at hwi
  obtain ⟨vo, vc, hvv⟩ := hv.form
  subst hvv
  have HV := Hid.mk' hv
  have heq : ∀ (w' : World) (d : Nat), (binOp .eql 24 (ptr d) (.pointer none)).run Try.prog w' = .ok (.bool false) w' := fun _ _ => by kernel_rfl
  clear hv hR _hx
  go_enter Try.func6, Try.ntmps6
  go_wp2_with (first | (go_at_call 9; refine (known_any _).mono ?_; rintro e w0 ⟨rfl, hb0⟩) | (go_at_call 33; refine (hwi _ (by decide) (by decide)).mono ?_; rintro e w0 ⟨rfl, rfl⟩))
  have hs0 := hb0.size
  refine (new_dk w.heap.size R w0 (by omega) hs0).mono ?_
  rintro e w1 ⟨d, hdd, rfl, hd1, hb1⟩
  replace hb1 := hb0.trans (hb1.mono hs0)
  have hs1 := hb1.size
  clear hdd hb0 hs0
  have HI : Hid (fullRel w.heap.size w w1 d R 0 0 0) := ⟨_, _, hd1, ⟨rfl, rfl, rfl, rfl, fun _ h => by cases h⟩, rfl, by omega, by simp [q0], hb1⟩
  clear hd1 hb1
  go_wp2_with fail
  go_loopg [7, 8] 40 (fun g0 u i wx => ∃ (k n : Nat), k ≤ 40 ∧ g0 = 40 - k ∧ i = .int .i64 k ∧ u = .int .i64 n ∧ fullRel w.heap.size w wx d R k 0 n)
  case atStart => exact ⟨0, 0, by omega, rfl, rfl, rfl, HI.out⟩
  case round =>
    obtain ⟨k, n, hk, hg0, rfl, rfl, g, p, hd, hfa, ht, hur, hln, hb⟩ := hrel
    have hs := hb.size
    by_cases hlt : k < zs.length ∧ k < 40
    · obtain ⟨h1, h2⟩ := hlt
      obtain ⟨vb, off, vc', hve, hcell⟩ := HV.out.at (Upd.ofBelow hb (S := fun _ => False)) (fun _ _ _ h => h) k h1
      have hve := Value.slice.inj hve
      obtain ⟨rfl, _, rfl⟩ := hve
      obtain ⟨m, hm2, hm⟩ := withinF_nat (zs.getD k 0) 200 (by decide)
      have hwm := within_any (zs.getD k 0) 200
      rw [hm] at hwm
      obtain ⟨r, hr⟩ : ∃ r : Nat, r = k % 5 := ⟨_, rfl⟩
      have hr5 : r < 5 := by omega
      have hrem : (k : Int).tmod 5 = r := by rw [Int.tmod_eq_emod_of_nonneg (by omega)]; omega
      have hw64 : IntKind.i64.wrap (97 + (r : Int)) = 97 + r := by rw [IntKind.wrap_i64]; omega
      have hu8 := u8_small r (by omega)
      clear hr
      generalize zs.getD k 0 = z at *
      go_wp2_with (go_at_call 33; refine (hwm _ (by decide) (by decide)).mono ?_; rintro e wr ⟨rfl, rfl⟩)
      have hnl : (strOfNums [97 + (r : Int)]).data.toList = nmR r := oneS_list r (by omega)
      have A1 : (convert 31 9 (.slice (some ⟨wr.heap.size, 0, none⟩) 1 1)).run Try.prog (wr.alloc (.cells #[.int .u8 (97 + r)] 5)).drew = .ok (.string (strOfNums [97 + (r : Int)])) (wr.alloc (.cells #[.int .u8 (97 + r)] 5)).drew := conv_sees (sees_new wr.drew [97 + (r : Int)] (0, 0) (by simp) (by simp [maxLen]))
      have A2 : (convert 31 9 (.slice (some ⟨wr.heap.size, 0, none⟩) 1 1)).run Try.prog ((wr.alloc (.cells #[.int .u8 (97 + r)] 5)).alloc (.cells (u8s (zeros m)).toArray 5)).drew = .ok (.string (strOfNums [97 + (r : Int)])) ((wr.alloc (.cells #[.int .u8 (97 + r)] 5)).alloc (.cells (u8s (zeros m)).toArray 5)).drew := conv_sees ((sees_new wr.drew [97 + (r : Int)] (0, 0) (by simp) (by simp [maxLen])).below ((Below.refl _ _).alloc (Nat.le_refl _) _))
      have A3 : (convert 31 9 (.slice (some ⟨wr.heap.size + 1, 0, none⟩) 1 1)).run Try.prog ((wr.alloc (.cells (u8s (zeros m)).toArray 5)).alloc (.cells #[.int .u8 (97 + r)] 5)).drew = .ok (.string (strOfNums [97 + (r : Int)])) ((wr.alloc (.cells (u8s (zeros m)).toArray 5)).alloc (.cells #[.int .u8 (97 + r)] 5)).drew := by
        have := conv_sees (sees_new (wr.drew.alloc (.cells (u8s (zeros m)).toArray 5)) [97 + (r : Int)] (0, 0) (by simp) (by simp [maxLen]))
        rw [show (wr.drew.alloc (.cells (u8s (zeros m)).toArray 5)).heap.size = wr.heap.size + 1 from by simp] at this
        exact this
      have M1 : (Instr.makeSlice 31 (.int .i64 m) (.int .i64 m)).run Try.prog wr.drew = .ok (.slice (some ⟨wr.heap.size, 0, none⟩) m m) (wr.alloc (.cells (u8s (zeros m)).toArray 5)).drew := make_zeros wr.drew m (by omega)
      have M2 : (Instr.makeSlice 31 (.int .i64 m) (.int .i64 m)).run Try.prog (wr.alloc (.cells #[.int .u8 (97 + r)] 5)).drew = .ok (.slice (some ⟨wr.heap.size + 1, 0, none⟩) m m) ((wr.alloc (.cells #[.int .u8 (97 + r)] 5)).alloc (.cells (u8s (zeros m)).toArray 5)).drew := by
        have := make_zeros (wr.drew.alloc (.cells #[.int .u8 (97 + r)] 5)) m (by omega)
        rw [show (wr.drew.alloc (.cells #[.int .u8 (97 + r)] 5)).heap.size = wr.heap.size + 1 from by simp] at this
        exact this
      have hsn := hfa.sane (by omega) (by omega) (by omega) (by omega) (by omega) (by omega)
      have hzl : (zeros m).length = m := by simp
      have HUP := Hid.mk' hd.up
      have HAP := Hid.mk' (hfa.app (Nat.zero_le r) hr5 (zeros m))
      have HAE := Hid.mk' (hfa.appE hr5 m)
      have APP : ∀ (wx : World) (b : Nat), Below wr.heap.size wr wx → wr.heap.size ≤ b → Sees wx (.slice (some ⟨b, 0, none⟩) m m) (zeros m) →
          Calls Try.prog 12 #[ptr d, .string (strOfNums [97 + (r : Int)]), .slice (some ⟨b, 0, none⟩) m m] wx fun e w' => e = .returned (.int .i64 (appE p (nmR r) m)) ∧ ∃ g', Dk w.heap.size w' d g' (appP p (nmR r) (zeros m)) ∧ Below w.heap.size w w' := by
        intro wx b hbx hbb hsee
        have hdx := hd.below hbx
        have hsx := hbx.size
        have := append_any w.heap.size d g p (strOfNums [97 + (r : Int)]) (.slice (some ⟨b, 0, none⟩) m m) (zeros m) wx hdx hsn (by omega) hsee (isB_zeros m) (fun j hj _ hf => by
          have h8 := hd.lt hf
          have hj : b = j := Option.some.inj hj
          omega) (by simp; omega)
        rw [hnl, hzl] at this
        refine this.mono ?_
        rintro e w' ⟨rfl, hp⟩
        obtain ⟨g', k1, k2⟩ := hp.go hdx (by omega)
        exact ⟨rfl, g', k1, (hb.trans (hbx.mono hs)).trans k2⟩
      have S1 : Sees ((wr.alloc (.cells #[.int .u8 (97 + r)] 5)).alloc (.cells (u8s (zeros m)).toArray 5)).drew (.slice (some ⟨wr.heap.size + 1, 0, none⟩) m m) (zeros m) := by
        have := sees_new0 (wr.drew.alloc (.cells #[.int .u8 (97 + r)] 5)) (zeros m) (by simp [maxLen]; omega)
        rw [show (wr.drew.alloc (.cells #[.int .u8 (97 + r)] 5)).heap.size = wr.heap.size + 1 from by simp, hzl] at this
        exact this
      have S2 : Sees ((wr.alloc (.cells (u8s (zeros m)).toArray 5)).alloc (.cells #[.int .u8 (97 + r)] 5)).drew (.slice (some ⟨wr.heap.size, 0, none⟩) m m) (zeros m) := by
        have := (sees_new0 wr.drew (zeros m) (by simp [maxLen]; omega)).below ((Below.refl _ _).alloc (Nat.le_refl _) (.cells #[.int .u8 (97 + r)] 5))
        rw [hzl] at this
        exact this
      have HA1 := Hid.mk' (APP _ _ (((Below.refl _ _).alloc (Nat.le_refl _) _).alloc (by simp) _).drew (by omega) S1)
      have HA2 := Hid.mk' (APP _ _ (((Below.refl _ _).alloc (Nat.le_refl _) _).alloc (by simp) _).drew (by omega) S2)
      clear APP S1 S2 hcell hwm hm hd hb hfa
      generalize (u8s (zeros m)).toArray = Zs at *
      go_cut [10] from 38 to 79 (fun s10 wx => s10 = .int .i64 (appE p (nmR r) m) ∧ ∃ g5, Dk w.heap.size wx d g5 (appP p (nmR r) (zeros m)) ∧ Below w.heap.size w wx)
      case first =>
        go_region_with (first | (go_at_call 12; with_reducible refine HA1.out.mono ?_; rintro e w5 ⟨rfl, g5, hd5, hb5⟩) | (go_at_call 12; with_reducible refine HA2.out.mono ?_; rintro e w5 ⟨rfl, g5, hd5, hb5⟩))
        all_goals
          go_wp2_with fail
          go_meet
          exact ⟨rfl, g5, hd5, hb5⟩
      case rest =>
      obtain ⟨rfl, g5, hd5, hb5⟩ := hcut
      clear A1 A2 A3 M1 M2 HA1 HA2 hrem hw64 hu8
      have hae := HAE.out
      rw [ht] at hae
      have hlen := app_len p (nmR r) (zeros m)
      have hops : (appP p (nmR r) (zeros m)).ops = (k : Int) + 1 := HAP.out.ops
      have hU := used_any _ _ _ _ _ hd5
      have hO := ops_any _ _ _ _ _ hd5
      rw [hops] at hO
      by_cases hfit : (m : Int) ≤ (R : Int) - n
      · rw [if_pos hfit] at hae
        have htot : total (appP p (nmR r) (zeros m)).fs = n + m := by
          rw [app_total (HUP.out) (by rw [hzl]; exact hae), hzl, ht]
        rw [htot, Int.natCast_add] at hU
        rw [hae]
        have hfit2 : (n : Int) + m ≤ R := by omega
        have HREL : Hid (fullRel w.heap.size w wc d R (k + 1) 0 (n + m)) := ⟨g5, _, hd5, by have := HAP.out; simpa using this, htot, by omega, by omega, hb5⟩
        clear hd5 hb5 hae hops htot hlen
        go_wp2_with (first | (go_at_call 29; refine hU.mono ?_; rintro e wc ⟨rfl, rfl⟩) | (go_at_call 28; refine hO.mono ?_; rintro e wc ⟨rfl, rfl⟩))
        go_roundg (40 - (k + 1))
        case measure => omega
        case rel => exact ⟨k + 1, n + m, by omega, rfl, by go_num, by go_num, HREL.out⟩
      · rw [if_neg hfit] at hae
        have hap : appP p (nmR r) (zeros m) = p.begun := appP_no (by rw [hzl, hae]; decide)
        have htot : total (appP p (nmR r) (zeros m)).fs = n := by rw [hap, begun_fs, ht]
        rw [htot] at hU
        rw [hae]
        have hfit2 : ¬ ((n : Int) + m ≤ R) := by omega
        have HREL : Hid (fullRel w.heap.size w wc d R (k + 1) 0 n) := ⟨g5, _, hd5, by have := HAP.out; simpa using this, htot, by omega, by omega, hb5⟩
        clear hd5 hb5 hae hops htot hlen hap
        go_wp2_with (first | (go_at_call 29; refine hU.mono ?_; rintro e wc ⟨rfl, rfl⟩) | (go_at_call 28; refine hO.mono ?_; rintro e wc ⟨rfl, rfl⟩))
        go_roundg (40 - (k + 1))
        case measure => omega
        case rel => exact ⟨k + 1, n, by omega, rfl, by go_num, rfl, HREL.out⟩
    · have HREL : Hid (fullRel w.heap.size w wr d R k 0 n) := ⟨g, p, hd, hfa, ht, hur, hln, hb⟩
      clear hd hfa ht hur hln hb
      have hlt2 : ¬ ((k : Int) < zs.length ∧ (k : Int) < 40) := by omega
      go_wp2_with fail
      all_goals
        go_loopg [11] 5 (fun g0 i wx => ∃ (j u : Nat), j ≤ 5 ∧ g0 = 5 - j ∧ i = .int .i64 j ∧ fullRel w.heap.size w wx d R (k + j) j u)
        case atStart => exact ⟨0, n, by omega, rfl, rfl, HREL.out⟩
        case round =>
          obtain ⟨j, u, hj, hgj, rfl, g2, p2, hd, hfa, ht, hur, hln, hb⟩ := hrel
          have hs2 := hb.size
          by_cases hj5 : j < 5
          · have hu8 := u8_small j (by omega)
            have hw64 : IntKind.i64.wrap (97 + (j : Int)) = 97 + j := by rw [IntKind.wrap_i64]; omega
            have hnl : (strOfNums [97 + (j : Int)]).data.toList = nmR j := oneS_list j (by omega)
            have A1 : (convert 31 9 (.slice (some ⟨wr.heap.size, 0, none⟩) 1 1)).run Try.prog (wr.alloc (.cells #[.int .u8 (97 + j)] 5)) = .ok (.string (strOfNums [97 + (j : Int)])) (wr.alloc (.cells #[.int .u8 (97 + j)] 5)) := conv_sees (sees_new wr [97 + (j : Int)] (0, 0) (by simp) (by simp [maxLen]))
            have hsn := hfa.sane (by omega) (by omega) (by omega) (by omega) (by omega) (by omega)
            have hda := hd.below ((Below.refl _ _).alloc (Nat.le_refl _) (.cells #[.int .u8 (97 + (j : Int))] 5))
            have hrm := remove_any w.heap.size d g2 p2 (strOfNums [97 + (j : Int)]) _ hda hsn
            rw [hnl] at hrm
            have hrf := rem_fs (stopped_no hfa.dead hfa.stops) (nmR_ok j (by omega))
            have HR : Hid (FullAt (remP p2 (nmR j)) R (k + j + 1) (j + 1)) := by have := hfa.rem hj5; show FullAt _ _ _ _; simpa using this
            have HT : Hid (total (remP p2 (nmR j)).fs ≤ u ∧ (remP p2 (nmR j)).fs.length ≤ k + j) := by
              rw [hrf]
              have := del_total (fs := p2.fs) (nmR j)
              have := List.length_filter_le (fun g : PF => !(g.name == nmR j)) p2.fs
              refine ⟨by omega, by unfold delK; omega⟩
            have hba := hb.alloc hs2 (.cells #[.int .u8 (97 + (j : Int))] 5)
            have hsa := hba.size
            clear hd hfa hsn hrf
            go_wp2_with (go_at_call 18; refine hrm.mono ?_; rintro e w5 ⟨rfl, hp5⟩)
            obtain ⟨g5, hd5, hb5⟩ := hp5.go hda hsa
            have HREL2 : Hid (fullRel w.heap.size w w5 d R (k + (j + 1)) (j + 1) (total (remP p2 (nmR j)).fs)) := ⟨g5, _, hd5, by have := HR.out; rw [show ((k + (j + 1) : Nat) : Int) = (k : Int) + j + 1 from by omega]; exact this, rfl, by have := HT.out.1; omega, by have := HT.out.2; omega, hba.trans hb5⟩
            clear hda hd5 hb5 hp5 hrm
            go_roundg (5 - (j + 1))
            case measure => omega
            case rel => exact ⟨j + 1, _, by omega, rfl, by go_num, HREL2.out⟩
          · obtain rfl : j = 5 := by omega
            have hfs := hfa.empty
            have ht0 : total p2.fs = 0 := by rw [hfs]; rfl
            have hU := used_any _ _ _ _ _ hd
            rw [ht0] at hU
            have hsn := hfa.sane (by omega) (by omega) (by omega) (by omega) (by omega) (by omega)
            have hzl : (zeros R).length = R := by simp
            have M1 := make_zeros wr R (by omega)
            have hda := hd.below ((Below.refl _ _).alloc (Nat.le_refl _) (.cells (u8s (zeros R)).toArray 5))
            have hba := hb.alloc hs2 (.cells (u8s (zeros R)).toArray 5)
            have hsa := hba.size
            have hsee := sees_new0 wr (zeros R) (by simp [maxLen]; omega)
            rw [hzl] at hsee
            have hA := append_any w.heap.size d g2 p2 ⟨#[122]⟩ (.slice (some ⟨wr.heap.size, 0, none⟩) R R) (zeros R) _ hda hsn hsa hsee (isB_zeros R) (fun q hq _ => off_new hd q hq True trivial) (by simp; omega)
            rw [hzl, show (⟨#[122]⟩ : ByteArray).data.toList = [122] from rfl, appE_ok (stopped_no hfa.dead hfa.stops) rfl (by rw [hfa.room, ht0]; omega)] at hA
            clear hd hb hfa hsee hsn hfs ht0
            generalize (u8s (zeros R)).toArray = Zs at *
            go_wp2_with (first | (go_at_call 29; refine hU.mono ?_; rintro e wr ⟨rfl, rfl⟩) | (go_at_call 12; refine hA.mono ?_; rintro e w5 ⟨rfl, hp5⟩))
            obtain ⟨g5, hd5, hb5⟩ := hp5.go hda hsa
            go_ret
            exact ⟨rfl, hba.trans hb5⟩
end Go.Proofs.Ytmfhfabfhoiegaa
