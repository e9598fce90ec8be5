/- What parse tells of a snapshot's bytes. -/
import Derived.Test.YtdcpfjlnagigaaaGreatDoorSR4
import Derived.Test.YtdcpfjlnagigaaaGreatDoorSB2
import Derived.Deep.RegionHeldLaw
namespace Go.Proofs.YtdcpfjlnagigaaaGreatDoor
open Go Go.RowKit
theorem Sh.parts (s : Sh) (j : Nat) (hj : j < s.vs.length) :
    s.body = [] ++ (q8 s.i ++ (q8 s.t ++ (q1 s.vs.length ++ (vsB s.vs ++ (q4 s.d.length ++ s.d))))) ∧ s.body = q8 s.i ++ (q8 s.t ++ (q1 s.vs.length ++ (vsB s.vs ++ (q4 s.d.length ++ s.d)))) ∧
    s.body = (q8 s.i ++ q8 s.t) ++ (q1 s.vs.length ++ (vsB s.vs ++ (q4 s.d.length ++ s.d))) ∧
    s.body = (q8 s.i ++ q8 s.t ++ q1 s.vs.length ++ vsB (s.vs.take j)) ++ (q8 s.vs[j] ++ (vsB (s.vs.drop (j + 1)) ++ (q4 s.d.length ++ s.d))) := by
  have hv : vsB s.vs = vsB (s.vs.take j) ++ (q8 s.vs[j] ++ vsB (s.vs.drop (j + 1))) := by
    have h1 : s.vs = s.vs.take j ++ (s.vs[j] :: s.vs.drop (j + 1)) := by rw [← List.drop_eq_getElem_cons hj, List.take_append_drop]
    have h2 := congrArg vsB h1
    rw [h2]
    simp only [vsB, List.flatMap_append, List.flatMap_cons]
  refine ⟨by simp [Sh.body], by simp [Sh.body], by simp [Sh.body], ?_⟩
  unfold Sh.body
  rw [hv]
  simp only [List.nil_append, List.append_assoc]
theorem Sh.parts0 (s : Sh) :
    s.body = [] ++ (q8 s.i ++ (q8 s.t ++ (q1 s.vs.length ++ (vsB s.vs ++ (q4 s.d.length ++ s.d))))) ∧ s.body = q8 s.i ++ (q8 s.t ++ (q1 s.vs.length ++ (vsB s.vs ++ (q4 s.d.length ++ s.d)))) ∧
    s.body = (q8 s.i ++ q8 s.t) ++ (q1 s.vs.length ++ (vsB s.vs ++ (q4 s.d.length ++ s.d))) ∧ s.body = (q8 s.i ++ q8 s.t ++ q1 s.vs.length ++ vsB s.vs) ++ ((q4 s.d.length ++ s.d) ++ []) := by
  refine ⟨by simp [Sh.body], by simp [Sh.body], by simp [Sh.body], by simp [Sh.body]⟩
theorem conv_back {d : List Int} (hd : isB d) (hl : d.length ≤ 1000000) (w : World) : ∃ c W', (convert 9 35 (.string (strOfNums d))).run Tryz.prog w = .ok (.slice (some ⟨w.heap.size, 0, none⟩) d.length c) W' ∧ Sees W' (.slice (some ⟨w.heap.size, 0, none⟩) d.length c) d ∧ Below w.heap.size w W' := by
  have hz : (strOfNums d).size = d.length := strOfNums_size d
  have hr := run_bytes_of_string (P := Tryz.prog) w 9 35 5 (strOfNums d) Tryz.underlying9 Tryz.underlying35 Tryz.underlying5
  rw [hz] at hr
  have hcap := grownCap_ge w d.length 0 5
  have hcm := grownCap_le_maxLen w d.length 0 5 (by unfold maxLen; omega)
  refine ⟨_, _, hr, ?_, ?_⟩
  · by_cases h0 : d.length = 0
    · exact .inl ⟨List.eq_nil_of_length_eq_zero h0, _, _, congrArg (fun n => Value.slice _ n _) h0, (fun e => by cases e), hcm⟩
    · refine .inr ⟨w.heap.size, 0, _, rfl, by omega, hcap, hcm, fun i hi => ?_⟩
      rw [Nat.zero_add]
      refine (cell_of_row _ _ _ _ _ _ (heap_alloc_new w.drew _)).trans ?_
      have hdi := hd d[i] (List.getElem_mem hi)
      unfold bytesRow
      rw [Array.getElem?_append_left (by simp only [Array.size_map]; show i < (strOfNums d).size; omega), Array.getElem?_map]
      simp only [strOfNums, List.getElem?_toArray, List.getElem?_map, List.getElem?_eq_getElem hi, Option.map_some, List.getD_eq_getElem?_getD, Option.getD_some, UInt8.toNat_ofNat', Option.some.injEq, Value.int.injEq, true_and]
      omega
  · exact ((Below.refl _ w).drew).alloc (Nat.le_refl _) _
theorem Upd.allocR {a w : World} {S : Nat → Prop} (h : Upd a w S) (o : Obj) : Upd a (w.alloc o) S := h.trans (Upd.alloc w o S) (fun _ _ h => h)
/-- A box that was laid just ahead of another block. -/
theorem box_under (w : World) (o : Obj) : (((w.alloc (.cells #[.int .i64 0, .int .i64 0, .slice none 0 0, .slice none 0 0] 81)).alloc o).drew.cell? ⟨w.heap.size, 0, none⟩ = some (.int .i64 0) ∧ ((w.alloc (.cells #[.int .i64 0, .int .i64 0, .slice none 0 0, .slice none 0 0] 81)).alloc o).drew.cell? ⟨w.heap.size, 1, none⟩ = some (.int .i64 0) ∧ ((w.alloc (.cells #[.int .i64 0, .int .i64 0, .slice none 0 0, .slice none 0 0] 81)).alloc o).drew.cell? ⟨w.heap.size, 2, none⟩ = some (.slice none 0 0) ∧ ((w.alloc (.cells #[.int .i64 0, .int .i64 0, .slice none 0 0, .slice none 0 0] 81)).alloc o).drew.cell? ⟨w.heap.size, 3, none⟩ = some (.slice none 0 0)) ∧
    ((w.alloc (.cells #[.int .i64 0, .int .i64 0, .slice none 0 0, .slice none 0 0] 81)).alloc o).drew.frozen? ⟨w.heap.size, 0, none⟩ = false ∧ ((w.alloc (.cells #[.int .i64 0, .int .i64 0, .slice none 0 0, .slice none 0 0] 81)).alloc o).drew.frozen? ⟨w.heap.size, 1, none⟩ = false ∧ ((w.alloc (.cells #[.int .i64 0, .int .i64 0, .slice none 0 0, .slice none 0 0] 81)).alloc o).drew.frozen? ⟨w.heap.size, 2, none⟩ = false ∧ ((w.alloc (.cells #[.int .i64 0, .int .i64 0, .slice none 0 0, .slice none 0 0] 81)).alloc o).drew.frozen? ⟨w.heap.size, 3, none⟩ = false := by
  have hb : Below (w.alloc (.cells #[.int .i64 0, .int .i64 0, .slice none 0 0, .slice none 0 0] 81)).heap.size (w.alloc (.cells #[.int .i64 0, .int .i64 0, .slice none 0 0, .slice none 0 0] 81)) ((w.alloc (.cells #[.int .i64 0, .int .i64 0, .slice none 0 0, .slice none 0 0] 81)).alloc o).drew := ((Below.refl _ _).alloc (Nat.le_refl _) _).drew
  have hV := (hb.block w.heap.size (by simp)).trans (heap_alloc_new w _)
  exact ⟨row4 hV, frozen_of_row _ _ 0 _ 81 hV, frozen_of_row _ _ 1 _ 81 hV, frozen_of_row _ _ 2 _ 81 hV, frozen_of_row _ _ 3 _ 81 hV⟩
theorem rowO_seesI {w : World} {B : Nat} {v : Value} {zs : List Int} (h : RowO w B 3 1 v zs.length (i64s zs)) : SeesI w v zs := by
  rcases h.2 with ⟨rfl, h0⟩ | ⟨g, off, cap, cur, rfl, hb, hh, hn, hc, hs, ht⟩
  · exact .inl ⟨List.eq_nil_of_length_eq_zero h0, _, _, rfl⟩
  · by_cases h0 : zs.length = 0
    · exact .inl ⟨List.eq_nil_of_length_eq_zero h0, some ⟨g, off, none⟩, cap, by rw [h0]⟩
    · refine .inr ⟨g, off, cap, rfl, by omega, (Array.getElem?_eq_some_iff.1 hh).1, fun i hi => ?_⟩
      have := h.cell i (.int .i64 zs[i]) (by simp [i64s, hi])
      rw [this]
      simp [List.getD_eq_getElem?_getD, hi]
theorem RePost.below {B : Nat} {w w' : World} {b : Nat} {v : Value} {zs : List Int} {a : Nat} {e : Int} (h : RePost B w w' b v zs a e) {N : Nat} (hN : N ≤ w.heap.size) (hb : N ≤ b) : Below N w w' :=
  h.2.below hN (fun k hk e => by omega)
set_option maxRecDepth 100000 in
set_option maxHeartbeats 8000000 in
theorem parse_yes (v : Value) (s : Sh) (w : World) (hT : HasTab w) (hv : Sees w v (frameB s.body)) (hs : s.fine) :
    Calls Tryz.prog 80 #[v] w fun e w' => ∃ vv dv, e = .returned (.tuple #[.agg #[.int .i64 s.i, .int .i64 s.t, vv, dv], .bool true]) ∧ SeesI w' vv s.vs ∧ Sees w' dv s.d ∧ (∀ k, vv.ownBlock = some k → w.heap.size ≤ k) ∧ (∀ k, dv.ownBlock = some k → w.heap.size ≤ k) ∧ Below w.heap.size w w' := by
  obtain ⟨i0, hi0, hz0, hz1, hz2⟩ := info_parts info3
  obtain ⟨ao, cp, rfl⟩ := hv.form
  obtain ⟨wa, hwa⟩ : ∃ wa, wa = w.alloc (.cells #[.int .i64 0, .int .i64 0, .slice none 0 0, .slice none 0 0] 81) := ⟨_, rfl⟩
  have hba : Below w.heap.size w wa := by rw [hwa]; exact (Below.refl _ _).alloc (Nat.le_refl _) _
  have hra : wa.heap[w.heap.size]? = some (.cells #[.int .i64 0, .int .i64 0, .slice none 0 0, .slice none 0 0] 81 (0, 0)) := by rw [hwa]; exact heap_alloc_new w _
  have hsa : w.heap.size < wa.heap.size := by rw [hwa]; simp
  have hbl : s.body.length ≤ 100000 := by rw [s.body_len]; have := hs.few; have := hs.small; omega
  have hbb := s.body_isB hs.db
  have hun := unframe_any _ (frameB s.body) wa (hT.below hba) (frameB_isB hbb hbl) (by rw [frameB_len, s.body_len]; have := hs.few; have := hs.small; omega) (hv.below hba)
  have e1 := unfE_frame s.body [] hbl
  have e2 := unfR_frame s.body [] hbl
  have e3 := unfN_frame s.body [] hbl
  rw [List.append_nil] at e1 e2 e3
  rw [e1, e2, e3] at hun
  rw [frameB_len] at hun ⊢
  obtain ⟨n, hn⟩ : ∃ n, n = s.vs.length := ⟨_, rfl⟩
  have HN := Hid.mk' hn
  have hn7 : n ≤ 7 := by rw [hn]; exact hs.few
  have HS := Hid.mk' hs
  have HBA := Hid.mk' hba
  have HBO : Hid (isB s.body ∧ s.body.length ≤ 100000) := ⟨hbb, hbl⟩
  have hfit := fun w => fits_yes s.i w hs.i0 hs.i1
  obtain ⟨f1, f2, f3, f4⟩ := s.parts0
  have F1 := Hid.mk' f1
  have F2 := Hid.mk' f2
  have F3 := Hid.mk' f3
  have F4 := Hid.mk' f4
  obtain ⟨bd, hbd⟩ : ∃ bd, bd = s.body := ⟨_, rfl⟩
  rw [← hbd] at hun HBO F1 F2 F3 F4 ⊢
  have HBD := Hid.mk' hbd
  clear hv hT hba hbl hbb e1 e2 e3 hs f1 f2 f3 f4 hbd hn
  go_enter Tryz.func80, Tryz.ntmps80
  go_wp2_with fail
  rw [← hwa]
  clear hwa
  refine hun.mono ?_
  rintro e w2 ⟨v2, rfl, hs2, hb2⟩
  have hnew := rNew v2 bd w2 hs2 HBO.out.1 (by have := HBO.out.2; omega)
  obtain ⟨a2, c2, rfl⟩ := hs2.form
  clear hun hs2
  have hpl : ((bd.length : Int) + 8 != ((bd.length + 8 : Nat) : Int)) = false := by simp
  go_wp2_with fail
  refine hnew.mono ?_
  rintro e w3 ⟨b, v3, rfl, hre3, hb3⟩
  have HB2 : Hid (Below w.heap.size w w2) := HBA.out.trans (hb2.mono HBA.out.size)
  have HA2 : Hid (w.heap.size < w2.heap.size) := Nat.lt_of_lt_of_le hsa hb2.size
  have hr3 := (hb3.block w.heap.size HA2.out).trans ((hb2.block w.heap.size hsa).trans hra)
  have HB3 : Hid (Below w.heap.size w w3) := HB2.out.trans (hb3.mono HB2.out.size)
  have HBB : Hid (w2.heap.size ≤ b) := hre3.base
  clear hnew hra hsa hb2
  have hi1 := rIntAt _ b v3 bd [] _ 0 s.i w3 hre3 F1.out rfl ⟨by have := HS.out.i0; omega, by have := HS.out.i1; omega⟩
  go_wp2_with fail
  refine hi1.mono ?_
  rintro e w4 ⟨rfl, hp4⟩
  have hi2 := rIntAt _ b v3 bd (q8 s.i) _ (0 + 8) s.t w4 hp4.1 F2.out rfl HS.out.t
  have HB4 : Hid (Below w.heap.size w w4) := HB3.out.trans (hp4.below HB3.out.size (by have := HBB.out; have := HA2.out; omega))
  have hr4 := (hp4.2.block w.heap.size (Nat.lt_of_lt_of_le HA2.out hb3.size) (by have := HBB.out; have := HA2.out; omega)).trans hr3
  have HZ4 : Hid (w2.heap.size ≤ w4.heap.size) := Nat.le_trans hb3.size hp4.2.size
  clear hi1 hr3 hp4 hb3 hre3
  go_wp2_with fail
  refine hi2.mono ?_
  rintro e w5 ⟨rfl, hp5⟩
  have HB5 : Hid (Below w.heap.size w w5) := HB4.out.trans (hp5.below HB4.out.size (by have := HBB.out; have := HA2.out; omega))
  have hr5 := (hp5.2.block w.heap.size (Nat.lt_of_lt_of_le HA2.out HZ4.out) (by have := HBB.out; have := HA2.out; omega)).trans hr4
  have HZ5 : Hid (w2.heap.size ≤ w5.heap.size) := Nat.le_trans HZ4.out hp5.2.size
  have HRE5 := Hid.mk' hp5.1
  have hb5 : b < w5.heap.size := hp5.1.lt
  clear hi2 hr4 hp5
  go_wp2_with fail
  obtain ⟨wm, hwm⟩ : ∃ wm, wm = w5.alloc (.cells #[.int .i64 s.i, .int .i64 s.t, .slice none 0 0] 34) := ⟨_, rfl⟩
  rw [← hwm]
  have hbm : Below w5.heap.size w5 wm := by rw [hwm]; exact (Below.refl _ _).alloc (Nat.le_refl _) _
  have hrm : wm.heap[w5.heap.size]? = some (.cells #[.int .i64 s.i, .int .i64 s.t, .slice none 0 0] 34 (0, 0)) := by rw [hwm]; exact heap_alloc_new w5 _
  have hsm : wm.heap.size = w5.heap.size + 1 := by rw [hwm]; simp
  have hi3 := rU8At _ b v3 bd (q8 s.i ++ q8 s.t) _ (0 + 8 + 8) n wm (HRE5.out.upd (Upd.ofBelow hbm : Upd w5 wm (fun _ => False)) id (fun _ _ => id)) (by rw [HN.out]; exact F3.out) rfl (by omega)
  clear hwm
  refine hi3.mono ?_
  rintro e w6 ⟨rfl, hp6⟩
  have hz6 := hp6.2.size
  have HB6 : Hid (Below w.heap.size w w6) := (HB5.out.trans (hbm.mono HB5.out.size)).trans (hp6.below (Nat.le_trans HB5.out.size hbm.size) (by have := HBB.out; have := HA2.out; omega))
  have hr6 := (hp6.2.block w.heap.size (by have := HA2.out; have := HZ5.out; omega) (by have := HBB.out; have := HA2.out; omega)).trans ((hbm.block w.heap.size (by have := HA2.out; have := HZ5.out; omega)).trans hr5)
  have hrm6 := (hp6.2.block w5.heap.size (by omega) (by omega)).trans hrm
  have k0 : w6.cell? ⟨w5.heap.size, 0, none⟩ = some (.int .i64 s.i) := (cell_of_row _ _ _ _ _ _ hrm6).trans rfl
  have HRE6 := Hid.mk' hp6.1
  have HRM6 := Hid.mk' hrm6
  have HR6 := Hid.mk' hr6
  have hg7 : decide ((7 : Int) < n) = false := by rw [decide_eq_false_iff_not]; omega
  have hg7' : decide (7 < n) = false := by rw [decide_eq_false_iff_not]; omega
  have HZ6 : Hid (w5.heap.size < w6.heap.size) := by show _ < _; omega
  clear hi3 hp6 hr5 hbm hrm hrm6 hr6 hsm hz6
  go_wp2_with (go_at_call 28; refine (hfit _).mono ?_; rintro e w7 ⟨rfl, hq⟩; have hq := hq.symm; subst hq)
  go_loopg [45] n (fun kx s45 wr => ∃ (j : Nat) (u : Value), s45 = .int .i64 j ∧ j ≤ n ∧ n - j ≤ kx ∧ Hid (Re w2.heap.size wr b v3 bd (17 + 8 * j) 0) ∧ Hid (wr.heap[w5.heap.size]? = some (.cells #[.int .i64 s.i, .int .i64 s.t, u] 34 (0, 0))) ∧ Hid (RowO wr w6.heap.size 3 1 u j (i64s (s.vs.take j))) ∧ Hid (wr.heap[w.heap.size]? = some (.cells #[.int .i64 0, .int .i64 0, .slice none 0 0, .slice none 0 0] 81 (0, 0))) ∧ Hid (Below w.heap.size w wr) ∧ Hid (w6.heap.size ≤ wr.heap.size))
  case atStart => exact ⟨0, .slice none 0 0, rfl, Nat.zero_le _, by omega, HRE6, HRM6, Hid.mk' (RowO.nil _ _ _ _), HR6, HB6, Hid.mk' (Nat.le_refl _)⟩
  case round =>
    obtain ⟨j, u, rfl, hj, hjx, HRE, HRM, HRO, HR, HB, HZ⟩ := hrel
    obtain ⟨uo, uc, rfl, _, _⟩ := HRO.out.form
    by_cases hlt : j < n
    · have hg : decide ((j : Int) < n) = true := by rw [decide_eq_true_eq]; omega
      have hjv : j < s.vs.length := by rw [← HN.out]; exact hlt
      have hpj := (s.parts j hjv).2.2.2
      have h103 := rIntAt w2.heap.size b v3 bd _ _ (17 + 8 * j) s.vs[j] wr.drew (HRE.out.upd ((Upd.refl wr (fun _ => False)).drew) id (fun _ _ => id)) (HBD.out.trans hpj) (by
        have h1 := vsB_len (s.vs.take j)
        rw [List.length_take, Nat.min_eq_left (by omega)] at h1
        simp only [List.length_append, h1]
        show 8 + 8 + 1 + 8 * j = 17 + 8 * j
        omega) (HS.out.vs _ (List.getElem_mem hjv))
      have HTK : Hid (s.vs.take (j + 1) = s.vs.take j ++ [s.vs[j]]) := by show _ = _; rw [List.take_succ_eq_append_getElem hjv]
      generalize s.vs[j] = y at *
      have hkc : wr.drew.cell? ⟨w5.heap.size, 2, none⟩ = some (.slice uo j uc) := (cell_of_row _ _ _ _ _ _ (show wr.drew.heap[w5.heap.size]? = _ from HRM.out)).trans rfl
      have h103 : Calls Tryz.prog 103 #[.pointer (some ⟨b, 0, none⟩)] wr.drew fun e w8 => e = .returned (.int .i64 y) ∧ w8.cell? ⟨w5.heap.size, 2, none⟩ = some (.slice uo j uc) ∧ (w8.alloc (.cells #[.int .i64 y] 3)).cell? ⟨w5.heap.size, 2, none⟩ = some (.slice uo j uc) ∧ RowO (w8.alloc (.cells #[.int .i64 y] 3)) w6.heap.size 3 1 (.slice uo j uc) j (i64s (s.vs.take j)) ∧ w6.heap.size ≤ w8.heap.size ∧
          Hid (Re w2.heap.size w8 b v3 bd (17 + 8 * (j + 1)) 0 ∧ w8.heap[w5.heap.size]? = some (.cells #[.int .i64 s.i, .int .i64 s.t, .slice uo j uc] 34 (0, 0)) ∧ w8.heap[w.heap.size]? = some (.cells #[.int .i64 0, .int .i64 0, .slice none 0 0, .slice none 0 0] 81 (0, 0)) ∧ Below w.heap.size w w8) := by
        refine h103.mono ?_
        rintro e w8 ⟨rfl, hp8⟩
        have z1 := HZ.out; have z2 := HZ6.out; have z3 := HA2.out; have z4 := HZ5.out; have z5 := HBB.out
        have hz8 : wr.heap.size ≤ w8.heap.size := hp8.2.size
        have hrm8 : w8.heap[w5.heap.size]? = _ := (hp8.2.block w5.heap.size (by show w5.heap.size < wr.heap.size; omega) (by omega)).trans HRM.out
        have hr8 : w8.heap[w.heap.size]? = _ := (hp8.2.block w.heap.size (by show w.heap.size < wr.heap.size; omega) (by omega)).trans HR.out
        have hkc8 : w8.cell? ⟨w5.heap.size, 2, none⟩ = some (.slice uo j uc) := (cell_of_row _ _ _ _ _ _ hrm8).trans rfl
        have hbB : Below w8.heap.size w8 (w8.alloc (.cells #[.int .i64 y] 3)) := (Below.refl _ w8).alloc (Nat.le_refl _) _
        refine ⟨rfl, hkc8, (hbB.cell (p := ⟨w5.heap.size, 2, none⟩) (by show w5.heap.size < w8.heap.size; omega)).trans hkc8, ?_, by omega, ?_, hrm8, hr8, HB.out.drew.trans (hp8.2.below (by exact HB.out.size) (fun i hi e => by omega))⟩
        · exact ((HRO.out.upd ((Upd.refl wr (fun _ => False)).drew) (fun _ _ => id)).upd hp8.2 (fun i hi e => by have := (HRO.out.lt hi).1; omega)).upd (Upd.ofBelow hbB : Upd w8 _ (fun _ => False)) (fun _ _ => id)
        · have := hp8.1
          rw [show 17 + 8 * j + 8 = 17 + 8 * (j + 1) by omega] at this
          exact this
      clear hpj hjv
      go_wp2_with fail
      have HST : Hid (∀ (w8 w9 : World), (w8.alloc (.cells #[.int .i64 y] 3)).cell? ⟨w5.heap.size, 2, none⟩ = some (.slice uo j uc) → w6.heap.size ≤ w8.heap.size → w8.heap[w5.heap.size]? = some (.cells #[.int .i64 s.i, .int .i64 s.t, .slice uo j uc] 34 (0, 0)) → Upd (w8.alloc (.cells #[.int .i64 y] 3)) w9 (fun k => some k = (Value.slice uo j uc).ownBlock) → w9.heap[w5.heap.size]? = some (.cells #[.int .i64 s.i, .int .i64 s.t, .slice uo j uc] 34 (0, 0))) := by
        intro w8 w9 h1 h2 h3 h4
        have z2 := HZ6.out
        have hbB : Below w8.heap.size w8 (w8.alloc (.cells #[.int .i64 y] 3)) := (Below.refl _ w8).alloc (Nat.le_refl _) _
        exact (h4.block w5.heap.size (by have := hbB.size; omega) (fun e => by have := (HRO.out.lt e.symm).1; omega)).trans ((hbB.block w5.heap.size (by omega)).trans h3)
      go_region_law ((first
        | (refine step_appO _ rfl (.tmp 48) (.tmp 51) 32 32 rfl w6.heap.size 3 i0 (.int .i64 0) 1 Tryz.underlying32 hi0 hz0 hz1 rfl (by omega) (.slice uo j uc) j (i64s (s.vs.take j)) (by simp [Act.eval]) hrowB (.slice (some ⟨w8.heap.size, 0, none⟩) 1 1) (by simp [Act.eval]) 1 [.int .i64 y] hsrc (by omega) hzB ?_; intro v9 w9 g1 g2 g3; obtain ⟨a9, c9, rfl, _, _⟩ := g1.form; have hrm9 := HST.out w8 w9 hkcB hz8 HX8.out.2.1 g2; have hkc9 : w9.cell? ⟨w5.heap.size, 2, none⟩ = some (.slice uo j uc) := (cell_of_row _ _ _ _ _ _ hrm9).trans rfl; have hfz9 := frozen_of_row w9 w5.heap.size 2 _ 34 hrm9)
        | (go_simp; go_at_call 103; with_reducible refine h103.mono ?_; rintro e w8 ⟨rfl, hkc8, hkcB, hrowB, hz8, HX8⟩; have hsrc := Src_oneI (w := w8) (x := y); have hzB : w6.heap.size ≤ (w8.alloc (.cells #[.int .i64 y] 3)).heap.size := by simp; omega)))
      all_goals
        have HFIN : Hid (Re w2.heap.size (w9.setCell ⟨w5.heap.size, 2, none⟩ (.slice a9 (j + 1) c9)) b v3 bd (17 + 8 * (j + 1)) 0 ∧ (w9.setCell ⟨w5.heap.size, 2, none⟩ (.slice a9 (j + 1) c9)).heap[w5.heap.size]? = some (.cells #[.int .i64 s.i, .int .i64 s.t, .slice a9 (j + 1) c9] 34 (0, 0)) ∧ RowO (w9.setCell ⟨w5.heap.size, 2, none⟩ (.slice a9 (j + 1) c9)) w6.heap.size 3 1 (.slice a9 (j + 1) c9) (j + 1) (i64s (s.vs.take (j + 1))) ∧ (w9.setCell ⟨w5.heap.size, 2, none⟩ (.slice a9 (j + 1) c9)).heap[w.heap.size]? = some (.cells #[.int .i64 0, .int .i64 0, .slice none 0 0, .slice none 0 0] 81 (0, 0)) ∧ Below w.heap.size w (w9.setCell ⟨w5.heap.size, 2, none⟩ (.slice a9 (j + 1) c9)) ∧ w6.heap.size ≤ (w9.setCell ⟨w5.heap.size, 2, none⟩ (.slice a9 (j + 1) c9)).heap.size) := by
          obtain ⟨x1, x2, x3, x4⟩ := HX8.out
          have z1 := HZ.out; have z2 := HZ6.out; have z3 := HA2.out; have z4 := HZ5.out; have z5 := HBB.out
          have hbB : Below w8.heap.size w8 (w8.alloc (.cells #[.int .i64 y] 3)) := (Below.refl _ w8).alloc (Nat.le_refl _) _
          have hu1 : Upd w8 w9 (fun k => some k = (Value.slice uo j uc).ownBlock) := (Upd.ofBelow hbB : Upd w8 _ _).trans g2 (fun _ _ h => h)
          have hlow : ∀ k, some k = (Value.slice uo j uc).ownBlock → w6.heap.size ≤ k := fun k hk => (HRO.out.lt hk.symm).1
          have hs9 := hu1.size
          have hu2 : Upd w8 (w9.setCell ⟨w5.heap.size, 2, none⟩ (.slice a9 (j + 1) c9)) (fun k => some k = (Value.slice uo j uc).ownBlock ∨ k = w5.heap.size) := (hu1.mono (fun _ _ h => .inl h)).setCell (p := ⟨w5.heap.size, 2, none⟩) (.inr (.inr rfl)) _
          have hv3 : ∀ k, v3.ownBlock = some k → k < w5.heap.size := fun k hk => (HRE5.out.own.lt k hk).2
          refine ⟨x1.upd hu2 (fun e => ?_) (fun k hk e => ?_), ?_, ?_, ?_, ?_, ?_⟩
          · rcases e with e | e
            · have := hlow _ e; omega
            · omega
          · have h1 := hv3 k hk
            rcases e with e | e
            · have := hlow _ e; omega
            · omega
          · exact heap_setCell_row hrm9 2 _
          · have h1 : RowO w9 w6.heap.size 3 1 (.slice a9 (j + 1) c9) (j + 1) (i64s (s.vs.take (j + 1))) := by rw [HTK.out]; simpa [i64s] using g1
            exact h1.upd ((Upd.refl w9 (fun k => k = w5.heap.size)).setCell (p := ⟨w5.heap.size, 2, none⟩) (.inr rfl) _) (fun k hk e => by have := (h1.lt hk).1; omega)
          · exact (hu2.block w.heap.size (by omega) (fun e => by rcases e with e | e; have := hlow _ e; omega; omega)).trans x3
          · exact x4.trans (hu2.below (by have := x4.size; omega) (fun k hk e => by rcases e with e | e; have := hlow _ e; omega; omega))
          · have := hu2.size; omega
        go_wp2_with fail
        go_roundg (n - (j + 1))
        case measure => omega
        case rel => exact ⟨j + 1, _, rfl, by omega, by omega, Hid.mk' HFIN.out.1, Hid.mk' HFIN.out.2.1, Hid.mk' HFIN.out.2.2.1, Hid.mk' HFIN.out.2.2.2.1, Hid.mk' HFIN.out.2.2.2.2.1, Hid.mk' HFIN.out.2.2.2.2.2⟩
    · obtain rfl : j = n := by omega
      have hg : decide ((j : Int) < j) = false := by rw [decide_eq_false_iff_not]; omega
      have z1 := HZ.out; have z2 := HZ6.out
      have HSV : Hid (SeesI wr (.slice uo j uc) s.vs) := by
        have h := HRO.out
        rw [List.take_of_length_le (by rw [← HN.out]; exact Nat.le_refl _)] at h
        have h2 := rowO_seesI (zs := s.vs) (by rw [← HN.out]; exact h)
        exact h2
      have HKP : Hid (∀ W : World, Upd wr W (fun k => k = b) → W.cell? ⟨w5.heap.size, 0, none⟩ = some (.int .i64 s.i) ∧ W.cell? ⟨w5.heap.size, 1, none⟩ = some (.int .i64 s.t) ∧ W.cell? ⟨w5.heap.size, 2, none⟩ = some (.slice uo j uc) ∧ Hid (Upd wr W (fun k => k = b))) := by
        intro W hW
        have hm := (hW.block w5.heap.size (by omega) (by omega)).trans HRM.out
        exact ⟨(cell_of_row _ _ _ _ _ _ hm).trans rfl, (cell_of_row _ _ _ _ _ _ hm).trans rfl, (cell_of_row _ _ _ _ _ _ hm).trans rfl, hW⟩
      have H105 : Hid (∀ W : World, Upd wr W (fun _ => False) → Calls Tryz.prog 105 #[.pointer (some ⟨b, 0, none⟩)] W fun e w8 => e = .returned (.string (strOfNums s.d)) ∧ wr.heap.size ≤ w8.heap.size ∧ (w8.cell? ⟨w5.heap.size, 0, none⟩ = some (.int .i64 s.i) ∧ w8.cell? ⟨w5.heap.size, 1, none⟩ = some (.int .i64 s.t) ∧ w8.cell? ⟨w5.heap.size, 2, none⟩ = some (.slice uo j uc) ∧ Hid (Upd wr w8 (fun k => k = b))) ∧ Hid (Re w2.heap.size w8 b v3 bd bd.length 0 ∧ Upd W w8 (fun k => k = b))) := by
        intro W hW
        refine (rTextAt w2.heap.size b v3 bd _ [] s.d (17 + 8 * j) W (HRE.out.upd hW id (fun _ _ => id)) F4.out (by
          simp only [List.length_append, vsB_len, ← HN.out]
          show 8 + 8 + 1 + 8 * j = 17 + 8 * j
          omega) HS.out.db (by have := HS.out.small; omega)).mono ?_
        rintro e w8 ⟨rfl, hp8⟩
        have h1 := hp8.1
        rw [show 17 + 8 * j + 4 + s.d.length = bd.length by rw [HBD.out, s.body_len, ← HN.out]; omega] at h1
        exact ⟨rfl, Nat.le_trans hW.size hp8.2.size, HKP.out w8 ((hW.mono (fun _ _ h => h.elim)).trans hp8.2 (fun _ _ h => h)), h1, hp8.2⟩
      have hcv := fun W : World => run_bytes_of_string (P := Tryz.prog) W 9 35 5 (strOfNums s.d) Tryz.underlying9 Tryz.underlying35 Tryz.underlying5
      have U0 : Upd wr wr.drew (fun _ => False) := (Upd.refl wr _).drew
      have UA : Upd wr (wr.alloc (.cells #[.int .i64 0, .int .i64 0, .slice none 0 0, .slice none 0 0] 81)).drew (fun _ => False) := ((Upd.refl wr _).allocR _).drew
      have hS0 := HKP.out wr.drew ((Upd.refl wr _).drew)
      rw [strOfNums_size] at hcv
      have h105 := H105.out
      have hkp := HKP.out
      have h105a : Calls Tryz.prog 105 #[.pointer (some ⟨b, 0, none⟩)] (wr.alloc (.cells #[.int .i64 0, .int .i64 0, .slice none 0 0, .slice none 0 0] 81)).drew fun e w8 => e = .returned (.string (strOfNums s.d)) ∧ wr.heap.size ≤ w8.heap.size ∧ (w8.cell? ⟨w5.heap.size, 0, none⟩ = some (.int .i64 s.i) ∧ w8.cell? ⟨w5.heap.size, 1, none⟩ = some (.int .i64 s.t) ∧ w8.cell? ⟨w5.heap.size, 2, none⟩ = some (.slice uo j uc) ∧ Hid (Upd wr w8 (fun k => k = b))) ∧ Hid (Re w2.heap.size w8 b v3 bd bd.length 0 ∧ Upd (wr.alloc (.cells #[.int .i64 0, .int .i64 0, .slice none 0 0, .slice none 0 0] 81)).drew w8 (fun k => k = b)) ∧ (w8.cell? ⟨wr.heap.size, 0, none⟩ = some (.int .i64 0) ∧ w8.cell? ⟨wr.heap.size, 1, none⟩ = some (.int .i64 0) ∧ w8.cell? ⟨wr.heap.size, 2, none⟩ = some (.slice none 0 0) ∧ w8.cell? ⟨wr.heap.size, 3, none⟩ = some (.slice none 0 0) ∧ w8.frozen? ⟨wr.heap.size, 0, none⟩ = false ∧ w8.frozen? ⟨wr.heap.size, 1, none⟩ = false ∧ w8.frozen? ⟨wr.heap.size, 2, none⟩ = false ∧ w8.frozen? ⟨wr.heap.size, 3, none⟩ = false ∧ wr.heap.size < w8.heap.size ∧ ¬ wr.heap.size = w8.heap.size ∧ ¬ w8.heap.size = wr.heap.size) := by
        refine (h105 _ UA).mono ?_
        rintro e w8 ⟨rfl, hz8, hS8, HX8⟩
        have hbw : b < wr.heap.size := by omega
        have hr8 : w8.heap[wr.heap.size]? = some (.cells #[.int .i64 0, .int .i64 0, .slice none 0 0, .slice none 0 0] 81 (0, 0)) := (HX8.out.2.block wr.heap.size (by show wr.heap.size < (wr.alloc (.cells #[.int .i64 0, .int .i64 0, .slice none 0 0, .slice none 0 0] 81)).heap.size; simp) (by omega)).trans (heap_alloc_new wr _)
        have hlt : wr.heap.size < w8.heap.size := (Array.getElem?_eq_some_iff.1 hr8).1
        obtain ⟨n0, n1, n2, n3⟩ := row4 hr8
        exact ⟨rfl, hz8, hS8, HX8, n0, n1, n2, n3, frozen_of_row _ _ 0 _ 81 hr8, frozen_of_row _ _ 1 _ 81 hr8, frozen_of_row _ _ 2 _ 81 hr8, frozen_of_row _ _ 3 _ 81 hr8, hlt, by omega, by omega⟩
      go_wp2_with fail
      go_region_held_law (fun w' => w'.cell? ⟨w5.heap.size, 0, none⟩ = some (.int .i64 s.i) ∧ w'.cell? ⟨w5.heap.size, 1, none⟩ = some (.int .i64 s.t) ∧ w'.cell? ⟨w5.heap.size, 2, none⟩ = some (.slice uo j uc) ∧ Hid (Upd wr w' (fun k => k = b))) (first | assumption | (show _ ∧ _ ∧ _ ∧ _; assumption) | (refine hkp _ ?_; (repeat (first | exact hS8.2.2.2.out | exact hS0.2.2.2.out | exact Upd.refl _ _ | refine Upd.drew ?_ | refine Upd.allocR ?_ _ | refine Upd.setCell ?_ (.inl (by first | exact hz8 | exact Nat.le_refl _ | (show wr.heap.size ≤ w8.heap.size + 1; omega) | (simp <;> omega))) _)); done)) ((first
        | (go_at_call 105; with_reducible refine (h105 _ U0).mono ?_; rintro e w8 ⟨rfl, hz8, hS8, HX8⟩; have y0 := fun o => (box_under w8 o).1.1; have y1 := fun o => (box_under w8 o).1.2.1; have y2 := fun o => (box_under w8 o).1.2.2.1; have y3 := fun o => (box_under w8 o).1.2.2.2; have v0 := fun o => (box_under w8 o).2.1; have v1 := fun o => (box_under w8 o).2.2.1; have v2 := fun o => (box_under w8 o).2.2.2.1; have v4 := fun o => (box_under w8 o).2.2.2.2)
        | (go_at_call 105; with_reducible refine h105a.mono ?_; rintro e w8 ⟨rfl, hz8, hS8, HX8, c0, c1, c2, c3, g0, g1, g2, g3, hl8, hne1, hne2⟩)))
      all_goals
        have hU8 := hS8.2.2.2.out
        have z3 := HA2.out; have z4 := HZ5.out; have z5 := HBB.out
        have hz8 : w8.heap[w.heap.size]? = some zeroB := (hU8.block w.heap.size (by omega) (by omega)).trans HR.out
        have hv8 : SeesI w8 (.slice uo j uc) s.vs := (HSV.out).upd hU8 (fun k hk _ e => by have := (HRO.out.lt hk).1; omega)
        have hb8 : Below w.heap.size w w8 := HB.out.trans (hU8.below HB.out.size (fun k hk e => by omega))
        have hvb : ∀ k, (Value.slice uo j uc).ownBlock = some k → w6.heap.size ≤ k := fun k hk => (HRO.out.lt hk).1
        have hdl : s.d.length ≤ 1000000 := by have := HS.out.small; omega
      · have hF := laid1 (i := s.i) (t := s.t) HX8.out.1 hz8 hv8 hb8 HS.out.db hdl
        generalize ((w8.alloc (dataO s.d (grownCap w8 s.d.length 0 5))).alloc (.cells #[.int .i64 s.i, .int .i64 s.t, .slice uo j uc, .slice (some ⟨w8.heap.size, 0, none⟩) s.d.length (grownCap w8 s.d.length 0 5)] 81)).drew = W9 at hF ⊢
        generalize hCC : grownCap w8 s.d.length 0 5 = CC at hF ⊢
        have HDB : Hid (w8.heap.size ≥ w.heap.size) := by show _ ≤ _; have := hU8.size; omega
        generalize hXX : w8.heap.size + 1 = XX at hF ⊢
        have HYZ : Hid (w8.heap.size ≠ w.heap.size) := by show _ ≠ _; have := (Array.getElem?_eq_some_iff.1 hz8).1; omega
        generalize hYY : w8.heap.size = YY at hF HDB HYZ ⊢
        have herr := rErr _ b v3 bd bd.length 0 W9 hF.rre
        have hleft := left_any _ b v3 bd bd.length 0 W9 hF.rre
        rw [Int.sub_self] at hleft
        have HF := Hid.mk' hF
        have HVB := Hid.mk' hvb
        have HZ68 : Hid (w.heap.size ≤ w6.heap.size) := by show _ ≤ _; omega
        obtain ⟨x0, x1, x2, x3⟩ := row4 hF.rx
        obtain ⟨y0, y1, y2, y3⟩ := row4 hF.rz
        have g0 := frozen_of_row W9 w.heap.size 0 _ 81 hF.rz; have g1 := frozen_of_row W9 w.heap.size 1 _ 81 hF.rz; have g2 := frozen_of_row W9 w.heap.size 2 _ 81 hF.rz; have g3 := frozen_of_row W9 w.heap.size 3 _ 81 hF.rz
        have hne1 : ¬ XX = w.heap.size := hF.ne
        have hne2 : ¬ w.heap.size = XX := fun e => hF.ne e.symm
        clear hF hS0 hkp h105 h105a hcv U0 UA hS8 HX8 hz8 hv8 hb8 hU8 hvb hXX hYY hCC hdl
        skip
        go_wp2_with (first | (go_at_call 106; refine herr.mono ?_; rintro e w10 ⟨rfl, hq⟩; subst hq) | (go_at_call 107; refine hleft.mono ?_; rintro e w10 ⟨rfl, nn, rfl⟩))
        have hz9 : (W9.drewN nn).heap[w.heap.size]? = some zeroB := HF.out.rz
        have hpr := put4_row hz9 (.int .i64 s.i) (.int .i64 s.t) (.slice uo j uc) (.slice (some ⟨YY, 0, none⟩) s.d.length CC)
        have hpu := put4_upd (W9.drewN nn) w.heap.size (.int .i64 s.i) (.int .i64 s.t) (.slice uo j uc) (.slice (some ⟨YY, 0, none⟩) s.d.length CC)
        have hbd9 : Below w.heap.size w (W9.drewN nn) := below_drewN HF.out.below nn
        have hlt9 : w.heap.size < (W9.drewN nn).heap.size := (Array.getElem?_eq_some_iff.1 hz9).1
        have hsv9 : SeesI (W9.drewN nn) (.slice uo j uc) s.vs := HF.out.svs
        have hsd9 : Sees (W9.drewN nn) (.slice (some ⟨YY, 0, none⟩) s.d.length CC) s.d := HF.out.sd
        refine bodyPost_ret (results_ct rfl _ _ w.heap.size 81 #[.int .i64 s.i, .int .i64 s.t, .slice uo j uc, .slice (some ⟨YY, 0, none⟩) s.d.length CC] (0, 0) _ rfl hpr Tryz.underlying81 rfl info81) rfl ?_
        refine ⟨_, _, rfl, hsv9.upd hpu (fun k hk _ e => by have h1 := HVB.out k hk; have h2 := HA2.out; have h4 := HZ5.out; have h5 := HZ6.out; omega), hsd9.upd hpu (fun k hk _ e => ?_), fun k hk => Nat.le_trans HZ68.out (HVB.out k hk), fun k hk => ?_, hbd9.trans (hpu.below (Nat.le_of_lt hlt9) (fun k hk e => by omega))⟩
        · have h1 : YY = k := Option.some.inj hk
          have h2 := HYZ.out
          omega
        · have h1 : YY = k := Option.some.inj hk
          have h2 := HDB.out
          omega
      · have hF := laid2 (i := s.i) (t := s.t) HX8.out.1 hz8 hv8 hb8 HS.out.db hdl
        generalize ((w8.alloc (.cells #[.int .i64 s.i, .int .i64 s.t, .slice uo j uc, .slice (some ⟨w8.heap.size + 1, 0, none⟩) s.d.length (grownCap (w8.alloc zeroB) s.d.length 0 5)] 81)).alloc (dataO s.d (grownCap (w8.alloc zeroB) s.d.length 0 5))).drew = W9 at hF ⊢
        generalize hCC : grownCap (w8.alloc zeroB) s.d.length 0 5 = CC at hF ⊢
        have HDB : Hid (w8.heap.size + 1 ≥ w.heap.size) := by show _ ≤ _; have := hU8.size; omega
        have HYZ : Hid (w8.heap.size + 1 ≠ w.heap.size) := by show _ ≠ _; have := (Array.getElem?_eq_some_iff.1 hz8).1; omega
        generalize hYY : w8.heap.size + 1 = YY at hF HDB HYZ ⊢
        generalize hXX : w8.heap.size = XX at hF ⊢
        have herr := rErr _ b v3 bd bd.length 0 W9 hF.rre
        have hleft := left_any _ b v3 bd bd.length 0 W9 hF.rre
        rw [Int.sub_self] at hleft
        have HF := Hid.mk' hF
        have HVB := Hid.mk' hvb
        have HZ68 : Hid (w.heap.size ≤ w6.heap.size) := by show _ ≤ _; omega
        obtain ⟨x0, x1, x2, x3⟩ := row4 hF.rx
        obtain ⟨y0, y1, y2, y3⟩ := row4 hF.rz
        have g0 := frozen_of_row W9 w.heap.size 0 _ 81 hF.rz; have g1 := frozen_of_row W9 w.heap.size 1 _ 81 hF.rz; have g2 := frozen_of_row W9 w.heap.size 2 _ 81 hF.rz; have g3 := frozen_of_row W9 w.heap.size 3 _ 81 hF.rz
        have hne1 : ¬ XX = w.heap.size := hF.ne
        have hne2 : ¬ w.heap.size = XX := fun e => hF.ne e.symm
        clear hF hS0 hkp h105 h105a hcv U0 UA hS8 HX8 hz8 hv8 hb8 hU8 hvb hXX hYY hCC hdl
        skip
        go_wp2_with (first | (go_at_call 106; refine herr.mono ?_; rintro e w10 ⟨rfl, hq⟩; subst hq) | (go_at_call 107; refine hleft.mono ?_; rintro e w10 ⟨rfl, nn, rfl⟩))
        have hz9 : (W9.drewN nn).heap[w.heap.size]? = some zeroB := HF.out.rz
        have hpr := put4_row hz9 (.int .i64 s.i) (.int .i64 s.t) (.slice uo j uc) (.slice (some ⟨YY, 0, none⟩) s.d.length CC)
        have hpu := put4_upd (W9.drewN nn) w.heap.size (.int .i64 s.i) (.int .i64 s.t) (.slice uo j uc) (.slice (some ⟨YY, 0, none⟩) s.d.length CC)
        have hbd9 : Below w.heap.size w (W9.drewN nn) := below_drewN HF.out.below nn
        have hlt9 : w.heap.size < (W9.drewN nn).heap.size := (Array.getElem?_eq_some_iff.1 hz9).1
        have hsv9 : SeesI (W9.drewN nn) (.slice uo j uc) s.vs := HF.out.svs
        have hsd9 : Sees (W9.drewN nn) (.slice (some ⟨YY, 0, none⟩) s.d.length CC) s.d := HF.out.sd
        refine bodyPost_ret (results_ct rfl _ _ w.heap.size 81 #[.int .i64 s.i, .int .i64 s.t, .slice uo j uc, .slice (some ⟨YY, 0, none⟩) s.d.length CC] (0, 0) _ rfl hpr Tryz.underlying81 rfl info81) rfl ?_
        refine ⟨_, _, rfl, hsv9.upd hpu (fun k hk _ e => by have h1 := HVB.out k hk; have h2 := HA2.out; have h4 := HZ5.out; have h5 := HZ6.out; omega), hsd9.upd hpu (fun k hk _ e => ?_), fun k hk => Nat.le_trans HZ68.out (HVB.out k hk), fun k hk => ?_, hbd9.trans (hpu.below (Nat.le_of_lt hlt9) (fun k hk e => by omega))⟩
        · have h1 : YY = k := Option.some.inj hk
          have h2 := HYZ.out
          omega
        · have h1 : YY = k := Option.some.inj hk
          have h2 := HDB.out
          omega
      · have hx8 : w8.heap[wr.heap.size]? = some zeroB := (HX8.out.2.block wr.heap.size (by show wr.heap.size < (wr.alloc zeroB).heap.size; simp) (by omega)).trans (heap_alloc_new wr _)
        have hF := laid3 (i := s.i) (t := s.t) HX8.out.1 hz8 hx8 hv8 hb8 HS.out.db hdl (by omega) (by omega) (fun e => by have := (HRE5.out.own.lt _ e).2; omega) (fun e => by have := hvb _ e; have := (HRO.out.lt e).2; omega)
        generalize ((put4 w8 wr.heap.size (.int .i64 s.i) (.int .i64 s.t) (.slice uo j uc) (.slice (some ⟨w8.heap.size, 0, none⟩) s.d.length (grownCap w8 s.d.length 0 5))).alloc (dataO s.d (grownCap w8 s.d.length 0 5))).drew = W9 at hF ⊢
        generalize hCC : grownCap w8 s.d.length 0 5 = CC at hF ⊢
        have HDB : Hid (w8.heap.size ≥ w.heap.size) := by show _ ≤ _; have := hU8.size; omega
        generalize hXX : wr.heap.size = XX at hF ⊢
        have HYZ : Hid (w8.heap.size ≠ w.heap.size) := by show _ ≠ _; have := (Array.getElem?_eq_some_iff.1 hz8).1; omega
        generalize hYY : w8.heap.size = YY at hF HDB HYZ ⊢
        have herr := rErr _ b v3 bd bd.length 0 W9 hF.rre
        have hleft := left_any _ b v3 bd bd.length 0 W9 hF.rre
        rw [Int.sub_self] at hleft
        have HF := Hid.mk' hF
        have HVB := Hid.mk' hvb
        have HZ68 : Hid (w.heap.size ≤ w6.heap.size) := by show _ ≤ _; omega
        obtain ⟨x0, x1, x2, x3⟩ := row4 hF.rx
        obtain ⟨y0, y1, y2, y3⟩ := row4 hF.rz
        have g0 := frozen_of_row W9 w.heap.size 0 _ 81 hF.rz; have g1 := frozen_of_row W9 w.heap.size 1 _ 81 hF.rz; have g2 := frozen_of_row W9 w.heap.size 2 _ 81 hF.rz; have g3 := frozen_of_row W9 w.heap.size 3 _ 81 hF.rz
        have hne1 : ¬ XX = w.heap.size := hF.ne
        have hne2 : ¬ w.heap.size = XX := fun e => hF.ne e.symm
        clear hF hS0 hkp h105 h105a hcv U0 UA hS8 HX8 hz8 hv8 hb8 hU8 hvb hXX hYY hCC hdl
        skip
        go_wp2_with (first | (go_at_call 106; refine herr.mono ?_; rintro e w10 ⟨rfl, hq⟩; subst hq) | (go_at_call 107; refine hleft.mono ?_; rintro e w10 ⟨rfl, nn, rfl⟩))
        have hz9 : (W9.drewN nn).heap[w.heap.size]? = some zeroB := HF.out.rz
        have hpr := put4_row hz9 (.int .i64 s.i) (.int .i64 s.t) (.slice uo j uc) (.slice (some ⟨YY, 0, none⟩) s.d.length CC)
        have hpu := put4_upd (W9.drewN nn) w.heap.size (.int .i64 s.i) (.int .i64 s.t) (.slice uo j uc) (.slice (some ⟨YY, 0, none⟩) s.d.length CC)
        have hbd9 : Below w.heap.size w (W9.drewN nn) := below_drewN HF.out.below nn
        have hlt9 : w.heap.size < (W9.drewN nn).heap.size := (Array.getElem?_eq_some_iff.1 hz9).1
        have hsv9 : SeesI (W9.drewN nn) (.slice uo j uc) s.vs := HF.out.svs
        have hsd9 : Sees (W9.drewN nn) (.slice (some ⟨YY, 0, none⟩) s.d.length CC) s.d := HF.out.sd
        refine bodyPost_ret (results_ct rfl _ _ w.heap.size 81 #[.int .i64 s.i, .int .i64 s.t, .slice uo j uc, .slice (some ⟨YY, 0, none⟩) s.d.length CC] (0, 0) _ rfl hpr Tryz.underlying81 rfl info81) rfl ?_
        refine ⟨_, _, rfl, hsv9.upd hpu (fun k hk _ e => by have h1 := HVB.out k hk; have h2 := HA2.out; have h4 := HZ5.out; have h5 := HZ6.out; omega), hsd9.upd hpu (fun k hk _ e => ?_), fun k hk => Nat.le_trans HZ68.out (HVB.out k hk), fun k hk => ?_, hbd9.trans (hpu.below (Nat.le_of_lt hlt9) (fun k hk e => by omega))⟩
        · have h1 : YY = k := Option.some.inj hk
          have h2 := HYZ.out
          omega
        · have h1 : YY = k := Option.some.inj hk
          have h2 := HDB.out
          omega
theorem parseYes : ParseYes := fun v s w hT hv hs => parse_yes v s w hT hv hs
end Go.Proofs.YtdcpfjlnagigaaaGreatDoor
