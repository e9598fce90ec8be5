/- What a snapshot's file holds: framed. -/
import Derived.Test.YtdcpfjlnagigaaaGreatDoorSN3
import Derived.Test.YtdcpfjlnagigaaaGreatDoorPUnf
namespace Go.Proofs.YtdcpfjlnagigaaaGreatDoor
open Go Go.RowKit
abbrev q1 (n : Int) : List Int := (be (IntKind.u64.wrap n)).drop 7
abbrev q4 (n : Int) : List Int := (be (IntKind.u64.wrap n)).drop 4
abbrev q8 (n : Int) : List Int := (be (IntKind.u64.wrap n)).drop 0
def vsB (vs : List Int) : List Int := vs.flatMap q8
theorem vsB_snoc (vs : List Int) (v : Int) : vsB (vs ++ [v]) = vsB vs ++ q8 v := by simp [vsB]
theorem vsB_len : ∀ vs : List Int, (vsB vs).length = 8 * vs.length
  | [] => rfl
  | v :: r => by have := vsB_len r; simp only [vsB, List.flatMap_cons, List.length_append, List.length_cons] at *; rw [this]; show 8 + _ = _; omega
/-- A snapshot: its Index, Term, voters, data. -/
structure Sh where
  i : Int
  t : Int
  vs : List Int
  d : List Int
def Sh.body (s : Sh) : List Int := ((((([] ++ q8 s.i) ++ q8 s.t) ++ q1 s.vs.length) ++ vsB s.vs) ++ (q4 s.d.length ++ s.d))
theorem q_isB (n : Int) (k : Nat) : isB ((be (IntKind.u64.wrap n)).drop k) := fun x hx => be_isB _ (u64_bd _).1 (u64_bd _).2 x (List.mem_of_mem_drop hx)
theorem isB_app {a b : List Int} (ha : isB a) (hb : isB b) : isB (a ++ b) := fun x hx => by rcases List.mem_append.1 hx with h | h; exact ha x h; exact hb x h
theorem vsB_isB (vs : List Int) : isB (vsB vs) := fun x hx => by
  obtain ⟨v, _, h⟩ := List.mem_flatMap.1 hx
  exact q_isB v 0 x h
theorem Sh.body_isB {s : Sh} (h : isB s.d) : isB s.body := isB_app (isB_app (isB_app (isB_app (isB_app (fun _ h => by cases h) (q_isB _ _)) (q_isB _ _)) (q_isB _ _)) (vsB_isB _)) (isB_app (q_isB _ _) h)
theorem Sh.body_len (s : Sh) : s.body.length = 21 + 8 * s.vs.length + s.d.length := by
  unfold Sh.body
  simp only [List.length_append, vsB_len]
  show 0 + 8 + 8 + 1 + 8 * s.vs.length + (4 + s.d.length) = _
  omega
theorem strB_nums {d : List Int} (h : isB d) : strB (strOfNums d) = d := by
  unfold strB
  rw [strOfNums_data, List.map_map]
  conv => rhs; rw [← List.map_id d]
  refine List.map_congr_left fun x hx => ?_
  have := h x hx
  simp only [Function.comp, id, UInt8.toNat_ofNat']
  omega
theorem WrPost.keep {B : Nat} {w w' : World} {b : Nat} {v : Value} {xs : List Int} (h : WrPost B w w' b v xs) {p : Addr} (hp : p.block < w.heap.size) (hb : p.block ≠ b) (hv : v.ownBlock ≠ some p.block) : w'.cell? p = w.cell? p := by
  obtain ⟨_, _, hu, _⟩ := h
  exact hu.cell hp (fun e => by rcases e with e | e; exact hb e; exact hv e.symm)
theorem WrPost.size {B : Nat} {w w' : World} {b : Nat} {v : Value} {xs : List Int} (h : WrPost B w w' b v xs) : w.heap.size ≤ w'.heap.size := by
  obtain ⟨_, _, hu, _⟩ := h
  exact hu.size
theorem WrPost.start {B : Nat} {w : World} {b : Nat} {v : Value} {xs : List Int} (h : Wr B w b v xs) : WrPost B w w b v xs := ⟨v, h, Upd.refl _ _, .inl rfl⟩
theorem wU8n (B b : Nat) (v : Value) (ys : List Int) (n : Int) (w1 wk : World) (HP : WrPost B w1 wk b v ys) (hl : ys.length ≤ 1000000) (hB : B ≤ w1.heap.size) :
    Calls Tryz.prog 61 #[.pointer (some ⟨b, 0, none⟩), .int .i64 n] wk fun e w' => e = .returned (.tuple #[]) ∧ ∃ zs, Hid (zs = ys ++ q1 n) ∧ zs.length = ys.length + 1 ∧ WrPost B w1 w' b v zs := by
  have hs := HP.size
  obtain ⟨v1, hw1, hu, ho⟩ := HP
  refine (wU8 B b v1 ys n wk hw1 hl (by omega)).mono ?_
  rintro e w' ⟨rfl, hp⟩
  exact ⟨rfl, _, Hid.mk' rfl, by rw [List.length_append]; rfl, WrPost.next hu ho hp⟩
theorem wIntn (B b : Nat) (v : Value) (ys : List Int) (n : Int) (w1 wk : World) (HP : WrPost B w1 wk b v ys) (hl : ys.length ≤ 1000000) (hB : B ≤ w1.heap.size) :
    Calls Tryz.prog 60 #[.pointer (some ⟨b, 0, none⟩), .int .i64 n] wk fun e w' => e = .returned (.tuple #[]) ∧ ∃ zs, Hid (zs = ys ++ q8 n) ∧ zs.length = ys.length + 8 ∧ WrPost B w1 w' b v zs := by
  have hs := HP.size
  obtain ⟨v1, hw1, hu, ho⟩ := HP
  refine (wInt B b v1 ys n wk hw1 hl (by omega)).mono ?_
  rintro e w' ⟨rfl, hp⟩
  exact ⟨rfl, _, Hid.mk' rfl, by rw [List.length_append]; rfl, WrPost.next hu ho hp⟩
theorem wTextn (B b : Nat) (v : Value) (ys d : List Int) (w1 wk : World) (HP : WrPost B w1 wk b v ys) (hl : ys.length ≤ 900000) (hB : B ≤ w1.heap.size) (hd : isB d) (hdl : d.length ≤ 100000) :
    Calls Tryz.prog 62 #[.pointer (some ⟨b, 0, none⟩), .string (strOfNums d)] wk fun e w' => e = .returned (.tuple #[]) ∧ WrPost B w1 w' b v (ys ++ (q4 d.length ++ d)) := by
  have hs := HP.size
  have hz : (strOfNums d).size = d.length := by rw [← strB_len, strB_nums hd]
  obtain ⟨v1, hw1, hu, ho⟩ := HP
  refine (wText B b v1 ys (strOfNums d) wk hw1 hl (by omega) (by omega)).mono ?_
  rintro e w' ⟨rfl, hp⟩
  rw [hz, strB_nums hd] at hp
  exact ⟨rfl, WrPost.next hu ho hp⟩
theorem wr_new (B : Nat) (w : World) (hB : B ≤ w.heap.size) : Wr B (w.alloc (.cells #[.slice none 0 0] 141)) w.heap.size (.slice none 0 0) [] :=
  ⟨cell_of_row _ _ _ _ _ _ (heap_alloc_new w _), frozen_of_row _ _ _ _ _ (heap_alloc_new w _), World.ownsRow_nil _ _ _ _, (fun e => by cases e), hB⟩
set_option maxRecDepth 100000 in
set_option maxHeartbeats 1000000 in
/-- The bytes of a snapshot's file. -/
theorem framed_any (s : Sh) (vv dv : Value) (w : World) (hT : HasTab w) (hv : SeesI w vv s.vs) (hvl : s.vs.length ≤ 255) (hd : Sees w dv s.d) (hdb : isB s.d) (hdl : s.d.length ≤ 90000) :
    Calls Tryz.prog 30 #[.agg #[.int .i64 s.i, .int .i64 s.t, vv], dv] w fun e w' => ∃ v', e = .returned v' ∧ w'.ownsRow w.heap.size 5 1 v' (frameB s.body).length (u8s (frameB s.body)) ∧ Below w.heap.size w w' := by
  obtain ⟨vo, vc, rfl⟩ := hv.form
  obtain ⟨dvo, dvc, rfl⟩ := hd.form
  obtain ⟨wa, hwa⟩ : ∃ wa, wa = w.alloc (.cells #[.int .i64 s.i, .int .i64 s.t, .slice vo s.vs.length vc] 34) := ⟨_, rfl⟩
  have hba : Below w.heap.size w wa := by rw [hwa]; exact (Below.refl _ _).alloc (Nat.le_refl _) _
  have hsa : wa.heap.size = w.heap.size + 1 := by rw [hwa]; simp
  have hra : wa.heap[w.heap.size]? = some (.cells #[.int .i64 s.i, .int .i64 s.t, .slice vo s.vs.length vc] 34 (0, 0)) := by rw [hwa]; exact heap_alloc_new w _
  obtain ⟨w1, hw1⟩ : ∃ w1, w1 = wa.alloc (.cells #[.slice none 0 0] 141) := ⟨_, rfl⟩
  have hb1 : Below wa.heap.size wa w1 := by rw [hw1]; exact (Below.refl _ _).alloc (Nat.le_refl _) _
  have HBA : Hid (Below w.heap.size w w1) := hba.trans (hb1.mono hba.size)
  have HB1 : Hid (w.heap.size ≤ w1.heap.size) := HBA.out.size
  have hW : Wr w.heap.size w1 wa.heap.size (.slice none 0 0) [] := by rw [hw1]; exact wr_new _ wa hba.size
  have HP0 := WrPost.start hW
  have hr1 := (hb1.block w.heap.size (by omega)).trans hra
  have HK : Hid (∀ (w' : World) (ys : List Int), WrPost w.heap.size w1 w' wa.heap.size (.slice none 0 0) ys → ∀ j, w'.cell? ⟨w.heap.size, j, none⟩ = (#[.int .i64 s.i, .int .i64 s.t, .slice vo s.vs.length vc] : Array Value)[j]?) := fun w' ys h j =>
    (h.keep (p := ⟨w.heap.size, j, none⟩) (by show w.heap.size < _; have := hb1.size; omega) (by show w.heap.size ≠ wa.heap.size; omega) (fun e => by cases e)).trans (cell_of_row _ _ _ _ _ _ hr1)
  have HV : Hid (∀ (w' : World) (ys : List Int), WrPost w.heap.size w1 w' wa.heap.size (.slice none 0 0) ys → SeesI w' (.slice vo s.vs.length vc) s.vs) := fun w' ys h => by
    obtain ⟨_, _, hu, _⟩ := h
    rcases hv with h0 | ⟨b, off, cap, he, h0, hlt, hc⟩
    · exact .inl h0
    · refine .inr ⟨b, off, cap, he, h0, Nat.lt_of_lt_of_le hlt (Nat.le_trans HBA.out.size hu.size), fun i hi => ?_⟩
      rw [hu.cell (p := ⟨b, off + i, none⟩) (Nat.lt_of_lt_of_le hlt HBA.out.size) (fun e => by rcases e with e | e; simp only at e; omega; cases e), HBA.out.cell (p := ⟨b, off + i, none⟩) hlt]
      exact hc i hi
  have HD : Hid (∀ (w' : World) (ys : List Int), WrPost w.heap.size w1 w' wa.heap.size (.slice none 0 0) ys → Sees w' (.slice dvo s.d.length dvc) s.d) := fun w' ys h => by
    obtain ⟨_, _, hu, _⟩ := h
    exact (hd.below HBA.out).upd hu (fun k hk h0 e => by
      have hlt : k < w.heap.size := by
        rcases hd with ⟨h1, _⟩ | ⟨b, off, cap, h1, h2, _, _, hc⟩
        · rw [h1] at h0; simp at h0
        · simp only [Value.slice.injEq] at h1
          rw [h1.1] at hk
          simp only [Value.ownBlock, Option.some.injEq] at hk
          rw [← hk]
          exact World.block_lt_of_cell? _ ⟨b, off + 0, none⟩ (hc 0 h2)
      rcases e with e | e
      · omega
      · cases e)
  have hc1 := wIntn w.heap.size wa.heap.size (.slice none 0 0) [] s.i w1 w1 HP0 (by simp) HB1.out
  have HBD : Hid (isB s.body ∧ s.body.length ≤ 100000 ∧ isB s.d) := ⟨s.body_isB hdb, by rw [s.body_len]; omega, hdb⟩
  have HT1 := Hid.mk' hT
  have HBO : Hid (s.body = ((((([] ++ q8 s.i) ++ q8 s.t) ++ q1 s.vs.length) ++ vsB s.vs) ++ (q4 s.d.length ++ s.d))) := rfl
  generalize s.body = bd at *
  generalize hn : s.vs.length = n at *
  have HN := Hid.mk' hn
  generalize hm : s.d.length = m at *
  have HM := Hid.mk' hm
  have hk0 := HK.out _ _ HP0 0
  simp only [List.getElem?_toArray, List.getElem?_cons_zero] at hk0
  rw [hsa] at HP0 hc1 HK HV HD
  clear hv hd hdb hba hra hb1 hW hr1 hT hn hm hsa
  go_enter Tryz.func30, Tryz.ntmps30
  go_wp2_with (go_at_call 59; refine (wNew _).mono ?_; rintro e w2 ⟨rfl, rfl⟩)
  rw [← hwa, ← hw1]
  clear hwa hw1 HP0 hk0
  refine hc1.mono ?_
  rintro e w2 ⟨rfl, z2, E2, l2, P2⟩
  have k := HK.out _ _ P2 1
  simp only [List.getElem?_toArray, List.getElem?_cons_zero, List.getElem?_cons_succ] at k
  go_wp2_with fail
  refine (wIntn w.heap.size (w.heap.size + 1) (.slice none 0 0) _ _ w1 _ P2 (by simp at l2; omega) HB1.out).mono ?_
  rintro e w3 ⟨rfl, z3, E3, l3, P3⟩
  have k := HK.out _ _ P3 2
  simp only [List.getElem?_toArray, List.getElem?_cons_zero, List.getElem?_cons_succ] at k
  go_wp2_with fail
  refine (wU8n w.heap.size (w.heap.size + 1) (.slice none 0 0) _ _ w1 _ P3 (by simp at l2; omega) HB1.out).mono ?_
  rintro e w4 ⟨rfl, z5, E5, l5, P5⟩
  have k := HK.out _ _ P5 2
  simp only [List.getElem?_toArray, List.getElem?_cons_zero, List.getElem?_cons_succ] at k
  go_wp2_with fail
  go_loopg [25] n (fun kx s24 wr => ∃ (j : Nat) (zs : List Int), s24 = .int .i64 j ∧ j ≤ n ∧ n - j ≤ kx ∧ Hid (zs = z5 ++ vsB (s.vs.take j)) ∧ zs.length = z5.length + 8 * j ∧ WrPost w.heap.size w1 wr (w.heap.size + 1) (.slice none 0 0) zs)
  case atStart => exact ⟨0, z5, rfl, Nat.zero_le _, by omega, Hid.mk' (by simp [vsB]), rfl, P5⟩
  case round =>
    obtain ⟨j, zs, rfl, hj, hjx, E6, l6, P6⟩ := hrel
    by_cases hlt : j < n
    · have hjl : j < s.vs.length := by rw [HN.out]; exact hlt
      have hs6 := HV.out _ _ P6
      obtain ⟨g, off, rfl, hcell⟩ : ∃ g off, vo = some ⟨g, off, none⟩ ∧ wr.cell? ⟨g, off + j, none⟩ = some (.int .i64 s.vs[j]) := by
        rcases hs6 with ⟨h, _⟩ | ⟨g, off, cap, h, _, _, hc⟩
        · rw [h] at hjl; simp at hjl
        · simp only [Value.slice.injEq] at h
          refine ⟨g, off, h.1, ?_⟩
          rw [hc j hjl]
          simp [List.getD_eq_getElem?_getD, hjl]
      have HE : Hid (vsB (s.vs.take (j + 1)) = vsB (s.vs.take j) ++ q8 s.vs[j]) := by show _ = _; rw [List.take_succ_eq_append_getElem hjl, vsB_snoc]
      generalize s.vs[j] = y at *
      clear hs6 hjl
      go_wp2_with (go_at_call 60; refine (wIntn w.heap.size (w.heap.size + 1) (.slice none 0 0) zs y w1 _ P6 (by simp at l2; omega) HB1.out).mono ?_; rintro e w7 ⟨rfl, z7, E7, l7, P7⟩)
      go_roundg (n - (j + 1))
      case measure => omega
      case rel => exact ⟨j + 1, z7, rfl, by omega, by omega, Hid.mk' (by rw [E7.out, E6.out, HE.out, List.append_assoc]), by omega, P7⟩
    · obtain rfl : j = n := by omega
      have E8 : Hid (zs = z5 ++ vsB s.vs) := by show _ = _; rw [E6.out, List.take_of_length_le (by rw [HN.out]; exact Nat.le_refl _)]
      have hcv := conv_sees (HD.out _ _ P6)
      go_wp2_with fail
      refine (wTextn w.heap.size (w.heap.size + 1) (.slice none 0 0) _ s.d w1 _ P6 (by simp at l2; omega) HB1.out HBD.out.2.2 (by rw [HM.out]; omega)).mono ?_
      rintro e w8 ⟨rfl, P8⟩
      have P9 : WrPost w.heap.size w1 w8 (w.heap.size + 1) (.slice none 0 0) bd := by
        rw [HBO.out, ← HM.out]
        rw [E8.out, E5.out, E3.out, E2.out] at P8
        exact P8
      obtain ⟨v9, g1, g2, g3⟩ := P9
      have hb8 : Below w.heap.size w w8 := HBA.out.trans (g2.below HB1.out (fun i hi e => by rcases e with e | e; omega; cases e))
      have HG1 := Hid.mk' g1
      have HB8 := Hid.mk' hb8
      clear P8 g1 g2 g3 hb8 hcv P6
      go_wp2_with fail
      refine (wDone _ _ _ _ _ HG1.out (by have := HBD.out.2.1; omega)).mono ?_
      rintro e w9 ⟨v10, rfl, ho9, hb9⟩
      have HB9 : Hid (Below w.heap.size w w9) := HB8.out.trans (hb9.mono HB8.out.size)
      have hfr := frame_any v10 bd w9 (HT1.out.below HB9.out) HBD.out.1 HBD.out.2.1 (sees_own ho9)
      obtain ⟨a10, c10, rfl⟩ := owns_form ho9
      clear ho9 hb9
      go_wp2_with (go_at_call 63; refine hfr.mono ?_; rintro e w10 ⟨v11, rfl, ho10, hb10⟩)
      obtain ⟨a11, c11, rfl⟩ := owns_form ho10
      go_ret
      exact ⟨_, rfl, ⟨ho10.1, ho10.2.imp id (fun ⟨g, cap, cur, e1, e2, e3⟩ => ⟨g, cap, cur, e1, Nat.le_trans HB9.out.size e2, e3⟩)⟩, HB9.out.trans (hb10.mono HB9.out.size)⟩
end Go.Proofs.YtdcpfjlnagigaaaGreatDoor
