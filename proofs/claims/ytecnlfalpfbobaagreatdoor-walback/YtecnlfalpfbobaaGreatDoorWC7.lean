/- What the records write: the three write calls. -/
import Derived.Test.YtecnlfalpfbobaaGreatDoorWC5
namespace Go.Proofs.YtecnlfalpfbobaaGreatDoor
open Go Go.RowKit
theorem WrPost.keep {B : Nat} {w w' : World} {b : Nat} {v : Value} {xs : List Int} (h : WrPost B w w' b v xs) {p : Addr} (hp : p.block < w.heap.size) (hb : p.block ≠ b) (hv : v.ownBlock ≠ some p.block) : w'.cell? p = w.cell? p := by
  obtain ⟨_, _, hu, _⟩ := h
  exact hu.cell hp (fun e => by rcases e with e | e; exact hb e; exact hv e.symm)
theorem WrPost.size {B : Nat} {w w' : World} {b : Nat} {v : Value} {xs : List Int} (h : WrPost B w w' b v xs) : w.heap.size ≤ w'.heap.size := by
  obtain ⟨_, _, hu, _⟩ := h
  exact hu.size
theorem WrPost.start {B : Nat} {w : World} {b : Nat} {v : Value} {xs : List Int} (h : Wr B w b v xs) : WrPost B w w b v xs := ⟨v, h, Upd.refl _ _, .inl rfl⟩
theorem wU8n (B b : Nat) (v : Value) (ys : List Int) (n : Int) (w1 wk : World) (HP : WrPost B w1 wk b v ys) (hl : ys.length ≤ 1000000) (hB : B ≤ w1.heap.size) :
    Calls Tryz.prog 219 #[.pointer (some ⟨b, 0, none⟩), .int .i64 n] wk fun e w' => e = .returned (.tuple #[]) ∧ ∃ zs, Hid (zs = ys ++ q1 n) ∧ zs.length = ys.length + 1 ∧ WrPost B w1 w' b v zs := by
  have hs := HP.size
  obtain ⟨v1, hw1, hu, ho⟩ := HP
  refine (wU8 B b v1 ys n wk hw1 hl (by omega)).mono ?_
  rintro e w' ⟨rfl, hp⟩
  exact ⟨rfl, _, Hid.mk' rfl, by rw [List.length_append]; rfl, WrPost.next hu ho hp⟩
theorem wIntn (B b : Nat) (v : Value) (ys : List Int) (n : Int) (w1 wk : World) (HP : WrPost B w1 wk b v ys) (hl : ys.length ≤ 1000000) (hB : B ≤ w1.heap.size) :
    Calls Tryz.prog 220 #[.pointer (some ⟨b, 0, none⟩), .int .i64 n] wk fun e w' => e = .returned (.tuple #[]) ∧ ∃ zs, Hid (zs = ys ++ q8 n) ∧ zs.length = ys.length + 8 ∧ WrPost B w1 w' b v zs := by
  have hs := HP.size
  obtain ⟨v1, hw1, hu, ho⟩ := HP
  refine (wInt B b v1 ys n wk hw1 hl (by omega)).mono ?_
  rintro e w' ⟨rfl, hp⟩
  exact ⟨rfl, _, Hid.mk' rfl, by rw [List.length_append]; rfl, WrPost.next hu ho hp⟩
theorem wTextn (B b : Nat) (v : Value) (ys d : List Int) (w1 wk : World) (HP : WrPost B w1 wk b v ys) (hl : ys.length ≤ 900000) (hB : B ≤ w1.heap.size) (hd : isB d) (hdl : d.length ≤ 100000) :
    Calls Tryz.prog 222 #[.pointer (some ⟨b, 0, none⟩), .string (strOfNums d)] wk fun e w' => e = .returned (.tuple #[]) ∧ WrPost B w1 w' b v (ys ++ (q4 d.length ++ d)) := by
  have hs := HP.size
  have hz : (strOfNums d).size = d.length := by rw [← strB_len, strB_nums hd]
  obtain ⟨v1, hw1, hu, ho⟩ := HP
  refine (wText B b v1 ys (strOfNums d) wk hw1 hl (by omega) (by omega)).mono ?_
  rintro e w' ⟨rfl, hp⟩
  rw [hz, strB_nums hd] at hp
  exact ⟨rfl, WrPost.next hu ho hp⟩
set_option maxRecDepth 100000 in
set_option maxHeartbeats 1000000 in
theorem writeHard (B b : Nat) (v : Value) (t1 v1 c1 : Int) (w : World) (hw : Wr B w b v []) (hB : B ≤ w.heap.size) :
    Calls Tryz.prog 223 #[.agg #[.int .i64 t1, .int .i64 v1, .int .i64 c1], .pointer (some ⟨b, 0, none⟩)] w fun e w' => e = .returned (.tuple #[]) ∧ WrPost B w w' b v (RecG.hard t1 v1 c1 : Rec).body := by
  obtain ⟨w1, hw1⟩ : ∃ w1, w1 = w.alloc (.cells #[.int .i64 t1, .int .i64 v1, .int .i64 c1] 153) := ⟨_, rfl⟩
  have hb1 : Below w.heap.size w w1 := by rw [hw1]; exact (Below.refl _ _).alloc (Nat.le_refl _) _
  have hsz : w1.heap.size = w.heap.size + 1 := by rw [hw1]; simp
  have HB1 : Hid (B ≤ w1.heap.size) := by show _ ≤ _; omega
  have HP0 := WrPost.start (hw.below hb1)
  have hbx : ∀ j, w1.cell? ⟨w.heap.size, j, none⟩ = (#[.int .i64 t1, .int .i64 v1, .int .i64 c1] : Array Value)[j]? := fun j => by rw [hw1]; exact cell_of_row _ _ _ _ _ _ (heap_alloc_new w _)
  have HK : Hid (∀ (w' : World) (ys : List Int), WrPost B w1 w' b v ys → ∀ j, w'.cell? ⟨w.heap.size, j, none⟩ = (#[.int .i64 t1, .int .i64 v1, .int .i64 c1] : Array Value)[j]?) := fun w' ys h j =>
    (h.keep (p := ⟨w.heap.size, j, none⟩) (by show w.heap.size < _; omega) (by have := hw.lt; show w.heap.size ≠ b; omega) (fun e => by have := (hw.own.lt _ e).2; exact Nat.lt_irrefl _ this)).trans (hbx j)
  have hc1 := wU8n B b v [] 1 w1 w1 HP0 (by simp) HB1.out
  have HBB := Hid.mk' hb1
  clear hw hbx hsz hb1
  go_enter Tryz.func223, Tryz.ntmps223
  go_wp2_with fail
  rw [← hw1]
  clear hw1 HP0
  refine hc1.mono ?_
  rintro e w2 ⟨rfl, z2, E2, l2, P2⟩
  have k := HK.out _ _ P2 0
  simp only [List.getElem?_toArray, List.getElem?_cons_zero] at k
  go_wp2_with fail
  refine (wIntn B b v _ _ w1 _ P2 (by simp at l2; omega) HB1.out).mono ?_
  rintro e w3 ⟨rfl, z3, E3, l3, P3⟩
  have k := HK.out _ _ P3 1
  simp only [List.getElem?_toArray, List.getElem?_cons_zero, List.getElem?_cons_succ] at k
  go_wp2_with fail
  refine (wIntn B b v _ _ w1 _ P3 (by simp at l2; omega) HB1.out).mono ?_
  rintro e w4 ⟨rfl, z4, E4, l4, P4⟩
  have k := HK.out _ _ P4 2
  simp only [List.getElem?_toArray, List.getElem?_cons_zero, List.getElem?_cons_succ] at k
  go_wp2_with fail
  refine (wIntn B b v _ _ w1 _ P4 (by simp at l2; omega) HB1.out).mono ?_
  rintro e w5 ⟨rfl, z5, E5, l5, P5⟩
  go_wp2_with fail
  go_end0
  refine ⟨rfl, ?_⟩
  obtain ⟨v9, g1, g2, g3⟩ := P5
  rw [E5.out, E4.out, E3.out, E2.out] at g1
  exact ⟨v9, g1, (Upd.ofBelow HBB.out : Upd w w1 (fun k => k = b ∨ some k = v.ownBlock)).trans g2 (fun _ _ h => h), by rcases g3 with g3 | ⟨g, hg, g3⟩; exact .inl g3; exact .inr ⟨g, Nat.le_trans HBB.out.size hg, g3⟩⟩
set_option maxRecDepth 100000 in
set_option maxHeartbeats 1000000 in
theorem writeEntry (B b : Nat) (v : Value) (x : Ev) (w : World) (hw : Wr B w b v []) (hB : B ≤ w.heap.size) (hx : EvOk w x) (hxa : EvAway (fun k => k = b ∨ some k = v.ownBlock) x) :
    Calls Tryz.prog 221 #[.agg #[.int .i64 x.e.i, .int .i64 x.e.t, .int .i64 x.e.k, x.v], .pointer (some ⟨b, 0, none⟩)] w fun e w' => e = .returned (.tuple #[]) ∧ WrPost B w w' b v (RecG.entry x.e : Rec).body := by
  obtain ⟨vo, vc, hvv⟩ := hx.sees.form
  have HVV := Hid.mk' hvv
  rw [hvv]
  obtain ⟨w1, hw1⟩ : ∃ w1, w1 = w.alloc (.cells #[.int .i64 x.e.i, .int .i64 x.e.t, .int .i64 x.e.k, .slice vo x.e.d.length vc] 152) := ⟨_, rfl⟩
  have hb1 : Below w.heap.size w w1 := by rw [hw1]; exact (Below.refl _ _).alloc (Nat.le_refl _) _
  have hsz : w1.heap.size = w.heap.size + 1 := by rw [hw1]; simp
  have HB1 : Hid (B ≤ w1.heap.size) := by show _ ≤ _; omega
  have HP0 := WrPost.start (hw.below hb1)
  have hbx : ∀ j, w1.cell? ⟨w.heap.size, j, none⟩ = (#[.int .i64 x.e.i, .int .i64 x.e.t, .int .i64 x.e.k, .slice vo x.e.d.length vc] : Array Value)[j]? := fun j => by rw [hw1]; exact cell_of_row _ _ _ _ _ _ (heap_alloc_new w _)
  have HK : Hid (∀ (w' : World) (ys : List Int), WrPost B w1 w' b v ys → ∀ j, w'.cell? ⟨w.heap.size, j, none⟩ = (#[.int .i64 x.e.i, .int .i64 x.e.t, .int .i64 x.e.k, .slice vo x.e.d.length vc] : Array Value)[j]?) := fun w' ys h j =>
    (h.keep (p := ⟨w.heap.size, j, none⟩) (by show w.heap.size < _; omega) (by have := hw.lt; show w.heap.size ≠ b; omega) (fun e => by have := (hw.own.lt _ e).2; exact Nat.lt_irrefl _ this)).trans (hbx j)
  have HD : Hid (∀ (w' : World) (ys : List Int), WrPost B w1 w' b v ys → Sees w' (.slice vo x.e.d.length vc) x.e.d) := fun w' ys h => by
    obtain ⟨_, _, hu, _⟩ := h
    rw [← HVV.out]
    exact ((hx.sees.below hb1).upd hu hxa)
  have hisb := hx.isb
  have hlen := hx.len
  have hc1 := wU8n B b v [] 2 w1 w1 HP0 (by simp) HB1.out
  have HBB := Hid.mk' hb1
  clear hw hbx hsz hb1 hvv hx hxa
  go_enter Tryz.func221, Tryz.ntmps221
  go_wp2_with fail
  rw [← hw1]
  clear hw1 HP0
  refine hc1.mono ?_
  rintro e w2 ⟨rfl, z2, E2, l2, P2⟩
  have k := HK.out _ _ P2 0
  simp only [List.getElem?_toArray, List.getElem?_cons_zero] at k
  go_wp2_with fail
  refine (wIntn B b v _ _ w1 _ P2 (by simp at l2; omega) HB1.out).mono ?_
  rintro e w3 ⟨rfl, z3, E3, l3, P3⟩
  have k := HK.out _ _ P3 1
  simp only [List.getElem?_toArray, List.getElem?_cons_zero, List.getElem?_cons_succ] at k
  go_wp2_with fail
  refine (wIntn B b v _ _ w1 _ P3 (by simp at l2; omega) HB1.out).mono ?_
  rintro e w4 ⟨rfl, z4, E4, l4, P4⟩
  have k := HK.out _ _ P4 2
  simp only [List.getElem?_toArray, List.getElem?_cons_zero, List.getElem?_cons_succ] at k
  go_wp2_with fail
  refine (wU8n B b v _ _ w1 _ P4 (by simp at l2; omega) HB1.out).mono ?_
  rintro e w5 ⟨rfl, z5, E5, l5, P5⟩
  have k := HK.out _ _ P5 3
  simp only [List.getElem?_toArray, List.getElem?_cons_zero, List.getElem?_cons_succ] at k
  have hcv := conv_sees (HD.out _ _ P5)
  go_wp2_with fail
  refine (wTextn B b v _ x.e.d w1 _ P5 (by simp at l2; omega) HB1.out hisb (by omega)).mono ?_
  rintro e w6 ⟨rfl, P6⟩
  go_wp2_with fail
  go_end0
  refine ⟨rfl, ?_⟩
  obtain ⟨v9, g1, g2, g3⟩ := P6
  rw [E5.out, E4.out, E3.out, E2.out] at g1
  exact ⟨v9, g1, (Upd.ofBelow HBB.out : Upd w w1 (fun k => k = b ∨ some k = v.ownBlock)).trans g2 (fun _ _ h => h), by rcases g3 with g3 | ⟨g, hg, g3⟩; exact .inl g3; exact .inr ⟨g, Nat.le_trans HBB.out.size hg, g3⟩⟩
set_option maxRecDepth 100000 in
set_option maxHeartbeats 1000000 in
theorem writeBase (B b : Nat) (v : Value) (i t : Int) (x : Vv) (w : World) (hw : Wr B w b v []) (hB : B ≤ w.heap.size) (hx : VvOk w x) (hxa : VvAway (fun k => k = b ∨ some k = v.ownBlock) x) :
    Calls Tryz.prog 218 #[.agg #[.int .i64 i, .int .i64 t, x.v], .pointer (some ⟨b, 0, none⟩)] w fun e w' => e = .returned (.tuple #[]) ∧ WrPost B w w' b v (RecG.base i t x.vs : Rec).body := by
  obtain ⟨vo, vc, hvv⟩ := hx.sees.form
  have HVV := Hid.mk' hvv
  rw [hvv]
  obtain ⟨w1, hw1⟩ : ∃ w1, w1 = w.alloc (.cells #[.int .i64 i, .int .i64 t, .slice vo x.vs.length vc] 117) := ⟨_, rfl⟩
  have hb1 : Below w.heap.size w w1 := by rw [hw1]; exact (Below.refl _ _).alloc (Nat.le_refl _) _
  have hsz : w1.heap.size = w.heap.size + 1 := by rw [hw1]; simp
  have HB1 : Hid (B ≤ w1.heap.size) := by show _ ≤ _; omega
  have HP0 := WrPost.start (hw.below hb1)
  have hbx : ∀ j, w1.cell? ⟨w.heap.size, j, none⟩ = (#[.int .i64 i, .int .i64 t, .slice vo x.vs.length vc] : Array Value)[j]? := fun j => by rw [hw1]; exact cell_of_row _ _ _ _ _ _ (heap_alloc_new w _)
  have HK : Hid (∀ (w' : World) (ys : List Int), WrPost B w1 w' b v ys → ∀ j, w'.cell? ⟨w.heap.size, j, none⟩ = (#[.int .i64 i, .int .i64 t, .slice vo x.vs.length vc] : Array Value)[j]?) := fun w' ys h j =>
    (h.keep (p := ⟨w.heap.size, j, none⟩) (by show w.heap.size < _; omega) (by have := hw.lt; show w.heap.size ≠ b; omega) (fun e => by have := (hw.own.lt _ e).2; exact Nat.lt_irrefl _ this)).trans (hbx j)
  have HD : Hid (∀ (w' : World) (ys : List Int), WrPost B w1 w' b v ys → SeesI w' (.slice vo x.vs.length vc) x.vs) := fun w' ys h => by
    obtain ⟨_, _, hu, _⟩ := h
    rw [← HVV.out]
    exact ((hx.sees.upd (Upd.ofBelow hb1 : Upd w w1 (fun _ => False)) (fun _ _ _ => id)).upd hu hxa)
  have hlen := hx.len
  have hc1 := wU8n B b v [] 3 w1 w1 HP0 (by simp) HB1.out
  have HBB := Hid.mk' hb1
  clear hw hbx hsz hb1 hvv hx hxa
  generalize hn : x.vs.length = n at *
  have HN := Hid.mk' hn
  clear hn
  go_enter Tryz.func218, Tryz.ntmps218
  go_wp2_with fail
  rw [← hw1]
  clear hw1 HP0
  refine hc1.mono ?_
  rintro e w2 ⟨rfl, z2, E2, l2, P2⟩
  have k := HK.out _ _ P2 0
  simp only [List.getElem?_toArray, List.getElem?_cons_zero] at k
  go_wp2_with fail
  refine (wIntn B b v _ _ w1 _ P2 (by simp at l2; omega) HB1.out).mono ?_
  rintro e w3 ⟨rfl, z3, E3, l3, P3⟩
  have k := HK.out _ _ P3 1
  simp only [List.getElem?_toArray, List.getElem?_cons_zero, List.getElem?_cons_succ] at k
  go_wp2_with fail
  refine (wIntn B b v _ _ w1 _ P3 (by simp at l2; omega) HB1.out).mono ?_
  rintro e w4 ⟨rfl, z4, E4, l4, P4⟩
  have k := HK.out _ _ P4 2
  simp only [List.getElem?_toArray, List.getElem?_cons_zero, List.getElem?_cons_succ] at k
  go_wp2_with fail
  refine (wU8n B b v _ _ w1 _ P4 (by simp at l2; omega) HB1.out).mono ?_
  rintro e w5 ⟨rfl, z5, E5, l5, P5⟩
  have k := HK.out _ _ P5 2
  simp only [List.getElem?_toArray, List.getElem?_cons_zero, List.getElem?_cons_succ] at k
  go_wp2_with fail
  go_loopg [24] n (fun kx s24 wr => ∃ (j : Nat) (zs : List Int), s24 = .int .i64 j ∧ j ≤ n ∧ n - j ≤ kx ∧ Hid (zs = z5 ++ vsB (x.vs.take j)) ∧ zs.length = z5.length + 8 * j ∧ WrPost B w1 wr b v zs)
  case atStart => exact ⟨0, z5, rfl, Nat.zero_le _, by omega, Hid.mk' (by simp [vsB]), rfl, P5⟩
  case round =>
    obtain ⟨j, zs, rfl, hj, hjx, E6, l6, P6⟩ := hrel
    by_cases hlt : j < n
    · have hjl : j < x.vs.length := by rw [HN.out]; exact hlt
      have hs6 := HD.out _ _ P6
      obtain ⟨g, off, rfl, hcell⟩ : ∃ g off, vo = some ⟨g, off, none⟩ ∧ wr.cell? ⟨g, off + j, none⟩ = some (.int .i64 x.vs[j]) := by
        rcases hs6 with ⟨h, _⟩ | ⟨g, off, cap, h, _, _, hc⟩
        · rw [h] at hjl; simp at hjl
        · simp only [Value.slice.injEq] at h
          refine ⟨g, off, h.1, ?_⟩
          rw [hc j hjl]
          simp [List.getD_eq_getElem?_getD, hjl]
      have HE : Hid (vsB (x.vs.take (j + 1)) = vsB (x.vs.take j) ++ q8 x.vs[j]) := by show _ = _; rw [List.take_succ_eq_append_getElem hjl, vsB_snoc]
      generalize x.vs[j] = y at *
      clear hs6 hjl
      go_wp2_with (go_at_call 220; refine (wIntn B b v zs y w1 _ P6 (by simp at l2; omega) HB1.out).mono ?_; rintro e w7 ⟨rfl, z7, E7, l7, P7⟩)
      go_roundg (n - (j + 1))
      case measure => omega
      case rel => exact ⟨j + 1, z7, rfl, by omega, by omega, Hid.mk' (by rw [E7.out, E6.out, HE.out, List.append_assoc]), by omega, P7⟩
    · obtain rfl : j = n := by omega
      have E8 : Hid (zs = z5 ++ vsB x.vs) := by show _ = _; rw [E6.out, List.take_of_length_le (by rw [HN.out]; exact Nat.le_refl _)]
      go_wp2
      go_end0
      refine ⟨rfl, ?_⟩
      obtain ⟨v9, g1, g2, g3⟩ := P6
      rw [E8.out, E5.out, E4.out, E3.out, E2.out, ← HN.out] at g1
      exact ⟨v9, g1, (Upd.ofBelow HBB.out : Upd w w1 (fun k => k = b ∨ some k = v.ownBlock)).trans g2 (fun _ _ h => h), by rcases g3 with g3 | ⟨g, hg, g3⟩; exact .inl g3; exact .inr ⟨g, Nat.le_trans HBB.out.size hg, g3⟩⟩
end Go.Proofs.YtecnlfalpfbobaaGreatDoor
