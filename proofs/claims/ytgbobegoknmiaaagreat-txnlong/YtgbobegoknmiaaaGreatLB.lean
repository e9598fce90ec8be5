/- TxnLong's walk. -/
import Derived.Test.YtgbobegoknmiaaaGreatLA
import Derived.Deep.RegionWith
namespace Go.Proofs.YtgbobegoknmiaaaGreat
open Go Go.RowKit

structure LQ (w0 w : World) (s b : Nat) (g : Sg) (h : Wg) (W : Wri) (i : Nat) : Prop where
  ow : Ow 0 w s b noS W g h
  wi : WI noS W i
  li : LI W i
  bel : Below w0.heap.size w0 w
  fs : ∀ k, ftS s g k → w0.heap.size ≤ k
  fw : ∀ k, ftW b h k → w0.heap.size ≤ k
theorem LQ.new {w0 w : World} {s : Nat} {g : Sg} (H : Q9 w0 w s 0 noS g) : Calls Tryz.prog 22 #[ptr s] w fun e w' => ∃ b, e = .returned (ptr b) ∧ ∃ h W, Hid (LQ w0 w' s b g h W 0) := by
  obtain ⟨o, hst⟩ := H.st
  refine (write_st hst).mono ?_
  rintro e w' ⟨rfl, hO, hu⟩
  have hbs := H.bel.size
  refine ⟨_, rfl, _, _, hO, WI.new noS, LI.new, H.bel.trans (hu.below H.bel.size (fun k hk e => by have := H.fs s (.inl rfl); omega)), H.fs, fun k hk => ?_⟩
  rcases hk with rfl | rfl | hk
  · omega
  · exact hbs
  · simp [Value.ownBlock] at hk
theorem LQ.put {w0 w w1 : World} {s b : Nat} {g : Sg} {h : Wg} {W : Wri} {i : Nat} (H : LQ w0 w s b g h W i) (hi : i < 16) (hb : Below w.heap.size w w1) : Calls Tryz.prog 23 #[ptr b, .string (kn i), .string (zb 4000), .int .i64 0] w1 fun e w' => e = .returned (.int .i64 0) ∧ ∃ h' W', Hid (LQ w0 w' s b g h' W' (i + 1)) := by
  obtain ⟨hE, hL⟩ := H.li.put hi H.ow.wr.cov
  have := wput_any (H.ow.below hb) noS_sf H.wi (by omega) (lPut i) (by show (kn i).size ≤ _; exact (by decide : 2 ≤ 140737488355328)) (by show (zb 4000).size ≤ _; rw [zb_size]; decide)
  rw [hE] at this
  refine this.mono ?_
  rintro e w' ⟨rfl, h', HO⟩
  obtain ⟨q1, q2, q3⟩ := HO.out
  have hb0 := H.bel.trans (hb.mono H.bel.size)
  exact ⟨rfl, h', _, q1, q2, hL, hb0.trans (q3.1.below hb0.size (fun k hk e => by have := H.fw k e; omega)), H.fs, fun k hk => (q3.2 k hk).elim (H.fw k) (fun e => Nat.le_trans hb0.size e)⟩
theorem LQ.done {w0 w : World} {s b : Nat} {g : Sg} {h : Wg} {W : Wri} (H : LQ w0 w s b g h W 16) : Calls Tryz.prog 24 #[ptr b] w fun e w' => ∃ r, e = .returned (.int .i64 r) ∧ ∃ S g', Hid (Q9 w0 w' s 16 S g' ∧ LS S) := by
  have hk : W.keys.length = 16 := by rw [H.li.keys]; rfl
  refine (done_lg H.ow H.wi.ok (by omega) (by decide)).mono ?_
  rintro e w' ⟨rfl, g', q1, ⟨q2, q3⟩, -⟩
  rw [hk] at q1
  have D := done_dn noS W H.ow.wr.nd
  have hLS := LS.of H.li D
  refine ⟨_, rfl, _, g', ⟨⟨_, q1⟩, ⟨by decide, by rw [hLS.ks q1]; decide, by have := hLS.nth; omega, by rw [hLS.rev]; decide, D.small (fun k r v h => by cases h) H.wi⟩, ?_, fun k hk => ?_⟩, hLS⟩
  · exact H.bel.trans (q2.below H.bel.size (fun j hj e => e.elim (fun e => by have := H.fs j e; omega) (fun e => by have := H.fw j e; omega)))
  · rcases q3 k hk with (e | e) | e
    · exact H.fs k e
    · exact H.fw k e
    · exact Nat.le_trans H.bel.size e
/-- The transaction. -/
theorem long_do {w0 w : World} {s q : Nat} {S : Sto} {g : Sg} (H : Q9 w0 w s 16 S g) (hS : LS S) (hLP : LsP q [] (fun _ => False) w) (hq : ∀ k, k = q ∨ False → k < w.heap.size ∧ ¬ ftS s g k) (m : Nat) (hm : 1 ≤ m ∧ m ≤ 16) {lo hi tb : Nat} {vi vt ve : Value} (HB : TBx w s g lo hi tb vi vt ve ⟨[], [xOp, rOp m], []⟩) :
    Calls Tryz.prog 16 #[ptr s, .iface 45 (ptr q), .agg #[vi, vt, ve]] w fun e w' => ∃ (gb oo c c' : Nat) (p' : Option Addr), e = .returned (.tuple #[.bool true, .slice (some ⟨gb, oo, none⟩) 2 c, .int .i64 0]) ∧ w'.cell? ⟨gb, oo + 2, none⟩ = some (.int .i64 16) ∧ w'.cell? ⟨gb, oo + 3, none⟩ = some (.slice p' m c') ∧ ∃ S' g', Hid (Q9 w0 w' s 17 S' g' ∧ S'.rev = 2) := by
  obtain ⟨o, hst⟩ := H.st
  obtain ⟨r1, r2⟩ := long_run hS hst (fun id => decide (id ∈ ([] : List Int))) m hm
  have hck := long_check m
  have hops : opsOf S ⟨[], [xOp, rOp m], []⟩ = [xOp, rOp m] := rfl
  have hz : txE S (fun id => decide (id ∈ ([] : List Int))) ⟨[], [xOp, rOp m], []⟩ = 0 := by unfold txE; rw [if_pos hck, hops]; exact r1
  have hP : txP S (fun id => decide (id ∈ ([] : List Int))) ⟨[], [xOp, rOp m], []⟩ = (tputK S (noW S.nth) xOp, [⟨0, []⟩, ⟨16, V16.take m⟩]) := by unfold txP; rw [hops]; exact r2
  have hN : txN S (fun id => decide (id ∈ ([] : List Int))) ⟨[], [xOp, rOp m], []⟩ = 1 := by unfold txN; rw [if_pos hz, hP, (tputK_f S _ xOp).1]; rfl
  have hks := hS.ks hst
  have hnth := hS.nth
  have hrev := hS.rev
  have hkl : S.ks.length = 16 := by rw [hks]; rfl
  have := H.do [] (fun _ => False) (by simp) hLP hq ⟨[], [xOp, rOp m], []⟩ vi vt ve HB.has (by simp) (by simp) (by simp) (by omega) (by omega) (by omega) (by omega)
  rw [hz, hN] at this
  refine this.mono ?_
  rintro e w' ⟨bt, p, mm, c, rfl, g', HT⟩
  obtain ⟨hT, hQ, hD⟩ := HT.out
  have D := hD rfl
  rw [hP] at D
  obtain ⟨y1, y2, -, -⟩ := hT.yes hz
  rw [hP] at y2
  obtain ⟨p2, c2, e2, hh⟩ := y2
  cases e2
  obtain ⟨gb, oo, rfl, -, -, hy⟩ := hh 1 _ rfl
  obtain ⟨u, u1, p3, c3, rfl, h3⟩ := hy.c1
  have hbt : bt = true := y1
  subst hbt
  have hl : (V16.take m).length = m := by rw [List.length_take]; show min m 16 = m; omega
  dsimp only at u1
  rw [hl] at u1
  have hr := (put_there D rfl).2.2.1
  exact ⟨gb, oo, c, c3, p3, rfl, by have := hy.c0; rw [Nat.one_mul] at this; exact this, by rw [Nat.one_mul] at u1; exact u1, _, g', hQ, by rw [hr, hrev]⟩
theorem tbx_long {w0 w : World} {s n : Nat} {S : Sto} {g : Sg} (H : Q9 w0 w s n S g) (m : Nat) (w4 : World) (lo : Nat) (hlo : lo = w.heap.size)
    (hw4 : w4 = (w.alloc (.cells #[.int .i64 0, .string ⟨#[120]⟩, .string ⟨#[]⟩, .string ⟨#[]⟩, .int .i64 0, .int .i64 0, .int .i64 2, .string ⟨#[107]⟩, .string ⟨#[108]⟩, .string ⟨#[]⟩, .int .i64 0, .int .i64 m] 57)).alloc (.cells #[.slice none 0 0, .slice (some ⟨lo, 0, none⟩) 2 2, .slice none 0 0] 36)) :
    TBx w4 s g lo (lo + 2) (lo + 1) (.slice none 0 0) (.slice (some ⟨lo, 0, none⟩) 2 2) (.slice none 0 0) ⟨[], [xOp, rOp m], []⟩ ∧ Below w.heap.size w w4 := by
  obtain ⟨a1, h1⟩ : ∃ a1, a1 = w.alloc (.cells #[.int .i64 0, .string ⟨#[120]⟩, .string ⟨#[]⟩, .string ⟨#[]⟩, .int .i64 0, .int .i64 0, .int .i64 2, .string ⟨#[107]⟩, .string ⟨#[108]⟩, .string ⟨#[]⟩, .int .i64 0, .int .i64 m] 57) := ⟨_, rfl⟩
  rw [← h1] at hw4
  have s1 : a1.heap.size = lo + 1 := by rw [h1, hlo]; simp
  have s2 : w4.heap.size = lo + 2 := by rw [hw4]; simp [s1]
  have hb : Below w.heap.size w w4 := by
    rw [hw4, h1]
    exact ((Below.refl _ w).alloc (Nat.le_refl _) _).alloc (by rw [← h1]; omega) _
  have r1 : w4.heap[lo]? = some (.cells #[.int .i64 0, .string ⟨#[120]⟩, .string ⟨#[]⟩, .string ⟨#[]⟩, .int .i64 0, .int .i64 0, .int .i64 2, .string ⟨#[107]⟩, .string ⟨#[108]⟩, .string ⟨#[]⟩, .int .i64 0, .int .i64 m] 57 (0, 0)) := by
    rw [hw4]; refine (heap_alloc_old a1 _ (by omega)).trans ?_; rw [h1, hlo]; exact row_alloc w _ _
  have r2 : w4.heap[lo + 1]? = some (.cells #[.slice none 0 0, .slice (some ⟨lo, 0, none⟩) 2 2, .slice none 0 0] 36 (0, 0)) := by rw [hw4, ← s1]; exact row_alloc a1 _ _
  refine ⟨⟨r2, IFs.nil _ _, ⟨some ⟨lo, 0, none⟩, 2, rfl, fun i x hi => ?_⟩, OPs.nil _ _, by omega, by omega, fun k hk => .inl (by have := H.lt hk; omega)⟩, hb⟩
  have h2 : i = 0 ∨ i = 1 := by have := (List.getElem?_eq_some_iff.1 hi).1; simp at this; omega
  rcases h2 with rfl | rfl
  · obtain rfl : xOp = x := by simpa using hi
    exact ⟨lo, 0, rfl, by omega, by omega, ⟨cell_of_row _ _ _ _ _ _ r1, cell_of_row _ _ _ _ _ _ r1, cell_of_row _ _ _ _ _ _ r1, cell_of_row _ _ _ _ _ _ r1, cell_of_row _ _ _ _ _ _ r1, cell_of_row _ _ _ _ _ _ r1, by decide, by decide, by decide⟩⟩
  · obtain rfl : rOp m = x := by simpa using hi
    exact ⟨lo, 0, rfl, by omega, by omega, ⟨cell_of_row _ _ _ _ _ _ r1, cell_of_row _ _ _ _ _ _ r1, cell_of_row _ _ _ _ _ _ r1, cell_of_row _ _ _ _ _ _ r1, cell_of_row _ _ _ _ _ _ r1, cell_of_row _ _ _ _ _ _ r1, (by decide : (⟨#[107]⟩ : ByteArray).size ≤ 140737488355328), (by decide : (⟨#[108]⟩ : ByteArray).size ≤ 140737488355328), (by decide : (⟨#[]⟩ : ByteArray).size ≤ 140737488355328)⟩⟩
set_option maxRecDepth 100000 in
set_option maxHeartbeats 2000000 in
theorem long_walk (x : Int) (w : World) (_h : -9223372036854775808 ≤ x ∧ x ≤ 9223372036854775807) : Calls Tryz.prog 8 #[.int .i64 x] w fun e w' => e = .returned (.bool true) ∧ Below w.heap.size w w' := by
  have hkn := known_any w
  obtain ⟨R, hmk, hcv⟩ := make_zb 4000 (by decide)
  have HMK := Hid.mk'' hmk
  have HCV := Hid.mk'' hcv
  clear hmk hcv
  go_enter Tryz.func8, Tryz.ntmps8
  go_upto_region 3 with (go_at_call 9; refine hkn.mono ?_; rintro e w1 ⟨rfl, hb1⟩)
  have hnew := new_q9 w w1 hb1
  clear hb1 hkn
  go_upto_region 4 with (go_at_call 10; refine hnew.mono ?_; rintro e w2 ⟨s, g, rfl, HQ⟩)
  have hwr := LQ.new HQ.out.1
  clear hnew HQ
  go_wp2_with (go_at_call 22; refine hwr.mono ?_; rintro e w3 ⟨b, rfl, h0, W0, HL0⟩)
  clear hwr
  go_loopg [5] 17 (fun kx s5 wr => ∃ (i : Nat) (h : Wg) (W : Wri), s5 = .int .i64 i ∧ kx + i = 17 ∧ i ≤ 16 ∧ Hid (LQ w wr s b g h W i))
  case atStart => exact ⟨0, h0, W0, rfl, rfl, Nat.zero_le _, HL0⟩
  case round =>
    obtain ⟨i, h, W, rfl, hkx, hi, HM⟩ := hrel
    by_cases hlt : i < 16
    · have hU : IntKind.u8.wrap (IntKind.i64.wrap (97 + (i : Int))) = 97 + (i : Int) := by
        rw [IntKind.wrap_i64, IntKind.wrap_u8]
        omega
      have HKC : Hid (∀ (W : World) (bb : Nat), W.heap[bb]? = some (.cells #[.int .u8 107, .int .u8 (IntKind.u8.wrap (IntKind.i64.wrap (97 + (i : Int))))] 5 (0, 0)) → (convert 66 9 (.slice (some ⟨bb, 0, none⟩) 2 2)).run Tryz.prog W = .ok (.string (kn i)) W) := fun W bb hb => by
        have := run_convert_bytes_back (P := Tryz.prog) W 66 9 5 ⟨bb, 0, none⟩ 2 [107, UInt8.ofNat (97 + i)] Tryz.underlying66 Tryz.underlying5 Tryz.underlying9 (fun j hj => by
          rw [Addr.add_lit, Nat.zero_add, cell_of_row _ _ _ _ _ _ hb, hU]
          have : j = 0 ∨ j = 1 := by simp at hj; omega
          rcases this with rfl | rfl
          · rfl
          · show some (Value.int .u8 (97 + (i : Int))) = some (Value.int .u8 (((UInt8.ofNat (97 + i)).toNat : Nat) : Int))
            rw [UInt8.toNat_ofNat_of_lt' (by show 97 + i < 256; omega)]
            rfl)
        exact this
      have c1 := HKC.out (wr.alloc (.cells #[.int .u8 107, .int .u8 (IntKind.u8.wrap (IntKind.i64.wrap (97 + (i : Int))))] 5)).drew wr.heap.size (row_alloc wr _ _)
      have c2 := HKC.out ((wr.alloc (.cells #[.int .u8 107, .int .u8 (IntKind.u8.wrap (IntKind.i64.wrap (97 + (i : Int))))] 5)).alloc (.cells R 5)).drew wr.heap.size ((heap_alloc_old _ _ (by simp)).trans (row_alloc wr _ _))
      have c3 := HKC.out ((wr.alloc (.cells R 5)).alloc (.cells #[.int .u8 107, .int .u8 (IntKind.u8.wrap (IntKind.i64.wrap (97 + (i : Int))))] 5)).drew (wr.heap.size + 1) (by have := row_alloc (wr.alloc (.cells R 5)) #[.int .u8 107, .int .u8 (IntKind.u8.wrap (IntKind.i64.wrap (97 + (i : Int))))] 5; rw [show (wr.alloc (.cells R 5)).heap.size = wr.heap.size + 1 by simp] at this; exact this)
      have m1 : (Instr.makeSlice 66 (.int .i64 4000) (.int .i64 4000)).run Tryz.prog wr.drew = .ok (.slice (some ⟨wr.heap.size, 0, none⟩) 4000 4000) (wr.drew.alloc (.cells R 5)) := HMK.out wr.drew
      have m2 : (Instr.makeSlice 66 (.int .i64 4000) (.int .i64 4000)).run Tryz.prog (wr.alloc (.cells #[.int .u8 107, .int .u8 (IntKind.u8.wrap (IntKind.i64.wrap (97 + (i : Int))))] 5)).drew = .ok (.slice (some ⟨wr.heap.size + 1, 0, none⟩) 4000 4000) ((wr.alloc (.cells #[.int .u8 107, .int .u8 (IntKind.u8.wrap (IntKind.i64.wrap (97 + (i : Int))))] 5)).drew.alloc (.cells R 5)) := by
        have := HMK.out (wr.alloc (.cells #[.int .u8 107, .int .u8 (IntKind.u8.wrap (IntKind.i64.wrap (97 + (i : Int))))] 5)).drew
        rw [show (wr.alloc (.cells #[.int .u8 107, .int .u8 (IntKind.u8.wrap (IntKind.i64.wrap (97 + (i : Int))))] 5)).drew.heap.size = wr.heap.size + 1 by show (wr.alloc (.cells #[.int .u8 107, .int .u8 (IntKind.u8.wrap (IntKind.i64.wrap (97 + (i : Int))))] 5)).heap.size = _; simp] at this
        exact this
      have d1 := HCV.out (wr.alloc (.cells R 5)).drew wr.heap.size (row_alloc wr _ _)
      have d2 := HCV.out ((wr.alloc (.cells R 5)).alloc (.cells #[.int .u8 107, .int .u8 (IntKind.u8.wrap (IntKind.i64.wrap (97 + (i : Int))))] 5)).drew wr.heap.size ((heap_alloc_old _ _ (by simp)).trans (row_alloc wr _ _))
      have d3 := HCV.out ((wr.alloc (.cells #[.int .u8 107, .int .u8 (IntKind.u8.wrap (IntKind.i64.wrap (97 + (i : Int))))] 5)).alloc (.cells R 5)).drew (wr.heap.size + 1) (by have := row_alloc (wr.alloc (.cells #[.int .u8 107, .int .u8 (IntKind.u8.wrap (IntKind.i64.wrap (97 + (i : Int))))] 5)) R 5; rw [show (wr.alloc (.cells #[.int .u8 107, .int .u8 (IntKind.u8.wrap (IntKind.i64.wrap (97 + (i : Int))))] 5)).heap.size = wr.heap.size + 1 by simp] at this; exact this)
      have HPUT : Hid (∀ W1, Below wr.heap.size wr W1 → Calls Tryz.prog 23 #[ptr b, .string (kn i), .string (zb 4000), .int .i64 0] W1 fun e w' => e = .returned (.int .i64 0) ∧ ∃ h' W', Hid (LQ w w' s b g h' W' (i + 1))) := fun W1 hb => HM.out.put hlt hb
      clear hU
      generalize kn i = KN at c1 c2 c3 HPUT
      generalize zb 4000 = ZB at d1 d2 d3 HPUT
      go_upto_region 8 with fail
      go_region_with (go_at_call 23; refine (HPUT.out _ (by first | exact (((Below.refl _ _).alloc (Nat.le_refl _) _).alloc (by simp) _).drew | exact (((Below.refl _ _).drew.alloc (Nat.le_refl _) _)).alloc (by simp) _ | exact (((Below.refl _ _).alloc (Nat.le_refl _) _).drew).alloc (by simp) _)).mono ?_; rintro e w4 ⟨rfl, h', W', HL⟩)
      all_goals
        go_wp2_with fail
        go_roundg (16 - i)
        case measure => omega
        case rel => exact ⟨i + 1, h', W', by congr 1, by omega, by omega, HL⟩
    · obtain rfl : i = 16 := by omega
      have hdn := HM.out.done
      have hwi : ∀ W, Calls Tryz.prog 21 #[.int .i64 x, .int .i64 5] W fun e w' => e = .returned (.int .i64 (withinF x 5)) ∧ w' = W := fun W => within_any x 5 W (by decide) (by decide)
      have hwb := withinF_bd x 5 (by decide)
      obtain ⟨k, hk⟩ : ∃ k : Nat, (k : Int) = withinF x 5 := ⟨(withinF x 5).toNat, by omega⟩
      rw [← hk] at hwi hwb
      clear hk
      go_upto_region 11 with (first | (go_at_call 24; refine hdn.mono ?_; rintro e w4 ⟨r, rfl, S, g2, HS⟩) | (go_at_call 21; refine (hwi _).mono ?_; rintro e w5 ⟨rfl, hw5⟩; obtain rfl := hw5.symm))
      obtain ⟨m, hm⟩ : ∃ m : Nat, (m : Int) = 12 + (k : Int) := ⟨12 + k, by omega⟩
      rw [← hm]
      have hmb : 12 ≤ m ∧ m ≤ 16 := by omega
      clear hm hwb hwi hdn
      go_upto_region 12 with fail
      obtain ⟨lo, hlo⟩ : ∃ lo, lo = w4.heap.size := ⟨_, rfl⟩
      rw [← hlo]
      obtain ⟨w6, hw6⟩ : ∃ w6, w6 = (w4.alloc (.cells #[.int .i64 0, .string ⟨#[120]⟩, .string ⟨#[]⟩, .string ⟨#[]⟩, .int .i64 0, .int .i64 0, .int .i64 2, .string ⟨#[107]⟩, .string ⟨#[108]⟩, .string ⟨#[]⟩, .int .i64 0, .int .i64 m] 57)).alloc (.cells #[.slice none 0 0, .slice (some ⟨lo, 0, none⟩) 2 2, .slice none 0 0] 36) := ⟨_, rfl⟩
      rw [← hw6]
      obtain ⟨htb, hb6⟩ := tbx_long HS.out.1 m w6 lo hlo hw6
      obtain ⟨tb, htb2⟩ : ∃ tb, tb = lo + 1 := ⟨_, rfl⟩
      rw [← htb2] at htb ⊢
      have hQ6 := HS.out.1.below hb6
      obtain ⟨hL, hLq, hb7⟩ := ls_new hQ6
      have hdo := long_do (hQ6.below hb7) HS.out.2 hL hLq m (by omega) (htb.below hb7)
      obtain ⟨x0, x1, x2⟩ := (htb.below hb7).cells
      clear hL hLq hb7 hQ6 htb hb6 hw6 hlo htb2 HL0 HM HMK HCV
      go_upto_region 13 with (go_at_call 16; with_reducible refine hdo.mono ?_; rintro e w8 ⟨gb, oo, c, c', p', rfl, e0, e1, S', g', HG⟩)
      have hrev := HG.out.1.rev
      rw [HG.out.2] at hrev
      have hrev' : Calls Tryz.prog 20 #[ptr s] w8 fun e w' => e = .returned (.int .i64 2) ∧ w' = w8 := hrev
      have hmul : ¬ (65536 : Int) < (m : Int) * 4042 := by omega
      clear hdo x0 x1 x2 hrev
      go_wp2_with (go_at_call 20; refine hrev'.mono ?_; rintro e w9 ⟨rfl, hw9⟩; obtain rfl := hw9.symm)
      go_ret
      exact ⟨ret_bool (by simp), HG.out.1.bel⟩
end Go.Proofs.YtgbobegoknmiaaaGreat
