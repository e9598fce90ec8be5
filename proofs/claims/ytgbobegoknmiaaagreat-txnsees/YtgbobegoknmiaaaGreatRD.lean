/- TxnRefuses, the other kinds. -/
import Derived.Test.YtgbobegoknmiaaaGreatRC
import Derived.Laws.OwnMore
namespace Go.Proofs.YtgbobegoknmiaaaGreat
open Go Go.RowKit

theorem rf_q {w0 w w5 : World} {s : Nat} {g : Sg} {lo tb : Nat} (H : RF w0 w s g lo tb) (i : Nat) (v : Value) (h5 : w5 = w.setCell ⟨tb, i, none⟩ v) : Q9 w0 w5 s 0 noS g ∧ w5.heap[lo + 1]? = w.heap[lo + 1]? ∧ w5.heap.size = w.heap.size := by
  have hu : Upd w w5 (fun k => k = tb) := by rw [h5]; exact (Upd.refl w (fun k => k = tb)).setCell (p := ⟨tb, i, none⟩) (.inr rfl) _
  have htb := H.tb
  have hsz := H.sz
  have hl0 := H.l0
  obtain ⟨o, hst⟩ := H.q.st
  refine ⟨⟨⟨o, hst.upd hu (fun k hk e => by have := H.fs k hk; omega)⟩, H.q.sf, H.q.bel.trans (hu.below H.q.bel.size (fun k hk e => by omega)), H.q.fs⟩, hu.block (lo + 1) (by omega) (by omega), by rw [h5]; simp [World.setCell]⟩
theorem rf_if {w0 w w7 : World} {s : Nat} {g : Sg} {lo tb : Nat} (H : RF w0 w s g lo tb) (b : Nat) (key x : ByteArray) (t sg n : Int) (hb : Below (w.setCell ⟨tb, 0, none⟩ (.slice (some ⟨b, 0, none⟩) 1 1)).heap.size (w.setCell ⟨tb, 0, none⟩ (.slice (some ⟨b, 0, none⟩) 1 1)) w7) (hr : w7.heap[b]? = some (.cells #[.string key, .int .i64 t, .int .i64 sg, .int .i64 n, .string x] 55 (0, 0))) (hlb : lo ≤ b) (h1 : key.size ≤ 100000) (h2 : x.size ≤ 100000) :
    TBx w7 s g lo w7.heap.size tb (.slice (some ⟨b, 0, none⟩) 1 1) (.slice (some ⟨lo + 1, 0, none⟩) 1 1) (.slice none 0 0) ⟨[⟨key, t, sg, n, x⟩], [kOp], []⟩ ∧ Q9 w0 w7 s 0 noS g := by
  obtain ⟨q1, q2, q3⟩ := rf_q H 0 (.slice (some ⟨b, 0, none⟩) 1 1) rfl
  have htb := H.tb
  have hsz := H.sz
  have h7 := hb.size
  have hbl := (Array.getElem?_eq_some_iff.1 hr).1
  exact ⟨⟨(hb.block tb (by omega)).trans (heap_setCell_row H.tx _), ifs_one hr ⟨hlb, hbl⟩ (by omega) (by omega), ops_one ((hb.block (lo + 1) (by omega)).trans (q2.trans H.rw_)) ⟨by omega, by omega⟩ (by decide) (by decide) (by decide), OPs.nil _ _, by omega, Nat.le_refl _, fun k hk => .inl (H.fs k hk)⟩, q1.below hb⟩
theorem rf_el {w0 w w7 : World} {s : Nat} {g : Sg} {lo tb : Nat} (H : RF w0 w s g lo tb) (b : Nat) (key e v : ByteArray) (d l m : Int) (hb : Below (w.setCell ⟨tb, 2, none⟩ (.slice (some ⟨b, 0, none⟩) 1 1)).heap.size (w.setCell ⟨tb, 2, none⟩ (.slice (some ⟨b, 0, none⟩) 1 1)) w7) (hr : w7.heap[b]? = some (.cells #[.int .i64 d, .string key, .string e, .string v, .int .i64 l, .int .i64 m] 57 (0, 0))) (hlb : lo ≤ b) (h1 : key.size ≤ 100000) (h2 : e.size ≤ 100000) (h3 : v.size ≤ 100000) :
    TBx w7 s g lo w7.heap.size tb (.slice none 0 0) (.slice (some ⟨lo + 1, 0, none⟩) 1 1) (.slice (some ⟨b, 0, none⟩) 1 1) ⟨[], [kOp], [⟨d, key, e, v, l, m⟩]⟩ ∧ Q9 w0 w7 s 0 noS g := by
  obtain ⟨q1, q2, q3⟩ := rf_q H 2 (.slice (some ⟨b, 0, none⟩) 1 1) rfl
  have htb := H.tb
  have hsz := H.sz
  have h7 := hb.size
  have hbl := (Array.getElem?_eq_some_iff.1 hr).1
  exact ⟨⟨(hb.block tb (by omega)).trans (heap_setCell_row H.tx _), IFs.nil _ _, ops_one ((hb.block (lo + 1) (by omega)).trans (q2.trans H.rw_)) ⟨by omega, by omega⟩ (by decide) (by decide) (by decide), ops_one hr ⟨hlb, hbl⟩ (by omega) (by omega) (by omega), by omega, Nat.le_refl _, fun k hk => .inl (H.fs k hk)⟩, q1.below hb⟩
theorem infoU8 : (Tryz.prog.info? 5).map (fun i => (i.zero, i.size, i.bytes)) = some (some (.int .u8 0), 1, 1) := by kernel_rfl
theorem info55 : (Tryz.prog.info? 55).map (fun i => (i.zero, i.size, i.bytes)) = some (some (.agg #[.string ⟨#[]⟩, .int .i64 0, .int .i64 0, .int .i64 0, .string ⟨#[]⟩]), 5, 56) := by kernel_rfl
/-- make of bytes, and their text. -/
theorem make_zb (n : Nat) (hn : n ≤ 100000) : ∃ R : Array Value, (∀ w : World, (Instr.makeSlice 66 (.int .i64 n) (.int .i64 n)).run Tryz.prog w = .ok (.slice (some ⟨w.heap.size, 0, none⟩) n n) (w.alloc (.cells R 5))) ∧ ∀ (W : World) (b : Nat), W.heap[b]? = some (.cells R 5 (0, 0)) → (convert 66 9 (.slice (some ⟨b, 0, none⟩) n n)).run Tryz.prog W = .ok (.string (zb n)) W := by
  obtain ⟨i0, hi0, hz0, hz1, hz2⟩ := info_parts infoU8
  refine ⟨madeCells #[.int .u8 0] n, fun w => ?_, fun W b hb => ?_⟩
  · have := run_make (P := Tryz.prog) w 66 5 i0 _ Tryz.underlying66 hi0 hz0 .i64 .i64 n n (by omega) (by omega) (by rw [hz2]; omega) (by omega)
    simp only [Int.toNat_natCast, hz1, Nat.mul_one] at this
    exact this
  · have := run_convert_bytes_back (P := Tryz.prog) W 66 9 5 ⟨b, 0, none⟩ n (List.replicate n (0 : UInt8)) Tryz.underlying66 Tryz.underlying5 Tryz.underlying9 (fun j hj => by
      rw [Addr.add_lit, Nat.zero_add, cell_of_row _ _ _ _ _ _ hb]
      have h2 : (madeCells #[Value.int .u8 0] n)[j]? = (madeCells #[Value.int .u8 0] n).toList[j]? := by simp
      rw [h2, toList_madeCells_one]
      simp at hj
      simp [hj])
    rw [List.length_replicate] at this
    exact this
theorem make_any (t e n : Nat) {zc : Value} {sz by_ : Nat} (hi : (Tryz.prog.info? e).map (fun i => (i.zero, i.size, i.bytes)) = some (some zc, sz, by_)) (ht : Tryz.prog.underlying t = some (.slice e)) (hn : n ≤ 100000) (hb : by_ ≤ 1000) : ∃ R : Array Value, ∀ w : World, (Instr.makeSlice t (.int .i64 n) (.int .i64 n)).run Tryz.prog w = .ok (.slice (some ⟨w.heap.size, 0, none⟩) n n) (w.alloc (.cells R e)) := by
  obtain ⟨i0, hi0, hz0, hz1, hz2⟩ := info_parts hi
  refine ⟨madeCells zc.cells (n * sz), fun w => ?_⟩
  have := run_make (P := Tryz.prog) w t e i0 _ ht hi0 hz0 .i64 .i64 n n (by omega) (by omega) (by rw [hz2]; have : (by_ : Int) * n ≤ 1000 * 100000 := Int.mul_le_mul (by omega) (by omega) (by omega) (by omega); omega) (by omega)
  simp only [Int.toNat_natCast, hz1] at this
  exact this
set_option maxRecDepth 100000 in
set_option maxHeartbeats 2000000 in
theorem refuses_7 (x : Int) (w : World) (hk : withinF x 12 = 7) : Calls Tryz.prog 7 #[.int .i64 x] w fun e w' => e = .returned (.bool true) ∧ Below w.heap.size w w' := by
  have hkn := known_any w
  obtain ⟨t9, hti, hz0, hz1, hz2⟩ := info_parts infoOp
  go_enter Tryz.func7, Tryz.ntmps7
  go_upto_region 3 with (go_at_call 9; refine hkn.mono ?_; rintro e w1 ⟨rfl, hb1⟩)
  have hnew := new_q9 w w1 hb1
  clear hb1 hkn
  go_upto_region 6 with (go_at_call 10; refine hnew.mono ?_; rintro e w2 ⟨s, g, rfl, HQ⟩)
  obtain ⟨lo, hlo⟩ : ∃ lo, lo = w2.heap.size := ⟨_, rfl⟩
  rw [← hlo]
  obtain ⟨w4, hw4⟩ : ∃ w4, w4 = ((w2.alloc (.cells #[.int .i64 0, .string ⟨#[97]⟩, .string ⟨#[]⟩, .string ⟨#[120]⟩, .int .i64 0, .int .i64 0] 57)).alloc (.cells #[.int .i64 0, .string ⟨#[97]⟩, .string ⟨#[]⟩, .string ⟨#[120]⟩, .int .i64 0, .int .i64 0] 57)).alloc (.cells #[.slice none 0 0, .slice (some ⟨lo + 1, 0, none⟩) 1 1, .slice none 0 0] 36) := ⟨_, rfl⟩
  rw [← hw4]
  obtain ⟨tb, htb⟩ : ∃ tb, tb = lo + 1 + 1 := ⟨_, rfl⟩
  rw [← htb]
  have hRF := rf_new HQ.out.1 w4 lo tb hlo htb hw4
  have HRF := Hid.mk'' hRF
  have hwi := within_any x 12 w4 (by decide) (by decide)
  rw [hk] at hwi
  obtain ⟨⟨o0, o1, o2, o3, o4, o5⟩, -⟩ := box6 hRF.ob
  have c0 : w4.cell? ⟨tb, 0, none⟩ = some (.slice none 0 0) := cell_of_row _ _ _ _ _ _ hRF.tx
  have c1 : w4.cell? ⟨tb, 1, none⟩ = some (.slice (some ⟨lo + 1, 0, none⟩) 1 1) := cell_of_row _ _ _ _ _ _ hRF.tx
  have c2 : w4.cell? ⟨tb, 2, none⟩ = some (.slice none 0 0) := cell_of_row _ _ _ _ _ _ hRF.tx
  have f0 := frozen_of_row w4 tb 0 _ _ hRF.tx
  have f2 := frozen_of_row w4 tb 2 _ _ hRF.tx
  have hlt : tb < w4.heap.size := by have := hRF.sz; omega
  have hlw : lo ≤ w4.heap.size := by have := hRF.sz; omega
  clear hnew HQ hw4 hlo htb hRF hk
  go_upto_region 29 with (go_at_call 21; refine hwi.mono ?_; rintro e w5 ⟨rfl, hw5⟩; obtain rfl := hw5.symm)
  clear hwi
  go_upto_region 41 with fail
  obtain ⟨w7, hw7⟩ : ∃ w7, w7 = (w4.setCell ⟨tb, 2, none⟩ (.slice (some ⟨w4.heap.size, 0, none⟩) 1 1)).alloc (.cells #[.int .i64 2, .string ⟨#[98]⟩, .string ⟨#[98]⟩, .string ⟨#[]⟩, .int .i64 0, .int .i64 0] 57) := ⟨_, rfl⟩
  rw [← hw7]
  have hz7 : (w4.setCell ⟨tb, 2, none⟩ (.slice (some ⟨w4.heap.size, 0, none⟩) 1 1)).heap.size = w4.heap.size := by simp [World.setCell]
  obtain ⟨hT, hQ7⟩ := rf_el (w7 := w7) HRF.out w4.heap.size ⟨#[98]⟩ ⟨#[98]⟩ ⟨#[]⟩ 2 0 0 (by rw [hw7]; exact (Below.refl _ _).alloc (Nat.le_refl _) _) (by rw [hw7]; have := row_alloc (w4.setCell ⟨tb, 2, none⟩ (.slice (some ⟨w4.heap.size, 0, none⟩) 1 1)) #[.int .i64 2, .string ⟨#[98]⟩, .string ⟨#[98]⟩, .string ⟨#[]⟩, .int .i64 0, .int .i64 0] 57; rw [hz7] at this; exact this) hlw (by decide) (by decide) (by decide)
  clear hw7 hz7 o0 o1 o2 o3 o4 o5 c0 c1 c2 f0 f2 hlt hlw
  obtain ⟨hL, hLq, hb8⟩ := ls_new hQ7
  have hdo := (hQ7.below hb8).refused hL hLq _ (hT.below hb8) 1 (by decide) (tx_of_check e7 (by decide)) (by simp) (by simp) (by simp) (by decide)
  obtain ⟨y0, y1, y2⟩ := (hT.below hb8).cells
  clear hL hLq hb8 hT hQ7
  go_upto_region 42 with (go_at_call 16; with_reducible refine hdo.mono ?_; rintro e w9 ⟨rfl, g2, HG⟩)
  have hrev : Calls Tryz.prog 20 #[ptr s] w9 fun e w' => e = .returned (.int .i64 0) ∧ w' = w9 := HG.out.rev
  go_wp2_with (go_at_call 20; refine hrev.mono ?_; rintro e w10 ⟨rfl, hw10⟩; obtain rfl := hw10.symm)
  go_ret
  exact ⟨rfl, HG.out.bel⟩
set_option maxRecDepth 100000 in
set_option maxHeartbeats 2000000 in
theorem refuses_8 (x : Int) (w : World) (hk : withinF x 12 = 8) : Calls Tryz.prog 7 #[.int .i64 x] w fun e w' => e = .returned (.bool true) ∧ Below w.heap.size w w' := by
  have hkn := known_any w
  obtain ⟨t9, hti, hz0, hz1, hz2⟩ := info_parts infoOp
  go_enter Tryz.func7, Tryz.ntmps7
  go_upto_region 3 with (go_at_call 9; refine hkn.mono ?_; rintro e w1 ⟨rfl, hb1⟩)
  have hnew := new_q9 w w1 hb1
  clear hb1 hkn
  go_upto_region 6 with (go_at_call 10; refine hnew.mono ?_; rintro e w2 ⟨s, g, rfl, HQ⟩)
  obtain ⟨lo, hlo⟩ : ∃ lo, lo = w2.heap.size := ⟨_, rfl⟩
  rw [← hlo]
  obtain ⟨w4, hw4⟩ : ∃ w4, w4 = ((w2.alloc (.cells #[.int .i64 0, .string ⟨#[97]⟩, .string ⟨#[]⟩, .string ⟨#[120]⟩, .int .i64 0, .int .i64 0] 57)).alloc (.cells #[.int .i64 0, .string ⟨#[97]⟩, .string ⟨#[]⟩, .string ⟨#[120]⟩, .int .i64 0, .int .i64 0] 57)).alloc (.cells #[.slice none 0 0, .slice (some ⟨lo + 1, 0, none⟩) 1 1, .slice none 0 0] 36) := ⟨_, rfl⟩
  rw [← hw4]
  obtain ⟨tb, htb⟩ : ∃ tb, tb = lo + 1 + 1 := ⟨_, rfl⟩
  rw [← htb]
  have hRF := rf_new HQ.out.1 w4 lo tb hlo htb hw4
  have HRF := Hid.mk'' hRF
  have hwi := within_any x 12 w4 (by decide) (by decide)
  rw [hk] at hwi
  obtain ⟨⟨o0, o1, o2, o3, o4, o5⟩, -⟩ := box6 hRF.ob
  have c0 : w4.cell? ⟨tb, 0, none⟩ = some (.slice none 0 0) := cell_of_row _ _ _ _ _ _ hRF.tx
  have c1 : w4.cell? ⟨tb, 1, none⟩ = some (.slice (some ⟨lo + 1, 0, none⟩) 1 1) := cell_of_row _ _ _ _ _ _ hRF.tx
  have c2 : w4.cell? ⟨tb, 2, none⟩ = some (.slice none 0 0) := cell_of_row _ _ _ _ _ _ hRF.tx
  have f0 := frozen_of_row w4 tb 0 _ _ hRF.tx
  have f2 := frozen_of_row w4 tb 2 _ _ hRF.tx
  have hlt : tb < w4.heap.size := by have := hRF.sz; omega
  have hlw : lo ≤ w4.heap.size := by have := hRF.sz; omega
  clear hnew HQ hw4 hlo htb hRF hk
  go_upto_region 31 with (go_at_call 21; refine hwi.mono ?_; rintro e w5 ⟨rfl, hw5⟩; obtain rfl := hw5.symm)
  clear hwi
  go_upto_region 41 with fail
  obtain ⟨w7, hw7⟩ : ∃ w7, w7 = (w4.setCell ⟨tb, 0, none⟩ (.slice (some ⟨w4.heap.size, 0, none⟩) 1 1)).alloc (.cells #[.string ⟨#[97]⟩, .int .i64 5, .int .i64 0, .int .i64 0, .string ⟨#[]⟩] 55) := ⟨_, rfl⟩
  rw [← hw7]
  have hz7 : (w4.setCell ⟨tb, 0, none⟩ (.slice (some ⟨w4.heap.size, 0, none⟩) 1 1)).heap.size = w4.heap.size := by simp [World.setCell]
  obtain ⟨hT, hQ7⟩ := rf_if (w7 := w7) HRF.out w4.heap.size ⟨#[97]⟩ ⟨#[]⟩ 5 0 0 (by rw [hw7]; exact (Below.refl _ _).alloc (Nat.le_refl _) _) (by rw [hw7]; have := row_alloc (w4.setCell ⟨tb, 0, none⟩ (.slice (some ⟨w4.heap.size, 0, none⟩) 1 1)) #[.string ⟨#[97]⟩, .int .i64 5, .int .i64 0, .int .i64 0, .string ⟨#[]⟩] 55; rw [hz7] at this; exact this) hlw (by decide) (by decide)
  clear hw7 hz7 o0 o1 o2 o3 o4 o5 c0 c1 c2 f0 f2 hlt hlw
  obtain ⟨hL, hLq, hb8⟩ := ls_new hQ7
  have hdo := (hQ7.below hb8).refused hL hLq _ (hT.below hb8) 3 (by decide) (tx_of_check e8 (by decide)) (by simp) (by simp) (by simp) (by decide)
  obtain ⟨y0, y1, y2⟩ := (hT.below hb8).cells
  clear hL hLq hb8 hT hQ7
  go_upto_region 42 with (go_at_call 16; with_reducible refine hdo.mono ?_; rintro e w9 ⟨rfl, g2, HG⟩)
  have hrev : Calls Tryz.prog 20 #[ptr s] w9 fun e w' => e = .returned (.int .i64 0) ∧ w' = w9 := HG.out.rev
  go_wp2_with (go_at_call 20; refine hrev.mono ?_; rintro e w10 ⟨rfl, hw10⟩; obtain rfl := hw10.symm)
  go_ret
  exact ⟨rfl, HG.out.bel⟩
set_option maxRecDepth 100000 in
set_option maxHeartbeats 2000000 in
theorem refuses_9 (x : Int) (w : World) (hk : withinF x 12 = 9) : Calls Tryz.prog 7 #[.int .i64 x] w fun e w' => e = .returned (.bool true) ∧ Below w.heap.size w w' := by
  have hkn := known_any w
  obtain ⟨t9, hti, hz0, hz1, hz2⟩ := info_parts infoOp
  go_enter Tryz.func7, Tryz.ntmps7
  go_upto_region 3 with (go_at_call 9; refine hkn.mono ?_; rintro e w1 ⟨rfl, hb1⟩)
  have hnew := new_q9 w w1 hb1
  clear hb1 hkn
  go_upto_region 6 with (go_at_call 10; refine hnew.mono ?_; rintro e w2 ⟨s, g, rfl, HQ⟩)
  obtain ⟨lo, hlo⟩ : ∃ lo, lo = w2.heap.size := ⟨_, rfl⟩
  rw [← hlo]
  obtain ⟨w4, hw4⟩ : ∃ w4, w4 = ((w2.alloc (.cells #[.int .i64 0, .string ⟨#[97]⟩, .string ⟨#[]⟩, .string ⟨#[120]⟩, .int .i64 0, .int .i64 0] 57)).alloc (.cells #[.int .i64 0, .string ⟨#[97]⟩, .string ⟨#[]⟩, .string ⟨#[120]⟩, .int .i64 0, .int .i64 0] 57)).alloc (.cells #[.slice none 0 0, .slice (some ⟨lo + 1, 0, none⟩) 1 1, .slice none 0 0] 36) := ⟨_, rfl⟩
  rw [← hw4]
  obtain ⟨tb, htb⟩ : ∃ tb, tb = lo + 1 + 1 := ⟨_, rfl⟩
  rw [← htb]
  have hRF := rf_new HQ.out.1 w4 lo tb hlo htb hw4
  have HRF := Hid.mk'' hRF
  have hwi := within_any x 12 w4 (by decide) (by decide)
  rw [hk] at hwi
  obtain ⟨⟨o0, o1, o2, o3, o4, o5⟩, -⟩ := box6 hRF.ob
  have c0 : w4.cell? ⟨tb, 0, none⟩ = some (.slice none 0 0) := cell_of_row _ _ _ _ _ _ hRF.tx
  have c1 : w4.cell? ⟨tb, 1, none⟩ = some (.slice (some ⟨lo + 1, 0, none⟩) 1 1) := cell_of_row _ _ _ _ _ _ hRF.tx
  have c2 : w4.cell? ⟨tb, 2, none⟩ = some (.slice none 0 0) := cell_of_row _ _ _ _ _ _ hRF.tx
  have f0 := frozen_of_row w4 tb 0 _ _ hRF.tx
  have f2 := frozen_of_row w4 tb 2 _ _ hRF.tx
  have hlt : tb < w4.heap.size := by have := hRF.sz; omega
  have hlw : lo ≤ w4.heap.size := by have := hRF.sz; omega
  clear hnew HQ hw4 hlo htb hRF hk
  go_upto_region 34 with (go_at_call 21; refine hwi.mono ?_; rintro e w5 ⟨rfl, hw5⟩; obtain rfl := hw5.symm)
  clear hwi
  obtain ⟨R, hmk⟩ := make_any 33 55 33 info55 Tryz.underlying33 (by decide) (by decide)
  have hmk4 : (Instr.makeSlice 33 (.int .i64 33) (.int .i64 33)).run Tryz.prog w4 = .ok (.slice (some ⟨w4.heap.size, 0, none⟩) 33 33) (w4.alloc (.cells R 55)) := hmk w4
  clear hmk
  go_upto_region 41 with fail
  obtain ⟨w7, hw7⟩ : ∃ w7, w7 = (w4.setCell ⟨tb, 0, none⟩ (.slice (some ⟨w4.heap.size, 0, none⟩) 33 33)).alloc (.cells R 55) := ⟨_, rfl⟩
  rw [← hw7]
  obtain ⟨q1, q2, q3⟩ := rf_q HRF.out 0 (.slice (some ⟨w4.heap.size, 0, none⟩) 33 33) rfl
  have hQ7 : Q9 w w7 s 0 noS g := by rw [hw7]; exact q1.below ((Below.refl _ _).alloc (Nat.le_refl _) _)
  have hbx : w7.heap[tb]? = some (.cells #[.slice (some ⟨w4.heap.size, 0, none⟩) 33 33, .slice (some ⟨lo + 1, 0, none⟩) 1 1, .slice none 0 0] 36 (0, 0)) := by rw [hw7]; exact (heap_alloc_old _ _ (by rw [q3]; exact hlt)).trans (heap_setCell_row HRF.out.tx _)
  have hb8 : Below w7.heap.size w7 (w7.alloc (.cells #[.slice none 0 0] 47)) := (Below.refl _ _).alloc (Nat.le_refl _) _
  have hbx8 := (hb8.block tb (Array.getElem?_eq_some_iff.1 hbx).1).trans hbx
  have hdo := Q9.many (q := w7.heap.size) (hQ7.below hb8) (some ⟨w4.heap.size, 0, none⟩) (some ⟨lo + 1, 0, none⟩) none 33 33 1 1 0 0 (.inl (by decide)) (by decide) (by decide) (by decide)
  have y0 : (w7.alloc (.cells #[.slice none 0 0] 47)).cell? ⟨tb, 0, none⟩ = _ := cell_of_row _ _ 0 _ _ _ hbx8
  have y1 : (w7.alloc (.cells #[.slice none 0 0] 47)).cell? ⟨tb, 1, none⟩ = _ := cell_of_row _ _ 1 _ _ _ hbx8
  have y2 : (w7.alloc (.cells #[.slice none 0 0] 47)).cell? ⟨tb, 2, none⟩ = _ := cell_of_row _ _ 2 _ _ _ hbx8
  simp at y0 y1 y2
  clear hw7 q1 q2 q3 hQ7 hbx hb8 hbx8 hmk4 o0 o1 o2 o3 o4 o5 c0 c1 c2 f0 f2 hlt hlw
  go_upto_region 42 with (go_at_call 16; with_reducible refine hdo.mono ?_; rintro e w9 ⟨rfl, g2, HG⟩)
  have hrev : Calls Tryz.prog 20 #[ptr s] w9 fun e w' => e = .returned (.int .i64 0) ∧ w' = w9 := HG.out.rev
  go_wp2_with (go_at_call 20; refine hrev.mono ?_; rintro e w10 ⟨rfl, hw10⟩; obtain rfl := hw10.symm)
  go_ret
  exact ⟨rfl, HG.out.bel⟩
set_option maxRecDepth 100000 in
set_option maxHeartbeats 2000000 in
theorem refuses_10 (x : Int) (w : World) (hk : withinF x 12 = 10) : Calls Tryz.prog 7 #[.int .i64 x] w fun e w' => e = .returned (.bool true) ∧ Below w.heap.size w w' := by
  have hkn := known_any w
  obtain ⟨t9, hti, hz0, hz1, hz2⟩ := info_parts infoOp
  go_enter Tryz.func7, Tryz.ntmps7
  go_upto_region 3 with (go_at_call 9; refine hkn.mono ?_; rintro e w1 ⟨rfl, hb1⟩)
  have hnew := new_q9 w w1 hb1
  clear hb1 hkn
  go_upto_region 6 with (go_at_call 10; refine hnew.mono ?_; rintro e w2 ⟨s, g, rfl, HQ⟩)
  obtain ⟨lo, hlo⟩ : ∃ lo, lo = w2.heap.size := ⟨_, rfl⟩
  rw [← hlo]
  obtain ⟨w4, hw4⟩ : ∃ w4, w4 = ((w2.alloc (.cells #[.int .i64 0, .string ⟨#[97]⟩, .string ⟨#[]⟩, .string ⟨#[120]⟩, .int .i64 0, .int .i64 0] 57)).alloc (.cells #[.int .i64 0, .string ⟨#[97]⟩, .string ⟨#[]⟩, .string ⟨#[120]⟩, .int .i64 0, .int .i64 0] 57)).alloc (.cells #[.slice none 0 0, .slice (some ⟨lo + 1, 0, none⟩) 1 1, .slice none 0 0] 36) := ⟨_, rfl⟩
  rw [← hw4]
  obtain ⟨tb, htb⟩ : ∃ tb, tb = lo + 1 + 1 := ⟨_, rfl⟩
  rw [← htb]
  have hRF := rf_new HQ.out.1 w4 lo tb hlo htb hw4
  have HRF := Hid.mk'' hRF
  have hwi := within_any x 12 w4 (by decide) (by decide)
  rw [hk] at hwi
  obtain ⟨⟨o0, o1, o2, o3, o4, o5⟩, -⟩ := box6 hRF.ob
  have c0 : w4.cell? ⟨tb, 0, none⟩ = some (.slice none 0 0) := cell_of_row _ _ _ _ _ _ hRF.tx
  have c1 : w4.cell? ⟨tb, 1, none⟩ = some (.slice (some ⟨lo + 1, 0, none⟩) 1 1) := cell_of_row _ _ _ _ _ _ hRF.tx
  have c2 : w4.cell? ⟨tb, 2, none⟩ = some (.slice none 0 0) := cell_of_row _ _ _ _ _ _ hRF.tx
  have f0 := frozen_of_row w4 tb 0 _ _ hRF.tx
  have f2 := frozen_of_row w4 tb 2 _ _ hRF.tx
  have hlt : tb < w4.heap.size := by have := hRF.sz; omega
  have hlw : lo ≤ w4.heap.size := by have := hRF.sz; omega
  clear hnew HQ hw4 hlo htb hRF hk
  go_upto_region 37 with (go_at_call 21; refine hwi.mono ?_; rintro e w5 ⟨rfl, hw5⟩; obtain rfl := hw5.symm)
  clear hwi
  obtain ⟨R, hmk⟩ := make_any 34 57 33 infoOp Tryz.underlying34 (by decide) (by decide)
  have hmk4 : (Instr.makeSlice 34 (.int .i64 33) (.int .i64 33)).run Tryz.prog w4 = .ok (.slice (some ⟨w4.heap.size, 0, none⟩) 33 33) (w4.alloc (.cells R 57)) := hmk w4
  clear hmk
  go_upto_region 41 with fail
  obtain ⟨w7, hw7⟩ : ∃ w7, w7 = (w4.setCell ⟨tb, 2, none⟩ (.slice (some ⟨w4.heap.size, 0, none⟩) 33 33)).alloc (.cells R 57) := ⟨_, rfl⟩
  rw [← hw7]
  obtain ⟨q1, q2, q3⟩ := rf_q HRF.out 2 (.slice (some ⟨w4.heap.size, 0, none⟩) 33 33) rfl
  have hQ7 : Q9 w w7 s 0 noS g := by rw [hw7]; exact q1.below ((Below.refl _ _).alloc (Nat.le_refl _) _)
  have hbx : w7.heap[tb]? = some (.cells #[.slice none 0 0, .slice (some ⟨lo + 1, 0, none⟩) 1 1, .slice (some ⟨w4.heap.size, 0, none⟩) 33 33] 36 (0, 0)) := by rw [hw7]; exact (heap_alloc_old _ _ (by rw [q3]; exact hlt)).trans (heap_setCell_row HRF.out.tx _)
  have hb8 : Below w7.heap.size w7 (w7.alloc (.cells #[.slice none 0 0] 47)) := (Below.refl _ _).alloc (Nat.le_refl _) _
  have hbx8 := (hb8.block tb (Array.getElem?_eq_some_iff.1 hbx).1).trans hbx
  have hdo := Q9.many (q := w7.heap.size) (hQ7.below hb8) none (some ⟨lo + 1, 0, none⟩) (some ⟨w4.heap.size, 0, none⟩) 0 0 1 1 33 33 (.inr (.inr (by decide))) (by decide) (by decide) (by decide)
  have y0 : (w7.alloc (.cells #[.slice none 0 0] 47)).cell? ⟨tb, 0, none⟩ = _ := cell_of_row _ _ 0 _ _ _ hbx8
  have y1 : (w7.alloc (.cells #[.slice none 0 0] 47)).cell? ⟨tb, 1, none⟩ = _ := cell_of_row _ _ 1 _ _ _ hbx8
  have y2 : (w7.alloc (.cells #[.slice none 0 0] 47)).cell? ⟨tb, 2, none⟩ = _ := cell_of_row _ _ 2 _ _ _ hbx8
  simp at y0 y1 y2
  clear hw7 q1 q2 q3 hQ7 hbx hb8 hbx8 hmk4 o0 o1 o2 o3 o4 o5 c0 c1 c2 f0 f2 hlt hlw
  go_upto_region 42 with (go_at_call 16; with_reducible refine hdo.mono ?_; rintro e w9 ⟨rfl, g2, HG⟩)
  have hrev : Calls Tryz.prog 20 #[ptr s] w9 fun e w' => e = .returned (.int .i64 0) ∧ w' = w9 := HG.out.rev
  go_wp2_with (go_at_call 20; refine hrev.mono ?_; rintro e w10 ⟨rfl, hw10⟩; obtain rfl := hw10.symm)
  go_ret
  exact ⟨rfl, HG.out.bel⟩
set_option maxRecDepth 100000 in
set_option maxHeartbeats 2000000 in
theorem refuses_11 (x : Int) (w : World) (hk : withinF x 12 = 11) : Calls Tryz.prog 7 #[.int .i64 x] w fun e w' => e = .returned (.bool true) ∧ Below w.heap.size w w' := by
  have hkn := known_any w
  obtain ⟨t9, hti, hz0, hz1, hz2⟩ := info_parts infoOp
  go_enter Tryz.func7, Tryz.ntmps7
  go_upto_region 3 with (go_at_call 9; refine hkn.mono ?_; rintro e w1 ⟨rfl, hb1⟩)
  have hnew := new_q9 w w1 hb1
  clear hb1 hkn
  go_upto_region 6 with (go_at_call 10; refine hnew.mono ?_; rintro e w2 ⟨s, g, rfl, HQ⟩)
  obtain ⟨lo, hlo⟩ : ∃ lo, lo = w2.heap.size := ⟨_, rfl⟩
  rw [← hlo]
  obtain ⟨w4, hw4⟩ : ∃ w4, w4 = ((w2.alloc (.cells #[.int .i64 0, .string ⟨#[97]⟩, .string ⟨#[]⟩, .string ⟨#[120]⟩, .int .i64 0, .int .i64 0] 57)).alloc (.cells #[.int .i64 0, .string ⟨#[97]⟩, .string ⟨#[]⟩, .string ⟨#[120]⟩, .int .i64 0, .int .i64 0] 57)).alloc (.cells #[.slice none 0 0, .slice (some ⟨lo + 1, 0, none⟩) 1 1, .slice none 0 0] 36) := ⟨_, rfl⟩
  rw [← hw4]
  obtain ⟨tb, htb⟩ : ∃ tb, tb = lo + 1 + 1 := ⟨_, rfl⟩
  rw [← htb]
  have hRF := rf_new HQ.out.1 w4 lo tb hlo htb hw4
  have HRF := Hid.mk'' hRF
  have hwi := within_any x 12 w4 (by decide) (by decide)
  rw [hk] at hwi
  obtain ⟨⟨o0, o1, o2, o3, o4, o5⟩, -⟩ := box6 hRF.ob
  have c0 : w4.cell? ⟨tb, 0, none⟩ = some (.slice none 0 0) := cell_of_row _ _ _ _ _ _ hRF.tx
  have c1 : w4.cell? ⟨tb, 1, none⟩ = some (.slice (some ⟨lo + 1, 0, none⟩) 1 1) := cell_of_row _ _ _ _ _ _ hRF.tx
  have c2 : w4.cell? ⟨tb, 2, none⟩ = some (.slice none 0 0) := cell_of_row _ _ _ _ _ _ hRF.tx
  have f0 := frozen_of_row w4 tb 0 _ _ hRF.tx
  have f2 := frozen_of_row w4 tb 2 _ _ hRF.tx
  have hlt : tb < w4.heap.size := by have := hRF.sz; omega
  have hlw : lo ≤ w4.heap.size := by have := hRF.sz; omega
  clear hnew HQ hw4 hlo htb hRF hk
  go_upto_region 40 with (go_at_call 21; refine hwi.mono ?_; rintro e w5 ⟨rfl, hw5⟩; obtain rfl := hw5.symm)
  clear hwi
  obtain ⟨R, hmk, hcv⟩ := make_zb 101 (by decide)
  have hmk4 : (Instr.makeSlice 66 (.int .i64 101) (.int .i64 101)).run Tryz.prog w4 = .ok (.slice (some ⟨w4.heap.size, 0, none⟩) 101 101) (w4.alloc (.cells R 5)) := hmk w4
  have hcv4 : (convert 66 9 (.slice (some ⟨w4.heap.size, 0, none⟩) 101 101)).run Tryz.prog (w4.alloc (.cells R 5)) = .ok (.string (zb 101)) (w4.alloc (.cells R 5)) := hcv _ _ (row_alloc w4 _ _)
  have hzz := zb_size 101
  generalize hZB : zb 101 = ZB at hcv4 hzz
  have HZB := Hid.mk'' hZB
  clear hZB
  clear hmk hcv
  go_upto_region 41 with fail
  obtain ⟨w7, hw7⟩ : ∃ w7, w7 = ((w4.setCell ⟨tb, 0, none⟩ (.slice (some ⟨w4.heap.size + 1, 0, none⟩) 1 1)).alloc (.cells R 5)).alloc (.cells #[.string ZB, .int .i64 0, .int .i64 0, .int .i64 0, .string ⟨#[]⟩] 55) := ⟨_, rfl⟩
  rw [← hw7]
  have hz7 : (w4.setCell ⟨tb, 0, none⟩ (.slice (some ⟨w4.heap.size + 1, 0, none⟩) 1 1)).heap.size = w4.heap.size := by simp [World.setCell]
  obtain ⟨hT, hQ7⟩ := rf_if (w7 := w7) HRF.out (w4.heap.size + 1) ZB ⟨#[]⟩ 0 0 0 (by rw [hw7]; exact ((Below.refl _ _).alloc (Nat.le_refl _) _).alloc (by simp) _) (by rw [hw7]; have := row_alloc ((w4.setCell ⟨tb, 0, none⟩ (.slice (some ⟨w4.heap.size + 1, 0, none⟩) 1 1)).alloc (.cells R 5)) #[.string ZB, .int .i64 0, .int .i64 0, .int .i64 0, .string ⟨#[]⟩] 55; rw [show ((w4.setCell ⟨tb, 0, none⟩ (.slice (some ⟨w4.heap.size + 1, 0, none⟩) 1 1)).alloc (.cells R 5)).heap.size = w4.heap.size + 1 by simp [World.setCell]] at this; exact this) (by omega) (by omega) (by decide)
  clear hw7 hz7 hcv4 hmk4 o0 o1 o2 o3 o4 o5 c0 c1 c2 f0 f2 hlt hlw
  obtain ⟨hL, hLq, hb8⟩ := ls_new hQ7
  have hdo := (hQ7.below hb8).refused hL hLq _ (hT.below hb8) 1 (by decide) (by rw [← HZB.out]; exact tx_of_check e11 (by decide)) (by simp) (by simp) (by simp) (by decide)
  obtain ⟨y0, y1, y2⟩ := (hT.below hb8).cells
  clear hL hLq hb8 hT hQ7
  go_upto_region 42 with (go_at_call 16; with_reducible refine hdo.mono ?_; rintro e w9 ⟨rfl, g2, HG⟩)
  have hrev : Calls Tryz.prog 20 #[ptr s] w9 fun e w' => e = .returned (.int .i64 0) ∧ w' = w9 := HG.out.rev
  go_wp2_with (go_at_call 20; refine hrev.mono ?_; rintro e w10 ⟨rfl, hw10⟩; obtain rfl := hw10.symm)
  go_ret
  exact ⟨rfl, HG.out.bel⟩
end Go.Proofs.YtgbobegoknmiaaaGreat
