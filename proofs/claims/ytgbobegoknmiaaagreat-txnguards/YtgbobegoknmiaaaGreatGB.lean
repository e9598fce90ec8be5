/- TxnGuards' walk. -/
import Derived.Test.YtgbobegoknmiaaaGreatGA1
import Derived.Deep.RegionHeldLaw
namespace Go.Proofs.YtgbobegoknmiaaaGreat
open Go Go.RowKit

theorem tbx3 {w0 w : World} {s n : Nat} {S : Sto} {g : Sg} (H : Q9 w0 w s n S g) (key z : ByteArray) (m : Nat) (hk : key.size ≤ 100) (hz : z.size ≤ 1000) (w4 : World) (lo : Nat) (hlo : lo = w.heap.size)
    (hw4 : w4 = (((w.alloc (.cells #[.string key, .int .i64 2, .int .i64 0, .int .i64 m, .string ⟨#[]⟩] 55)).alloc (.cells #[.int .i64 0, .string key, .string ⟨#[]⟩, .string z, .int .i64 0, .int .i64 0] 57)).alloc (.cells #[.int .i64 2, .string key, .string ⟨#[]⟩, .string ⟨#[]⟩, .int .i64 0, .int .i64 0] 57)).alloc (.cells #[.slice (some ⟨lo, 0, none⟩) 1 1, .slice (some ⟨lo + 1, 0, none⟩) 1 1, .slice (some ⟨lo + 1 + 1, 0, none⟩) 1 1] 36)) :
    TBx w4 s g lo (lo + 4) (lo + 1 + 1 + 1) (.slice (some ⟨lo, 0, none⟩) 1 1) (.slice (some ⟨lo + 1, 0, none⟩) 1 1) (.slice (some ⟨lo + 1 + 1, 0, none⟩) 1 1) ⟨[gIf key m], [gPut key z], [gGet key]⟩ ∧ Below w.heap.size w w4 := by
  obtain ⟨a1, h1⟩ : ∃ a1, a1 = w.alloc (.cells #[.string key, .int .i64 2, .int .i64 0, .int .i64 m, .string ⟨#[]⟩] 55) := ⟨_, rfl⟩
  rw [← h1] at hw4
  obtain ⟨a2, h2⟩ : ∃ a2, a2 = a1.alloc (.cells #[.int .i64 0, .string key, .string ⟨#[]⟩, .string z, .int .i64 0, .int .i64 0] 57) := ⟨_, rfl⟩
  rw [← h2] at hw4
  obtain ⟨a3, h3⟩ : ∃ a3, a3 = a2.alloc (.cells #[.int .i64 2, .string key, .string ⟨#[]⟩, .string ⟨#[]⟩, .int .i64 0, .int .i64 0] 57) := ⟨_, rfl⟩
  rw [← h3] at hw4
  have s1 : a1.heap.size = lo + 1 := by rw [h1, hlo]; simp
  have s2 : a2.heap.size = lo + 1 + 1 := by rw [h2]; simp [s1]
  have s3 : a3.heap.size = lo + 1 + 1 + 1 := by rw [h3]; simp [s2]
  have s4 : w4.heap.size = lo + 4 := by rw [hw4]; simp [s3]
  have hb : Below w.heap.size w w4 := by
    rw [hw4, h3, h2, h1]
    exact ((((Below.refl _ w).alloc (Nat.le_refl _) _).alloc (by rw [← h1]; omega) _).alloc (by rw [← h1, ← h2]; omega) _).alloc (by rw [← h1, ← h2, ← h3]; omega) _
  have r1 : w4.heap[lo]? = some (.cells #[.string key, .int .i64 2, .int .i64 0, .int .i64 m, .string ⟨#[]⟩] 55 (0, 0)) := by
    rw [hw4]; refine (heap_alloc_old a3 _ (by omega)).trans ?_; rw [h3]; refine (heap_alloc_old a2 _ (by omega)).trans ?_; rw [h2]; refine (heap_alloc_old a1 _ (by omega)).trans ?_; rw [h1, hlo]; exact row_alloc w _ _
  have r2 : w4.heap[lo + 1]? = some (.cells #[.int .i64 0, .string key, .string ⟨#[]⟩, .string z, .int .i64 0, .int .i64 0] 57 (0, 0)) := by
    rw [hw4]; refine (heap_alloc_old a3 _ (by omega)).trans ?_; rw [h3]; refine (heap_alloc_old a2 _ (by omega)).trans ?_; rw [h2, ← s1]; exact row_alloc a1 _ _
  have r3 : w4.heap[lo + 1 + 1]? = some (.cells #[.int .i64 2, .string key, .string ⟨#[]⟩, .string ⟨#[]⟩, .int .i64 0, .int .i64 0] 57 (0, 0)) := by
    rw [hw4]; refine (heap_alloc_old a3 _ (by omega)).trans ?_; rw [h3, ← s2]; exact row_alloc a2 _ _
  have r4 : w4.heap[lo + 1 + 1 + 1]? = some (.cells #[.slice (some ⟨lo, 0, none⟩) 1 1, .slice (some ⟨lo + 1, 0, none⟩) 1 1, .slice (some ⟨lo + 1 + 1, 0, none⟩) 1 1] 36 (0, 0)) := by rw [hw4, ← s3]; exact row_alloc a3 _ _
  exact ⟨⟨r4, ifs_one r1 (by omega) (by omega) (by decide), ops_one r2 (by omega) (by omega) (by decide) (by omega), ops_one r3 (by omega) (by omega) (by decide) (by decide), by omega, by omega, fun k hk => .inl (by have := H.lt hk; omega)⟩, hb⟩
theorem GI.below {w0 w w' : World} {s n : Nat} {S : Sto} {g : Sg} {key : ByteArray} {i : Nat} (H : GI w0 w s n S g key i) (hb : Below w.heap.size w w') : GI w0 w' s n S g key i := ⟨H.q.below hb, H.md, H.rev, H.n, H.ks, H.nth⟩
theorem GI.more {w0 w : World} {s n : Nat} {S : Sto} {g : Sg} {key : ByteArray} {i : Nat} (H : GI w0 w s n S g key i) : GI w0 w s n S g key (i + 1) := ⟨H.q, H.md, by have := H.rev; omega, by have := H.n; omega, by have := H.ks; omega, by have := H.nth; omega⟩
set_option maxRecDepth 100000 in
set_option maxHeartbeats 2000000 in
theorem guards_walk (key : ByteArray) (v : Value) (zs : List ByteArray) (w : World) (hks : key.size ≤ 140737488355328) (hS : SeesS w v zs) (hzl : zs.length ≤ 140737488355328) : Calls Tryz.prog 4 #[.string key, v] w fun e w' => e = .returned (.bool true) ∧ Below w.heap.size w w' := by
  obtain ⟨ao, cap, rfl⟩ := hS.form
  have hkn := known_any w
  by_cases h0 : key = ByteArray.empty
  · subst h0
    go_enter Tryz.func4, Tryz.ntmps4
    go_wp2_with (go_at_call 9; refine hkn.mono ?_; rintro e w1 ⟨rfl, hb1⟩)
    go_ret
    exact ⟨rfl, hb1⟩
  have h0' := nonempty_list h0
  have hpos : 0 < key.size := by
    rcases Nat.eq_zero_or_pos key.size with e | e
    · exact absurd (bytes_ext ((List.eq_nil_of_length_eq_zero (by simpa using e) : key.data.toList = []).trans rfl)) h0
    · exact e
  by_cases h1 : 100 < key.size
  · have h1' : (100 : Int) < (key.size : Int) := by omega
    go_enter Tryz.func4, Tryz.ntmps4
    go_wp2_with (go_at_call 9; refine hkn.mono ?_; rintro e w1 ⟨rfl, hb1⟩)
    go_ret
    exact ⟨rfl, hb1⟩
  have h1' : ¬ (100 : Int) < (key.size : Int) := by omega
  by_cases h2 : 30 < zs.length
  · have h2' : (30 : Int) < (zs.length : Int) := by omega
    go_enter Tryz.func4, Tryz.ntmps4
    go_wp2_with (go_at_call 9; refine hkn.mono ?_; rintro e w1 ⟨rfl, hb1⟩)
    go_ret
    exact ⟨rfl, hb1⟩
  have h2' : ¬ (30 : Int) < (zs.length : Int) := by omega
  have HK : Hid (0 < key.size ∧ key.size ≤ 100) := by show _ ∧ _; omega
  have HS := Hid.mk'' hS
  obtain ⟨m, hm⟩ : ∃ m, m = zs.length := ⟨_, rfl⟩
  rw [← hm] at h2 h2' hzl ⊢
  have HMM := Hid.mk'' hm
  clear hS hm hpos h1
  go_enter Tryz.func4, Tryz.ntmps4
  go_upto_region 5 with (go_at_call 9; refine hkn.mono ?_; rintro e w1 ⟨rfl, hb1⟩)
  have hnew := new_q9 w w1 hb1
  have HB1 := Hid.mk'' hb1
  clear hb1 hkn h0' h1' h2'
  go_wp2_with (go_at_call 10; refine hnew.mono ?_; rintro e w2 ⟨s, g, rfl, HQ⟩)
  have HG0 : Hid (GI w w2 s 0 noS g key 0) := ⟨HQ.out.1, .inl ⟨rfl, rfl⟩, Nat.le_refl _, Nat.le_refl _, Nat.le_refl _, Nat.le_refl _⟩
  clear hnew HQ
  go_loopg [6, 7] (m + 1) (fun kx s6 s7 wr => ∃ (i n : Nat) (S : Sto) (g : Sg), s6 = .int .i64 S.rev ∧ s7 = .int .i64 i ∧ kx + i = m + 1 ∧ i ≤ m ∧ Hid (GI w wr s n S g key i))
  case atStart => exact ⟨0, 0, noS, g, rfl, rfl, rfl, Nat.zero_le _, HG0⟩
  case round =>
    obtain ⟨i, n, S, g, rfl, rfl, hkx, hi, HM⟩ := hrel
    have hrv := HM.out.rev
    by_cases hlt : i < m
    · obtain ⟨b, off, rfl, hbl, hcz⟩ := HS.out.at (j := i) (by rw [← HMM.out]; exact hlt)
      obtain ⟨z, hz⟩ : ∃ z, z = zs.getD i ByteArray.empty := ⟨_, rfl⟩
      rw [← hz] at hcz
      have kcell := (HM.out.q.bel.cell (p := ⟨b, off + i, none⟩) hbl).trans hcz.1
      have hzs := hcz.2
      have HBL : Hid (b < w.heap.size ∧ w.cell? ⟨b, off + i, none⟩ = some (.string z)) := ⟨hbl, hcz.1⟩
      clear hcz hz
      by_cases hbig : 1000 < z.size
      · have hbig' : (1000 : Int) < (z.size : Int) := by omega
        go_wp2_with fail
        go_roundg (m - i)
        case measure => omega
        case rel => exact ⟨i + 1, n, S, g, rfl, by congr 1, by omega, by omega, HM.out.more⟩
      · have hbig' : ¬ (1000 : Int) < (z.size : Int) := by omega
        have hbr : b < wr.heap.size := Nat.lt_of_lt_of_le hbl HM.out.q.bel.size
        have hbn : ¬ b = wr.heap.size := by omega
        have hbn' : ¬ wr.heap.size = b := by omega
        go_upto_region 12 with fail
        clear hbn hbn' hbr
        obtain ⟨lo, hlo⟩ : ∃ lo, lo = wr.heap.size := ⟨_, rfl⟩
        rw [← hlo]
        obtain ⟨w4, hw4⟩ : ∃ w4, w4 = (((wr.alloc (.cells #[.string key, .int .i64 2, .int .i64 0, .int .i64 S.rev, .string ⟨#[]⟩] 55)).alloc (.cells #[.int .i64 0, .string key, .string ⟨#[]⟩, .string z, .int .i64 0, .int .i64 0] 57)).alloc (.cells #[.int .i64 2, .string key, .string ⟨#[]⟩, .string ⟨#[]⟩, .int .i64 0, .int .i64 0] 57)).alloc (.cells #[.slice (some ⟨lo, 0, none⟩) 1 1, .slice (some ⟨lo + 1, 0, none⟩) 1 1, .slice (some ⟨lo + 1 + 1, 0, none⟩) 1 1] 36) := ⟨_, rfl⟩
        rw [← hw4]
        obtain ⟨htb, hb4⟩ := tbx3 HM.out.q key z S.rev (by have := HK.out; omega) (by omega) w4 lo hlo hw4
        obtain ⟨tb, htb2⟩ : ∃ tb, tb = lo + 1 + 1 + 1 := ⟨_, rfl⟩
        rw [← htb2] at htb ⊢
        have hG4 := HM.out.below hb4
        obtain ⟨hL, hLq, hb5⟩ := ls_new hG4.q
        have HT5 := Hid.mk'' (htb.below hb5)
        have hdo1 := (hG4.below hb5).first (by omega) hL hLq z HK.out (by omega) HT5.out
        obtain ⟨x0, x1, x2⟩ := HT5.out.cells
        clear hL hLq hb5 hG4 htb hb4 hw4 hlo htb2 kcell
        go_upto_region 13 with (go_at_call 16; with_reducible refine hdo1.mono ?_; rintro e w6 ⟨p, c, rfl, S1, g1, HG⟩)
        obtain ⟨G1, t1, t2, T1⟩ := HG.out
        obtain ⟨hL, hLq, hb7⟩ := ls_new G1.q
        have hdo2 := (G1.below hb7).second (by omega) hL hLq z HK.out (by omega) t2 (T1.below hb7)
        obtain ⟨y0, y1, y2⟩ := (T1.below hb7).cells
        have HR1 := Hid.mk'' t1
        clear hdo1 x0 x1 x2 HT5 hL hLq hb7 t1 t2 T1 G1 HG
        go_upto_region 14 with (go_at_call 16; with_reducible refine hdo2.mono ?_; rintro e w8 ⟨gb, oo, c1, c2, g2, o2, rfl, d0, d1, d2, g3, HG2⟩)
        have hrq : ∀ j, Calls Tryz.prog 20 #[ptr s] (w8.drewN j) fun e w' => e = .returned (.int .i64 ((S.rev : Int) + 1)) ∧ w' = w8.drewN j := fun j => by
          have := (HG2.out.q.below (below_drewN (Below.refl _ w8) j)).rev
          rw [HR1.out] at this
          exact this
        have kz := (HG2.out.q.bel.cell (p := ⟨b, off + i, none⟩) HBL.out.1).trans HBL.out.2
        have hzz := (same1 z).2
        clear hdo2 y0 y1 y2 hbig' hbl
        go_quiet (with_reducible exact Calls.quiet_of_same (hrq _))
        go_wp2_with (go_at_call 20; refine (hrq _).mono ?_; rintro e w9 ⟨rfl, hw9⟩; obtain rfl := hw9.symm)
        go_roundg (m - i)
        case measure => omega
        case rel => exact ⟨i + 1, n + 1, S1, g3, by rw [HR1.out]; rfl, by congr 1, by omega, by omega, HG2.out.below (below_drewN (Below.refl _ w8) _)⟩
    · obtain rfl : i = m := by omega
      go_wp2_with fail
      go_ret
      exact ⟨rfl, HM.out.q.bel⟩
end Go.Proofs.YtgbobegoknmiaaaGreat
