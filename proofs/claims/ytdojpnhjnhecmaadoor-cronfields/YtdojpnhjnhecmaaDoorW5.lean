/- CronFields, walked. -/
import Derived.Test.YtdojpnhjnhecmaaDoorF1
import Derived.Test.YtdojpnhjnhecmaaDoorW1
import Derived.Deep.RegionHeldLaw
namespace Go.Proofs.YtdojpnhjnhecmaaDoor
open Go Go.RowKit
/-- A slice of numbers that came in. -/
def SeesI (w : World) (v : Value) (zs : List Int) : Prop :=
  (zs = [] ∧ ∃ ao cap, v = .slice ao 0 cap) ∨ ∃ b off cap, v = .slice (some ⟨b, off, none⟩) zs.length cap ∧ zs.length ≤ maxLen ∧ b < w.heap.size ∧ ∀ i, i < zs.length → w.cell? ⟨b, off + i, none⟩ = some (.int .i64 (zs.getD i 0))
theorem SeesI.form {w : World} {v : Value} {zs : List Int} (h : SeesI w v zs) : ∃ ao cap, v = .slice ao zs.length cap := by
  rcases h with ⟨rfl, ao, cap, rfl⟩ | ⟨b, off, cap, rfl, _⟩
  · exact ⟨ao, cap, rfl⟩
  · exact ⟨_, cap, rfl⟩
theorem SeesI.below {w w' : World} {v : Value} {zs : List Int} (h : SeesI w v zs) (hb : Below w.heap.size w w') : SeesI w' v zs := by
  rcases h with h | ⟨b, off, cap, rfl, h1, h2, h3⟩
  · exact .inl h
  · exact .inr ⟨b, off, cap, rfl, h1, Nat.lt_of_lt_of_le h2 hb.size, fun i hi => (hb.cell (p := ⟨b, off + i, none⟩) h2).trans (h3 i hi)⟩

theorem SeesI.at_ {w : World} {ao : Option Addr} {zs : List Int} {cap : Nat} (h : SeesI w (.slice ao zs.length cap) zs) (h0 : 0 < zs.length) : ∃ b off, ao = some ⟨b, off, none⟩ ∧ ∀ W, Below w.heap.size w W → ∀ i, i < zs.length → W.cell? ⟨b, off + i, none⟩ = some (.int .i64 (zs.getD i 0)) := by
  rcases h with ⟨h1, _⟩ | ⟨b, off, cap', h', _, h2, h3⟩
  · rw [h1] at h0; exact absurd h0 (by simp)
  · simp only [Value.slice.injEq, true_and] at h'
    exact ⟨b, off, h'.1, fun W hW i hi => (hW.cell (p := ⟨b, off + i, none⟩) h2).trans (h3 i hi)⟩
def hB (l0 l1 l2 : List Nat) (j : Nat) : Bool := decide (j ∈ l0) || decide (j ∈ l1.map (60 + ·)) || decide (j ∈ l2.map (120 + ·))
theorem hB_0 (l0 l1 l2 : List Nat) (n j : Nat) : (decide (j = n) || hB l0 l1 l2 j) = hB (l0 ++ [n]) l1 l2 j := by
  rw [Bool.eq_iff_iff]; simp only [hB, Bool.or_eq_true, decide_eq_true_eq, List.mem_append, List.mem_singleton]
  constructor
  · rintro (h | (h | h) | h)
    · exact .inl (.inl (.inr h))
    · exact .inl (.inl (.inl h))
    · exact .inl (.inr h)
    · exact .inr h
  · rintro (((h | h) | h) | h)
    · exact .inr (.inl (.inl h))
    · exact .inl h
    · exact .inr (.inl (.inr h))
    · exact .inr (.inr h)
theorem hB_1 (l0 l1 l2 : List Nat) (n j : Nat) : (decide (j = 60 + n) || hB l0 l1 l2 j) = hB l0 (l1 ++ [n]) l2 j := by
  rw [Bool.eq_iff_iff]; simp only [hB, Bool.or_eq_true, decide_eq_true_eq, List.map_append, List.mem_append, List.map_cons, List.map_nil, List.mem_singleton]
  constructor
  · rintro (h | (h | h) | h)
    · exact .inl (.inr (.inr h))
    · exact .inl (.inl h)
    · exact .inl (.inr (.inl h))
    · exact .inr h
  · rintro ((h | h | h) | h)
    · exact .inr (.inl (.inl h))
    · exact .inr (.inl (.inr h))
    · exact .inl h
    · exact .inr (.inr h)
theorem hB_2 (l0 l1 l2 : List Nat) (n j : Nat) : (decide (j = 120 + n) || hB l0 l1 l2 j) = hB l0 l1 (l2 ++ [n]) j := by
  rw [Bool.eq_iff_iff]; simp only [hB, Bool.or_eq_true, decide_eq_true_eq, List.map_append, List.mem_append, List.map_cons, List.map_nil, List.mem_singleton]
  constructor
  · rintro (h | (h | h) | h)
    · exact .inr (.inr h)
    · exact .inl (.inl h)
    · exact .inl (.inr h)
    · exact .inr (.inl h)
  · rintro ((h | h) | h | h)
    · exact .inr (.inl (.inl h))
    · exact .inr (.inl (.inr h))
    · exact .inr (.inr h)
    · exact .inl h
abbrev CFL (v0 v1 v2 : Value) (R : Nat) (w W : World) (l0 l1 l2 : List Nat) : Prop := CF v0 v1 v2 R w W (hB l0 l1 l2) (partB l0) (partB l1) (partB l2)
def numsW (most add : Nat) (zs : List Int) : List Nat := zs.map fun z => (withinF z most).toNat + add
theorem numsW_at (most add : Nat) (zs : List Int) (i : Nat) (h : i < zs.length) : (numsW most add zs).take (i + 1) = (numsW most add zs).take i ++ [(withinF (zs.getD i 0) most).toNat + add] := by
  have h' : i < (numsW most add zs).length := by simpa [numsW] using h
  rw [List.take_succ_eq_append_getElem h']
  simp [numsW, List.getD_eq_getElem?_getD, h]
theorem numsW_all (most add : Nat) (zs : List Int) : (numsW most add zs).take zs.length = numsW most add zs := List.take_of_length_le (by simp [numsW])
theorem numsW_bd (most add : Nat) (hm : 0 < most) (zs : List Int) : ∀ n ∈ numsW most add zs, add ≤ n ∧ n < most + add := fun n hn => by
  obtain ⟨z, _, rfl⟩ := List.mem_map.1 hn
  have := withinF_bd z most (by omega)
  omega
theorem partB_first (l : List Nat) (n : Nat) (hl : l = []) : partB l ++ ⟨[byteN (48 + n / 10), byteN (48 + n % 10)].toArray⟩ = partB (l ++ [n]) := by
  subst hl
  apply ByteArray.ext
  simp [ByteArray.data_append, partB, partN, dd, byteN]
theorem one_size (t : ByteArray) (b : UInt8) : (t ++ ⟨#[b]⟩ : ByteArray).size = t.size + 1 := by
  show (t ++ ⟨#[b]⟩ : ByteArray).data.size = _
  simp [ByteArray.data_append]
theorem nums_app (a b : ByteArray) : numsOf (a ++ b) = numsOf a ++ numsOf b := by simp [numsOf, ByteArray.data_append]
theorem fieldsB_parse (a b c : List Nat) (ha : a ≠ []) (hb : b ≠ []) (hc : c ≠ []) (ga : ∀ n ∈ a, n ≤ 59) (gb : ∀ n ∈ b, n ≤ 23) (gc : ∀ n ∈ c, 1 ≤ n ∧ n ≤ 12) :
    parseL (numsOf (partB a ++ ⟨#[32]⟩ ++ partB b ++ ⟨#[9, 42, 32]⟩ ++ partB c ++ ⟨#[32, 32, 42]⟩)) = some (fieldsE a b c) := by
  rw [← fields_parse a b c ha hb hc ga gb gc, nums_app, nums_app, nums_app, nums_app, nums_app, partB_nums a (fun n hn => by have := ga n hn; omega), partB_nums b (fun n hn => by have := gb n hn; omega), partB_nums c (fun n hn => by have := gc n hn; omega)]
  rw [show numsOf ⟨#[32]⟩ = [32] from rfl, show numsOf ⟨#[9, 42, 32]⟩ = [9, 42, 32] from rfl, show numsOf ⟨#[32, 32, 42]⟩ = [32, 32, 42] from rfl]
  simp
theorem fieldsB_size (a b c : List Nat) (h : a.length + b.length + c.length ≤ 20) : (partB a ++ ⟨#[32]⟩ ++ partB b ++ ⟨#[9, 42, 32]⟩ ++ partB c ++ ⟨#[32, 32, 42]⟩ : ByteArray).size ≤ 100 := by
  have h1 : (partB a).size ≤ _ := partB_size a
  have h2 : (partB b).size ≤ _ := partB_size b
  have h3 : (partB c).size ≤ _ := partB_size c
  show (partB a ++ ⟨#[32]⟩ ++ partB b ++ ⟨#[9, 42, 32]⟩ ++ partB c ++ ⟨#[32, 32, 42]⟩ : ByteArray).data.size ≤ 100
  simp [ByteArray.data_append]
  omega
theorem hB_at0 (l0 l1 l2 : List Nat) (j : Nat) (hj : j < 60) : hB l0 l1 l2 j = decide (j ∈ l0) := by
  rw [Bool.eq_iff_iff]; simp only [hB, Bool.or_eq_true, decide_eq_true_eq, List.mem_map]
  constructor
  · rintro ((h | ⟨n, _, h⟩) | ⟨n, _, h⟩)
    · exact h
    · omega
    · omega
  · exact fun h => .inl (.inl h)
theorem hB_at1 (l0 l1 l2 : List Nat) (j : Nat) (hj : j < 60) (h0 : ∀ n ∈ l0, n < 60) : hB l0 l1 l2 (60 + j) = decide (j ∈ l1) := by
  rw [Bool.eq_iff_iff]; simp only [hB, Bool.or_eq_true, decide_eq_true_eq, List.mem_map]
  constructor
  · rintro ((h | ⟨n, g, h⟩) | ⟨n, _, h⟩)
    · have := h0 _ h; omega
    · obtain rfl : n = j := by omega
      exact g
    · omega
  · exact fun h => .inl (.inr ⟨j, h, rfl⟩)
theorem hB_at2 (l0 l1 l2 : List Nat) (j : Nat) (h0 : ∀ n ∈ l0, n < 60) (h1 : ∀ n ∈ l1, n < 60) : hB l0 l1 l2 (120 + j) = decide (j ∈ l2) := by
  rw [Bool.eq_iff_iff]; simp only [hB, Bool.or_eq_true, decide_eq_true_eq, List.mem_map]
  constructor
  · rintro ((h | ⟨n, g, h⟩) | ⟨n, g, h⟩)
    · have := h0 _ h; omega
    · have := h1 _ g; omega
    · obtain rfl : n = j := by omega
      exact g
  · exact fun h => .inr ⟨j, h, rfl⟩
/-- The expression, the lists, and a date beside them. -/
structure FWx (v0 v1 v2 : Value) (R : Nat) (x : Exp) (E : Nat) (w W : World) (a b c : List Nat) : Prop where
  ew : EW x E w W
  cf : CFL v0 v1 v2 R w W a b c
theorem FWx.below {v0 v1 v2 : Value} {R : Nat} {x : Exp} {E : Nat} {w W W' : World} {a b c : List Nat} (h : FWx v0 v1 v2 R x E w W a b c) (hb : Below W.heap.size W W') : FWx v0 v1 v2 R x E w W' a b c := ⟨h.ew.below hb, h.cf.below hb⟩
structure DWx (v0 v1 v2 : Value) (R : Nat) (x : Exp) (E D : Nat) (w W : World) (a b c : List Nat) (y m d h mi wd : Int) : Prop where
  fw : FWx v0 v1 v2 R x E w W a b c
  row : W.heap[D]? = some (.cells #[.int .i64 y, .int .i64 m, .int .i64 d, .int .i64 h, .int .i64 mi, .int .i64 wd] 55 (0, 0))
theorem DWx.below {v0 v1 v2 : Value} {R : Nat} {x : Exp} {E D : Nat} {w W W' : World} {a b c : List Nat} {y m d h mi wd : Int} (g : DWx v0 v1 v2 R x E D w W a b c y m d h mi wd) (hb : Below W.heap.size W W') : DWx v0 v1 v2 R x E D w W' a b c y m d h mi wd := ⟨g.fw.below hb, (hb.block D (lt_of_row g.row)).trans g.row⟩
set_option maxRecDepth 100000 in
set_option maxHeartbeats 4000000 in
theorem fields_walk (v0 v1 v2 : Value) (x3 : Int) (z0 z1 z2 : List Int) (w : World) (hT : HasT w) (hS0 : SeesI w v0 z0) (hS1 : SeesI w v1 z1) (hS2 : SeesI w v2 z2) (_b3 : -9223372036854775808 ≤ x3 ∧ x3 ≤ 9223372036854775807) (m0 : z0.length ≤ 140737488355328) (m1 : z1.length ≤ 140737488355328) (m2 : z2.length ≤ 140737488355328) :
    Calls Tryd.prog 6 #[v0, v1, v2, .int .i64 x3] w fun e w' => e = .returned (.bool true) ∧ Below w.heap.size w w' := by
  have hkn := known_any w hT
  have HT : Hid (∀ w3, Below w.heap.size w w3 → HasT w3) := fun w3 h => hT.below h
  obtain ⟨a0, c0, rfl⟩ := hS0.form
  obtain ⟨a1, c1, rfl⟩ := hS1.form
  obtain ⟨a2, c2, rfl⟩ := hS2.form
  clear hT
  by_cases g0 : z0.length = 0
  · have e0 : ((z0.length : Int) == 0) = true := by rw [beq_iff_eq]; omega
    clear g0
    go_enter Tryd.func6, Tryd.ntmps6
    go_wp2_with fail
    refine hkn.mono ?_
    rintro e w1 ⟨rfl, hb⟩
    have HB1 := Hid.mk'' hb
    clear hkn hb
    go_wp2_with fail
    go_ret
    exact ⟨rfl, HB1.out⟩
  have e0 : ((z0.length : Int) == 0) = false := by rw [beq_eq_false_iff_ne]; omega
  by_cases g1 : z1.length = 0
  · have e1 : ((z1.length : Int) == 0) = true := by rw [beq_iff_eq]; omega
    clear g1
    go_enter Tryd.func6, Tryd.ntmps6
    go_wp2_with fail
    refine hkn.mono ?_
    rintro e w1 ⟨rfl, hb⟩
    have HB1 := Hid.mk'' hb
    clear hkn hb
    go_wp2_with fail
    go_ret
    exact ⟨rfl, HB1.out⟩
  have e1 : ((z1.length : Int) == 0) = false := by rw [beq_eq_false_iff_ne]; omega
  by_cases g2 : z2.length = 0
  · have e2 : ((z2.length : Int) == 0) = true := by rw [beq_iff_eq]; omega
    clear g2
    go_enter Tryd.func6, Tryd.ntmps6
    go_wp2_with fail
    refine hkn.mono ?_
    rintro e w1 ⟨rfl, hb⟩
    have HB1 := Hid.mk'' hb
    clear hkn hb
    go_wp2_with fail
    go_ret
    exact ⟨rfl, HB1.out⟩
  have e2 : ((z2.length : Int) == 0) = false := by rw [beq_eq_false_iff_ne]; omega
  by_cases g3 : 20 < z0.length + z1.length + z2.length
  · have e3 : (20 : Int) < (z0.length : Int) + (z1.length : Int) + (z2.length : Int) := by omega
    clear g3
    go_enter Tryd.func6, Tryd.ntmps6
    go_wp2_with fail
    refine hkn.mono ?_
    rintro e w1 ⟨rfl, hb⟩
    have HB1 := Hid.mk'' hb
    clear hkn hb
    go_wp2_with fail
    go_ret
    exact ⟨rfl, HB1.out⟩
  have e3 : ¬ (20 : Int) < (z0.length : Int) + (z1.length : Int) + (z2.length : Int) := by omega
  obtain ⟨b0, o0, rfl, hc0⟩ := hS0.at_ (by omega)
  obtain ⟨b1, o1, rfl, hc1⟩ := hS1.at_ (by omega)
  obtain ⟨b2, o2, rfl, hc2⟩ := hS2.at_ (by omega)
  have HC0 := Hid.mk'' hc0
  have HC1 := Hid.mk'' hc1
  have HC2 := Hid.mk'' hc2
  clear hS0 hS1 hS2 hc0 hc1 hc2
  go_enter Tryd.func6, Tryd.ntmps6
  go_wp2_with fail
  refine hkn.mono ?_
  rintro e w1 ⟨rfl, hb⟩
  have HCF : Hid (CFL (.slice (some ⟨b0, o0, none⟩) z0.length c0) (.slice (some ⟨b1, o1, none⟩) z1.length c1) (.slice (some ⟨b2, o2, none⟩) z2.length c2) w1.heap.size w _ [] [] []) := (CF.start _ _ _ hb).congr (fun j _ => by simp [hB])
  clear hkn hb
  generalize hVV : World.alloc (World.alloc (World.alloc (World.alloc w1 _) _) _) _ = V at HCF
  have HVV := Hid.mk'' hVV
  clear hVV
  go_upto_region 9 with (fail)
  rw [HVV.out]
  clear HVV
  generalize w1.heap.size = R at *
  go_wp2_with fail
  go_loopw [13] (fun ff W => ∃ f : Nat, ff = .int .i64 f ∧ ((f = 0 ∧ Hid (CFL (.slice (some ⟨b0, o0, none⟩) z0.length c0) (.slice (some ⟨b1, o1, none⟩) z1.length c1) (.slice (some ⟨b2, o2, none⟩) z2.length c2) R w W [] [] [])) ∨ (f = 1 ∧ Hid (CFL (.slice (some ⟨b0, o0, none⟩) z0.length c0) (.slice (some ⟨b1, o1, none⟩) z1.length c1) (.slice (some ⟨b2, o2, none⟩) z2.length c2) R w W (numsW 60 0 z0) [] [])) ∨ (f = 2 ∧ Hid (CFL (.slice (some ⟨b0, o0, none⟩) z0.length c0) (.slice (some ⟨b1, o1, none⟩) z1.length c1) (.slice (some ⟨b2, o2, none⟩) z2.length c2) R w W (numsW 60 0 z0) (numsW 24 0 z1) [])) ∨ (f = 3 ∧ Hid (CFL (.slice (some ⟨b0, o0, none⟩) z0.length c0) (.slice (some ⟨b1, o1, none⟩) z1.length c1) (.slice (some ⟨b2, o2, none⟩) z2.length c2) R w W (numsW 60 0 z0) (numsW 24 0 z1) (numsW 12 1 z2))))) (fun ff _ => 3 - (intOf ff).toNat)
  case atStart => exact ⟨0, rfl, .inl ⟨rfl, HCF⟩⟩
  case round =>
    clear HCF
    obtain ⟨f, rfl, ⟨rfl, HC⟩ | ⟨rfl, HC⟩ | ⟨rfl, HC⟩ | ⟨rfl, HC⟩⟩ := hrel
    · go_wp2_with fail
      go_loopw [14, 15] (fun ii _ W => ∃ i : Nat, ii = .int .i64 i ∧ i ≤ z0.length ∧ Hid (CFL (.slice (some ⟨b0, o0, none⟩) z0.length c0) (.slice (some ⟨b1, o1, none⟩) z1.length c1) (.slice (some ⟨b2, o2, none⟩) z2.length c2) R w W ((numsW 60 0 z0).take i) [] [])) (fun ii _ _ => z0.length - (intOf ii).toNat)
      case atStart => exact ⟨0, rfl, Nat.zero_le _, HC⟩
      case round =>
        clear HC
        obtain ⟨i, rfl, hi, HX⟩ := hrel
        by_cases hil : i < z0.length
        · have hz := HC0.out wr HX.out.bel i hil
          have hw := fun W => within_any (z0.getD i 0) 60 W (by decide) (by decide)
          have hwb := withinF_bd (z0.getD i 0) 60 (by decide)
          have hta := numsW_at 60 0 z0 i hil
          obtain ⟨k, hk⟩ : ∃ k : Nat, withinF (z0.getD i 0) 60 = k := ⟨(withinF (z0.getD i 0) 60).toNat, by omega⟩
          rw [hk] at hw hwb
          rw [show ((60 : Nat) : Int) = 60 from rfl, hk, Int.toNat_natCast] at hta
          have hta : (numsW 60 0 z0).take (i + 1) = (numsW 60 0 z0).take i ++ [k] := hta
          have HTA := Hid.mk'' hta
          clear hk hta
          generalize z0.getD i 0 = z at *
          have rrf : wr.cell? ⟨R, 0, none⟩ = some (.slice (some ⟨b0, o0, none⟩) z0.length c0) := cell_of_row _ _ _ _ _ _ HX.out.rr
          have mmf : wr.cell? ⟨R + 1, 0, none⟩ = some (.int .i64 60) := cell_of_row _ _ _ _ _ _ HX.out.mm
          go_wp2_with fail
          go_quiet ((go_at_call 22; with_reducible exact Calls.quiet_of_same (hw _)))
          obtain ⟨W2, hW2⟩ : ∃ W2, W2 = wr.drewN nq := ⟨_, rfl⟩
          rw [← hW2]
          have HX2 : Hid (CFL (.slice (some ⟨b0, o0, none⟩) z0.length c0) (.slice (some ⟨b1, o1, none⟩) z1.length c1) (.slice (some ⟨b2, o2, none⟩) z2.length c2) R w W2 ((numsW 60 0 z0).take i) [] []) := by show CF _ _ _ _ _ _ _ _ _ _; rw [hW2]; exact HX.out.below (below_drewN (Below.refl _ _) _)
          clear hW2 HX hz hw rrf mmf
          have hcl : W2.cell? ⟨R + 1 + 1, k, none⟩ = _ := HX2.out.cellH (j := k) (by omega)
          have hfr : W2.frozen? ⟨R + 1 + 1, k, none⟩ = false := HX2.out.freeH k
          have HX3 := Hid.mk'' ((HX2.out.setH k).congr (fun j _ => hB_0 _ _ _ k j))
          have hA1 : (byteN (48 + k / 10)).toNat = 48 + k / 10 := byteN_nat (by omega)
          have hA2 : (byteN (48 + k % 10)).toNat = 48 + k % 10 := byteN_nat (by omega)
          have eA : (#[Value.int .u8 (48 + (k : Int) / 10), Value.int .u8 (48 + (k : Int) % 10)] : Array Value) = ([byteN (48 + k / 10), byteN (48 + k % 10)].map fun b => Value.int .u8 (b.toNat : Int)).toArray := by simp [hA1, hA2]
          have HCA := Hid.mk'' (fun (W : World) (g : Nat) (h : W.heap[g]? = some (.cells #[Value.int .u8 (48 + (k : Int) / 10), Value.int .u8 (48 + (k : Int) % 10)] 5 (0, 0))) => conv_at h eA 2 2 rfl)
          have HPL := Hid.mk'' (partB_size ((numsW 60 0 z0).take i))
          have hln : ((numsW 60 0 z0).take i).length = i := by simp [numsW]; omega
          have HF0 := Hid.mk'' (partB_first ((numsW 60 0 z0).take i) k)
          have HF1 := Hid.mk'' (partB_snoc ((numsW 60 0 z0).take i) k)
          have HNE : Hid (i ≠ 0 → (numsW 60 0 z0).take i ≠ []) := fun h e => by rw [e] at hln; simp at hln; omega
          have HEM : Hid (i = 0 → (numsW 60 0 z0).take i = []) := fun h => by rw [h]; rfl
          have hps : (partB ((numsW 60 0 z0).take i)).size ≤ 100 := by have := HPL.out; rw [hln] at this; omega
          clear hA1 hA2 eA HPL hln HX2
          generalize byteN (48 + k / 10) = B0 at *
          generalize byteN (48 + k % 10) = B1 at *
          obtain ⟨X, hX⟩ : ∃ X, X = W2.setCell ⟨R + 1 + 1, k, none⟩ (.bool true) := ⟨_, rfl⟩
          have HXX : Hid (CF (.slice (some ⟨b0, o0, none⟩) z0.length c0) (.slice (some ⟨b1, o1, none⟩) z1.length c1) (.slice (some ⟨b2, o2, none⟩) z2.length c2) R w X (hB (((numsW 60 0 z0).take i) ++ [k]) [] []) (partB ((numsW 60 0 z0).take i)) (partB []) (partB [])) := by show CF _ _ _ _ _ _ _ _ _ _; rw [hX]; exact HX3.out
          have ppf : X.cell? ⟨R + 1 + 1 + 1, 0, none⟩ = some (.string (partB ((numsW 60 0 z0).take i))) := cell_of_row _ _ _ _ _ _ HXX.out.pp
          have ppz : X.frozen? ⟨R + 1 + 1 + 1, 0, none⟩ = false := frozen_of_row _ _ _ _ _ HXX.out.pp
          generalize hpf : partB ((numsW 60 0 z0).take i) = pf at *
          have hxl := HXX.out.lt
          by_cases hi0 : i = 0
          · have hfst := HF0.out (HEM.out hi0)
            have HFST := Hid.mk'' hfst
            clear hfst HF0 HF1 HNE HEM
            subst hi0
            have u1 := HCA.out (X.alloc (.cells #[Value.int .u8 (48 + (k : Int) / 10), Value.int .u8 (48 + (k : Int) % 10)] 5)).drew X.heap.size (heap_alloc_new X _)
            have hs2 : pf.size + 2 ≤ 9223372036854775807 := by omega
            go_upto_region 21 with (fail)
            rw [← hX]
            clear hX hcl hfr HX3
            go_region
            all_goals
              have HX5 : Hid (CFL (.slice (some ⟨b0, o0, none⟩) z0.length c0) (.slice (some ⟨b1, o1, none⟩) z1.length c1) (.slice (some ⟨b2, o2, none⟩) z2.length c2) R w ((X.setCell ⟨R + 1 + 1 + 1, 0, none⟩ (.string (pf ++ ⟨#[B0, B1]⟩))).alloc (.cells #[Value.int .u8 (48 + (k : Int) / 10), Value.int .u8 (48 + (k : Int) % 10)] 5)).drew ((numsW 60 0 z0).take (0 + 1)) [] []) := by
                show CF _ _ _ _ _ _ _ _ _ _
                rw [HTA.out, ← HFST.out]
                exact (HXX.out.setP0 _).below ((Below.refl _ _).alloc (Nat.le_refl _) _).drew
              clear u1 HXX ppf ppz
              go_wp2_with fail
              go_roundw
              case rel => exact ⟨0 + 1, rfl, by omega, HX5⟩
              case measure => simp [intOf]; omega
          · have hsn := HF1.out (HNE.out hi0)
            have HSN := Hid.mk'' hsn
            clear hsn HF0 HF1 HNE HEM
            have hip : (0 : Int) < (i : Int) := by omega
            have hs1 : pf.size + 1 ≤ 9223372036854775807 := by omega
            go_upto_region 19 with (fail)
            rw [← hX]
            clear hX hcl hfr HX3
            obtain ⟨X2, hX2⟩ : ∃ X2, X2 = X.setCell ⟨R + 1 + 1 + 1, 0, none⟩ (.string (pf ++ ⟨#[44]⟩)) := ⟨_, rfl⟩
            have HXY : Hid (CF (.slice (some ⟨b0, o0, none⟩) z0.length c0) (.slice (some ⟨b1, o1, none⟩) z1.length c1) (.slice (some ⟨b2, o2, none⟩) z2.length c2) R w X2 (hB (((numsW 60 0 z0).take i) ++ [k]) [] []) (pf ++ ⟨#[44]⟩) (partB []) (partB [])) := by show CF _ _ _ _ _ _ _ _ _ _; rw [hX2]; exact HXX.out.setP0 _
            have hs3 : (pf ++ ⟨#[44]⟩ : ByteArray).size ≤ 1000 := by rw [one_size]; omega
            go_upto_region 21 with (fail)
            rw [← hX2]
            clear hX2 HXX ppf ppz hs1
            generalize (pf ++ ⟨#[44]⟩ : ByteArray) = pg at *
            have ppf : X2.cell? ⟨R + 1 + 1 + 1, 0, none⟩ = some (.string pg) := cell_of_row _ _ _ _ _ _ HXY.out.pp
            have ppz : X2.frozen? ⟨R + 1 + 1 + 1, 0, none⟩ = false := frozen_of_row _ _ _ _ _ HXY.out.pp
            have hxl2 := HXY.out.lt
            have u1 := HCA.out (X2.alloc (.cells #[Value.int .u8 (48 + (k : Int) / 10), Value.int .u8 (48 + (k : Int) % 10)] 5)).drew X2.heap.size (heap_alloc_new X2 _)
            have hs2 : pg.size + 2 ≤ 9223372036854775807 := by omega
            go_region
            all_goals
              have HX5 : Hid (CFL (.slice (some ⟨b0, o0, none⟩) z0.length c0) (.slice (some ⟨b1, o1, none⟩) z1.length c1) (.slice (some ⟨b2, o2, none⟩) z2.length c2) R w ((X2.setCell ⟨R + 1 + 1 + 1, 0, none⟩ (.string (pg ++ ⟨#[B0, B1]⟩))).alloc (.cells #[Value.int .u8 (48 + (k : Int) / 10), Value.int .u8 (48 + (k : Int) % 10)] 5)).drew ((numsW 60 0 z0).take (i + 1)) [] []) := by
                show CF _ _ _ _ _ _ _ _ _ _
                rw [HTA.out, ← HSN.out]
                exact (HXY.out.setP0 _).below ((Below.refl _ _).alloc (Nat.le_refl _) _).drew
              clear u1 HXY ppf ppz
              go_wp2_with fail
              go_roundw
              case rel => exact ⟨i + 1, rfl, by omega, HX5⟩
              case measure => simp [intOf]; omega
        · obtain rfl : i = z0.length := by omega
          have HX6 := HX
          rw [numsW_all] at HX6
          have rrf : wr.cell? ⟨R, 0, none⟩ = some (.slice (some ⟨b0, o0, none⟩) z0.length c0) := cell_of_row _ _ _ _ _ _ HX6.out.rr
          have mmf : wr.cell? ⟨R + 1, 0, none⟩ = some (.int .i64 60) := cell_of_row _ _ _ _ _ _ HX6.out.mm
          clear HX
          go_wp2_with fail
          go_roundw
          case rel => exact ⟨0 + 1, rfl, .inr (.inl ⟨rfl, HX6⟩)⟩
          case measure => simp [intOf]
    · go_wp2_with fail
      go_loopw [14, 15] (fun ii _ W => ∃ i : Nat, ii = .int .i64 i ∧ i ≤ z1.length ∧ Hid (CFL (.slice (some ⟨b0, o0, none⟩) z0.length c0) (.slice (some ⟨b1, o1, none⟩) z1.length c1) (.slice (some ⟨b2, o2, none⟩) z2.length c2) R w W (numsW 60 0 z0) ((numsW 24 0 z1).take i) [])) (fun ii _ _ => z1.length - (intOf ii).toNat)
      case atStart => exact ⟨0, rfl, Nat.zero_le _, HC⟩
      case round =>
        clear HC
        obtain ⟨i, rfl, hi, HX⟩ := hrel
        by_cases hil : i < z1.length
        · have hz := HC1.out wr HX.out.bel i hil
          have hw := fun W => within_any (z1.getD i 0) 24 W (by decide) (by decide)
          have hwb := withinF_bd (z1.getD i 0) 24 (by decide)
          have hta := numsW_at 24 0 z1 i hil
          obtain ⟨k, hk⟩ : ∃ k : Nat, withinF (z1.getD i 0) 24 = k := ⟨(withinF (z1.getD i 0) 24).toNat, by omega⟩
          rw [hk] at hw hwb
          rw [show ((24 : Nat) : Int) = 24 from rfl, hk, Int.toNat_natCast] at hta
          have hta : (numsW 24 0 z1).take (i + 1) = (numsW 24 0 z1).take i ++ [k] := hta
          have HTA := Hid.mk'' hta
          clear hk hta
          generalize z1.getD i 0 = z at *
          have rrf : wr.cell? ⟨R, 1, none⟩ = some (.slice (some ⟨b1, o1, none⟩) z1.length c1) := cell_of_row _ _ _ _ _ _ HX.out.rr
          have mmf : wr.cell? ⟨R + 1, 1, none⟩ = some (.int .i64 24) := cell_of_row _ _ _ _ _ _ HX.out.mm
          go_wp2_with fail
          go_quiet ((go_at_call 22; with_reducible exact Calls.quiet_of_same (hw _)))
          obtain ⟨W2, hW2⟩ : ∃ W2, W2 = wr.drewN nq := ⟨_, rfl⟩
          rw [← hW2]
          have HX2 : Hid (CFL (.slice (some ⟨b0, o0, none⟩) z0.length c0) (.slice (some ⟨b1, o1, none⟩) z1.length c1) (.slice (some ⟨b2, o2, none⟩) z2.length c2) R w W2 (numsW 60 0 z0) ((numsW 24 0 z1).take i) []) := by show CF _ _ _ _ _ _ _ _ _ _; rw [hW2]; exact HX.out.below (below_drewN (Below.refl _ _) _)
          clear hW2 HX hz hw rrf mmf
          have hcl : W2.cell? ⟨R + 1 + 1, (60 + k), none⟩ = _ := HX2.out.cellH (j := (60 + k)) (by omega)
          have hfr : W2.frozen? ⟨R + 1 + 1, (60 + k), none⟩ = false := HX2.out.freeH (60 + k)
          have HX3 := Hid.mk'' ((HX2.out.setH (60 + k)).congr (fun j _ => hB_1 _ _ _ k j))
          have hA1 : (byteN (48 + k / 10)).toNat = 48 + k / 10 := byteN_nat (by omega)
          have hA2 : (byteN (48 + k % 10)).toNat = 48 + k % 10 := byteN_nat (by omega)
          have eA : (#[Value.int .u8 (48 + (k : Int) / 10), Value.int .u8 (48 + (k : Int) % 10)] : Array Value) = ([byteN (48 + k / 10), byteN (48 + k % 10)].map fun b => Value.int .u8 (b.toNat : Int)).toArray := by simp [hA1, hA2]
          have HCA := Hid.mk'' (fun (W : World) (g : Nat) (h : W.heap[g]? = some (.cells #[Value.int .u8 (48 + (k : Int) / 10), Value.int .u8 (48 + (k : Int) % 10)] 5 (0, 0))) => conv_at h eA 2 2 rfl)
          have HPL := Hid.mk'' (partB_size ((numsW 24 0 z1).take i))
          have hln : ((numsW 24 0 z1).take i).length = i := by simp [numsW]; omega
          have HF0 := Hid.mk'' (partB_first ((numsW 24 0 z1).take i) k)
          have HF1 := Hid.mk'' (partB_snoc ((numsW 24 0 z1).take i) k)
          have HNE : Hid (i ≠ 0 → (numsW 24 0 z1).take i ≠ []) := fun h e => by rw [e] at hln; simp at hln; omega
          have HEM : Hid (i = 0 → (numsW 24 0 z1).take i = []) := fun h => by rw [h]; rfl
          have hps : (partB ((numsW 24 0 z1).take i)).size ≤ 100 := by have := HPL.out; rw [hln] at this; omega
          clear hA1 hA2 eA HPL hln HX2
          generalize byteN (48 + k / 10) = B0 at *
          generalize byteN (48 + k % 10) = B1 at *
          obtain ⟨X, hX⟩ : ∃ X, X = W2.setCell ⟨R + 1 + 1, (60 + k), none⟩ (.bool true) := ⟨_, rfl⟩
          have HXX : Hid (CF (.slice (some ⟨b0, o0, none⟩) z0.length c0) (.slice (some ⟨b1, o1, none⟩) z1.length c1) (.slice (some ⟨b2, o2, none⟩) z2.length c2) R w X (hB (numsW 60 0 z0) (((numsW 24 0 z1).take i) ++ [k]) []) (partB (numsW 60 0 z0)) (partB ((numsW 24 0 z1).take i)) (partB [])) := by show CF _ _ _ _ _ _ _ _ _ _; rw [hX]; exact HX3.out
          have ppf : X.cell? ⟨R + 1 + 1 + 1, 1, none⟩ = some (.string (partB ((numsW 24 0 z1).take i))) := cell_of_row _ _ _ _ _ _ HXX.out.pp
          have ppz : X.frozen? ⟨R + 1 + 1 + 1, 1, none⟩ = false := frozen_of_row _ _ _ _ _ HXX.out.pp
          generalize hpf : partB ((numsW 24 0 z1).take i) = pf at *
          have hxl := HXX.out.lt
          by_cases hi0 : i = 0
          · have hfst := HF0.out (HEM.out hi0)
            have HFST := Hid.mk'' hfst
            clear hfst HF0 HF1 HNE HEM
            subst hi0
            have u1 := HCA.out (X.alloc (.cells #[Value.int .u8 (48 + (k : Int) / 10), Value.int .u8 (48 + (k : Int) % 10)] 5)).drew X.heap.size (heap_alloc_new X _)
            have hs2 : pf.size + 2 ≤ 9223372036854775807 := by omega
            go_upto_region 21 with (fail)
            rw [← hX]
            clear hX hcl hfr HX3
            go_region
            all_goals
              have HX5 : Hid (CFL (.slice (some ⟨b0, o0, none⟩) z0.length c0) (.slice (some ⟨b1, o1, none⟩) z1.length c1) (.slice (some ⟨b2, o2, none⟩) z2.length c2) R w ((X.setCell ⟨R + 1 + 1 + 1, 1, none⟩ (.string (pf ++ ⟨#[B0, B1]⟩))).alloc (.cells #[Value.int .u8 (48 + (k : Int) / 10), Value.int .u8 (48 + (k : Int) % 10)] 5)).drew (numsW 60 0 z0) ((numsW 24 0 z1).take (0 + 1)) []) := by
                show CF _ _ _ _ _ _ _ _ _ _
                rw [HTA.out, ← HFST.out]
                exact (HXX.out.setP1 _).below ((Below.refl _ _).alloc (Nat.le_refl _) _).drew
              clear u1 HXX ppf ppz
              go_wp2_with fail
              go_roundw
              case rel => exact ⟨0 + 1, rfl, by omega, HX5⟩
              case measure => simp [intOf]; omega
          · have hsn := HF1.out (HNE.out hi0)
            have HSN := Hid.mk'' hsn
            clear hsn HF0 HF1 HNE HEM
            have hip : (0 : Int) < (i : Int) := by omega
            have hs1 : pf.size + 1 ≤ 9223372036854775807 := by omega
            go_upto_region 19 with (fail)
            rw [← hX]
            clear hX hcl hfr HX3
            obtain ⟨X2, hX2⟩ : ∃ X2, X2 = X.setCell ⟨R + 1 + 1 + 1, 1, none⟩ (.string (pf ++ ⟨#[44]⟩)) := ⟨_, rfl⟩
            have HXY : Hid (CF (.slice (some ⟨b0, o0, none⟩) z0.length c0) (.slice (some ⟨b1, o1, none⟩) z1.length c1) (.slice (some ⟨b2, o2, none⟩) z2.length c2) R w X2 (hB (numsW 60 0 z0) (((numsW 24 0 z1).take i) ++ [k]) []) (partB (numsW 60 0 z0)) (pf ++ ⟨#[44]⟩) (partB [])) := by show CF _ _ _ _ _ _ _ _ _ _; rw [hX2]; exact HXX.out.setP1 _
            have hs3 : (pf ++ ⟨#[44]⟩ : ByteArray).size ≤ 1000 := by rw [one_size]; omega
            go_upto_region 21 with (fail)
            rw [← hX2]
            clear hX2 HXX ppf ppz hs1
            generalize (pf ++ ⟨#[44]⟩ : ByteArray) = pg at *
            have ppf : X2.cell? ⟨R + 1 + 1 + 1, 1, none⟩ = some (.string pg) := cell_of_row _ _ _ _ _ _ HXY.out.pp
            have ppz : X2.frozen? ⟨R + 1 + 1 + 1, 1, none⟩ = false := frozen_of_row _ _ _ _ _ HXY.out.pp
            have hxl2 := HXY.out.lt
            have u1 := HCA.out (X2.alloc (.cells #[Value.int .u8 (48 + (k : Int) / 10), Value.int .u8 (48 + (k : Int) % 10)] 5)).drew X2.heap.size (heap_alloc_new X2 _)
            have hs2 : pg.size + 2 ≤ 9223372036854775807 := by omega
            go_region
            all_goals
              have HX5 : Hid (CFL (.slice (some ⟨b0, o0, none⟩) z0.length c0) (.slice (some ⟨b1, o1, none⟩) z1.length c1) (.slice (some ⟨b2, o2, none⟩) z2.length c2) R w ((X2.setCell ⟨R + 1 + 1 + 1, 1, none⟩ (.string (pg ++ ⟨#[B0, B1]⟩))).alloc (.cells #[Value.int .u8 (48 + (k : Int) / 10), Value.int .u8 (48 + (k : Int) % 10)] 5)).drew (numsW 60 0 z0) ((numsW 24 0 z1).take (i + 1)) []) := by
                show CF _ _ _ _ _ _ _ _ _ _
                rw [HTA.out, ← HSN.out]
                exact (HXY.out.setP1 _).below ((Below.refl _ _).alloc (Nat.le_refl _) _).drew
              clear u1 HXY ppf ppz
              go_wp2_with fail
              go_roundw
              case rel => exact ⟨i + 1, rfl, by omega, HX5⟩
              case measure => simp [intOf]; omega
        · obtain rfl : i = z1.length := by omega
          have HX6 := HX
          rw [numsW_all] at HX6
          have rrf : wr.cell? ⟨R, 1, none⟩ = some (.slice (some ⟨b1, o1, none⟩) z1.length c1) := cell_of_row _ _ _ _ _ _ HX6.out.rr
          have mmf : wr.cell? ⟨R + 1, 1, none⟩ = some (.int .i64 24) := cell_of_row _ _ _ _ _ _ HX6.out.mm
          clear HX
          go_wp2_with fail
          go_roundw
          case rel => exact ⟨1 + 1, rfl, .inr (.inr (.inl ⟨rfl, HX6⟩))⟩
          case measure => simp [intOf]
    · go_wp2_with fail
      go_loopw [14, 15] (fun ii _ W => ∃ i : Nat, ii = .int .i64 i ∧ i ≤ z2.length ∧ Hid (CFL (.slice (some ⟨b0, o0, none⟩) z0.length c0) (.slice (some ⟨b1, o1, none⟩) z1.length c1) (.slice (some ⟨b2, o2, none⟩) z2.length c2) R w W (numsW 60 0 z0) (numsW 24 0 z1) ((numsW 12 1 z2).take i))) (fun ii _ _ => z2.length - (intOf ii).toNat)
      case atStart => exact ⟨0, rfl, Nat.zero_le _, HC⟩
      case round =>
        clear HC
        obtain ⟨i, rfl, hi, HX⟩ := hrel
        by_cases hil : i < z2.length
        · have hz := HC2.out wr HX.out.bel i hil
          have hw := fun W => within_any (z2.getD i 0) 12 W (by decide) (by decide)
          have hwb := withinF_bd (z2.getD i 0) 12 (by decide)
          have hta := numsW_at 12 1 z2 i hil
          obtain ⟨k, hk⟩ : ∃ k : Nat, withinF (z2.getD i 0) 12 = k := ⟨(withinF (z2.getD i 0) 12).toNat, by omega⟩
          rw [hk] at hw hwb
          rw [show ((12 : Nat) : Int) = 12 from rfl, hk, Int.toNat_natCast] at hta
          have HTA := Hid.mk'' hta
          clear hk hta
          generalize z2.getD i 0 = z at *
          have rrf : wr.cell? ⟨R, 2, none⟩ = some (.slice (some ⟨b2, o2, none⟩) z2.length c2) := cell_of_row _ _ _ _ _ _ HX.out.rr
          have mmf : wr.cell? ⟨R + 1, 2, none⟩ = some (.int .i64 12) := cell_of_row _ _ _ _ _ _ HX.out.mm
          go_wp2_with fail
          go_quiet ((go_at_call 22; with_reducible exact Calls.quiet_of_same (hw _)))
          obtain ⟨W2, hW2⟩ : ∃ W2, W2 = wr.drewN nq := ⟨_, rfl⟩
          rw [← hW2]
          have HX2 : Hid (CFL (.slice (some ⟨b0, o0, none⟩) z0.length c0) (.slice (some ⟨b1, o1, none⟩) z1.length c1) (.slice (some ⟨b2, o2, none⟩) z2.length c2) R w W2 (numsW 60 0 z0) (numsW 24 0 z1) ((numsW 12 1 z2).take i)) := by show CF _ _ _ _ _ _ _ _ _ _; rw [hW2]; exact HX.out.below (below_drewN (Below.refl _ _) _)
          clear hW2 HX hz hw rrf mmf
          have hcl : W2.cell? ⟨R + 1 + 1, (120 + (k + 1)), none⟩ = _ := HX2.out.cellH (j := (120 + (k + 1))) (by omega)
          have hfr : W2.frozen? ⟨R + 1 + 1, (120 + (k + 1)), none⟩ = false := HX2.out.freeH (120 + (k + 1))
          have HX3 := Hid.mk'' ((HX2.out.setH (120 + (k + 1))).congr (fun j _ => hB_2 _ _ _ (k + 1) j))
          have hA1 : (byteN (48 + (k + 1) / 10)).toNat = 48 + (k + 1) / 10 := byteN_nat (by omega)
          have hA2 : (byteN (48 + (k + 1) % 10)).toNat = 48 + (k + 1) % 10 := byteN_nat (by omega)
          have eA : (#[Value.int .u8 (48 + ((k : Int) + 1) / 10), Value.int .u8 (48 + ((k : Int) + 1) % 10)] : Array Value) = ([byteN (48 + (k + 1) / 10), byteN (48 + (k + 1) % 10)].map fun b => Value.int .u8 (b.toNat : Int)).toArray := by simp [hA1, hA2]
          have HCA := Hid.mk'' (fun (W : World) (g : Nat) (h : W.heap[g]? = some (.cells #[Value.int .u8 (48 + ((k : Int) + 1) / 10), Value.int .u8 (48 + ((k : Int) + 1) % 10)] 5 (0, 0))) => conv_at h eA 2 2 rfl)
          have HPL := Hid.mk'' (partB_size ((numsW 12 1 z2).take i))
          have hln : ((numsW 12 1 z2).take i).length = i := by simp [numsW]; omega
          have HF0 := Hid.mk'' (partB_first ((numsW 12 1 z2).take i) (k + 1))
          have HF1 := Hid.mk'' (partB_snoc ((numsW 12 1 z2).take i) (k + 1))
          have HNE : Hid (i ≠ 0 → (numsW 12 1 z2).take i ≠ []) := fun h e => by rw [e] at hln; simp at hln; omega
          have HEM : Hid (i = 0 → (numsW 12 1 z2).take i = []) := fun h => by rw [h]; rfl
          have hps : (partB ((numsW 12 1 z2).take i)).size ≤ 100 := by have := HPL.out; rw [hln] at this; omega
          clear hA1 hA2 eA HPL hln HX2
          generalize byteN (48 + (k + 1) / 10) = B0 at *
          generalize byteN (48 + (k + 1) % 10) = B1 at *
          obtain ⟨X, hX⟩ : ∃ X, X = W2.setCell ⟨R + 1 + 1, (120 + (k + 1)), none⟩ (.bool true) := ⟨_, rfl⟩
          have HXX : Hid (CF (.slice (some ⟨b0, o0, none⟩) z0.length c0) (.slice (some ⟨b1, o1, none⟩) z1.length c1) (.slice (some ⟨b2, o2, none⟩) z2.length c2) R w X (hB (numsW 60 0 z0) (numsW 24 0 z1) (((numsW 12 1 z2).take i) ++ [(k + 1)])) (partB (numsW 60 0 z0)) (partB (numsW 24 0 z1)) (partB ((numsW 12 1 z2).take i))) := by show CF _ _ _ _ _ _ _ _ _ _; rw [hX]; exact HX3.out
          have ppf : X.cell? ⟨R + 1 + 1 + 1, 2, none⟩ = some (.string (partB ((numsW 12 1 z2).take i))) := cell_of_row _ _ _ _ _ _ HXX.out.pp
          have ppz : X.frozen? ⟨R + 1 + 1 + 1, 2, none⟩ = false := frozen_of_row _ _ _ _ _ HXX.out.pp
          generalize hpf : partB ((numsW 12 1 z2).take i) = pf at *
          have hxl := HXX.out.lt
          by_cases hi0 : i = 0
          · have hfst := HF0.out (HEM.out hi0)
            have HFST := Hid.mk'' hfst
            clear hfst HF0 HF1 HNE HEM
            subst hi0
            have u1 := HCA.out (X.alloc (.cells #[Value.int .u8 (48 + ((k : Int) + 1) / 10), Value.int .u8 (48 + ((k : Int) + 1) % 10)] 5)).drew X.heap.size (heap_alloc_new X _)
            have hs2 : pf.size + 2 ≤ 9223372036854775807 := by omega
            go_upto_region 21 with (fail)
            rw [← hX]
            clear hX hcl hfr HX3
            go_region
            all_goals
              have HX5 : Hid (CFL (.slice (some ⟨b0, o0, none⟩) z0.length c0) (.slice (some ⟨b1, o1, none⟩) z1.length c1) (.slice (some ⟨b2, o2, none⟩) z2.length c2) R w ((X.setCell ⟨R + 1 + 1 + 1, 2, none⟩ (.string (pf ++ ⟨#[B0, B1]⟩))).alloc (.cells #[Value.int .u8 (48 + ((k : Int) + 1) / 10), Value.int .u8 (48 + ((k : Int) + 1) % 10)] 5)).drew (numsW 60 0 z0) (numsW 24 0 z1) ((numsW 12 1 z2).take (0 + 1))) := by
                show CF _ _ _ _ _ _ _ _ _ _
                rw [HTA.out, ← HFST.out]
                exact (HXX.out.setP2 _).below ((Below.refl _ _).alloc (Nat.le_refl _) _).drew
              clear u1 HXX ppf ppz
              go_wp2_with fail
              go_roundw
              case rel => exact ⟨0 + 1, rfl, by omega, HX5⟩
              case measure => simp [intOf]; omega
          · have hsn := HF1.out (HNE.out hi0)
            have HSN := Hid.mk'' hsn
            clear hsn HF0 HF1 HNE HEM
            have hip : (0 : Int) < (i : Int) := by omega
            have hs1 : pf.size + 1 ≤ 9223372036854775807 := by omega
            go_upto_region 19 with (fail)
            rw [← hX]
            clear hX hcl hfr HX3
            obtain ⟨X2, hX2⟩ : ∃ X2, X2 = X.setCell ⟨R + 1 + 1 + 1, 2, none⟩ (.string (pf ++ ⟨#[44]⟩)) := ⟨_, rfl⟩
            have HXY : Hid (CF (.slice (some ⟨b0, o0, none⟩) z0.length c0) (.slice (some ⟨b1, o1, none⟩) z1.length c1) (.slice (some ⟨b2, o2, none⟩) z2.length c2) R w X2 (hB (numsW 60 0 z0) (numsW 24 0 z1) (((numsW 12 1 z2).take i) ++ [(k + 1)])) (partB (numsW 60 0 z0)) (partB (numsW 24 0 z1)) (pf ++ ⟨#[44]⟩)) := by show CF _ _ _ _ _ _ _ _ _ _; rw [hX2]; exact HXX.out.setP2 _
            have hs3 : (pf ++ ⟨#[44]⟩ : ByteArray).size ≤ 1000 := by rw [one_size]; omega
            go_upto_region 21 with (fail)
            rw [← hX2]
            clear hX2 HXX ppf ppz hs1
            generalize (pf ++ ⟨#[44]⟩ : ByteArray) = pg at *
            have ppf : X2.cell? ⟨R + 1 + 1 + 1, 2, none⟩ = some (.string pg) := cell_of_row _ _ _ _ _ _ HXY.out.pp
            have ppz : X2.frozen? ⟨R + 1 + 1 + 1, 2, none⟩ = false := frozen_of_row _ _ _ _ _ HXY.out.pp
            have hxl2 := HXY.out.lt
            have u1 := HCA.out (X2.alloc (.cells #[Value.int .u8 (48 + ((k : Int) + 1) / 10), Value.int .u8 (48 + ((k : Int) + 1) % 10)] 5)).drew X2.heap.size (heap_alloc_new X2 _)
            have hs2 : pg.size + 2 ≤ 9223372036854775807 := by omega
            go_region
            all_goals
              have HX5 : Hid (CFL (.slice (some ⟨b0, o0, none⟩) z0.length c0) (.slice (some ⟨b1, o1, none⟩) z1.length c1) (.slice (some ⟨b2, o2, none⟩) z2.length c2) R w ((X2.setCell ⟨R + 1 + 1 + 1, 2, none⟩ (.string (pg ++ ⟨#[B0, B1]⟩))).alloc (.cells #[Value.int .u8 (48 + ((k : Int) + 1) / 10), Value.int .u8 (48 + ((k : Int) + 1) % 10)] 5)).drew (numsW 60 0 z0) (numsW 24 0 z1) ((numsW 12 1 z2).take (i + 1))) := by
                show CF _ _ _ _ _ _ _ _ _ _
                rw [HTA.out, ← HSN.out]
                exact (HXY.out.setP2 _).below ((Below.refl _ _).alloc (Nat.le_refl _) _).drew
              clear u1 HXY ppf ppz
              go_wp2_with fail
              go_roundw
              case rel => exact ⟨i + 1, rfl, by omega, HX5⟩
              case measure => simp [intOf]; omega
        · obtain rfl : i = z2.length := by omega
          have HX6 := HX
          rw [numsW_all] at HX6
          have rrf : wr.cell? ⟨R, 2, none⟩ = some (.slice (some ⟨b2, o2, none⟩) z2.length c2) := cell_of_row _ _ _ _ _ _ HX6.out.rr
          have mmf : wr.cell? ⟨R + 1, 2, none⟩ = some (.int .i64 12) := cell_of_row _ _ _ _ _ _ HX6.out.mm
          clear HX
          go_wp2_with fail
          go_roundw
          case rel => exact ⟨2 + 1, rfl, .inr (.inr (.inr ⟨rfl, HX6⟩))⟩
          case measure => simp [intOf]
    · have la : (numsW 60 0 z0).length = z0.length := by simp [numsW]
      have lb : (numsW 24 0 z1).length = z1.length := by simp [numsW]
      have lc : (numsW 12 1 z2).length = z2.length := by simp [numsW]
      have ga : ∀ n ∈ numsW 60 0 z0, n ≤ 59 := fun n hn => by have := numsW_bd 60 0 (by decide) z0 n hn; omega
      have gb : ∀ n ∈ numsW 24 0 z1, n ≤ 23 := fun n hn => by have := numsW_bd 24 0 (by decide) z1 n hn; omega
      have gc : ∀ n ∈ numsW 12 1 z2, 1 ≤ n ∧ n ≤ 12 := fun n hn => by have := numsW_bd 12 1 (by decide) z2 n hn; omega
      have hm := fun W => minF_any x3 W
      have hmb := minF_bd x3
      generalize minF x3 = a at *
      generalize numsW 60 0 z0 = A at *
      generalize numsW 24 0 z1 = B at *
      generalize numsW 12 1 z2 = C at *
      have HPA := Hid.mk'' (fieldsB_parse A B C (fun e => by rw [e] at la; simp at la; omega) (fun e => by rw [e] at lb; simp at lb; omega) (fun e => by rw [e] at lc; simp at lc; omega) ga gb gc)
      have HPS := Hid.mk'' (fieldsB_size A B C (by omega))
      have HOK := Hid.mk'' (fields_ok A B C ga gb gc)
      have HDA : Hid (∀ {n y m d' h mi wd'}, IsAt n y m d' h mi wd' → okAt (fieldsE A B C) m d' h mi wd' = _) := fun hA => fields_at A B C hA
      have HA6 : Hid (∀ n ∈ A, n < 60) := fun n hn => by have := ga n hn; omega
      have HB6 : Hid (∀ n ∈ B, n < 60) := fun n hn => by have := gb n hn; omega
      have s0 := partB_size A
      have s1 := partB_size B
      have s2 := partB_size C
      have pp0 : wr.cell? ⟨R + 1 + 1 + 1, 0, none⟩ = some (.string (partB A)) := cell_of_row _ _ _ _ _ _ HC.out.pp
      have pp1 : wr.cell? ⟨R + 1 + 1 + 1, 1, none⟩ = some (.string (partB B)) := cell_of_row _ _ _ _ _ _ HC.out.pp
      have pp2 : wr.cell? ⟨R + 1 + 1 + 1, 2, none⟩ = some (.string (partB C)) := cell_of_row _ _ _ _ _ _ HC.out.pp
      have hp := parse_yes _ _ HPA.out HPS.out wr (HT.out _ HC.out.bel)
      generalize partB A = p0 at pp0 s0 hp
      generalize partB B = p1 at pp1 s1 hp
      generalize partB C = p2 at pp2 s2 hp
      have t0 : p0.size + 1 ≤ 9223372036854775807 := by omega
      have t1 : p0.size + 1 + p1.size ≤ 9223372036854775807 := by omega
      have t2 : p0.size + 1 + p1.size + 3 ≤ 9223372036854775807 := by omega
      have t3 : p0.size + 1 + p1.size + 3 + p2.size ≤ 9223372036854775807 := by omega
      have t4 : p0.size + 1 + p1.size + 3 + p2.size + 3 ≤ 9223372036854775807 := by omega
      clear HPA HPS HC0 HC1 HC2 la lb lc ga gb gc e0 e1 e2 e3 g0 g1 g2 g3 s0 s1 s2 m0 m1 m2
      unfold expV at hp
      go_wp2_with fail
      refine hp.mono ?_
      rintro e w3 ⟨rfl, hb3⟩
      have HC3 := Hid.mk'' (HC.out.below hb3)
      have HF : Hid (FWx (.slice (some ⟨b0, o0, none⟩) z0.length c0) (.slice (some ⟨b1, o1, none⟩) z1.length c1) (.slice (some ⟨b2, o2, none⟩) z2.length c2) R (fieldsE A B C) w3.heap.size w (w3.alloc (.cells #[.int .u64 (fieldsE A B C).mi, .int .u64 (fieldsE A B C).ho, .int .u64 (fieldsE A B C).da, .int .u64 (fieldsE A B C).mo, .int .u64 (fieldsE A B C).wk, .bool (fieldsE A B C).ad, .bool (fieldsE A B C).aw] 25)) A B C) := ⟨EW.start HC3.out.bel (HT.out _ HC3.out.bel), HC3.out.below ((Below.refl _ _).alloc (Nat.le_refl _) _)⟩
      clear hp hb3 HC HC3 pp0 pp1 pp2 t0 t1 t2 t3 t4 HT
      generalize fieldsE A B C = x at *
      obtain ⟨U, hU⟩ : ∃ U, U = w3.alloc (.cells #[.int .u64 x.mi, .int .u64 x.ho, .int .u64 x.da, .int .u64 x.mo, .int .u64 x.wk, .bool x.ad, .bool x.aw] 25) := ⟨_, rfl⟩
      rw [← hU] at HF
      go_upto_region 23 with (fail)
      rw [← hU]
      clear hU
      generalize w3.heap.size = E at *
      go_wp2_with (go_at_call 21; refine (hm _).mono ?_; rintro e w4 ⟨rfl, rfl⟩)
      go_loopw [18, 19] (fun rm rk W => ∃ (k : Nat) (n : Int), rm = .int .i64 n ∧ rk = .int .i64 k ∧ k ≤ 3 ∧ -1035593280 ≤ n ∧ n ≤ 4223371679 ∧ Hid (FWx (.slice (some ⟨b0, o0, none⟩) z0.length c0) (.slice (some ⟨b1, o1, none⟩) z1.length c1) (.slice (some ⟨b2, o2, none⟩) z2.length c2) R x E w W A B C)) (fun _ rk _ => 3 - (intOf rk).toNat)
      case atStart => exact ⟨0, a, rfl, rfl, by decide, by omega, by omega, HF⟩
      case round =>
        clear HF hm hmb
        obtain ⟨k, n, rfl, rfl, hk, n0, n1, HF⟩ := hrel
        by_cases hk3 : k < 3
        · have hof := of_yes n wr HF.out.ew.tab n0 n1
          go_wp2_with fail
          refine hof.mono ?_
          rintro e w5 ⟨⟨y, mo, d, ho, mi, wd, rfl, hA⟩, hb5⟩
          have hbd := hA.bd
          obtain ⟨mo, rfl⟩ : ∃ j : Nat, mo = j := ⟨mo.toNat, by omega⟩
          obtain ⟨ho, rfl⟩ : ∃ j : Nat, ho = j := ⟨ho.toNat, by omega⟩
          obtain ⟨mi, rfl⟩ : ∃ j : Nat, mi = j := ⟨mi.toNat, by omega⟩
          have HF5 := Hid.mk'' (HF.out.below hb5)
          have HD : Hid (DWx (.slice (some ⟨b0, o0, none⟩) z0.length c0) (.slice (some ⟨b1, o1, none⟩) z1.length c1) (.slice (some ⟨b2, o2, none⟩) z2.length c2) R x E w5.heap.size w (w5.alloc (.cells #[.int .i64 y, .int .i64 mo, .int .i64 d, .int .i64 ho, .int .i64 mi, .int .i64 wd] 55)) A B C y mo d ho mi wd) := ⟨HF5.out.below ((Below.refl _ _).alloc (Nat.le_refl _) _), heap_alloc_new w5 _⟩
          have mt := fun W hT => matches_at x HOK.out n y mo d ho mi wd hA n0 n1 W hT
          rw [HDA.out hA] at mt
          simp only [Int.toNat_natCast] at mt
          have HMT := Hid.mk'' mt
          clear hof hb5 hA mt HF HF5
          obtain ⟨V, hV⟩ : ∃ V, V = w5.alloc (.cells #[.int .i64 y, .int .i64 mo, .int .i64 d, .int .i64 ho, .int .i64 mi, .int .i64 wd] 55) := ⟨_, rfl⟩
          rw [← hV] at HD
          go_upto_region 30 with (fail)
          rw [← hV]
          clear hV
          generalize w5.heap.size = D at *
          have HQ0 := Hid.mk'' (hB_at0 A B C mi (by omega))
          have HQ1 := Hid.mk'' (hB_at1 A B C ho (by omega) HA6.out)
          have HQ2 := Hid.mk'' (hB_at2 A B C mo HA6.out HB6.out)
          generalize decide (mi ∈ A) = q0 at *
          generalize decide (ho ∈ B) = q1 at *
          generalize decide (mo ∈ C) = q2 at *
          have HS : Hid (∀ W, DWx (.slice (some ⟨b0, o0, none⟩) z0.length c0) (.slice (some ⟨b1, o1, none⟩) z1.length c1) (.slice (some ⟨b2, o2, none⟩) z2.length c2) R x E D w W A B C y mo d ho mi wd → (W.cell? ⟨E, 0, none⟩ = some (.int .u64 x.mi) ∧ W.cell? ⟨E, 1, none⟩ = some (.int .u64 x.ho) ∧ W.cell? ⟨E, 2, none⟩ = some (.int .u64 x.da) ∧ W.cell? ⟨E, 3, none⟩ = some (.int .u64 x.mo) ∧ W.cell? ⟨E, 4, none⟩ = some (.int .u64 x.wk) ∧ W.cell? ⟨E, 5, none⟩ = some (.bool x.ad) ∧ W.cell? ⟨E, 6, none⟩ = some (.bool x.aw) ∧ W.cell? ⟨D, 1, none⟩ = some (.int .i64 (mo : Int)) ∧ W.cell? ⟨D, 3, none⟩ = some (.int .i64 (ho : Int)) ∧ W.cell? ⟨D, 4, none⟩ = some (.int .i64 (mi : Int)) ∧ W.cell? ⟨R + 1 + 1, mi, none⟩ = some (.bool q0) ∧ W.cell? ⟨R + 1 + 1, 60 + ho, none⟩ = some (.bool q1) ∧ W.cell? ⟨R + 1 + 1, 120 + mo, none⟩ = some (.bool q2) ∧ Hid (DWx (.slice (some ⟨b0, o0, none⟩) z0.length c0) (.slice (some ⟨b1, o1, none⟩) z1.length c1) (.slice (some ⟨b2, o2, none⟩) z2.length c2) R x E D w W A B C y mo d ho mi wd))) := fun W h => by
            obtain ⟨k0, k1, k2, k3, k4, k5, k6⟩ := h.fw.ew.cells
            refine ⟨k0, k1, k2, k3, k4, k5, k6, cell_of_row _ _ _ _ _ _ h.row, cell_of_row _ _ _ _ _ _ h.row, cell_of_row _ _ _ _ _ _ h.row, ?_, ?_, ?_, h⟩
            · rw [← HQ0.out]; exact h.fw.cf.cellH (by omega)
            · rw [← HQ1.out]; exact h.fw.cf.cellH (by omega)
            · rw [← HQ2.out]; exact h.fw.cf.cellH (by omega)
          have M1 : Hid (∀ W, (W.cell? ⟨E, 0, none⟩ = some (.int .u64 x.mi) ∧ W.cell? ⟨E, 1, none⟩ = some (.int .u64 x.ho) ∧ W.cell? ⟨E, 2, none⟩ = some (.int .u64 x.da) ∧ W.cell? ⟨E, 3, none⟩ = some (.int .u64 x.mo) ∧ W.cell? ⟨E, 4, none⟩ = some (.int .u64 x.wk) ∧ W.cell? ⟨E, 5, none⟩ = some (.bool x.ad) ∧ W.cell? ⟨E, 6, none⟩ = some (.bool x.aw) ∧ W.cell? ⟨D, 1, none⟩ = some (.int .i64 (mo : Int)) ∧ W.cell? ⟨D, 3, none⟩ = some (.int .i64 (ho : Int)) ∧ W.cell? ⟨D, 4, none⟩ = some (.int .i64 (mi : Int)) ∧ W.cell? ⟨R + 1 + 1, mi, none⟩ = some (.bool q0) ∧ W.cell? ⟨R + 1 + 1, 60 + ho, none⟩ = some (.bool q1) ∧ W.cell? ⟨R + 1 + 1, 120 + mo, none⟩ = some (.bool q2) ∧ Hid (DWx (.slice (some ⟨b0, o0, none⟩) z0.length c0) (.slice (some ⟨b1, o1, none⟩) z1.length c1) (.slice (some ⟨b2, o2, none⟩) z2.length c2) R x E D w W A B C y mo d ho mi wd)) → Calls Tryd.prog 19 #[expV x, .int .i64 n] W fun r W' => r = .returned (.bool (q0 && q1 && q2)) ∧ (W'.cell? ⟨E, 0, none⟩ = some (.int .u64 x.mi) ∧ W'.cell? ⟨E, 1, none⟩ = some (.int .u64 x.ho) ∧ W'.cell? ⟨E, 2, none⟩ = some (.int .u64 x.da) ∧ W'.cell? ⟨E, 3, none⟩ = some (.int .u64 x.mo) ∧ W'.cell? ⟨E, 4, none⟩ = some (.int .u64 x.wk) ∧ W'.cell? ⟨E, 5, none⟩ = some (.bool x.ad) ∧ W'.cell? ⟨E, 6, none⟩ = some (.bool x.aw) ∧ W'.cell? ⟨D, 1, none⟩ = some (.int .i64 (mo : Int)) ∧ W'.cell? ⟨D, 3, none⟩ = some (.int .i64 (ho : Int)) ∧ W'.cell? ⟨D, 4, none⟩ = some (.int .i64 (mi : Int)) ∧ W'.cell? ⟨R + 1 + 1, mi, none⟩ = some (.bool q0) ∧ W'.cell? ⟨R + 1 + 1, 60 + ho, none⟩ = some (.bool q1) ∧ W'.cell? ⟨R + 1 + 1, 120 + mo, none⟩ = some (.bool q2) ∧ Hid (DWx (.slice (some ⟨b0, o0, none⟩) z0.length c0) (.slice (some ⟨b1, o1, none⟩) z1.length c1) (.slice (some ⟨b2, o2, none⟩) z2.length c2) R x E D w W' A B C y mo d ho mi wd))) := fun W h => by
            have hD := h.2.2.2.2.2.2.2.2.2.2.2.2.2.out
            exact (HMT.out W hD.fw.ew.tab).mono fun r W' h' => ⟨h'.1, HS.out _ (hD.below h'.2)⟩
          have hS0 := HS.out V HD.out
          have hS1 := HS.out V.drew (HD.out.below (Below.refl _ _).drew)
          have m1 := M1.out
          unfold expV at m1
          clear M1 HQ0 HQ1 HQ2 HS HMT HD
          cases q0
          · simp only [Bool.false_and] at m1
            have bi0 : ((mi : Nat) : Int) < 60 := by omega
            have bi1 : ((ho : Nat) : Int) < 60 := by omega
            have bi2 : ((mo : Nat) : Int) < 60 := by omega
            refine wp_region_held_drew (S := (fun w' => (w'.cell? ⟨E, 0, none⟩ = some (.int .u64 x.mi) ∧ w'.cell? ⟨E, 1, none⟩ = some (.int .u64 x.ho) ∧ w'.cell? ⟨E, 2, none⟩ = some (.int .u64 x.da) ∧ w'.cell? ⟨E, 3, none⟩ = some (.int .u64 x.mo) ∧ w'.cell? ⟨E, 4, none⟩ = some (.int .u64 x.wk) ∧ w'.cell? ⟨E, 5, none⟩ = some (.bool x.ad) ∧ w'.cell? ⟨E, 6, none⟩ = some (.bool x.aw) ∧ w'.cell? ⟨D, 1, none⟩ = some (.int .i64 (mo : Int)) ∧ w'.cell? ⟨D, 3, none⟩ = some (.int .i64 (ho : Int)) ∧ w'.cell? ⟨D, 4, none⟩ = some (.int .i64 (mi : Int)) ∧ w'.cell? ⟨R + 1 + 1, mi, none⟩ = some (.bool false) ∧ w'.cell? ⟨R + 1 + 1, 60 + ho, none⟩ = some (.bool q1) ∧ w'.cell? ⟨R + 1 + 1, 120 + mo, none⟩ = some (.bool q2) ∧ Hid (DWx (.slice (some ⟨b0, o0, none⟩) z0.length c0) (.slice (some ⟨b1, o1, none⟩) z1.length c1) (.slice (some ⟨b2, o2, none⟩) z2.length c2) R x E D w w' A B C y mo d ho mi wd)))) (by kernel_rfl) (by first | assumption | (show _ ∧ _; assumption)) (fun hHeld => ?_)
            refine wpAnyH_take (i := 0) (oi := { dst := some 140, op := Go.Op.load 25 (Go.Operand.tmp 16), type := 25, pos := "law.go:151", after := #[], guard := none }) (v := ?_) rfl (by kernel_rfl) (by kernel_rfl) (by kernel_rfl) (fun _ _ _ h => h) (Or.inl ⟨by rfl, ?_⟩) (by assumption) ?_
            case refine_2 => (intro w0 hSw; (try dsimp only at hSw); go_simp; try with_reducible rfl)
            try simp only [Act.put, List.setIfInBounds_toArray, List.set_cons_zero, List.set_cons_succ]
            refine wpAnyH_take (i := 1) (oi := { dst := some 141, op := Go.Op.move (Go.Operand.tmp 18), type := 3, pos := "law.go:151", after := #[], guard := none }) (v := ?_) rfl (by kernel_rfl) (by kernel_rfl) (by kernel_rfl) (fun _ _ _ h => h) (Or.inl ⟨by rfl, ?_⟩) (by assumption) ?_
            case refine_2 => (intro w0 hSw; (try dsimp only at hSw); go_simp; try with_reducible rfl)
            try simp only [Act.put, List.setIfInBounds_toArray, List.set_cons_zero, List.set_cons_succ]
            refine wpAnyH_take (i := 3) (oi := { dst := some 143, op := Go.Op.fieldAddr 55 (Go.Operand.tmp 20) 4, type := 0, pos := "law.go:151", after := #[], guard := none }) (v := ?_) rfl (by kernel_rfl) (by kernel_rfl) (by kernel_rfl) (fun _ _ _ h => h) (Or.inl ⟨by rfl, ?_⟩) (by assumption) ?_
            case refine_2 => (intro w0 hSw; (try dsimp only at hSw); go_simp; try with_reducible rfl)
            try simp only [Act.put, List.setIfInBounds_toArray, List.set_cons_zero, List.set_cons_succ]
            refine wpAnyH_take (i := 4) (oi := { dst := some 144, op := Go.Op.load 3 (Go.Operand.tmp 143), type := 3, pos := "law.go:151", after := #[{ on := 3, ground := Go.Ground.data }], guard := none }) (v := ?_) rfl (by kernel_rfl) (by kernel_rfl) (by kernel_rfl) (fun _ _ _ h => h) (Or.inl ⟨by rfl, ?_⟩) (by assumption) ?_
            case refine_2 => (intro w0 hSw; (try dsimp only at hSw); go_simp; try with_reducible rfl)
            try simp only [Act.put, List.setIfInBounds_toArray, List.set_cons_zero, List.set_cons_succ]
            refine wpAnyH_take (i := 5) (oi := { dst := some 145, op := Go.Op.indexAddr 51 (Go.Operand.tmp 11) (Go.Operand.const (Go.Value.int Go.IntKind.i64 0)), type := 0, pos := "law.go:151", after := #[], guard := none }) (v := ?_) rfl (by kernel_rfl) (by kernel_rfl) (by kernel_rfl) (fun _ _ _ h => h) (Or.inl ⟨by rfl, ?_⟩) (by assumption) ?_
            case refine_2 => (intro w0 hSw; (try dsimp only at hSw); go_simp; try with_reducible rfl)
            try simp only [Act.put, List.setIfInBounds_toArray, List.set_cons_zero, List.set_cons_succ]
            refine wpAnyH_take (i := 6) (oi := { dst := some 146, op := Go.Op.indexAddr 50 (Go.Operand.tmp 145) (Go.Operand.tmp 144), type := 0, pos := "law.go:151", after := #[{ on := 5, ground := Go.Ground.data }, { on := 4, ground := Go.Ground.data }], guard := none }) (v := ?_) rfl (by kernel_rfl) (by kernel_rfl) (by kernel_rfl) (fun _ _ _ h => h) (Or.inl ⟨by rfl, ?_⟩) (by assumption) ?_
            case refine_2 => (intro w0 hSw; (try dsimp only at hSw); go_simp; try with_reducible rfl)
            try simp only [Act.put, List.setIfInBounds_toArray, List.set_cons_zero, List.set_cons_succ]
            refine wpAnyH_take (i := 7) (oi := { dst := some 147, op := Go.Op.load 4 (Go.Operand.tmp 146), type := 4, pos := "law.go:151", after := #[{ on := 6, ground := Go.Ground.data }], guard := none }) (v := ?_) rfl (by kernel_rfl) (by kernel_rfl) (by kernel_rfl) (fun _ _ _ h => h) (Or.inl ⟨by rfl, ?_⟩) (by assumption) ?_
            case refine_2 => (intro w0 hSw; (try dsimp only at hSw); go_simp; try with_reducible rfl)
            try simp only [Act.put, List.setIfInBounds_toArray, List.set_cons_zero, List.set_cons_succ]
            refine wpAnyH_ready (rs := [2]) (by kernel_rfl) (by simp) ?_
            refine AllReadyH.cons rfl (fun K hK => ?_) AllReadyH.nil
            go_simp
            go_wp2_with (go_at_call 19; with_reducible refine (m1 _ (by assumption)).mono ?_; rintro r w9 ⟨rfl, hS9⟩)
            refine hK.out _ _ (by first | assumption | (show _ ∧ _; assumption)) (fun hHeld2 => ?_)
            clear hK K hHeld
            try simp only [Act.put, List.setIfInBounds_toArray, List.set_cons_zero, List.set_cons_succ]
            refine wpAnyH_take (i := 8) (oi := { dst := some 148, op := Go.Op.move (Go.Operand.tmp 147), type := 4, pos := "law.go:151", after := #[{ on := 7, ground := Go.Ground.data }, { on := 2, ground := Go.Ground.chain }], guard := none }) (v := ?_) rfl (by kernel_rfl) (by kernel_rfl) (by kernel_rfl) (fun _ _ _ h => h) (Or.inl ⟨by rfl, ?_⟩) (by assumption) ?_
            case refine_2 => (intro w0 hSw; (try dsimp only at hSw); go_simp; try with_reducible rfl)
            try simp only [Act.put, List.setIfInBounds_toArray, List.set_cons_zero, List.set_cons_succ]
            refine wpAnyH_take (i := 9) (oi := { dst := some 149, op := Go.Op.fieldAddr 55 (Go.Operand.tmp 20) 3, type := 0, pos := "law.go:151", after := #[{ on := 8, ground := Go.Ground.guard }], guard := some (8, true) }) (v := undef) rfl (by kernel_rfl) (by kernel_rfl) (by kernel_rfl) (fun _ _ _ h => h) (Or.inr ⟨?_, rfl⟩) (by assumption) ?_
            case refine_1 => rfl
            try simp only [Act.put, List.setIfInBounds_toArray, List.set_cons_zero, List.set_cons_succ]
            refine wpAnyH_take (i := 10) (oi := { dst := some 150, op := Go.Op.load 3 (Go.Operand.tmp 149), type := 3, pos := "law.go:151", after := #[{ on := 9, ground := Go.Ground.data }, { on := 8, ground := Go.Ground.guard }], guard := some (8, true) }) (v := undef) rfl (by kernel_rfl) (by kernel_rfl) (by kernel_rfl) (fun _ _ _ h => h) (Or.inr ⟨?_, rfl⟩) (by assumption) ?_
            case refine_1 => rfl
            try simp only [Act.put, List.setIfInBounds_toArray, List.set_cons_zero, List.set_cons_succ]
            refine wpAnyH_take (i := 11) (oi := { dst := some 151, op := Go.Op.indexAddr 51 (Go.Operand.tmp 11) (Go.Operand.const (Go.Value.int Go.IntKind.i64 1)), type := 0, pos := "law.go:151", after := #[{ on := 8, ground := Go.Ground.guard }], guard := some (8, true) }) (v := undef) rfl (by kernel_rfl) (by kernel_rfl) (by kernel_rfl) (fun _ _ _ h => h) (Or.inr ⟨?_, rfl⟩) (by assumption) ?_
            case refine_1 => rfl
            try simp only [Act.put, List.setIfInBounds_toArray, List.set_cons_zero, List.set_cons_succ]
            refine wpAnyH_take (i := 12) (oi := { dst := some 152, op := Go.Op.indexAddr 50 (Go.Operand.tmp 151) (Go.Operand.tmp 150), type := 0, pos := "law.go:151", after := #[{ on := 11, ground := Go.Ground.data }, { on := 10, ground := Go.Ground.data }, { on := 8, ground := Go.Ground.guard }], guard := some (8, true) }) (v := undef) rfl (by kernel_rfl) (by kernel_rfl) (by kernel_rfl) (fun _ _ _ h => h) (Or.inr ⟨?_, rfl⟩) (by assumption) ?_
            case refine_1 => rfl
            try simp only [Act.put, List.setIfInBounds_toArray, List.set_cons_zero, List.set_cons_succ]
            refine wpAnyH_take (i := 13) (oi := { dst := some 153, op := Go.Op.load 4 (Go.Operand.tmp 152), type := 4, pos := "law.go:151", after := #[{ on := 12, ground := Go.Ground.data }, { on := 8, ground := Go.Ground.guard }], guard := some (8, true) }) (v := undef) rfl (by kernel_rfl) (by kernel_rfl) (by kernel_rfl) (fun _ _ _ h => h) (Or.inr ⟨?_, rfl⟩) (by assumption) ?_
            case refine_1 => rfl
            try simp only [Act.put, List.setIfInBounds_toArray, List.set_cons_zero, List.set_cons_succ]
            refine wpAnyH_take (i := 14) (oi := { dst := some 154, op := Go.Op.pick (Go.Operand.tmp 148) (Go.Operand.tmp 153) (Go.Operand.const (Go.Value.bool false)), type := 4, pos := "law.go:151", after := #[{ on := 8, ground := Go.Ground.data }, { on := 13, ground := Go.Ground.data }], guard := none }) (v := ?_) rfl (by kernel_rfl) (by kernel_rfl) (by kernel_rfl) (fun _ _ _ h => h) (Or.inl ⟨by rfl, ?_⟩) (by assumption) ?_
            case refine_2 => (intro w0 hSw; (try dsimp only at hSw); go_simp; try with_reducible rfl)
            try simp only [Act.put, List.setIfInBounds_toArray, List.set_cons_zero, List.set_cons_succ]
            refine wpAnyH_take (i := 15) (oi := { dst := some 155, op := Go.Op.move (Go.Operand.tmp 154), type := 4, pos := "law.go:151", after := #[{ on := 14, ground := Go.Ground.data }, { on := 8, ground := Go.Ground.chain }], guard := none }) (v := ?_) rfl (by kernel_rfl) (by kernel_rfl) (by kernel_rfl) (fun _ _ _ h => h) (Or.inl ⟨by rfl, ?_⟩) (by assumption) ?_
            case refine_2 => (intro w0 hSw; (try dsimp only at hSw); go_simp; try with_reducible rfl)
            try simp only [Act.put, List.setIfInBounds_toArray, List.set_cons_zero, List.set_cons_succ]
            refine wpAnyH_take (i := 16) (oi := { dst := some 156, op := Go.Op.fieldAddr 55 (Go.Operand.tmp 20) 1, type := 0, pos := "law.go:151", after := #[{ on := 15, ground := Go.Ground.guard }], guard := some (15, true) }) (v := undef) rfl (by kernel_rfl) (by kernel_rfl) (by kernel_rfl) (fun _ _ _ h => h) (Or.inr ⟨?_, rfl⟩) (by assumption) ?_
            case refine_1 => rfl
            try simp only [Act.put, List.setIfInBounds_toArray, List.set_cons_zero, List.set_cons_succ]
            refine wpAnyH_take (i := 17) (oi := { dst := some 157, op := Go.Op.load 3 (Go.Operand.tmp 156), type := 3, pos := "law.go:151", after := #[{ on := 16, ground := Go.Ground.data }, { on := 15, ground := Go.Ground.guard }], guard := some (15, true) }) (v := undef) rfl (by kernel_rfl) (by kernel_rfl) (by kernel_rfl) (fun _ _ _ h => h) (Or.inr ⟨?_, rfl⟩) (by assumption) ?_
            case refine_1 => rfl
            try simp only [Act.put, List.setIfInBounds_toArray, List.set_cons_zero, List.set_cons_succ]
            refine wpAnyH_take (i := 18) (oi := { dst := some 158, op := Go.Op.indexAddr 51 (Go.Operand.tmp 11) (Go.Operand.const (Go.Value.int Go.IntKind.i64 2)), type := 0, pos := "law.go:151", after := #[{ on := 15, ground := Go.Ground.guard }], guard := some (15, true) }) (v := undef) rfl (by kernel_rfl) (by kernel_rfl) (by kernel_rfl) (fun _ _ _ h => h) (Or.inr ⟨?_, rfl⟩) (by assumption) ?_
            case refine_1 => rfl
            try simp only [Act.put, List.setIfInBounds_toArray, List.set_cons_zero, List.set_cons_succ]
            refine wpAnyH_take (i := 19) (oi := { dst := some 159, op := Go.Op.indexAddr 50 (Go.Operand.tmp 158) (Go.Operand.tmp 157), type := 0, pos := "law.go:151", after := #[{ on := 18, ground := Go.Ground.data }, { on := 17, ground := Go.Ground.data }, { on := 15, ground := Go.Ground.guard }], guard := some (15, true) }) (v := undef) rfl (by kernel_rfl) (by kernel_rfl) (by kernel_rfl) (fun _ _ _ h => h) (Or.inr ⟨?_, rfl⟩) (by assumption) ?_
            case refine_1 => rfl
            try simp only [Act.put, List.setIfInBounds_toArray, List.set_cons_zero, List.set_cons_succ]
            refine wpAnyH_take (i := 20) (oi := { dst := some 160, op := Go.Op.load 4 (Go.Operand.tmp 159), type := 4, pos := "law.go:151", after := #[{ on := 19, ground := Go.Ground.data }, { on := 15, ground := Go.Ground.guard }], guard := some (15, true) }) (v := undef) rfl (by kernel_rfl) (by kernel_rfl) (by kernel_rfl) (fun _ _ _ h => h) (Or.inr ⟨?_, rfl⟩) (by assumption) ?_
            case refine_1 => rfl
            try simp only [Act.put, List.setIfInBounds_toArray, List.set_cons_zero, List.set_cons_succ]
            refine wpAnyH_take (i := 21) (oi := { dst := some 161, op := Go.Op.pick (Go.Operand.tmp 155) (Go.Operand.tmp 160) (Go.Operand.const (Go.Value.bool false)), type := 4, pos := "law.go:151", after := #[{ on := 15, ground := Go.Ground.data }, { on := 20, ground := Go.Ground.data }], guard := none }) (v := ?_) rfl (by kernel_rfl) (by kernel_rfl) (by kernel_rfl) (fun _ _ _ h => h) (Or.inl ⟨by rfl, ?_⟩) (by assumption) ?_
            case refine_2 => (intro w0 hSw; (try dsimp only at hSw); go_simp; try with_reducible rfl)
            try simp only [Act.put, List.setIfInBounds_toArray, List.set_cons_zero, List.set_cons_succ]
            refine wpAnyH_take (i := 22) (oi := { dst := some 162, op := Go.Op.binOp Go.BinOp.neq 4 (Go.Operand.tmp 142) (Go.Operand.tmp 161) 4, type := 4, pos := "law.go:151", after := #[{ on := 2, ground := Go.Ground.data }, { on := 21, ground := Go.Ground.data }], guard := none }) (v := ?_) rfl (by kernel_rfl) (by kernel_rfl) (by kernel_rfl) (fun _ _ _ h => h) (Or.inl ⟨by rfl, ?_⟩) (by assumption) ?_
            case refine_2 => (intro w0 hSw; (try dsimp only at hSw); go_simp; try with_reducible rfl)
            try simp only [Act.put, List.setIfInBounds_toArray, List.set_cons_zero, List.set_cons_succ]
            refine wpAnyH_done (by kernel_rfl) ?_ _
            all_goals
              have HX := Hid.mk'' hS9.2.2.2.2.2.2.2.2.2.2.2.2.2.out.fw
              clear hS0 hS1 hS9 m1
              have nn := next_yes x HOK.out n w9 HX.out.ew.tab n0 n1
              obtain ⟨k0, k1, k2, k3, k4, k5, k6⟩ := HX.out.ew.cells
              unfold expV at nn
              go_wp2_with fail
              refine nn.mono ?_
              rintro e w10 ⟨⟨v, c, rfl, hv⟩, hb10⟩
              have HY := Hid.mk'' (HX.out.below hb10)
              clear nn hb10 HX k0 k1 k2 k3 k4 k5 k6
              rcases hv with ⟨rfl, _, _, hM, _⟩ | ⟨rfl, rfl, _⟩
              · have v0 := hM.1
                have v1 := hM.2.1
                clear hM
                go_wp2_with fail
                go_roundw
                case rel => exact ⟨k + 1, v, rfl, rfl, by omega, v0, v1, HY⟩
                case measure => simp [intOf]; omega
              · go_wp2_with fail
                go_ret
                exact ⟨rfl, HY.out.ew.bel⟩
          cases q1
          · simp only [Bool.true_and, Bool.false_and] at m1
            have bi0 : ((mi : Nat) : Int) < 60 := by omega
            have bi1 : ((ho : Nat) : Int) < 60 := by omega
            have bi2 : ((mo : Nat) : Int) < 60 := by omega
            refine wp_region_held_drew (S := (fun w' => (w'.cell? ⟨E, 0, none⟩ = some (.int .u64 x.mi) ∧ w'.cell? ⟨E, 1, none⟩ = some (.int .u64 x.ho) ∧ w'.cell? ⟨E, 2, none⟩ = some (.int .u64 x.da) ∧ w'.cell? ⟨E, 3, none⟩ = some (.int .u64 x.mo) ∧ w'.cell? ⟨E, 4, none⟩ = some (.int .u64 x.wk) ∧ w'.cell? ⟨E, 5, none⟩ = some (.bool x.ad) ∧ w'.cell? ⟨E, 6, none⟩ = some (.bool x.aw) ∧ w'.cell? ⟨D, 1, none⟩ = some (.int .i64 (mo : Int)) ∧ w'.cell? ⟨D, 3, none⟩ = some (.int .i64 (ho : Int)) ∧ w'.cell? ⟨D, 4, none⟩ = some (.int .i64 (mi : Int)) ∧ w'.cell? ⟨R + 1 + 1, mi, none⟩ = some (.bool true) ∧ w'.cell? ⟨R + 1 + 1, 60 + ho, none⟩ = some (.bool false) ∧ w'.cell? ⟨R + 1 + 1, 120 + mo, none⟩ = some (.bool q2) ∧ Hid (DWx (.slice (some ⟨b0, o0, none⟩) z0.length c0) (.slice (some ⟨b1, o1, none⟩) z1.length c1) (.slice (some ⟨b2, o2, none⟩) z2.length c2) R x E D w w' A B C y mo d ho mi wd)))) (by kernel_rfl) (by first | assumption | (show _ ∧ _; assumption)) (fun hHeld => ?_)
            refine wpAnyH_take (i := 0) (oi := { dst := some 140, op := Go.Op.load 25 (Go.Operand.tmp 16), type := 25, pos := "law.go:151", after := #[], guard := none }) (v := ?_) rfl (by kernel_rfl) (by kernel_rfl) (by kernel_rfl) (fun _ _ _ h => h) (Or.inl ⟨by rfl, ?_⟩) (by assumption) ?_
            case refine_2 => (intro w0 hSw; (try dsimp only at hSw); go_simp; try with_reducible rfl)
            try simp only [Act.put, List.setIfInBounds_toArray, List.set_cons_zero, List.set_cons_succ]
            refine wpAnyH_take (i := 1) (oi := { dst := some 141, op := Go.Op.move (Go.Operand.tmp 18), type := 3, pos := "law.go:151", after := #[], guard := none }) (v := ?_) rfl (by kernel_rfl) (by kernel_rfl) (by kernel_rfl) (fun _ _ _ h => h) (Or.inl ⟨by rfl, ?_⟩) (by assumption) ?_
            case refine_2 => (intro w0 hSw; (try dsimp only at hSw); go_simp; try with_reducible rfl)
            try simp only [Act.put, List.setIfInBounds_toArray, List.set_cons_zero, List.set_cons_succ]
            refine wpAnyH_take (i := 3) (oi := { dst := some 143, op := Go.Op.fieldAddr 55 (Go.Operand.tmp 20) 4, type := 0, pos := "law.go:151", after := #[], guard := none }) (v := ?_) rfl (by kernel_rfl) (by kernel_rfl) (by kernel_rfl) (fun _ _ _ h => h) (Or.inl ⟨by rfl, ?_⟩) (by assumption) ?_
            case refine_2 => (intro w0 hSw; (try dsimp only at hSw); go_simp; try with_reducible rfl)
            try simp only [Act.put, List.setIfInBounds_toArray, List.set_cons_zero, List.set_cons_succ]
            refine wpAnyH_take (i := 4) (oi := { dst := some 144, op := Go.Op.load 3 (Go.Operand.tmp 143), type := 3, pos := "law.go:151", after := #[{ on := 3, ground := Go.Ground.data }], guard := none }) (v := ?_) rfl (by kernel_rfl) (by kernel_rfl) (by kernel_rfl) (fun _ _ _ h => h) (Or.inl ⟨by rfl, ?_⟩) (by assumption) ?_
            case refine_2 => (intro w0 hSw; (try dsimp only at hSw); go_simp; try with_reducible rfl)
            try simp only [Act.put, List.setIfInBounds_toArray, List.set_cons_zero, List.set_cons_succ]
            refine wpAnyH_take (i := 5) (oi := { dst := some 145, op := Go.Op.indexAddr 51 (Go.Operand.tmp 11) (Go.Operand.const (Go.Value.int Go.IntKind.i64 0)), type := 0, pos := "law.go:151", after := #[], guard := none }) (v := ?_) rfl (by kernel_rfl) (by kernel_rfl) (by kernel_rfl) (fun _ _ _ h => h) (Or.inl ⟨by rfl, ?_⟩) (by assumption) ?_
            case refine_2 => (intro w0 hSw; (try dsimp only at hSw); go_simp; try with_reducible rfl)
            try simp only [Act.put, List.setIfInBounds_toArray, List.set_cons_zero, List.set_cons_succ]
            refine wpAnyH_take (i := 6) (oi := { dst := some 146, op := Go.Op.indexAddr 50 (Go.Operand.tmp 145) (Go.Operand.tmp 144), type := 0, pos := "law.go:151", after := #[{ on := 5, ground := Go.Ground.data }, { on := 4, ground := Go.Ground.data }], guard := none }) (v := ?_) rfl (by kernel_rfl) (by kernel_rfl) (by kernel_rfl) (fun _ _ _ h => h) (Or.inl ⟨by rfl, ?_⟩) (by assumption) ?_
            case refine_2 => (intro w0 hSw; (try dsimp only at hSw); go_simp; try with_reducible rfl)
            try simp only [Act.put, List.setIfInBounds_toArray, List.set_cons_zero, List.set_cons_succ]
            refine wpAnyH_take (i := 7) (oi := { dst := some 147, op := Go.Op.load 4 (Go.Operand.tmp 146), type := 4, pos := "law.go:151", after := #[{ on := 6, ground := Go.Ground.data }], guard := none }) (v := ?_) rfl (by kernel_rfl) (by kernel_rfl) (by kernel_rfl) (fun _ _ _ h => h) (Or.inl ⟨by rfl, ?_⟩) (by assumption) ?_
            case refine_2 => (intro w0 hSw; (try dsimp only at hSw); go_simp; try with_reducible rfl)
            try simp only [Act.put, List.setIfInBounds_toArray, List.set_cons_zero, List.set_cons_succ]
            refine wpAnyH_ready (rs := [2]) (by kernel_rfl) (by simp) ?_
            refine AllReadyH.cons rfl (fun K hK => ?_) AllReadyH.nil
            go_simp
            go_wp2_with (go_at_call 19; with_reducible refine (m1 _ (by assumption)).mono ?_; rintro r w9 ⟨rfl, hS9⟩)
            refine hK.out _ _ (by first | assumption | (show _ ∧ _; assumption)) (fun hHeld2 => ?_)
            clear hK K hHeld
            try simp only [Act.put, List.setIfInBounds_toArray, List.set_cons_zero, List.set_cons_succ]
            refine wpAnyH_take (i := 8) (oi := { dst := some 148, op := Go.Op.move (Go.Operand.tmp 147), type := 4, pos := "law.go:151", after := #[{ on := 7, ground := Go.Ground.data }, { on := 2, ground := Go.Ground.chain }], guard := none }) (v := ?_) rfl (by kernel_rfl) (by kernel_rfl) (by kernel_rfl) (fun _ _ _ h => h) (Or.inl ⟨by rfl, ?_⟩) (by assumption) ?_
            case refine_2 => (intro w0 hSw; (try dsimp only at hSw); go_simp; try with_reducible rfl)
            try simp only [Act.put, List.setIfInBounds_toArray, List.set_cons_zero, List.set_cons_succ]
            refine wpAnyH_take (i := 9) (oi := { dst := some 149, op := Go.Op.fieldAddr 55 (Go.Operand.tmp 20) 3, type := 0, pos := "law.go:151", after := #[{ on := 8, ground := Go.Ground.guard }], guard := some (8, true) }) (v := ?_) rfl (by kernel_rfl) (by kernel_rfl) (by kernel_rfl) (fun _ _ _ h => h) (Or.inl ⟨by rfl, ?_⟩) (by assumption) ?_
            case refine_2 => (intro w0 hSw; (try dsimp only at hSw); go_simp; try with_reducible rfl)
            try simp only [Act.put, List.setIfInBounds_toArray, List.set_cons_zero, List.set_cons_succ]
            refine wpAnyH_take (i := 10) (oi := { dst := some 150, op := Go.Op.load 3 (Go.Operand.tmp 149), type := 3, pos := "law.go:151", after := #[{ on := 9, ground := Go.Ground.data }, { on := 8, ground := Go.Ground.guard }], guard := some (8, true) }) (v := ?_) rfl (by kernel_rfl) (by kernel_rfl) (by kernel_rfl) (fun _ _ _ h => h) (Or.inl ⟨by rfl, ?_⟩) (by assumption) ?_
            case refine_2 => (intro w0 hSw; (try dsimp only at hSw); go_simp; try with_reducible rfl)
            try simp only [Act.put, List.setIfInBounds_toArray, List.set_cons_zero, List.set_cons_succ]
            refine wpAnyH_take (i := 11) (oi := { dst := some 151, op := Go.Op.indexAddr 51 (Go.Operand.tmp 11) (Go.Operand.const (Go.Value.int Go.IntKind.i64 1)), type := 0, pos := "law.go:151", after := #[{ on := 8, ground := Go.Ground.guard }], guard := some (8, true) }) (v := ?_) rfl (by kernel_rfl) (by kernel_rfl) (by kernel_rfl) (fun _ _ _ h => h) (Or.inl ⟨by rfl, ?_⟩) (by assumption) ?_
            case refine_2 => (intro w0 hSw; (try dsimp only at hSw); go_simp; try with_reducible rfl)
            try simp only [Act.put, List.setIfInBounds_toArray, List.set_cons_zero, List.set_cons_succ]
            refine wpAnyH_take (i := 12) (oi := { dst := some 152, op := Go.Op.indexAddr 50 (Go.Operand.tmp 151) (Go.Operand.tmp 150), type := 0, pos := "law.go:151", after := #[{ on := 11, ground := Go.Ground.data }, { on := 10, ground := Go.Ground.data }, { on := 8, ground := Go.Ground.guard }], guard := some (8, true) }) (v := ?_) rfl (by kernel_rfl) (by kernel_rfl) (by kernel_rfl) (fun _ _ _ h => h) (Or.inl ⟨by rfl, ?_⟩) (by assumption) ?_
            case refine_2 => (intro w0 hSw; (try dsimp only at hSw); go_simp; try with_reducible rfl)
            try simp only [Act.put, List.setIfInBounds_toArray, List.set_cons_zero, List.set_cons_succ]
            refine wpAnyH_take (i := 13) (oi := { dst := some 153, op := Go.Op.load 4 (Go.Operand.tmp 152), type := 4, pos := "law.go:151", after := #[{ on := 12, ground := Go.Ground.data }, { on := 8, ground := Go.Ground.guard }], guard := some (8, true) }) (v := ?_) rfl (by kernel_rfl) (by kernel_rfl) (by kernel_rfl) (fun _ _ _ h => h) (Or.inl ⟨by rfl, ?_⟩) (by assumption) ?_
            case refine_2 => (intro w0 hSw; (try dsimp only at hSw); go_simp; try with_reducible rfl)
            try simp only [Act.put, List.setIfInBounds_toArray, List.set_cons_zero, List.set_cons_succ]
            refine wpAnyH_take (i := 14) (oi := { dst := some 154, op := Go.Op.pick (Go.Operand.tmp 148) (Go.Operand.tmp 153) (Go.Operand.const (Go.Value.bool false)), type := 4, pos := "law.go:151", after := #[{ on := 8, ground := Go.Ground.data }, { on := 13, ground := Go.Ground.data }], guard := none }) (v := ?_) rfl (by kernel_rfl) (by kernel_rfl) (by kernel_rfl) (fun _ _ _ h => h) (Or.inl ⟨by rfl, ?_⟩) (by assumption) ?_
            case refine_2 => (intro w0 hSw; (try dsimp only at hSw); go_simp; try with_reducible rfl)
            try simp only [Act.put, List.setIfInBounds_toArray, List.set_cons_zero, List.set_cons_succ]
            refine wpAnyH_take (i := 15) (oi := { dst := some 155, op := Go.Op.move (Go.Operand.tmp 154), type := 4, pos := "law.go:151", after := #[{ on := 14, ground := Go.Ground.data }, { on := 8, ground := Go.Ground.chain }], guard := none }) (v := ?_) rfl (by kernel_rfl) (by kernel_rfl) (by kernel_rfl) (fun _ _ _ h => h) (Or.inl ⟨by rfl, ?_⟩) (by assumption) ?_
            case refine_2 => (intro w0 hSw; (try dsimp only at hSw); go_simp; try with_reducible rfl)
            try simp only [Act.put, List.setIfInBounds_toArray, List.set_cons_zero, List.set_cons_succ]
            refine wpAnyH_take (i := 16) (oi := { dst := some 156, op := Go.Op.fieldAddr 55 (Go.Operand.tmp 20) 1, type := 0, pos := "law.go:151", after := #[{ on := 15, ground := Go.Ground.guard }], guard := some (15, true) }) (v := undef) rfl (by kernel_rfl) (by kernel_rfl) (by kernel_rfl) (fun _ _ _ h => h) (Or.inr ⟨?_, rfl⟩) (by assumption) ?_
            case refine_1 => rfl
            try simp only [Act.put, List.setIfInBounds_toArray, List.set_cons_zero, List.set_cons_succ]
            refine wpAnyH_take (i := 17) (oi := { dst := some 157, op := Go.Op.load 3 (Go.Operand.tmp 156), type := 3, pos := "law.go:151", after := #[{ on := 16, ground := Go.Ground.data }, { on := 15, ground := Go.Ground.guard }], guard := some (15, true) }) (v := undef) rfl (by kernel_rfl) (by kernel_rfl) (by kernel_rfl) (fun _ _ _ h => h) (Or.inr ⟨?_, rfl⟩) (by assumption) ?_
            case refine_1 => rfl
            try simp only [Act.put, List.setIfInBounds_toArray, List.set_cons_zero, List.set_cons_succ]
            refine wpAnyH_take (i := 18) (oi := { dst := some 158, op := Go.Op.indexAddr 51 (Go.Operand.tmp 11) (Go.Operand.const (Go.Value.int Go.IntKind.i64 2)), type := 0, pos := "law.go:151", after := #[{ on := 15, ground := Go.Ground.guard }], guard := some (15, true) }) (v := undef) rfl (by kernel_rfl) (by kernel_rfl) (by kernel_rfl) (fun _ _ _ h => h) (Or.inr ⟨?_, rfl⟩) (by assumption) ?_
            case refine_1 => rfl
            try simp only [Act.put, List.setIfInBounds_toArray, List.set_cons_zero, List.set_cons_succ]
            refine wpAnyH_take (i := 19) (oi := { dst := some 159, op := Go.Op.indexAddr 50 (Go.Operand.tmp 158) (Go.Operand.tmp 157), type := 0, pos := "law.go:151", after := #[{ on := 18, ground := Go.Ground.data }, { on := 17, ground := Go.Ground.data }, { on := 15, ground := Go.Ground.guard }], guard := some (15, true) }) (v := undef) rfl (by kernel_rfl) (by kernel_rfl) (by kernel_rfl) (fun _ _ _ h => h) (Or.inr ⟨?_, rfl⟩) (by assumption) ?_
            case refine_1 => rfl
            try simp only [Act.put, List.setIfInBounds_toArray, List.set_cons_zero, List.set_cons_succ]
            refine wpAnyH_take (i := 20) (oi := { dst := some 160, op := Go.Op.load 4 (Go.Operand.tmp 159), type := 4, pos := "law.go:151", after := #[{ on := 19, ground := Go.Ground.data }, { on := 15, ground := Go.Ground.guard }], guard := some (15, true) }) (v := undef) rfl (by kernel_rfl) (by kernel_rfl) (by kernel_rfl) (fun _ _ _ h => h) (Or.inr ⟨?_, rfl⟩) (by assumption) ?_
            case refine_1 => rfl
            try simp only [Act.put, List.setIfInBounds_toArray, List.set_cons_zero, List.set_cons_succ]
            refine wpAnyH_take (i := 21) (oi := { dst := some 161, op := Go.Op.pick (Go.Operand.tmp 155) (Go.Operand.tmp 160) (Go.Operand.const (Go.Value.bool false)), type := 4, pos := "law.go:151", after := #[{ on := 15, ground := Go.Ground.data }, { on := 20, ground := Go.Ground.data }], guard := none }) (v := ?_) rfl (by kernel_rfl) (by kernel_rfl) (by kernel_rfl) (fun _ _ _ h => h) (Or.inl ⟨by rfl, ?_⟩) (by assumption) ?_
            case refine_2 => (intro w0 hSw; (try dsimp only at hSw); go_simp; try with_reducible rfl)
            try simp only [Act.put, List.setIfInBounds_toArray, List.set_cons_zero, List.set_cons_succ]
            refine wpAnyH_take (i := 22) (oi := { dst := some 162, op := Go.Op.binOp Go.BinOp.neq 4 (Go.Operand.tmp 142) (Go.Operand.tmp 161) 4, type := 4, pos := "law.go:151", after := #[{ on := 2, ground := Go.Ground.data }, { on := 21, ground := Go.Ground.data }], guard := none }) (v := ?_) rfl (by kernel_rfl) (by kernel_rfl) (by kernel_rfl) (fun _ _ _ h => h) (Or.inl ⟨by rfl, ?_⟩) (by assumption) ?_
            case refine_2 => (intro w0 hSw; (try dsimp only at hSw); go_simp; try with_reducible rfl)
            try simp only [Act.put, List.setIfInBounds_toArray, List.set_cons_zero, List.set_cons_succ]
            refine wpAnyH_done (by kernel_rfl) ?_ _
            all_goals
              have HX := Hid.mk'' hS9.2.2.2.2.2.2.2.2.2.2.2.2.2.out.fw
              clear hS0 hS1 hS9 m1
              have nn := next_yes x HOK.out n w9 HX.out.ew.tab n0 n1
              obtain ⟨k0, k1, k2, k3, k4, k5, k6⟩ := HX.out.ew.cells
              unfold expV at nn
              go_wp2_with fail
              refine nn.mono ?_
              rintro e w10 ⟨⟨v, c, rfl, hv⟩, hb10⟩
              have HY := Hid.mk'' (HX.out.below hb10)
              clear nn hb10 HX k0 k1 k2 k3 k4 k5 k6
              rcases hv with ⟨rfl, _, _, hM, _⟩ | ⟨rfl, rfl, _⟩
              · have v0 := hM.1
                have v1 := hM.2.1
                clear hM
                go_wp2_with fail
                go_roundw
                case rel => exact ⟨k + 1, v, rfl, rfl, by omega, v0, v1, HY⟩
                case measure => simp [intOf]; omega
              · go_wp2_with fail
                go_ret
                exact ⟨rfl, HY.out.ew.bel⟩
          cases q2
          · simp only [Bool.and_false] at m1
            go_region_held_law (fun w' => (w'.cell? ⟨E, 0, none⟩ = some (.int .u64 x.mi) ∧ w'.cell? ⟨E, 1, none⟩ = some (.int .u64 x.ho) ∧ w'.cell? ⟨E, 2, none⟩ = some (.int .u64 x.da) ∧ w'.cell? ⟨E, 3, none⟩ = some (.int .u64 x.mo) ∧ w'.cell? ⟨E, 4, none⟩ = some (.int .u64 x.wk) ∧ w'.cell? ⟨E, 5, none⟩ = some (.bool x.ad) ∧ w'.cell? ⟨E, 6, none⟩ = some (.bool x.aw) ∧ w'.cell? ⟨D, 1, none⟩ = some (.int .i64 (mo : Int)) ∧ w'.cell? ⟨D, 3, none⟩ = some (.int .i64 (ho : Int)) ∧ w'.cell? ⟨D, 4, none⟩ = some (.int .i64 (mi : Int)) ∧ w'.cell? ⟨R + 1 + 1, mi, none⟩ = some (.bool true) ∧ w'.cell? ⟨R + 1 + 1, 60 + ho, none⟩ = some (.bool true) ∧ w'.cell? ⟨R + 1 + 1, 120 + mo, none⟩ = some (.bool false) ∧ Hid (DWx (.slice (some ⟨b0, o0, none⟩) z0.length c0) (.slice (some ⟨b1, o1, none⟩) z1.length c1) (.slice (some ⟨b2, o2, none⟩) z2.length c2) R x E D w w' A B C y mo d ho mi wd))) (first | assumption | (show _ ∧ _; assumption)) ((go_at_call 19; with_reducible refine (m1 _ (by assumption)).mono ?_; rintro r w9 ⟨rfl, hS9⟩))
            all_goals
              have HX := Hid.mk'' hS9.2.2.2.2.2.2.2.2.2.2.2.2.2.out.fw
              clear hS0 hS1 hS9 m1
              have nn := next_yes x HOK.out n w9 HX.out.ew.tab n0 n1
              obtain ⟨k0, k1, k2, k3, k4, k5, k6⟩ := HX.out.ew.cells
              unfold expV at nn
              go_wp2_with fail
              refine nn.mono ?_
              rintro e w10 ⟨⟨v, c, rfl, hv⟩, hb10⟩
              have HY := Hid.mk'' (HX.out.below hb10)
              clear nn hb10 HX k0 k1 k2 k3 k4 k5 k6
              rcases hv with ⟨rfl, _, _, hM, _⟩ | ⟨rfl, rfl, _⟩
              · have v0 := hM.1
                have v1 := hM.2.1
                clear hM
                go_wp2_with fail
                go_roundw
                case rel => exact ⟨k + 1, v, rfl, rfl, by omega, v0, v1, HY⟩
                case measure => simp [intOf]; omega
              · go_wp2_with fail
                go_ret
                exact ⟨rfl, HY.out.ew.bel⟩
          · simp only [Bool.and_self] at m1
            go_region_held_law (fun w' => (w'.cell? ⟨E, 0, none⟩ = some (.int .u64 x.mi) ∧ w'.cell? ⟨E, 1, none⟩ = some (.int .u64 x.ho) ∧ w'.cell? ⟨E, 2, none⟩ = some (.int .u64 x.da) ∧ w'.cell? ⟨E, 3, none⟩ = some (.int .u64 x.mo) ∧ w'.cell? ⟨E, 4, none⟩ = some (.int .u64 x.wk) ∧ w'.cell? ⟨E, 5, none⟩ = some (.bool x.ad) ∧ w'.cell? ⟨E, 6, none⟩ = some (.bool x.aw) ∧ w'.cell? ⟨D, 1, none⟩ = some (.int .i64 (mo : Int)) ∧ w'.cell? ⟨D, 3, none⟩ = some (.int .i64 (ho : Int)) ∧ w'.cell? ⟨D, 4, none⟩ = some (.int .i64 (mi : Int)) ∧ w'.cell? ⟨R + 1 + 1, mi, none⟩ = some (.bool true) ∧ w'.cell? ⟨R + 1 + 1, 60 + ho, none⟩ = some (.bool true) ∧ w'.cell? ⟨R + 1 + 1, 120 + mo, none⟩ = some (.bool true) ∧ Hid (DWx (.slice (some ⟨b0, o0, none⟩) z0.length c0) (.slice (some ⟨b1, o1, none⟩) z1.length c1) (.slice (some ⟨b2, o2, none⟩) z2.length c2) R x E D w w' A B C y mo d ho mi wd))) (first | assumption | (show _ ∧ _; assumption)) ((go_at_call 19; with_reducible refine (m1 _ (by assumption)).mono ?_; rintro r w9 ⟨rfl, hS9⟩))
            all_goals
              have HX := Hid.mk'' hS9.2.2.2.2.2.2.2.2.2.2.2.2.2.out.fw
              clear hS0 hS1 hS9 m1
              have nn := next_yes x HOK.out n w9 HX.out.ew.tab n0 n1
              obtain ⟨k0, k1, k2, k3, k4, k5, k6⟩ := HX.out.ew.cells
              unfold expV at nn
              go_wp2_with fail
              refine nn.mono ?_
              rintro e w10 ⟨⟨v, c, rfl, hv⟩, hb10⟩
              have HY := Hid.mk'' (HX.out.below hb10)
              clear nn hb10 HX k0 k1 k2 k3 k4 k5 k6
              rcases hv with ⟨rfl, _, _, hM, _⟩ | ⟨rfl, rfl, _⟩
              · have v0 := hM.1
                have v1 := hM.2.1
                clear hM
                go_wp2_with fail
                go_roundw
                case rel => exact ⟨k + 1, v, rfl, rfl, by omega, v0, v1, HY⟩
                case measure => simp [intOf]; omega
              · go_wp2_with fail
                go_ret
                exact ⟨rfl, HY.out.ew.bel⟩
        · go_wp2_with fail
          go_ret
          exact ⟨rfl, HF.out.ew.bel⟩
end Go.Proofs.YtdojpnhjnhecmaaDoor
