/- CronBlanks, walked. -/
import Derived.Test.YtdojpnhjnhecmabDoorW1
import Derived.Laws.IdiomStrings
namespace Go.Proofs.YtdojpnhjnhecmabDoor
open Go Go.RowKit
/-- Two texts that every parser reads alike. -/
def RunEq (T S : List Nat) : Prop := ∀ p : PSt, p.run T = p.run S
theorem RunEq.snoc {T S : List Nat} (h : RunEq T S) (bs : List Nat) (c : Nat) (hb : ∀ b ∈ bs, b = 32 ∨ b = 9) (hc : bs = [] ∨ (c = 32 ∨ c = 9)) : RunEq (T ++ bs ++ [c]) (S ++ [c]) := fun p => by
  rw [List.append_assoc, PSt.run_append, PSt.run_append, h p]
  congr 1
  funext q
  rcases hc with rfl | hc
  · rfl
  · exact PSt.run_blanks q bs c [] hb hc
theorem parse_blanks {T S : List Nat} (h : RunEq T S) : parseL (32 :: (T ++ [9])) = parseL S := by
  unfold parseL
  have e1 : pst0.run (32 :: (T ++ [9])) = (pst0.run S).bind (·.run [9]) := by
    show (pst0.take 32).bind _ = _
    rw [PSt.blank_closed (.inl rfl) rfl]
    show pst0.run (T ++ [9]) = _
    rw [PSt.run_append, h]
  rw [e1]
  cases pst0.run S with
  | none => rfl
  | some q =>
    show ((q.take 9).bind (fun r => some r)).bind PSt.done = q.done
    have e2 : q.take 9 = q.take 32 := by rw [q.take_blank (.inr rfl), q.take_blank (.inl rfl)]
    rw [e2]
    cases hq : q.take 32 with
    | none => unfold PSt.done; rw [hq]; rfl
    | some r =>
      have ho := PSt.blank_op (.inl rfl) hq
      show r.done = q.done
      unfold PSt.done
      rw [hq, PSt.blank_closed (.inl rfl) ho]
def resE : Option Exp → Exp
  | some x => x
  | none => ⟨0, 0, 0, 0, 0, false, false⟩
def resC : Option Exp → Int
  | some _ => 0
  | none => 25
theorem parse_both (s : ByteArray) (hs : s.size ≤ 100) (w : World) (hT : HasT w) :
    Calls Tryd.prog 7 #[.string s] w fun e w' => e = .returned (.tuple #[expV (resE (parseL (numsOf s))), .int .i64 (resC (parseL (numsOf s)))]) ∧ Below w.heap.size w w' := by
  refine (parse_any s w hT hs).mono fun e w' h => ⟨?_, h.2⟩
  have := h.1
  unfold Parsed at this
  cases hx : parseL (numsOf s) with
  | none => rw [hx] at this; exact this
  | some x => rw [hx] at this; exact this
/-- A slice of numbers that came in. -/
def SeesI (w : World) (v : Value) (zs : List Int) : Prop :=
  (zs = [] ∧ ∃ ao cap, v = .slice ao 0 cap) ∨ ∃ b off cap, v = .slice (some ⟨b, off, none⟩) zs.length cap ∧ zs.length ≤ maxLen ∧ b < w.heap.size ∧ ∀ i, i < zs.length → w.cell? ⟨b, off + i, none⟩ = some (.int .i64 (zs.getD i 0))
theorem SeesI.form {w : World} {v : Value} {zs : List Int} (h : SeesI w v zs) : ∃ ao cap, v = .slice ao zs.length cap := by
  rcases h with ⟨rfl, ao, cap, rfl⟩ | ⟨b, off, cap, rfl, _⟩
  · exact ⟨ao, cap, rfl⟩
  · exact ⟨_, cap, rfl⟩
theorem SeesI.below {w w' : World} {v : Value} {zs : List Int} (h : SeesI w v zs) (hb : Below w.heap.size w w') : SeesI w' v zs := by
  rcases h with h | ⟨b, off, cap, rfl, h1, h2, h3⟩
  · exact .inl h
  · exact .inr ⟨b, off, cap, rfl, h1, Nat.lt_of_lt_of_le h2 hb.size, fun i hi => (hb.cell (p := ⟨b, off + i, none⟩) h2).trans (h3 i hi)⟩
theorem nums_append (a b : ByteArray) : numsOf (a ++ b) = numsOf a ++ numsOf b := by simp [numsOf, ByteArray.data_append]
theorem ext_one (s : ByteArray) (n : Nat) (h : n < s.size) : s.extract n (n + 1) = ⟨#[s[n]]⟩ := by
  apply ByteArray.ext
  rw [ByteArray.data_extract]
  apply Array.ext
  · have : n < s.data.size := h
    simp; omega
  · intro i h1 h2
    simp at h2
    subst h2
    simp
    rfl
theorem ext_size (t s : ByteArray) (n : Nat) (h : n < s.size) : (t ++ s.extract n (n + 1)).size = t.size + 1 := by
  rw [ext_one s n h]
  show (t ++ ⟨#[s[n]]⟩ : ByteArray).data.size = _
  simp [ByteArray.data_append]
theorem ext_nums (t s : ByteArray) (n : Nat) (h : n < s.size) : numsOf (t ++ s.extract n (n + 1)) = numsOf t ++ [s[n].toNat] := by
  rw [ext_one s n h, nums_append]; rfl
theorem take_nums (s : ByteArray) (n : Nat) (h : n < s.size) : (numsOf s).take (n + 1) = (numsOf s).take n ++ [s[n].toNat] := by
  rw [List.take_add_one, numsOf_get s n h]; rfl
theorem conv_at {W : World} {g : Nat} {l : List UInt8} {cs : Array Value} (h : W.heap[g]? = some (.cells cs 5 (0, 0))) (hc : cs = (l.map fun b => Value.int .u8 (b.toNat : Int)).toArray) (n cap : Nat) (hn : n = l.length) :
    (convert 41 9 (.slice (some ⟨g, 0, none⟩) n cap)).run Tryd.prog W = .ok (.string ⟨l.toArray⟩) W := by
  subst hn hc
  refine run_convert_bytes_back W 41 9 5 ⟨g, 0, none⟩ cap l Tryd.underlying41 Tryd.underlying5 Tryd.underlying9 (fun j hj => ?_)
  rw [Addr.add_lit, Nat.zero_add]
  exact (cell_of_row _ _ _ _ _ _ h).trans (by simp [hj])
theorem one_size (t : ByteArray) (b : UInt8) : (t ++ ⟨#[b]⟩ : ByteArray).size = t.size + 1 := by
  show (t ++ ⟨#[b]⟩ : ByteArray).data.size = _
  simp [ByteArray.data_append]
set_option maxRecDepth 100000 in
set_option maxHeartbeats 2000000 in
theorem blanks_walk (s : ByteArray) (v : Value) (zs : List Int) (w : World) (hT : HasT w) (hsz : s.size ≤ 9223372036854775807) (hS : SeesI w v zs) (hzl : zs.length ≤ 9223372036854775807) :
    Calls Tryd.prog 5 #[.string s, v] w fun e w' => e = .returned (.bool true) ∧ Below w.heap.size w w' := by
  have hkn := known_any w hT
  have HT : Hid (∀ w3, Below w.heap.size w w3 → HasT w3) := fun w3 h => hT.below h
  have HSI : Hid (∀ w3, Below w.heap.size w w3 → SeesI w3 v zs) := fun w3 h => hS.below h
  obtain ⟨ao, cap, rfl⟩ := hS.form
  have ix0 : ((⟨#[32, 9]⟩ : ByteArray)[0]'(by decide)).toNat = 32 := rfl
  have ix1 : ((⟨#[32, 9]⟩ : ByteArray)[1]'(by decide)).toNat = 9 := rfl
  clear hT hS
  by_cases hl : 60 < s.size
  · go_enter Tryd.func5, Tryd.ntmps5
    go_wp2_with fail
    refine hkn.mono ?_
    rintro e w1 ⟨rfl, hb⟩
    have HB1 := Hid.mk'' hb
    clear hkn hb
    go_wp2_with fail
    go_ret
    exact ⟨rfl, HB1.out⟩
  by_cases hl2 : 8 < zs.length
  · go_enter Tryd.func5, Tryd.ntmps5
    go_wp2_with fail
    refine hkn.mono ?_
    rintro e w1 ⟨rfl, hb⟩
    have HB1 := Hid.mk'' hb
    clear hkn hb
    go_wp2_with fail
    go_ret
    exact ⟨rfl, HB1.out⟩
  have HP : Hid (∀ t : ByteArray, t.size ≤ 100 → ∀ W, HasT W → Calls Tryd.prog 7 #[.string t] W _) := fun t ht W hW => parse_both t ht W hW
  have hl' : ¬ (60 : Int) < (s.size : Int) := by omega
  have hl2' : ¬ (8 : Int) < (zs.length : Int) := by omega
  go_enter Tryd.func5, Tryd.ntmps5
  go_wp2_with fail
  refine hkn.mono ?_
  rintro e w1 ⟨rfl, hb⟩
  have HB1 := Hid.mk'' hb
  have hp := HP.out s (by omega) w1 (HT.out _ hb)
  clear hkn hb
  unfold expV at hp
  generalize hY : resE (parseL (numsOf s)) = y at hp
  generalize hC : resC (parseL (numsOf s)) = c at hp
  have HY := Hid.mk'' hY
  have HC := Hid.mk'' hC
  clear hY hC
  go_wp2_with fail
  refine hp.mono ?_
  rintro e w2 ⟨rfl, hb2⟩
  have hb2' : Below w.heap.size w w2 := HB1.out.trans (hb2.mono HB1.out.size)
  have HE := Hid.mk'' (EW.start (x := y) hb2' (HT.out _ hb2'))
  obtain ⟨V, hV⟩ : ∃ V, V = w2.alloc (.cells #[.int .u64 y.mi, .int .u64 y.ho, .int .u64 y.da, .int .u64 y.mo, .int .u64 y.wk, .bool y.ad, .bool y.aw] 25) := ⟨_, rfl⟩
  rw [← hV] at HE
  clear hp hb2 hb2' HB1
  go_upto_region 6 with (fail)
  rw [← hV]
  clear hV
  generalize w2.heap.size = E at *
  go_wp2_with fail
  go_loopw [7, 8, 9] (fun t k i W => ∃ (tt : ByteArray) (m n : Nat), t = .string tt ∧ k = .int .i64 m ∧ i = .int .i64 n ∧ n ≤ s.size ∧ m ≤ zs.length ∧ tt.size ≤ n + 3 * m ∧ Hid (RunEq (numsOf tt) ((numsOf s).take n)) ∧ Hid (EW y E w W)) (fun _ _ i _ => s.size - (intOf i).toNat)
  case atStart => exact ⟨⟨#[]⟩, 0, 0, rfl, rfl, rfl, Nat.zero_le _, Nat.zero_le _, Nat.zero_le _, Hid.mk'' (fun _ => rfl), HE⟩
  case round =>
    obtain ⟨tt, m, n, rfl, rfl, rfl, hn, hm, htl, HR, HEW⟩ := hrel
    clear HE
    by_cases hns : n < s.size
    · by_cases hbl : (s[n].toNat = 32 ∨ s[n].toNat = 9) ∧ m < zs.length
      · obtain ⟨hbk, hmz⟩ := hbl
        obtain ⟨b, off, hao⟩ : ∃ b off, ao = some ⟨b, off, none⟩ := by
          rcases HSI.out _ HEW.out.bel with ⟨h0, _⟩ | ⟨b, off, cap', h', _⟩
          · rw [h0] at hmz; exact absurd hmz (by simp)
          · simp only [Value.slice.injEq, true_and] at h'
            exact ⟨b, off, h'.1⟩
        subst hao
        have HCL : Hid (∀ W, Below w.heap.size w W → W.cell? ⟨b, off + m, none⟩ = some (.int .i64 (zs.getD m 0))) := fun W hW => by
          rcases HSI.out _ hW with ⟨h0, _⟩ | ⟨b', off', cap', h', _, _, h3⟩
          · rw [h0] at hmz; exact absurd hmz (by simp)
          · simp only [Value.slice.injEq, Option.some.injEq, Addr.mk.injEq, and_true, true_and] at h'
            obtain ⟨⟨rfl, rfl⟩, rfl⟩ := h'
            exact h3 m hmz
        have hwi := fun W => within_any (zs.getD m 0) 4 W (by decide) (by decide)
        have hwb := withinF_bd (zs.getD m 0) 4 (by decide)
        obtain ⟨q, hq⟩ : ∃ q : Nat, withinF (zs.getD m 0) 4 = q := ⟨(withinF (zs.getD m 0) 4).toNat, by omega⟩
        rw [hq] at hwi hwb
        have hq4 : q ≤ 3 := by omega
        clear hq hwb
        generalize zs.getD m 0 = z at *
        have htest : ((s[n].toNat : Int) == 32) = true ∨ (((s[n].toNat : Int) == 32) = false ∧ ((s[n].toNat : Int) == 9) = true) := by
          rcases hbk with h | h
          · left; simp; omega
          · right; exact ⟨by simp; omega, by simp; omega⟩
        rcases htest with e1 | ⟨e1, e2⟩
        · have hmz' : (m : Int) < (zs.length : Int) := by omega
          go_wp2_with fail
          go_loopw [7, 10] (fun t j W => ∃ (tj : ByteArray) (j' : Nat), t = .string tj ∧ j = .int .i64 j' ∧ j' ≤ q ∧ tj.size ≤ tt.size + j' ∧ Hid (∃ bs, numsOf tj = numsOf tt ++ bs ∧ ∀ b ∈ bs, b = 32 ∨ b = 9) ∧ Hid (EW y E w W)) (fun _ j _ => q - (intOf j).toNat)
          case atStart => exact ⟨tt, 0, rfl, rfl, Nat.zero_le _, Nat.le_refl _, Hid.mk'' ⟨[], by simp, fun b h => absurd h (by simp)⟩, HEW⟩
          case round =>
            obtain ⟨tj, j, rfl, rfl, hj, hjl, HJ0, HEJ⟩ := hrel
            obtain ⟨bs, hbs⟩ := HJ0.out
            have HJ := Hid.mk'' hbs
            clear hbs HJ0
            have hcl := HCL.out wr HEJ.out.bel
            have hsz1 : tj.size + 1 ≤ 9223372036854775807 := by omega
            by_cases hjq : j < q
            · have hjq' : (j : Int) < (q : Int) := by omega
              rcases (by omega : j = 0 ∨ j = 1 ∨ j = 2) with rfl | rfl | rfl
              · have v1 := conv_at (l := [32]) (heap_alloc_new wr (.cells #[.int .u8 32] 5)) (by simp) 1 1 rfl
                go_wp2_with (go_at_call 12; refine (hwi _).mono ?_; rintro e w5 ⟨rfl, rfl⟩)
                go_roundw
                case rel => exact ⟨tj ++ ⟨#[32]⟩, 1, rfl, rfl, by omega, by rw [one_size]; omega, Hid.mk'' ⟨bs ++ [32], by rw [nums_append, HJ.out.1, List.append_assoc]; rfl, fun b hb => by rcases List.mem_append.1 hb with h | h; exact HJ.out.2 b h; rw [List.mem_singleton.1 h]; decide⟩, Hid.mk'' (HEJ.out.below ((Below.refl _ _).alloc (Nat.le_refl _) _))⟩
                case measure => simp [intOf]; omega
              · have v1 := conv_at (l := [9]) (heap_alloc_new wr (.cells #[.int .u8 9] 5)) (by simp) 1 1 rfl
                go_wp2_with (go_at_call 12; refine (hwi _).mono ?_; rintro e w5 ⟨rfl, rfl⟩)
                go_roundw
                case rel => exact ⟨tj ++ ⟨#[9]⟩, 2, rfl, rfl, by omega, by rw [one_size]; omega, Hid.mk'' ⟨bs ++ [9], by rw [nums_append, HJ.out.1, List.append_assoc]; rfl, fun b hb => by rcases List.mem_append.1 hb with h | h; exact HJ.out.2 b h; rw [List.mem_singleton.1 h]; decide⟩, Hid.mk'' (HEJ.out.below ((Below.refl _ _).alloc (Nat.le_refl _) _))⟩
                case measure => simp [intOf]; omega
              · have v1 := conv_at (l := [32]) (heap_alloc_new wr (.cells #[.int .u8 32] 5)) (by simp) 1 1 rfl
                go_wp2_with (go_at_call 12; refine (hwi _).mono ?_; rintro e w5 ⟨rfl, rfl⟩)
                go_roundw
                case rel => exact ⟨tj ++ ⟨#[32]⟩, 3, rfl, rfl, by omega, by rw [one_size]; omega, Hid.mk'' ⟨bs ++ [32], by rw [nums_append, HJ.out.1, List.append_assoc]; rfl, fun b hb => by rcases List.mem_append.1 hb with h | h; exact HJ.out.2 b h; rw [List.mem_singleton.1 h]; decide⟩, Hid.mk'' (HEJ.out.below ((Below.refl _ _).alloc (Nat.le_refl _) _))⟩
                case measure => simp [intOf]; omega
            · have hjq' : ¬ (j : Int) < (q : Int) := by omega
              go_wp2_with (go_at_call 12; refine (hwi _).mono ?_; rintro e w5 ⟨rfl, rfl⟩)
              refine ⟨⟨tj ++ s.extract n (n + 1), m + 1, n + 1, rfl, rfl, rfl, by omega, by omega, by rw [ext_size tj s n hns]; omega, Hid.mk'' ?_, HEJ⟩, by simp [intOf]; omega⟩
              rw [ext_nums tj s n hns, take_nums s n hns, HJ.out.1]
              exact HR.out.snoc bs s[n].toNat HJ.out.2 (.inr hbk)
        · have hmz' : (m : Int) < (zs.length : Int) := by omega
          go_wp2_with fail
          go_loopw [7, 10] (fun t j W => ∃ (tj : ByteArray) (j' : Nat), t = .string tj ∧ j = .int .i64 j' ∧ j' ≤ q ∧ tj.size ≤ tt.size + j' ∧ Hid (∃ bs, numsOf tj = numsOf tt ++ bs ∧ ∀ b ∈ bs, b = 32 ∨ b = 9) ∧ Hid (EW y E w W)) (fun _ j _ => q - (intOf j).toNat)
          case atStart => exact ⟨tt, 0, rfl, rfl, Nat.zero_le _, Nat.le_refl _, Hid.mk'' ⟨[], by simp, fun b h => absurd h (by simp)⟩, HEW⟩
          case round =>
            obtain ⟨tj, j, rfl, rfl, hj, hjl, HJ0, HEJ⟩ := hrel
            obtain ⟨bs, hbs⟩ := HJ0.out
            have HJ := Hid.mk'' hbs
            clear hbs HJ0
            have hcl := HCL.out wr HEJ.out.bel
            have hsz1 : tj.size + 1 ≤ 9223372036854775807 := by omega
            by_cases hjq : j < q
            · have hjq' : (j : Int) < (q : Int) := by omega
              rcases (by omega : j = 0 ∨ j = 1 ∨ j = 2) with rfl | rfl | rfl
              · have v1 := conv_at (l := [32]) (heap_alloc_new wr (.cells #[.int .u8 32] 5)) (by simp) 1 1 rfl
                go_wp2_with (go_at_call 12; refine (hwi _).mono ?_; rintro e w5 ⟨rfl, rfl⟩)
                go_roundw
                case rel => exact ⟨tj ++ ⟨#[32]⟩, 1, rfl, rfl, by omega, by rw [one_size]; omega, Hid.mk'' ⟨bs ++ [32], by rw [nums_append, HJ.out.1, List.append_assoc]; rfl, fun b hb => by rcases List.mem_append.1 hb with h | h; exact HJ.out.2 b h; rw [List.mem_singleton.1 h]; decide⟩, Hid.mk'' (HEJ.out.below ((Below.refl _ _).alloc (Nat.le_refl _) _))⟩
                case measure => simp [intOf]; omega
              · have v1 := conv_at (l := [9]) (heap_alloc_new wr (.cells #[.int .u8 9] 5)) (by simp) 1 1 rfl
                go_wp2_with (go_at_call 12; refine (hwi _).mono ?_; rintro e w5 ⟨rfl, rfl⟩)
                go_roundw
                case rel => exact ⟨tj ++ ⟨#[9]⟩, 2, rfl, rfl, by omega, by rw [one_size]; omega, Hid.mk'' ⟨bs ++ [9], by rw [nums_append, HJ.out.1, List.append_assoc]; rfl, fun b hb => by rcases List.mem_append.1 hb with h | h; exact HJ.out.2 b h; rw [List.mem_singleton.1 h]; decide⟩, Hid.mk'' (HEJ.out.below ((Below.refl _ _).alloc (Nat.le_refl _) _))⟩
                case measure => simp [intOf]; omega
              · have v1 := conv_at (l := [32]) (heap_alloc_new wr (.cells #[.int .u8 32] 5)) (by simp) 1 1 rfl
                go_wp2_with (go_at_call 12; refine (hwi _).mono ?_; rintro e w5 ⟨rfl, rfl⟩)
                go_roundw
                case rel => exact ⟨tj ++ ⟨#[32]⟩, 3, rfl, rfl, by omega, by rw [one_size]; omega, Hid.mk'' ⟨bs ++ [32], by rw [nums_append, HJ.out.1, List.append_assoc]; rfl, fun b hb => by rcases List.mem_append.1 hb with h | h; exact HJ.out.2 b h; rw [List.mem_singleton.1 h]; decide⟩, Hid.mk'' (HEJ.out.below ((Below.refl _ _).alloc (Nat.le_refl _) _))⟩
                case measure => simp [intOf]; omega
            · have hjq' : ¬ (j : Int) < (q : Int) := by omega
              go_wp2_with (go_at_call 12; refine (hwi _).mono ?_; rintro e w5 ⟨rfl, rfl⟩)
              refine ⟨⟨tj ++ s.extract n (n + 1), m + 1, n + 1, rfl, rfl, rfl, by omega, by omega, by rw [ext_size tj s n hns]; omega, Hid.mk'' ?_, HEJ⟩, by simp [intOf]; omega⟩
              rw [ext_nums tj s n hns, take_nums s n hns, HJ.out.1]
              exact HR.out.snoc bs s[n].toNat HJ.out.2 (.inr hbk)
      · have hmz : s[n].toNat = 32 ∨ s[n].toNat = 9 → ¬ (m : Int) < (zs.length : Int) := fun h h' => hbl ⟨h, by omega⟩
        by_cases h32 : s[n].toNat = 32
        · have e1 : ((s[n].toNat : Int) == 32) = true := by simp; omega
          have e3 := hmz (.inl h32)
          clear hmz hbl h32
          go_wp2_with fail
          refine ⟨⟨tt ++ s.extract n (n + 1), m, n + 1, rfl, rfl, rfl, by omega, hm, by rw [ext_size tt s n hns]; omega, Hid.mk'' ?_, HEW⟩, by simp [intOf]; omega⟩
          rw [ext_nums tt s n hns, take_nums s n hns]
          have := HR.out.snoc [] s[n].toNat (fun b h => absurd h (by simp)) (.inl rfl)
          rwa [List.append_nil] at this
        · by_cases h9 : s[n].toNat = 9
          · have e1 : ((s[n].toNat : Int) == 32) = false := by simp; omega
            have e2 : ((s[n].toNat : Int) == 9) = true := by simp; omega
            have e3 := hmz (.inr h9)
            clear hmz hbl h32 h9
            go_wp2_with fail
            refine ⟨⟨tt ++ s.extract n (n + 1), m, n + 1, rfl, rfl, rfl, by omega, hm, by rw [ext_size tt s n hns]; omega, Hid.mk'' ?_, HEW⟩, by simp [intOf]; omega⟩
            rw [ext_nums tt s n hns, take_nums s n hns]
            have := HR.out.snoc [] s[n].toNat (fun b h => absurd h (by simp)) (.inl rfl)
            rwa [List.append_nil] at this
          · have e1 : ((s[n].toNat : Int) == 32) = false := by simp; omega
            have e2 : ((s[n].toNat : Int) == 9) = false := by simp; omega
            clear hmz hbl h32 h9
            go_wp2_with fail
            refine ⟨⟨tt ++ s.extract n (n + 1), m, n + 1, rfl, rfl, rfl, by omega, hm, by rw [ext_size tt s n hns]; omega, Hid.mk'' ?_, HEW⟩, by simp [intOf]; omega⟩
            rw [ext_nums tt s n hns, take_nums s n hns]
            have := HR.out.snoc [] s[n].toNat (fun b h => absurd h (by simp)) (.inl rfl)
            rwa [List.append_nil] at this
    · obtain rfl : n = s.size := by omega
      have hrun := HR.out
      rw [List.take_of_length_le (by rw [numsOf_length]; exact Nat.le_refl _)] at hrun
      have hpb := parse_blanks hrun
      have hns' : numsOf ((⟨#[32]⟩ : ByteArray) ++ tt ++ ⟨#[9]⟩) = 32 :: (numsOf tt ++ [9]) := by rw [nums_append, nums_append]; rfl
      have hts : ((⟨#[32]⟩ : ByteArray) ++ tt ++ ⟨#[9]⟩).size ≤ 100 := by
        rw [one_size]
        have : ((⟨#[32]⟩ : ByteArray) ++ tt).size = 1 + tt.size := by
          show ((⟨#[32]⟩ : ByteArray) ++ tt).data.size = _
          simp [ByteArray.data_append]
        omega
      have hp := HP.out _ hts wr HEW.out.tab
      rw [hns', hpb, HY.out, HC.out] at hp
      have hs1 : 1 + tt.size ≤ 9223372036854775807 := by omega
      have hs2 : 1 + tt.size + 1 ≤ 9223372036854775807 := by omega
      unfold expV at hp
      clear hrun hpb hns' hts
      go_wp2_with fail
      refine hp.mono ?_
      rintro e w9 ⟨rfl, hb9⟩
      have HE9 := Hid.mk'' (HEW.out.below hb9)
      obtain ⟨k0, k1, k2, k3, k4, k5, k6⟩ := HE9.out.cells
      have hlt := HE9.out.lt
      clear hp hb9 HEW
      go_wp2
      go_ret
      exact ⟨ret_bool (by simp), HE9.out.bel.alloc HE9.out.bel.size _⟩
end Go.Proofs.YtdojpnhjnhecmabDoor
