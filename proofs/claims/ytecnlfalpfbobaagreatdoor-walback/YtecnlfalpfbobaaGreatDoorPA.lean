/- The sum of bytes, half a byte at a time, by the table: what pen.sumOf answers. -/
import Derived.Test.YtecnlfalpfbobaaGreatDoorLeaf
import Derived.Deep.RegionLaw
import Derived.Deep.QuietTactic
import Derived.BigQuiet
import Derived.Deep.RegionWith
namespace Go.Proofs.YtecnlfalpfbobaaGreatDoor
open Go Go.RowKit
/-- What sixteen half bytes do to a sum. -/
def tab : List Nat := [0, 498536548, 997073096, 651767980, 1994146192, 1802195444, 1303535960, 1342533948, 3988292384, 4027552580, 3604390888, 3412177804, 2607071920, 2262029012, 2685067896, 3183342108]
def HasTab (w : World) : Prop := ∀ j, j < 16 → w.cell? ⟨0, j, none⟩ = some (.int .u32 (tab.getD j 0 : Nat))
theorem HasTab.below {w w' : World} (h : HasTab w) (hb : Below w.heap.size w w') : HasTab w' := fun j hj => by
  have h1 := h j hj
  rw [← h1]
  exact hb.cell (p := ⟨0, j, none⟩) (World.block_lt_of_cell? _ _ h1)
def half (s : Nat) : Nat := (s / 16) ^^^ tab.getD (s % 16) 0
def crcStep (s x : Nat) : Nat := half (half (s ^^^ x))
def crcRun (l : List Int) : Nat := l.foldl (fun s x => crcStep s x.toNat) 4294967295
/-- The sum of bytes. -/
def crc (l : List Int) : Nat := 4294967295 - crcRun l
theorem xor_lt {a b : Nat} (ha : a < 4294967296) (hb : b < 4294967296) : a ^^^ b < 4294967296 := Nat.xor_lt_two_pow (n := 32) ha hb
theorem tab_lt (j : Nat) : tab.getD j 0 < 4294967296 := by
  rcases Nat.lt_or_ge j 16 with h | h
  · have : ∀ j : Fin 16, tab.getD j.val 0 < 4294967296 := by decide
    exact this ⟨j, h⟩
  · have : tab.getD j 0 = 0 := by simp [tab, List.getD_eq_getElem?_getD, List.getElem?_eq_none (l := [0, 498536548, 997073096, 651767980, 1994146192, 1802195444, 1303535960, 1342533948, 3988292384, 4027552580, 3604390888, 3412177804, 2607071920, 2262029012, 2685067896, 3183342108]) (by simpa using h)]
    omega
theorem half_lt {s : Nat} (hs : s < 4294967296) : half s < 4294967296 := xor_lt (by omega) (tab_lt _)
theorem crcStep_lt {s x : Nat} (hs : s < 4294967296) (hx : x < 4294967296) : crcStep s x < 4294967296 := half_lt (half_lt (xor_lt hs hx))
theorem half_facts {w : World} (hT : HasTab w) {s : Nat} (hs : s < 4294967296) : ∃ i t : Nat, i < 16 ∧ bits .and .u32 (s : Int) 15 = (i : Int) ∧ w.cell? ⟨0, i, none⟩ = some (.int .u32 (t : Int)) ∧ bits .xor .u32 ((s : Int) / 16) (t : Int) = (half s : Nat) := by
  refine ⟨s % 16, tab.getD (s % 16) 0, Nat.mod_lt _ (by omega), ?_, hT _ (Nat.mod_lt _ (by omega)), ?_⟩
  · rw [u32_and _ _ (by omega) (by omega) (by omega) (by omega)]
    show (((s : Int).toNat &&& 15 : Nat) : Int) = _
    rw [nat_mask4]; rfl
  · rw [u32_xor _ _ (by omega) (by omega) (by omega) (by have := tab_lt (s % 16); omega)]
    have e1 : ((s : Int) / 16).toNat = s / 16 := by omega
    rw [e1, Int.toNat_natCast]; rfl
theorem crcRun_snoc (l : List Int) (x : Int) : crcRun (l ++ [x]) = crcStep (crcRun l) x.toNat := by simp [crcRun]
theorem crcRun_lt : ∀ (n : Nat) (l : List Int), l.length = n → isB l → crcRun l < 4294967296
  | 0, l, h, _ => by obtain rfl := List.eq_nil_of_length_eq_zero h; decide
  | n + 1, l, h, hb => by
    obtain ⟨l', x, rfl⟩ : ∃ l' x, l = l' ++ [x] := ⟨l.dropLast, l.getLast (by intro e; simp [e] at h), (List.dropLast_concat_getLast _).symm⟩
    have h1 := crcRun_lt n l' (by simpa using h) (fun y hy => hb y (by simp [hy]))
    have h2 := hb x (by simp)
    rw [crcRun_snoc]
    exact crcStep_lt h1 (by omega)

theorem xor_ones (s : Nat) (hs : s < 4294967296) : 4294967295 ^^^ s = 4294967295 - s := by
  have h : (BitVec.allOnes 32 ^^^ BitVec.ofNat 32 s) = ~~~ (BitVec.ofNat 32 s) := by rw [BitVec.xor_comm, BitVec.xor_allOnes]
  have h' := congrArg BitVec.toNat h
  simp only [BitVec.toNat_xor, BitVec.toNat_allOnes, BitVec.toNat_not, BitVec.toNat_ofNat] at h'
  rw [Nat.mod_eq_of_lt hs] at h'
  simpa using h'
theorem not_u32 (s : Nat) (hs : s < 4294967296) : bits .xor .u32 IntKind.u32.max (s : Int) = ((4294967295 - s : Nat) : Int) := by
  have e : IntKind.u32.max = ((4294967295 : Nat) : Int) := by decide
  rw [e, u32_xor_nat _ _ (by omega) hs, xor_ones s hs]

set_option maxHeartbeats 400000 in
theorem sum_any (v : Value) (zs : List Int) (w : World) (hT : HasTab w) (hb : isB zs) (hl : zs.length ≤ 1000000) (hv : Sees w v zs) :
    Calls Tryz.prog 127 #[v] w fun e w' => e = .returned (.int .u32 (crc zs)) ∧ w' = w := by
  rcases hv with ⟨rfl, ao, cap, rfl, _, _⟩ | ⟨b, off, cap, rfl, h0, _, _, hc⟩
  · go_enter Tryz.func127, Tryz.ntmps127
    go_wp2
    go_rounds 1
    go_ret
    exact ⟨rfl, rfl⟩
  · have HT : Hid (HasTab w) := hT
    have HB : Hid (isB zs) := hb
    clear hT hb
    go_enter Tryz.func127, Tryz.ntmps127
    go_wp2
    go_loop [3, 8] (fun n i => ∃ k : Nat, k ≤ zs.length ∧ i = .int .i64 k ∧ n = .int .u32 (crcRun (zs.take k))) (fun _ i => zs.length - (intOf i).toNat)
    case atStart => exact ⟨0, Nat.zero_le _, rfl, rfl⟩
    case round =>
      obtain ⟨k, hk, rfl, rfl⟩ := hrel
      by_cases hlt : k < zs.length
      · have hck := hc k hlt
        have hx := HB.out _ (List.getElem_mem hlt)
        have hs : crcRun (zs.take k) < 4294967296 := crcRun_lt _ _ rfl (fun x hx => HB.out x (List.mem_of_mem_take hx))
        have HE : Hid (crcRun (zs.take (k + 1)) = crcStep (crcRun (zs.take k)) zs[k].toNat) := by
          show crcRun (zs.take (k + 1)) = _
          rw [List.take_succ_eq_append_getElem hlt, crcRun_snoc]
        generalize crcRun (zs.take k) = s at hs HE ⊢
        have he1 : bits .xor .u32 (s : Int) zs[k] = ((s ^^^ zs[k].toNat : Nat) : Int) := by
          rw [u32_xor _ _ (by omega) (by omega) (by omega) (by omega), Int.toNat_natCast]
        have hs1 : s ^^^ zs[k].toNat < 4294967296 := xor_lt hs (by omega)
        have HE' : Hid (crcRun (zs.take (k + 1)) = half (half (s ^^^ zs[k].toNat))) := HE.out
        clear HE hs
        generalize s ^^^ zs[k].toNat = s1 at he1 hs1 HE'
        obtain ⟨i1, t1, hi1, ha1, hc1, hx1⟩ := half_facts HT.out hs1
        have hs2 := half_lt hs1
        generalize half s1 = s2 at hx1 hs2 HE'
        obtain ⟨i2, t2, hi2, ha2, hc2, hx2⟩ := half_facts HT.out hs2
        have HB3 : Hid (half s2 < 4294967296) := half_lt hs2
        generalize half s2 = s3 at hx2 HB3 HE'
        clear hc HT HB
        go_wp2
        go_round
        case rel => exact ⟨k + 1, by omega, by go_num, by rw [HE'.out]⟩
        case measure => simp [intOf]; omega
      · have hs : crcRun zs < 4294967296 := crcRun_lt _ _ rfl HB.out
        have HK : Hid (zs.take k = zs) := List.take_of_length_le (by omega)
        clear hc HT HB
        go_wp2
        go_ret
        exact ⟨ret_int (by rw [HK.out]; exact not_u32 _ hs), rfl⟩
theorem crc_known : crc [49, 50, 51, 52, 53, 54, 55, 56, 57] = 3421780262 := by decide
end Go.Proofs.YtecnlfalpfbobaaGreatDoor
/- What the writer of package pen does: numbers and texts laid behind its bytes. -/
namespace Go.Proofs.YtecnlfalpfbobaaGreatDoor
open Go Go.RowKit
structure Wr (B : Nat) (w : World) (b : Nat) (v : Value) (xs : List Int) : Prop where
  cell : w.cell? ⟨b, 0, none⟩ = some v
  free : w.frozen? ⟨b, 0, none⟩ = false
  own : w.ownsRow B 5 1 v xs.length (u8s xs)
  ne : v.ownBlock ≠ some b
  base : B ≤ b

theorem Wr.upd {B : Nat} {w w' : World} {S : Nat → Prop} {b : Nat} {v : Value} {xs : List Int} (h : Wr B w b v xs) (hu : Upd w w' S) (h1 : ¬ S b) (h2 : ∀ k, v.ownBlock = some k → ¬ S k) : Wr B w' b v xs := by
  have hlt := World.block_lt_of_cell? _ _ h.cell
  exact ⟨(hu.cell (p := ⟨b, 0, none⟩) hlt h1).trans h.cell, (hu.frozen (p := ⟨b, 0, none⟩) hlt h1).trans h.free, ownsRow_upd h.own hu h2, h.ne, h.base⟩
theorem Wr.below {B : Nat} {w w' : World} {b : Nat} {v : Value} {xs : List Int} (h : Wr B w b v xs) (hu : Below w.heap.size w w') : Wr B w' b v xs := h.upd (S := fun _ => False) (Upd.ofBelow hu) (fun h => h) (fun _ _ h => h)


/-- What a writer's call leaves: its bytes are xs now; nothing else has turned but the writer and its own row. -/
def WrPost (B : Nat) (w w' : World) (b : Nat) (v : Value) (xs : List Int) : Prop :=
  ∃ v', Wr B w' b v' xs ∧ Upd w w' (fun k => k = b ∨ some k = v.ownBlock) ∧ (v'.ownBlock = v.ownBlock ∨ ∃ g, w.heap.size ≤ g ∧ v'.ownBlock = some g)

theorem Wr.lt {B : Nat} {w : World} {b : Nat} {v : Value} {xs : List Int} (h : Wr B w b v xs) : b < w.heap.size := World.block_lt_of_cell? _ _ h.cell

theorem WrPost.next {B : Nat} {w w1 w2 : World} {b : Nat} {v v1 : Value} {zs : List Int} (hu : Upd w w1 (fun k => k = b ∨ some k = v.ownBlock)) (hv : v1.ownBlock = v.ownBlock ∨ ∃ g, w.heap.size ≤ g ∧ v1.ownBlock = some g)
    (h2 : WrPost B w1 w2 b v1 zs) : WrPost B w w2 b v zs := by
  obtain ⟨v2, g1, g2, g3⟩ := h2
  have hs := hu.size
  refine ⟨v2, g1, hu.trans g2 (fun j hj h => ?_), ?_⟩
  · rcases h with h | h
    · exact .inl h
    · rcases hv with hv | ⟨g, hg, hv⟩
      · exact .inr (h.trans hv)
      · rw [hv] at h; have := Option.some.inj h; omega
  · rcases g3 with g3 | ⟨g, hg, g3⟩
    · rcases hv with hv | ⟨g, hg, hv⟩
      · exact .inl (g3.trans hv)
      · exact .inr ⟨g, hg, g3.trans hv⟩
    · exact .inr ⟨g, by omega, g3⟩

theorem WrPost.trans {B : Nat} {w w1 w2 : World} {b : Nat} {v : Value} {ys zs : List Int} (h1 : WrPost B w w1 b v ys) (h2 : ∀ v1, Wr B w1 b v1 ys → WrPost B w1 w2 b v1 zs) : WrPost B w w2 b v zs := by
  obtain ⟨v1, f1, f2, f3⟩ := h1
  exact WrPost.next f2 f3 (h2 v1 f1)

theorem wr_stored {B : Nat} {w w0 w' : World} {b : Nat} {v v' : Value} {xs ys : List Int} {m : Nat} (hw : Wr B w b v xs) (h0 : Below w.heap.size w w0) (hm : ys.length = m) (h1 : w'.ownsRow B 5 1 v' (xs.length + m) (u8s xs ++ u8s ys))
    (h2 : Upd w0 w' (fun k => some k = v.ownBlock)) (h3 : v'.ownBlock = v.ownBlock ∨ v'.ownBlock = some w0.heap.size) : WrPost B w (w'.setCell ⟨b, 0, none⟩ v') b v (xs ++ ys) := by
  subst hm
  have hbl := hw.lt
  have hs0 := h0.size
  have hs2 := h2.size
  have hnb : v'.ownBlock ≠ some b := by
    rcases h3 with h3 | h3
    · rw [h3]; exact hw.ne
    · rw [h3]; intro e; have := Option.some.inj e; omega
  have hcell : (w'.cell? ⟨b, 0, none⟩) = some v := by
    rw [h2.cell (p := ⟨b, 0, none⟩) (show b < w0.heap.size by omega) (fun e => hw.ne e.symm), h0.cell (p := ⟨b, 0, none⟩) hbl]; exact hw.cell
  have hfree : (w'.frozen? ⟨b, 0, none⟩) = false := by
    rw [h2.frozen (p := ⟨b, 0, none⟩) (show b < w0.heap.size by omega) (fun e => hw.ne e.symm), h0.frozen (p := ⟨b, 0, none⟩) hbl]; exact hw.free
  have hset : Upd w' (w'.setCell ⟨b, 0, none⟩ v') (fun k => k = b) := (Upd.refl w' (fun k => k = b)).setCell (p := ⟨b, 0, none⟩) (.inr rfl) v'
  refine ⟨v', ⟨?_, ?_, ?_, hnb, hw.base⟩, ?_, ?_⟩
  · exact World.cell?_setCell_same _ _ _ hcell
  · rw [World.frozen?_setCell]; exact hfree
  · have := ownsRow_upd h1 hset (fun k hk e => hnb (by rw [hk, e]))
    simpa using this
  · refine ((Upd.ofBelow h0).trans h2 (fun j _ h => .inr h)).trans hset (fun j _ h => .inl h)
  · rcases h3 with h3 | h3
    · exact .inl h3
    · exact .inr ⟨_, hs0, h3⟩

theorem be_len (n : Int) : (be n).length = 8 := rfl

set_option maxHeartbeats 1000000 in
theorem number1 (B : Nat) (b : Nat) (v : Value) (xs : List Int) (n : Int) (w : World) (hw : Wr B w b v xs) (hl : xs.length ≤ 1000000) (hB : B ≤ w.heap.size) :
    Calls Tryz.prog 153 #[.pointer (some ⟨b, 0, none⟩), .int .i64 n, .int .i64 1] w fun e w' => e = .returned (.tuple #[]) ∧ WrPost B w w' b v (xs ++ (be (IntKind.u64.wrap n)).drop 7) := by
  obtain ⟨i0, hi, hz0, hz1, hz2⟩ := info_parts info5
  have hU : 0 ≤ IntKind.u64.wrap n ∧ IntKind.u64.wrap n < 18446744073709551616 := by rw [IntKind.wrap_u64]; omega
  obtain ⟨x0, x1, x2, x3, x4, x5, x6, x7, hx⟩ : ∃ x0 x1 x2 x3 x4 x5 x6 x7, be (IntKind.u64.wrap n) = [x0, x1, x2, x3, x4, x5, x6, x7] := ⟨_, _, _, _, _, _, _, _, rfl⟩
  have hsl : ∀ (g : Nat) (w : World), (Instr.sliceAt 237 (.pointer (some ⟨g, 0, none⟩)) (some (.int .i64 (IntKind.i64.wrap 7))) none none).run Tryz.prog w = .ok (.slice (some ⟨g, 7, none⟩) 1 1) w := fun _ _ => by kernel_rfl
  go_enter Tryz.func153, Tryz.ntmps153
  go_wp2_with (go_at_call 170; refine (be_any _ _ hU.1 hU.2).mono ?_; rintro e w1 ⟨rfl, hb1⟩)
  have hb0 := (hb1.mono (Nat.le_refl _)).alloc hb1.size (.cells #[.int .u8 x0, .int .u8 x1, .int .u8 x2, .int .u8 x3, .int .u8 x4, .int .u8 x5, .int .u8 x6, .int .u8 x7] 237)
  have hw1 := hw.below hb0
  have hc := hw1.cell
  have hf := hw1.free
  have hsz := hb1.size
  have hbl : b < w.heap.size := World.block_lt_of_cell? _ _ hw.cell
  have hsrc : Src Tryz.prog 1 58 (.slice (some ⟨w1.heap.size, 7, none⟩) 1 1) 1 (u8s [x7]) ((w1.alloc (.cells #[.int .u8 x0, .int .u8 x1, .int .u8 x2, .int .u8 x3, .int .u8 x4, .int .u8 x5, .int .u8 x6, .int .u8 x7] 237)).drew) :=
    Src.ofSlice _ Tryz.underlying58 ⟨w1.heap.size, 7, none⟩ 1 1 _ rfl (fun j u hj => by
      match j, hj with
      | 0, hj => simp at hj; subst hj; simp [Addr.add]
      | j + 1, hj => simp at hj) (ints_oneCell _ _)
  go_region_law ((refine step_app _ rfl (.tmp 14) (.tmp 17) 58 58 rfl B 5 i0 Tryz.underlying58 hi hz0 hz1 hz2 v xs.length (u8s xs) (by simp [Act.eval]) hw1.own.drew _ (by simp [Act.eval]) 1 (u8s [x7]) hsrc (by omega) (by simp; omega) ?_; intro v' w' h1 h2 h3 h4; obtain ⟨ao', c', rfl⟩ := owns_form h1; have hc' := (h2.cell (p := ⟨b, 0, none⟩) (by simp; omega) (fun e => hw.ne e.symm)).trans hc; have hf' := (h2.frozen (p := ⟨b, 0, none⟩) (by simp; omega) (fun e => hw.ne e.symm)).trans hf))
  go_end0
  refine ⟨rfl, ?_⟩
  have h := wr_stored (ys := [x7]) hw hb0.drew rfl h1 h2 h3
  rw [hx]
  exact h

set_option maxHeartbeats 1000000 in
theorem number4 (B : Nat) (b : Nat) (v : Value) (xs : List Int) (n : Int) (w : World) (hw : Wr B w b v xs) (hl : xs.length ≤ 1000000) (hB : B ≤ w.heap.size) :
    Calls Tryz.prog 153 #[.pointer (some ⟨b, 0, none⟩), .int .i64 n, .int .i64 4] w fun e w' => e = .returned (.tuple #[]) ∧ WrPost B w w' b v (xs ++ (be (IntKind.u64.wrap n)).drop 4) := by
  obtain ⟨i0, hi, hz0, hz1, hz2⟩ := info_parts info5
  have hU : 0 ≤ IntKind.u64.wrap n ∧ IntKind.u64.wrap n < 18446744073709551616 := by rw [IntKind.wrap_u64]; omega
  obtain ⟨x0, x1, x2, x3, x4, x5, x6, x7, hx⟩ : ∃ x0 x1 x2 x3 x4 x5 x6 x7, be (IntKind.u64.wrap n) = [x0, x1, x2, x3, x4, x5, x6, x7] := ⟨_, _, _, _, _, _, _, _, rfl⟩
  have hsl : ∀ (g : Nat) (w : World), (Instr.sliceAt 237 (.pointer (some ⟨g, 0, none⟩)) (some (.int .i64 (IntKind.i64.wrap 4))) none none).run Tryz.prog w = .ok (.slice (some ⟨g, 4, none⟩) 4 4) w := fun _ _ => by kernel_rfl
  go_enter Tryz.func153, Tryz.ntmps153
  go_wp2_with (go_at_call 170; refine (be_any _ _ hU.1 hU.2).mono ?_; rintro e w1 ⟨rfl, hb1⟩)
  have hb0 := (hb1.mono (Nat.le_refl _)).alloc hb1.size (.cells #[.int .u8 x0, .int .u8 x1, .int .u8 x2, .int .u8 x3, .int .u8 x4, .int .u8 x5, .int .u8 x6, .int .u8 x7] 237)
  have hw1 := hw.below hb0
  have hc := hw1.cell
  have hf := hw1.free
  have hsz := hb1.size
  have hbl : b < w.heap.size := World.block_lt_of_cell? _ _ hw.cell
  have hsrc : Src Tryz.prog 1 58 (.slice (some ⟨w1.heap.size, 4, none⟩) 4 4) 4 (u8s [x4, x5, x6, x7]) ((w1.alloc (.cells #[.int .u8 x0, .int .u8 x1, .int .u8 x2, .int .u8 x3, .int .u8 x4, .int .u8 x5, .int .u8 x6, .int .u8 x7] 237)).drew) :=
    Src.ofSlice _ Tryz.underlying58 ⟨w1.heap.size, 4, none⟩ 4 4 _ rfl (fun j u hj => by
      match j, hj with
      | 0, hj | 1, hj | 2, hj | 3, hj => simp at hj; subst hj; simp [Addr.add]
      | j + 4, hj => simp at hj) (ints_oneCell _ _)
  go_region_law ((refine step_app _ rfl (.tmp 14) (.tmp 17) 58 58 rfl B 5 i0 Tryz.underlying58 hi hz0 hz1 hz2 v xs.length (u8s xs) (by simp [Act.eval]) hw1.own.drew _ (by simp [Act.eval]) 4 (u8s [x4, x5, x6, x7]) hsrc (by omega) (by simp; omega) ?_; intro v' w' h1 h2 h3 h4; obtain ⟨ao', c', rfl⟩ := owns_form h1; have hc' := (h2.cell (p := ⟨b, 0, none⟩) (by simp; omega) (fun e => hw.ne e.symm)).trans hc; have hf' := (h2.frozen (p := ⟨b, 0, none⟩) (by simp; omega) (fun e => hw.ne e.symm)).trans hf))
  go_end0
  refine ⟨rfl, ?_⟩
  have h := wr_stored (ys := [x4, x5, x6, x7]) hw hb0.drew rfl h1 h2 h3
  rw [hx]
  exact h

set_option maxHeartbeats 1000000 in
theorem number8 (B : Nat) (b : Nat) (v : Value) (xs : List Int) (n : Int) (w : World) (hw : Wr B w b v xs) (hl : xs.length ≤ 1000000) (hB : B ≤ w.heap.size) :
    Calls Tryz.prog 153 #[.pointer (some ⟨b, 0, none⟩), .int .i64 n, .int .i64 8] w fun e w' => e = .returned (.tuple #[]) ∧ WrPost B w w' b v (xs ++ (be (IntKind.u64.wrap n)).drop 0) := by
  obtain ⟨i0, hi, hz0, hz1, hz2⟩ := info_parts info5
  have hU : 0 ≤ IntKind.u64.wrap n ∧ IntKind.u64.wrap n < 18446744073709551616 := by rw [IntKind.wrap_u64]; omega
  obtain ⟨x0, x1, x2, x3, x4, x5, x6, x7, hx⟩ : ∃ x0 x1 x2 x3 x4 x5 x6 x7, be (IntKind.u64.wrap n) = [x0, x1, x2, x3, x4, x5, x6, x7] := ⟨_, _, _, _, _, _, _, _, rfl⟩
  have hsl : ∀ (g : Nat) (w : World), (Instr.sliceAt 237 (.pointer (some ⟨g, 0, none⟩)) (some (.int .i64 (IntKind.i64.wrap 0))) none none).run Tryz.prog w = .ok (.slice (some ⟨g, 0, none⟩) 8 8) w := fun _ _ => by kernel_rfl
  go_enter Tryz.func153, Tryz.ntmps153
  go_wp2_with (go_at_call 170; refine (be_any _ _ hU.1 hU.2).mono ?_; rintro e w1 ⟨rfl, hb1⟩)
  have hb0 := (hb1.mono (Nat.le_refl _)).alloc hb1.size (.cells #[.int .u8 x0, .int .u8 x1, .int .u8 x2, .int .u8 x3, .int .u8 x4, .int .u8 x5, .int .u8 x6, .int .u8 x7] 237)
  have hw1 := hw.below hb0
  have hc := hw1.cell
  have hf := hw1.free
  have hsz := hb1.size
  have hbl : b < w.heap.size := World.block_lt_of_cell? _ _ hw.cell
  have hsrc : Src Tryz.prog 1 58 (.slice (some ⟨w1.heap.size, 0, none⟩) 8 8) 8 (u8s [x0, x1, x2, x3, x4, x5, x6, x7]) ((w1.alloc (.cells #[.int .u8 x0, .int .u8 x1, .int .u8 x2, .int .u8 x3, .int .u8 x4, .int .u8 x5, .int .u8 x6, .int .u8 x7] 237)).drew) :=
    Src.ofSlice _ Tryz.underlying58 ⟨w1.heap.size, 0, none⟩ 8 8 _ rfl (fun j u hj => by
      match j, hj with
      | 0, hj | 1, hj | 2, hj | 3, hj | 4, hj | 5, hj | 6, hj | 7, hj => simp at hj; subst hj; simp [Addr.add]
      | j + 8, hj => simp at hj) (ints_oneCell _ _)
  go_region_law ((refine step_app _ rfl (.tmp 14) (.tmp 17) 58 58 rfl B 5 i0 Tryz.underlying58 hi hz0 hz1 hz2 v xs.length (u8s xs) (by simp [Act.eval]) hw1.own.drew _ (by simp [Act.eval]) 8 (u8s [x0, x1, x2, x3, x4, x5, x6, x7]) hsrc (by omega) (by simp; omega) ?_; intro v' w' h1 h2 h3 h4; obtain ⟨ao', c', rfl⟩ := owns_form h1; have hc' := (h2.cell (p := ⟨b, 0, none⟩) (by simp; omega) (fun e => hw.ne e.symm)).trans hc; have hf' := (h2.frozen (p := ⟨b, 0, none⟩) (by simp; omega) (fun e => hw.ne e.symm)).trans hf))
  go_end0
  refine ⟨rfl, ?_⟩
  have h := wr_stored (ys := [x0, x1, x2, x3, x4, x5, x6, x7]) hw hb0.drew rfl h1 h2 h3
  rw [hx]
  exact h

set_option maxHeartbeats 400000 in
theorem wU8 (B : Nat) (b : Nat) (v : Value) (xs : List Int) (n : Int) (w : World) (hw : Wr B w b v xs) (hl : xs.length ≤ 1000000) (hB : B ≤ w.heap.size) :
    Calls Tryz.prog 219 #[.pointer (some ⟨b, 0, none⟩), .int .i64 n] w fun e w' => e = .returned (.tuple #[]) ∧ WrPost B w w' b v (xs ++ (be (IntKind.u64.wrap n)).drop 7) := by
  go_enter Tryz.func219, Tryz.ntmps219
  go_wp2_with (go_at_call 153; refine (number1 B b v xs n _ hw hl hB).mono ?_; rintro e w1 ⟨rfl, hp⟩)
  go_end0
  exact ⟨rfl, hp⟩

set_option maxHeartbeats 400000 in
theorem wU32 (B : Nat) (b : Nat) (v : Value) (xs : List Int) (n : Int) (w : World) (hw : Wr B w b v xs) (hl : xs.length ≤ 1000000) (hB : B ≤ w.heap.size) :
    Calls Tryz.prog 126 #[.pointer (some ⟨b, 0, none⟩), .int .i64 n] w fun e w' => e = .returned (.tuple #[]) ∧ WrPost B w w' b v (xs ++ (be (IntKind.u64.wrap n)).drop 4) := by
  go_enter Tryz.func126, Tryz.ntmps126
  go_wp2_with (go_at_call 153; refine (number4 B b v xs n _ hw hl hB).mono ?_; rintro e w1 ⟨rfl, hp⟩)
  go_end0
  exact ⟨rfl, hp⟩

set_option maxHeartbeats 400000 in
theorem wInt (B : Nat) (b : Nat) (v : Value) (xs : List Int) (n : Int) (w : World) (hw : Wr B w b v xs) (hl : xs.length ≤ 1000000) (hB : B ≤ w.heap.size) :
    Calls Tryz.prog 220 #[.pointer (some ⟨b, 0, none⟩), .int .i64 n] w fun e w' => e = .returned (.tuple #[]) ∧ WrPost B w w' b v (xs ++ (be (IntKind.u64.wrap n)).drop 0) := by
  go_enter Tryz.func220, Tryz.ntmps220
  go_wp2_with (go_at_call 153; refine (number8 B b v xs n _ hw hl hB).mono ?_; rintro e w1 ⟨rfl, hp⟩)
  go_end0
  exact ⟨rfl, hp⟩
end Go.Proofs.YtecnlfalpfbobaaGreatDoor
/- What a text, a new writer, its bytes and a frame are: pen.Text, pen.NewWriter, pen.Done, pen.Frame. -/
namespace Go.Proofs.YtecnlfalpfbobaaGreatDoor
open Go Go.RowKit
/-- A string's bytes, as numbers. -/
def strB (s : ByteArray) : List Int := s.data.toList.map fun b => (b.toNat : Int)
theorem strB_len (s : ByteArray) : (strB s).length = s.size := by simp [strB]
theorem byteCells_eq (s : ByteArray) : byteCells s = u8s (strB s) := by simp [byteCells, strB, u8s]

theorem wpost_name {B : Nat} {w w1 : World} {b : Nat} {v : Value} {xs : List Int} {n : Int} (h : WrPost B w w1 b v (xs ++ (be n).drop 4)) :
    ∃ ys v1, Hid (ys = xs ++ (be n).drop 4) ∧ ys.length ≤ xs.length + 4 ∧ Wr B w1 b v1 ys ∧ Upd w w1 (fun k => k = b ∨ some k = v.ownBlock) ∧ (v1.ownBlock = v.ownBlock ∨ ∃ g, w.heap.size ≤ g ∧ v1.ownBlock = some g) := by
  obtain ⟨v1, h1, h2, h3⟩ := h
  exact ⟨_, v1, rfl, by simp [be_len], h1, h2, h3⟩
set_option maxHeartbeats 1000000 in
theorem wText (B : Nat) (b : Nat) (v : Value) (xs : List Int) (s : ByteArray) (w : World) (hw : Wr B w b v xs) (hl : xs.length ≤ 900000) (hs : s.size ≤ 100000) (hB : B ≤ w.heap.size) :
    Calls Tryz.prog 222 #[.pointer (some ⟨b, 0, none⟩), .string s] w fun e w' => e = .returned (.tuple #[]) ∧ WrPost B w w' b v (xs ++ ((be (IntKind.u64.wrap s.size)).drop 4 ++ strB s)) := by
  obtain ⟨i0, hi, hz0, hz1, hz2⟩ := info_parts info5
  go_enter Tryz.func222, Tryz.ntmps222
  go_wp2_with (first | (go_at_call 126; refine (wU32 B b v xs _ _ hw (by omega) hB).mono ?_; rintro e w1 ⟨rfl, hp⟩; obtain ⟨ys, v1, HY, hyl, hw1, hu1, ho1⟩ := wpost_name hp; have hc := hw1.cell; have hf := hw1.free) | (at_builtin; refine wpList_app _ rfl (.tmp 12) (.tmp 13) 58 9 rfl B 5 i0 Tryz.underlying58 hi hz0 hz1 hz2 v1 ys.length (u8s ys) rfl hw1.own _ rfl _ _ (Src.ofString _ Tryz.underlying9 s) (by omega) (by have := hu1.size; omega) ?_; intro v' w' h1 h2 h3 h4; obtain ⟨ao', c', rfl⟩ := owns_form h1; have hc' := (h2.cell (p := ⟨b, 0, none⟩) hw1.lt (fun e => hw1.ne e.symm)).trans hc; have hf' := (h2.frozen (p := ⟨b, 0, none⟩) hw1.lt (fun e => hw1.ne e.symm)).trans hf))
  go_end0
  refine ⟨rfl, WrPost.next hu1 ho1 ?_⟩
  rw [byteCells_eq] at h1
  have h := wr_stored (ys := strB s) hw1 (Below.refl _ _) (strB_len s) h1 h2 h3
  have e : ys ++ strB s = xs ++ (List.drop 4 (be (IntKind.u64.wrap ↑s.size)) ++ strB s) := by rw [HY.out, List.append_assoc]
  rw [e] at h
  exact h

set_option maxHeartbeats 1000000 in
theorem wNew (w : World) :
    Calls Tryz.prog 93 #[] w fun e w' => e = .returned (.pointer (some ⟨w.heap.size, 0, none⟩)) ∧ w' = w.alloc (.cells #[.slice none 0 0] 197) := by
  go_enter Tryz.func93, Tryz.ntmps93
  go_wp2
  go_ret
  exact ⟨rfl, rfl⟩

set_option maxHeartbeats 1000000 in
theorem wDone (B : Nat) (b : Nat) (v : Value) (xs : List Int) (w : World) (hw : Wr B w b v xs) (hl : xs.length ≤ 1000000) :
    Calls Tryz.prog 95 #[.pointer (some ⟨b, 0, none⟩)] w fun e w' => ∃ v', e = .returned v' ∧ w'.ownsRow w.heap.size 5 1 v' xs.length (u8s xs) ∧ Below w.heap.size w w' := by
  have hc := hw.cell
  have hsee := sees_own hw.own
  go_enter Tryz.func95, Tryz.ntmps95
  go_wp2_with (go_at_call 80; refine (clone_any _ xs _ hsee hl).mono ?_; rintro e w1 ⟨v', rfl, h1, h2⟩)
  go_ret
  exact ⟨_, rfl, h1, h2⟩

theorem Sees.formP {w : World} {v : Value} {zs : List Int} (h : Sees w v zs) : ∃ ao cap, v = .slice ao zs.length cap ∧ cap ≤ maxLen ∧ zs.length ≤ cap := by
  rcases h with ⟨rfl, ao, cap, rfl, _, h⟩ | ⟨b, off, cap, rfl, _, h1, h2, _⟩
  · exact ⟨_, _, rfl, h, Nat.zero_le _⟩
  · exact ⟨_, _, rfl, h2, h1⟩
theorem Upd.belowWr {B : Nat} {w w' : World} {b : Nat} {v : Value} {xs : List Int} (hu : Upd w w' (fun k => k = b ∨ some k = v.ownBlock)) (hw : Wr B w b v xs) (hB : B ≤ w.heap.size) : Below B w w' :=
  hu.below hB (fun k hk h => by
    rcases h with h | h
    · have := hw.base; omega
    · have := (hw.own.lt k h.symm).1; omega)
theorem wrap_small (n : Nat) (h : n < 9223372036854775808) : IntKind.u64.wrap (n : Int) = (n : Int) := by rw [IntKind.wrap_u64]; omega
theorem crc_lt (zs : List Int) : crc zs < 4294967296 := by unfold crc; omega
/-- A frame, as numbers. -/
def frameB (zs : List Int) : List Int := (be zs.length).drop 4 ++ ((be (crc zs : Nat)).drop 4 ++ zs)

set_option maxHeartbeats 1000000 in
theorem frame_any (v : Value) (zs : List Int) (w : World) (hT : HasTab w) (hb : isB zs) (hl : zs.length ≤ 100000) (hv : Sees w v zs) :
    Calls Tryz.prog 94 #[v] w fun e w' => ∃ v', e = .returned v' ∧ w'.ownsRow w.heap.size 5 1 v' (frameB zs).length (u8s (frameB zs)) ∧ Below w.heap.size w w' := by
  obtain ⟨i0, hi, hz0, hz1, hz2⟩ := info_parts info5
  obtain ⟨ao, cap, rfl, _, _⟩ := hv.formP
  go_enter Tryz.func94, Tryz.ntmps94
  go_wp2_with (refine wpList_make_own _ rfl _ _ 58 rfl w.heap.size 5 i0 (.int .u8 0) 1 Tryz.underlying58 hi hz0 hz1 .i64 .i64 _ (8 + zs.length) rfl rfl (by omega) (by rw [hz2]; omega) (by unfold maxLen; omega) (Nat.le_refl _) ?_; intro w1 h1 h2)
  have hs1 := h2.size
  have hlt1 : w.heap.size < w1.heap.size := (h1.lt _ rfl).2
  have hb1 : Below w.heap.size w w1 := (Below.refl _ _).grown h2 (Nat.le_refl _) (fun k hk => by cases hk)
  have hw0 : Wr w.heap.size (w1.alloc (.cells #[.slice (some ⟨w.heap.size, 0, none⟩) 0 (8 + zs.length)] 197)) w1.heap.size (.slice (some ⟨w.heap.size, 0, none⟩) 0 (8 + zs.length)) [] :=
    ⟨by simp, by simp, h1.alloc _, fun e => by have := Option.some.inj (show some w.heap.size = some w1.heap.size from e); omega, hs1⟩
  refine (wU32 _ _ _ _ _ _ hw0 (by simp) (by simp; omega)).mono ?_
  rintro e w2 ⟨rfl, hp⟩
  obtain ⟨ys, v1, HY, hyl, hw1, hu1, ho1⟩ := wpost_name hp
  have hb2 : Below w.heap.size w w2 := (hb1.alloc hs1 _).trans (hu1.belowWr hw0 (by simp; omega))
  clear hp h1 h2 hw0 hu1 ho1
  simp only [List.length_nil] at hyl
  have hcrc := crc_lt zs
  go_wp2_with (go_at_call 127; refine (sum_any _ zs _ (hT.below hb2) hb (by omega) (hv.below hb2)).mono ?_; rintro e w3 ⟨rfl, rfl⟩)
  refine (wU32 _ _ _ _ _ _ hw1 (by omega) (by have := hb2.size; omega)).mono ?_
  rintro e w4 ⟨rfl, hp⟩
  obtain ⟨ts, v2, HZ, htl, hw2, hu2, ho2⟩ := wpost_name hp
  have hb3 : Below w.heap.size w w4 := hb2.trans (hu2.belowWr hw1 (by have := hb2.size; omega))
  have hsrc := Src_sees (hv.below hb3)
  have hc2 := hw2.cell
  clear hp hw1 hb2 hb1 hu2 ho2
  go_wp2_with (at_builtin; refine wpList_app _ rfl (.tmp 17) (.tmp 18) 58 58 rfl w.heap.size 5 i0 Tryz.underlying58 hi hz0 hz1 hz2 v2 ts.length (u8s ts) rfl hw2.own _ rfl _ _ hsrc (by omega) (by have := hb3.size; omega) ?_; intro v' w' h1 h2 h3 h4)
  go_ret
  refine ⟨_, rfl, ?_, ?_⟩
  · have e : frameB zs = ts ++ zs := by
      rw [HZ.out, HY.out, wrap_small _ (by omega), wrap_small _ (by omega), List.nil_append, List.append_assoc]; rfl
    rw [e, List.length_append]
    simpa using h1
  · exact hb3.trans (h2.below (by have := hb3.size; omega) (fun k hk h => by have := (hw2.own.lt k h.symm).1; omega))
theorem frame_known : frameB [49, 50, 51, 52, 53, 54, 55, 56, 57] = [0, 0, 0, 9, 203, 244, 57, 38, 49, 50, 51, 52, 53, 54, 55, 56, 57] := by
  unfold frameB
  rw [crc_known]
  decide
end Go.Proofs.YtecnlfalpfbobaaGreatDoor
/- What a reader of package pen keeps, and what its taking of bytes does. -/
namespace Go.Proofs.YtecnlfalpfbobaaGreatDoor
open Go Go.RowKit
/-- A reader at block b: its bytes xs, how many were read, the error that is kept. -/
structure Re (B : Nat) (w : World) (b : Nat) (v : Value) (xs : List Int) (at_ : Nat) (err : Int) : Prop where
  c0 : w.cell? ⟨b, 0, none⟩ = some v
  c1 : w.cell? ⟨b, 1, none⟩ = some (.int .i64 at_)
  c2 : w.cell? ⟨b, 2, none⟩ = some (.int .i64 err)
  f1 : w.frozen? ⟨b, 1, none⟩ = false
  f2 : w.frozen? ⟨b, 2, none⟩ = false
  own : w.ownsRow B 5 1 v xs.length (u8s xs)
  ne : v.ownBlock ≠ some b
  base : B ≤ b
  le : at_ ≤ xs.length
  small : xs.length ≤ 1000000
  bytes : isB xs

theorem Re.lt {B : Nat} {w : World} {b : Nat} {v : Value} {xs : List Int} {a : Nat} {e : Int} (h : Re B w b v xs a e) : b < w.heap.size := World.block_lt_of_cell? _ _ h.c0
theorem Re.upd {B : Nat} {w w' : World} {S : Nat → Prop} {b : Nat} {v : Value} {xs : List Int} {a : Nat} {e : Int} (h : Re B w b v xs a e) (hu : Upd w w' S) (h1 : ¬ S b) (h2 : ∀ k, v.ownBlock = some k → ¬ S k) : Re B w' b v xs a e :=
  have hl := h.lt
  ⟨(hu.cell (p := ⟨b, 0, none⟩) hl h1).trans h.c0, (hu.cell (p := ⟨b, 1, none⟩) hl h1).trans h.c1, (hu.cell (p := ⟨b, 2, none⟩) hl h1).trans h.c2,
   (hu.frozen (p := ⟨b, 1, none⟩) hl h1).trans h.f1, (hu.frozen (p := ⟨b, 2, none⟩) hl h1).trans h.f2, ownsRow_upd h.own hu h2, h.ne, h.base, h.le, h.small, h.bytes⟩
theorem Upd.drewNP (w : World) (n : Nat) (S : Nat → Prop) : Upd w (w.drewN n) S := Upd.ofBelow (below_drewN (Below.refl _ _) n)

set_option maxHeartbeats 400000 in
theorem left_any (B : Nat) (b : Nat) (v : Value) (xs : List Int) (at_ : Nat) (err : Int) (w : World) (hr : Re B w b v xs at_ err) :
    Calls Tryz.prog 151 #[.pointer (some ⟨b, 0, none⟩)] w fun e w' => e = .returned (.int .i64 ((xs.length : Int) - at_)) ∧ ∃ n, w' = w.drewN n := by
  obtain ⟨ao, cp, rfl⟩ := owns_form hr.own
  have h0 := hr.c0
  have h1 := hr.c1
  have hle := hr.le
  have hsm := hr.small
  clear hr
  go_enter Tryz.func151, Tryz.ntmps151
  go_wp2
  go_quiet (fail)
  go_wp2
  go_ret
  exact ⟨rfl, _, rfl⟩

theorem Re.err {B : Nat} {w : World} {b : Nat} {v : Value} {xs : List Int} {a : Nat} {e : Int} (h : Re B w b v xs a e) (e' : Int) : Re B (w.setCell ⟨b, 2, none⟩ (.int .i64 e')) b v xs a e' := by
  have hset : Upd w (w.setCell ⟨b, 2, none⟩ (.int .i64 e')) (fun k => k = b) := (Upd.refl w (fun k => k = b)).setCell (p := ⟨b, 2, none⟩) (.inr rfl) _
  refine ⟨?_, ?_, World.cell?_setCell_same _ _ _ h.c2, by rw [World.frozen?_setCell]; exact h.f1, by rw [World.frozen?_setCell]; exact h.f2, ownsRow_upd h.own hset (fun k hk e => h.ne (by rw [hk, e])), h.ne, h.base, h.le, h.small, h.bytes⟩
  · rw [World.cell?_setCell_other _ _ _ _ (by simp)]; exact h.c0
  · rw [World.cell?_setCell_other _ _ _ _ (by simp)]; exact h.c1
theorem Re.go {B : Nat} {w : World} {b : Nat} {v : Value} {xs : List Int} {a : Nat} {e : Int} (h : Re B w b v xs a e) (a' : Nat) (hle : a' ≤ xs.length) : Re B (w.setCell ⟨b, 1, none⟩ (.int .i64 a')) b v xs a' e := by
  have hset : Upd w (w.setCell ⟨b, 1, none⟩ (.int .i64 a')) (fun k => k = b) := (Upd.refl w (fun k => k = b)).setCell (p := ⟨b, 1, none⟩) (.inr rfl) _
  refine ⟨?_, World.cell?_setCell_same _ _ _ h.c1, ?_, by rw [World.frozen?_setCell]; exact h.f1, by rw [World.frozen?_setCell]; exact h.f2, ownsRow_upd h.own hset (fun k hk e => h.ne (by rw [hk, e])), h.ne, h.base, hle, h.small, h.bytes⟩
  · rw [World.cell?_setCell_other _ _ _ _ (by simp)]; exact h.c0
  · rw [World.cell?_setCell_other _ _ _ _ (by simp)]; exact h.c2

/-- What a reader's call leaves. -/
def RePost (B : Nat) (w w' : World) (b : Nat) (v : Value) (xs : List Int) (a : Nat) (e : Int) : Prop := Re B w' b v xs a e ∧ Upd w w' (fun k => k = b)

set_option maxHeartbeats 400000 in
theorem take_err (B : Nat) (b : Nat) (v : Value) (xs : List Int) (at_ : Nat) (err : Int) (n : Int) (w : World) (hr : Re B w b v xs at_ err) (he : err ≠ 0) :
    Calls Tryz.prog 168 #[.pointer (some ⟨b, 0, none⟩), .int .i64 n] w fun e w' => e = .returned (.slice none 0 0) ∧ RePost B w w' b v xs at_ 8 := by
  have h2 := hr.c2
  have hf2 := hr.f2
  have he' : (err == 0) = false := by simpa using he
  go_enter Tryz.func168, Tryz.ntmps168
  go_wp2
  go_ret
  exact ⟨rfl, hr.err 8, (Upd.refl w (fun k => k = b)).setCell (p := ⟨b, 2, none⟩) (.inr rfl) _⟩
set_option maxHeartbeats 400000 in
theorem take_cut (B : Nat) (b : Nat) (v : Value) (xs : List Int) (at_ : Nat) (n : Int) (w : World) (hr : Re B w b v xs at_ 0) (hn : (xs.length : Int) - at_ < n) :
    Calls Tryz.prog 168 #[.pointer (some ⟨b, 0, none⟩), .int .i64 n] w fun e w' => e = .returned (.slice none 0 0) ∧ RePost B w w' b v xs at_ 8 := by
  have h2 := hr.c2
  have hf2 := hr.f2
  go_enter Tryz.func168, Tryz.ntmps168
  go_wp2_with (go_at_call 151; refine (left_any _ _ _ _ _ _ _ hr).mono ?_; rintro e w1 ⟨rfl, k, rfl⟩)
  go_ret
  exact ⟨rfl, (hr.upd (Upd.drewNP w k (fun _ => False)) (fun h => h) (fun _ _ h => h)).err 8, (Upd.drewNP w k (fun k => k = b)).setCell (p := ⟨b, 2, none⟩) (.inr rfl) _⟩
theorem sees_sub {B : Nat} {w : World} {g cap : Nat} {xs : List Int} (h : w.ownsRow B 5 1 (.slice (some ⟨g, 0, none⟩) xs.length cap) xs.length (u8s xs)) (a n c : Nat) (hn : a + n ≤ xs.length) (hc : n ≤ c) (hcm : c ≤ maxLen) :
    Sees w (.slice (some ⟨g, a, none⟩) n c) ((xs.drop a).take n) := by
  by_cases h0 : n = 0
  · subst h0
    exact .inl ⟨by simp, _, c, rfl, (fun e => by cases e), hcm⟩
  · have hl : ((xs.drop a).take n).length = n := by simp; omega
    refine .inr ⟨g, a, c, by rw [hl], by omega, by omega, hcm, fun i hi => ?_⟩
    rw [owns_cells h (a + i) (by omega)]
    have : i < n := by omega
    simp [List.getD_eq_getElem?_getD, this]
theorem re_moved {B : Nat} {w : World} {b : Nat} {v : Value} {xs : List Int} {a : Nat} {e : Int} (h : Re B w b v xs a e) (k nq n : Nat) (hn : a + n ≤ xs.length) :
    RePost B w (((w.drewN k).setCell ⟨b, 1, none⟩ (.int .i64 ((a : Int) + n))).drewN nq) b v xs (a + n) e := by
  have e1 : (a : Int) + n = ((a + n : Nat) : Int) := by omega
  rw [e1]
  refine ⟨(((h.upd (Upd.drewNP w k (fun _ => False)) (fun h => h) (fun _ _ h => h)).go (a + n) hn).upd (Upd.drewNP _ nq (fun _ => False)) (fun h => h) (fun _ _ h => h)), ?_⟩
  exact ((Upd.drewNP w k (fun k => k = b)).setCell (p := ⟨b, 1, none⟩) (.inr rfl) _).trans (Upd.drewNP _ nq (fun _ => False)) (fun _ _ h => h.elim)

set_option maxHeartbeats 400000 in
theorem take_ok (B : Nat) (b : Nat) (v : Value) (xs : List Int) (at_ : Nat) (n : Nat) (w : World) (hr : Re B w b v xs at_ 0) (hn : at_ + n ≤ xs.length) :
    Calls Tryz.prog 168 #[.pointer (some ⟨b, 0, none⟩), .int .i64 n] w fun e w' => ∃ v', e = .returned v' ∧ RePost B w w' b v xs (at_ + n) 0 ∧ Sees w' v' ((xs.drop at_).take n) := by
  have h0 := hr.c0
  have h1 := hr.c1
  have h2 := hr.c2
  have hf1 := hr.f1
  have hsm := hr.small
  have hd : decide ((xs.length : Int) - at_ < (n : Int)) = false := by simp; omega
  have hn' : (n : Int) ≤ (xs.length : Int) - at_ := by omega
  rcases hr.own.2 with ⟨rfl, hx⟩ | ⟨g, cap, cur, rfl, hbg, hg, hnc, hcm, hcs, htake⟩
  · obtain rfl : at_ = 0 := by omega
    obtain rfl : n = 0 := by omega
    go_enter Tryz.func168, Tryz.ntmps168
    go_wp2_with (go_at_call 151; refine (left_any _ _ _ _ _ _ _ hr).mono ?_; rintro e w1 ⟨rfl, k, rfl⟩)
    go_quiet (fail)
    go_wp2
    go_ret
    refine ⟨_, rfl, ?_, ?_⟩
    · have := re_moved hr k nq 0 (by omega)
      simpa using this
    · exact .inl ⟨by simp, _, _, rfl, (fun _ => rfl), by decide⟩
  · clear hg
    go_enter Tryz.func168, Tryz.ntmps168
    go_wp2_with (go_at_call 151; refine (left_any _ _ _ _ _ _ _ hr).mono ?_; rintro e w1 ⟨rfl, k, rfl⟩)
    go_quiet (fail)
    go_wp2
    · have hca : cap = at_ := by assumption
      go_ret
      refine ⟨_, rfl, by subst hca; exact re_moved hr k nq n hn, ?_⟩
      obtain rfl : n = 0 := by omega
      exact .inl ⟨by simp, _, _, rfl, (fun e => by cases e), by decide⟩
    · go_ret
      exact ⟨_, rfl, re_moved hr k nq n hn, sees_sub (re_moved hr k nq n hn).1.own at_ n _ hn (by omega) (by omega)⟩
end Go.Proofs.YtecnlfalpfbobaaGreatDoor
/- What the calls of a reader of package pen answer, and what they leave. -/
namespace Go.Proofs.YtecnlfalpfbobaaGreatDoor
open Go Go.RowKit
def okT (xs : List Int) (a : Nat) (e : Int) (n : Nat) : Bool := decide (e = 0 ∧ a + n ≤ xs.length)
def takeA (xs : List Int) (a : Nat) (e : Int) (n : Nat) : Nat := if okT xs a e n then a + n else a
def takeE (xs : List Int) (a : Nat) (e : Int) (n : Nat) : Int := if okT xs a e n then 0 else 8
def takeB (xs : List Int) (a : Nat) (e : Int) (n : Nat) : List Int := if okT xs a e n then (xs.drop a).take n else []
theorem takeB_len (xs : List Int) (a : Nat) (e : Int) (n : Nat) : (takeB xs a e n).length ≤ n := by
  unfold takeB; split
  · exact List.length_take_le _ _
  · simp
theorem takeB_isB {xs : List Int} (h : isB xs) (a : Nat) (e : Int) (n : Nat) : isB (takeB xs a e n) := by
  unfold takeB; split
  · exact fun x hx => h x (List.mem_of_mem_drop (List.mem_of_mem_take hx))
  · intro x hx; cases hx

theorem take_any (B : Nat) (b : Nat) (v : Value) (xs : List Int) (at_ : Nat) (err : Int) (n : Nat) (w : World) (hr : Re B w b v xs at_ err) :
    Calls Tryz.prog 168 #[.pointer (some ⟨b, 0, none⟩), .int .i64 n] w fun e w' => ∃ v', e = .returned v' ∧ RePost B w w' b v xs (takeA xs at_ err n) (takeE xs at_ err n) ∧ Sees w' v' (takeB xs at_ err n) := by
  by_cases h : okT xs at_ err n = true
  · have h' := of_decide_eq_true h
    obtain ⟨rfl, hn⟩ := h'
    refine (take_ok B b v xs at_ n w hr hn).mono ?_
    rintro e w' ⟨v', rfl, h1, h2⟩
    exact ⟨v', rfl, by rw [takeA, takeE, if_pos h, if_pos h]; exact h1, by rw [takeB, if_pos h]; exact h2⟩
  · have hz : ¬ (err = 0 ∧ at_ + n ≤ xs.length) := fun hh => h (decide_eq_true hh)
    have fin : ∀ (e : Ending) (w' : World), (e = .returned (.slice none 0 0) ∧ RePost B w w' b v xs at_ 8) → ∃ v', e = .returned v' ∧ RePost B w w' b v xs (takeA xs at_ err n) (takeE xs at_ err n) ∧ Sees w' v' (takeB xs at_ err n) := by
      rintro e w' ⟨rfl, h1⟩
      exact ⟨_, rfl, by rw [takeA, takeE, if_neg h, if_neg h]; exact h1, by rw [takeB, if_neg h]; exact .inl ⟨rfl, _, _, rfl, (fun _ => rfl), by decide⟩⟩
    by_cases he : err = 0
    · subst he
      exact (take_cut B b v xs at_ n w hr (by omega)).mono fin
    · exact (take_err B b v xs at_ err n w hr he).mono fin

set_option maxHeartbeats 400000 in
theorem rnum (B : Nat) (b : Nat) (v : Value) (xs : List Int) (at_ : Nat) (err : Int) (n : Nat) (w : World) (hr : Re B w b v xs at_ err) (hn : n ≤ 8) :
    Calls Tryz.prog 167 #[.pointer (some ⟨b, 0, none⟩), .int .i64 n] w fun e w' => e = .returned (.int .i64 (wrap64 (rd (takeB xs at_ err n)))) ∧ RePost B w w' b v xs (takeA xs at_ err n) (takeE xs at_ err n) := by
  go_enter Tryz.func167, Tryz.ntmps167
  go_wp2_with (first | (go_at_call 168; refine (take_any _ _ _ _ _ _ _ _ hr).mono ?_; rintro e w1 ⟨v1, rfl, hp, hs⟩) | (go_at_call 144; refine (fbe_any _ _ _ hs (Nat.le_trans (takeB_len _ _ _ _) hn) (takeB_isB hr.bytes _ _ _)).mono ?_; rintro e w2 ⟨rfl, rfl⟩))
  go_ret
  exact ⟨rfl, hp⟩
set_option maxHeartbeats 400000 in
theorem rU8 (B : Nat) (b : Nat) (v : Value) (xs : List Int) (at_ : Nat) (err : Int) (w : World) (hr : Re B w b v xs at_ err) :
    Calls Tryz.prog 146 #[.pointer (some ⟨b, 0, none⟩)] w fun e w' => e = .returned (.int .i64 (wrap64 (rd (takeB xs at_ err 1)))) ∧ RePost B w w' b v xs (takeA xs at_ err 1) (takeE xs at_ err 1) := by
  have hnum := rnum B b v xs at_ err 1 w hr (by omega)
  go_enter Tryz.func146, Tryz.ntmps146
  go_wp2_with (go_at_call 167; refine hnum.mono ?_; rintro e w1 ⟨rfl, hp⟩)
  go_ret
  exact ⟨rfl, hp⟩
set_option maxHeartbeats 400000 in
theorem rU32 (B : Nat) (b : Nat) (v : Value) (xs : List Int) (at_ : Nat) (err : Int) (w : World) (hr : Re B w b v xs at_ err) :
    Calls Tryz.prog 169 #[.pointer (some ⟨b, 0, none⟩)] w fun e w' => e = .returned (.int .i64 (wrap64 (rd (takeB xs at_ err 4)))) ∧ RePost B w w' b v xs (takeA xs at_ err 4) (takeE xs at_ err 4) := by
  have hnum := rnum B b v xs at_ err 4 w hr (by omega)
  go_enter Tryz.func169, Tryz.ntmps169
  go_wp2_with (go_at_call 167; refine hnum.mono ?_; rintro e w1 ⟨rfl, hp⟩)
  go_ret
  exact ⟨rfl, hp⟩
set_option maxHeartbeats 400000 in
theorem rInt (B : Nat) (b : Nat) (v : Value) (xs : List Int) (at_ : Nat) (err : Int) (w : World) (hr : Re B w b v xs at_ err) :
    Calls Tryz.prog 147 #[.pointer (some ⟨b, 0, none⟩)] w fun e w' => e = .returned (.int .i64 (wrap64 (rd (takeB xs at_ err 8)))) ∧ RePost B w w' b v xs (takeA xs at_ err 8) (takeE xs at_ err 8) := by
  have hnum := rnum B b v xs at_ err 8 w hr (by omega)
  go_enter Tryz.func147, Tryz.ntmps147
  go_wp2_with (go_at_call 167; refine hnum.mono ?_; rintro e w1 ⟨rfl, hp⟩)
  go_ret
  exact ⟨rfl, hp⟩
set_option maxHeartbeats 400000 in
theorem rErr (B : Nat) (b : Nat) (v : Value) (xs : List Int) (at_ : Nat) (err : Int) (w : World) (hr : Re B w b v xs at_ err) :
    Calls Tryz.prog 150 #[.pointer (some ⟨b, 0, none⟩)] w fun e w' => e = .returned (.int .i64 err) ∧ w = w' := by
  have h2 := hr.c2
  clear hr
  go_enter Tryz.func150, Tryz.ntmps150
  go_wp2
  go_ret
  exact ⟨rfl, rfl⟩
set_option maxHeartbeats 400000 in
theorem rNew (v : Value) (zs : List Int) (w : World) (hv : Sees w v zs) (hb : isB zs) (hl : zs.length ≤ 1000000) :
    Calls Tryz.prog 145 #[v] w fun e w' => ∃ b v', e = .returned (.pointer (some ⟨b, 0, none⟩)) ∧ Re w.heap.size w' b v' zs 0 0 ∧ Below w.heap.size w w' := by
  go_enter Tryz.func145, Tryz.ntmps145
  go_wp2_with (go_at_call 80; refine (clone_any _ zs _ hv hl).mono ?_; rintro e w1 ⟨v', rfl, h1, h2⟩; obtain ⟨ao, cp, rfl⟩ := owns_form h1)
  go_ret
  refine ⟨w1.heap.size, _, rfl, ⟨by simp, by simp, by simp, by simp, by simp, h1.alloc _, fun e => ?_, h2.size, Nat.zero_le _, hl, hb⟩, h2.alloc h2.size _⟩
  have := (h1.lt _ e).2
  omega
def textN (xs : List Int) (a : Nat) (e : Int) : Nat := (rd (takeB xs a e 4)).toNat
def textE (xs : List Int) (a : Nat) (e : Int) : Int := takeE xs (takeA xs a e 4) (takeE xs a e 4) (textN xs a e)
def textB (xs : List Int) (a : Nat) (e : Int) : List Int := takeB xs (takeA xs a e 4) (takeE xs a e 4) (textN xs a e)
def textA (xs : List Int) (a : Nat) (e : Int) : Nat := if textE xs a e = 0 then takeA xs (takeA xs a e 4) (takeE xs a e 4) (textN xs a e) else a
theorem rd_le {l : List Int} (hb : isB l) (h : l.length ≤ 4) : 0 ≤ rd l ∧ rd l < 4294967296 := by
  have h1 := rd_bd l.length l rfl hb
  rcases (by omega : l.length = 0 ∨ l.length = 1 ∨ l.length = 2 ∨ l.length = 3 ∨ l.length = 4) with h2 | h2 | h2 | h2 | h2 <;> (rw [h2] at h1; simp only [Int.reducePow] at h1; omega)
theorem textN_eq {xs : List Int} (hb : isB xs) (a : Nat) (e : Int) : wrap64 (rd (takeB xs a e 4)) = (textN xs a e : Int) := by
  have h := rd_le (takeB_isB hb a e 4) (takeB_len xs a e 4)
  unfold textN wrap64
  omega
set_option maxRecDepth 100000 in
set_option maxHeartbeats 1000000 in
theorem rText (B : Nat) (b : Nat) (v : Value) (xs : List Int) (at_ : Nat) (err : Int) (w : World) (hr : Re B w b v xs at_ err) :
    Calls Tryz.prog 148 #[.pointer (some ⟨b, 0, none⟩)] w fun e w' => e = .returned (.string (strOfNums (textB xs at_ err))) ∧ RePost B w w' b v xs (textA xs at_ err) (textE xs at_ err) := by
  have h1 := hr.c1
  go_enter Tryz.func148, Tryz.ntmps148
  go_wp2_with (first | (go_at_call 169; refine (rU32 _ _ _ _ _ _ _ hr).mono ?_; rintro e w1 ⟨rfl, hp⟩))
  rw [textN_eq hr.bytes]
  refine (take_any _ _ _ _ _ _ _ _ hp.1).mono ?_
  rintro e w2 ⟨v2, rfl, hp2, hs2⟩
  have hc := conv_sees hs2
  have h2 := hp2.1.c2
  have h3 := hp2.1.c1
  have hf := hp2.1.f1
  have HU : Hid (Upd w w2 (fun k => k = b)) := hp.2.trans hp2.2 (fun _ _ h => h)
  have HR : Hid (Re B w2 b v xs (takeA xs (takeA xs at_ err 4) (takeE xs at_ err 4) (textN xs at_ err)) (textE xs at_ err)) := hp2.1
  have hle := hr.le
  clear hp hp2 hs2 hr
  change w2.cell? _ = some (.int .i64 (textE xs at_ err)) at h2
  by_cases he : textE xs at_ err = 0
  · have HA : Hid (textA xs at_ err = takeA xs (takeA xs at_ err 4) (takeE xs at_ err 4) (textN xs at_ err)) := by show textA _ _ _ = _; rw [textA, if_pos he]
    go_wp2
    go_ret
    exact ⟨rfl, by rw [HA.out]; exact ⟨HR.out, HU.out⟩⟩
  · have HA : Hid (textA xs at_ err = at_) := by show textA _ _ _ = _; rw [textA, if_neg he]
    go_wp2
    go_ret
    exact ⟨rfl, by rw [HA.out]; exact ⟨HR.out.go _ hle, HU.out.setCell (p := ⟨b, 1, none⟩) (.inr rfl) _⟩⟩
end Go.Proofs.YtecnlfalpfbobaaGreatDoor
/- What Unframe of package pen does; what becomes of a frame, a number, a text that are read again. -/
namespace Go.Proofs.YtecnlfalpfbobaaGreatDoor
open Go Go.RowKit
def unfL (xs : List Int) : Nat := (rd (xs.take 4)).toNat
def unfS (xs : List Int) : Int := rd ((xs.drop 4).take 4)
def unfB (xs : List Int) : List Int := (xs.drop 8).take (unfL xs)
def unfE (xs : List Int) : Int := if xs.length < 8 then 8 else if 16777216 < unfL xs then 5 else if xs.length < 8 + unfL xs then 8 else if (crc (unfB xs) : Int) = unfS xs then 0 else 12
def unfR (xs : List Int) : List Int := if unfE xs = 0 then unfB xs else []
def unfN (xs : List Int) : Nat := if unfE xs = 0 then 8 + unfL xs else 0

theorem sees_cut {w : World} {b0 off : Nat} {xs : List Int} (hc : ∀ i, i < xs.length → w.cell? ⟨b0, off + i, none⟩ = some (.int .u8 (xs.getD i 0))) (a n c : Nat) (hn : a + n ≤ xs.length) (hcc : n ≤ c) (hcm : c ≤ maxLen) :
    Sees w (.slice (some ⟨b0, off + a, none⟩) n c) ((xs.drop a).take n) := by
  by_cases h0 : n = 0
  · subst h0
    exact .inl ⟨by simp, _, c, rfl, (fun e => by cases e), hcm⟩
  · have hl : ((xs.drop a).take n).length = n := by simp; omega
    refine .inr ⟨b0, off + a, c, by rw [hl], by omega, by omega, hcm, fun i hi => ?_⟩
    have := hc (a + i) (by omega)
    rw [show off + a + i = off + (a + i) by omega, this]
    have hin : i < n := by omega
    simp [List.getD_eq_getElem?_getD, hin]
theorem isB_part {xs : List Int} (h : isB xs) (a n : Nat) : isB ((xs.drop a).take n) := fun x hx => h x (List.mem_of_mem_drop (List.mem_of_mem_take hx))

set_option maxHeartbeats 1000000 in
theorem unframe_any (v : Value) (xs : List Int) (w : World) (hT : HasTab w) (hb : isB xs) (hl : xs.length ≤ 100000) (hv : Sees w v xs) :
    Calls Tryz.prog 118 #[v] w fun e w' => ∃ v', e = .returned (.tuple #[v', .int .i64 (unfN xs), .int .i64 (unfE xs)]) ∧ Sees w' v' (unfR xs) ∧ Below w.heap.size w w' := by
  by_cases h8 : xs.length < 8
  · obtain ⟨ao, cap, rfl, _, _⟩ := hv.formP
    have hE : unfE xs = 8 := by rw [unfE, if_pos h8]
    have hR : unfR xs = [] := by rw [unfR, hE]; rfl
    have hN : unfN xs = 0 := by rw [unfN, hE]; rfl
    rw [hE, hR, hN]
    go_enter Tryz.func118, Tryz.ntmps118
    go_wp2
    go_ret3
    exact ⟨_, rfl, .inl ⟨rfl, _, _, rfl, (fun _ => rfl), by decide⟩, Below.refl _ _⟩
  · obtain ⟨b0, off, cap, rfl, hx0, hcap, hcm, hc⟩ : ∃ b0 off cap, v = .slice (some ⟨b0, off, none⟩) xs.length cap ∧ 0 < xs.length ∧ xs.length ≤ cap ∧ cap ≤ maxLen ∧ ∀ i, i < xs.length → w.cell? ⟨b0, off + i, none⟩ = some (.int .u8 (xs.getD i 0)) := by
      rcases hv with ⟨h, _⟩ | h
      · subst h; simp at h8
      · exact h
    have hL := rd_le (isB_part hb 0 4) (by simp; omega)
    have hS := rd_le (isB_part hb 4 4) (by simp; omega)
    have hL0 : rd (xs.take 4) = (unfL xs : Int) := by unfold unfL; simp only [List.drop_zero] at hL; omega
    have hLb : unfL xs < 4294967296 := by simp only [List.drop_zero] at hL; omega
    have hS0 : 0 ≤ unfS xs ∧ unfS xs < 4294967296 := hS
    have hf1 : Calls Tryz.prog 144 #[.slice (some ⟨b0, off, none⟩) 4 cap] w fun e w' => e = .returned (.int .u64 (unfL xs : Int)) ∧ w' = w := by
      have := fbe_any _ ((xs.drop 0).take 4) w (sees_cut hc 0 4 cap (by omega) (by omega) hcm) (by simp; omega) (isB_part hb 0 4)
      rw [List.drop_zero, hL0] at this
      exact this
    have hf2 : Calls Tryz.prog 144 #[.slice (some ⟨b0, off + 4, none⟩) 4 (cap - 4)] w fun e w' => e = .returned (.int .u64 (unfS xs)) ∧ w' = w :=
      fbe_any _ ((xs.drop 4).take 4) w (sees_cut hc 4 4 (cap - 4) (by omega) (by omega) (by omega)) (by simp; omega) (isB_part hb 4 4)
    have HP : Hid (∀ c, xs.length ≥ 8 + unfL xs → unfL xs ≤ c → c ≤ maxLen → Sees w (.slice (some ⟨b0, off + 8, none⟩) (unfL xs) c) (unfB xs)) := fun c h1 h2 h3 => sees_cut hc 8 _ c (by omega) h2 h3
    have hPB : isB (unfB xs) := isB_part hb 8 _
    have hPl : (unfB xs).length ≤ 100000 := by unfold unfB; simp; omega
    have HE : Hid (unfE xs = if 16777216 < unfL xs then 5 else if xs.length < 8 + unfL xs then 8 else if (crc (unfB xs) : Int) = unfS xs then 0 else 12) := by show _ = _; rw [unfE, if_neg h8]
    have HR : Hid (unfR xs = if unfE xs = 0 then unfB xs else []) := rfl
    have HN : Hid (unfN xs = if unfE xs = 0 then 8 + unfL xs else 0) := rfl
    have HC : Hid (crc (unfB xs) < 4294967296) := crc_lt _
    have HZ : Hid (unfL xs = 0 → unfB xs = []) := fun h => by unfold unfB; rw [h]; simp
    have h80 : 8 ≤ xs.length := by omega
    clear hc hL hS hL0
    generalize unfL xs = L at *
    generalize unfS xs = S at *
    generalize unfB xs = P at *
    by_cases hbig : 16777216 < L
    · have hE : unfE xs = 5 := by rw [HE.out, if_pos hbig]
      have hR : unfR xs = [] := by rw [HR.out, hE]; rfl
      have hN : unfN xs = 0 := by rw [HN.out, hE]; rfl
      rw [hE, hR, hN]
      go_enter Tryz.func118, Tryz.ntmps118
      go_wp2_with (go_at_call 144; first | (with_reducible refine hf1.mono ?_; rintro e w1 ⟨rfl, rfl⟩) | (with_reducible refine hf2.mono ?_; rintro e w1 ⟨rfl, rfl⟩))
      go_ret3
      exact ⟨_, rfl, .inl ⟨rfl, _, _, rfl, (fun _ => rfl), by decide⟩, Below.refl _ _⟩
    · by_cases hcut : xs.length < 8 + L
      · have hE : unfE xs = 8 := by rw [HE.out, if_neg hbig, if_pos hcut]
        have hR : unfR xs = [] := by rw [HR.out, hE]; rfl
        have hN : unfN xs = 0 := by rw [HN.out, hE]; rfl
        rw [hE, hR, hN]
        go_enter Tryz.func118, Tryz.ntmps118
        go_wp2_with (go_at_call 144; first | (with_reducible refine hf1.mono ?_; rintro e w1 ⟨rfl, rfl⟩) | (with_reducible refine hf2.mono ?_; rintro e w1 ⟨rfl, rfl⟩))
        go_ret3
        exact ⟨_, rfl, .inl ⟨rfl, _, _, rfl, (fun _ => rfl), by decide⟩, Below.refl _ _⟩
      · have hsum : ∀ v, Sees w v P → Calls Tryz.prog 127 #[v] w fun e w' => e = .returned (.int .u32 (crc P)) ∧ w' = w := fun v hs => sum_any v P w hT hPB (by omega) hs
        have HC' := HC.out
        by_cases heq : (crc P : Int) = S
        · have hE : unfE xs = 0 := by rw [HE.out, if_neg hbig, if_neg hcut, if_pos heq]
          have hR : unfR xs = P := by rw [HR.out, hE]; rfl
          have hN : unfN xs = 8 + L := by rw [HN.out, hE]; rfl
          rw [hE, hR, hN]
          clear HE HR HN
          subst heq
          by_cases hca : cap = 8
          · obtain rfl : L = 0 := by omega
            obtain rfl := HZ.out rfl
            subst hca
            have hf2 : Calls Tryz.prog 144 #[.slice (some ⟨b0, off + 4, none⟩) 4 4] w _ := hf2
            have hsA : Sees w (.slice (some ⟨b0, off, none⟩) 0 0) [] := .inl ⟨rfl, _, _, rfl, (fun e => by cases e), by decide⟩
            go_enter Tryz.func118, Tryz.ntmps118
            go_wp2_with (first | (go_at_call 144; first | (with_reducible refine hf1.mono ?_; rintro e w1 ⟨rfl, rfl⟩) | (with_reducible refine hf2.mono ?_; rintro e w1 ⟨rfl, rfl⟩)) | (go_at_call 127; refine (hsum _ hsA).mono ?_; rintro e w1 ⟨rfl, rfl⟩) | (go_at_call 80; refine (clone_any _ _ _ hsA (by simp)).mono ?_; rintro e w1 ⟨v', rfl, k1, k2⟩))
            go_ret3
            exact ⟨_, rfl, sees_own k1, k2⟩
          · have hsA := HP.out (cap - 8) (by omega) (by omega) (by omega)
            go_enter Tryz.func118, Tryz.ntmps118
            go_wp2_with (first | (go_at_call 144; first | (with_reducible refine hf1.mono ?_; rintro e w1 ⟨rfl, rfl⟩) | (with_reducible refine hf2.mono ?_; rintro e w1 ⟨rfl, rfl⟩)) | (go_at_call 127; refine (hsum _ hsA).mono ?_; rintro e w1 ⟨rfl, rfl⟩) | (go_at_call 80; refine (clone_any _ _ _ hsA (by omega)).mono ?_; rintro e w1 ⟨v', rfl, k1, k2⟩))
            go_ret3
            exact ⟨_, by simp, sees_own k1, k2⟩
        · have hE : unfE xs = 12 := by rw [HE.out, if_neg hbig, if_neg hcut, if_neg heq]
          have hR : unfR xs = [] := by rw [HR.out, hE]; rfl
          have hN : unfN xs = 0 := by rw [HN.out, hE]; rfl
          rw [hE, hR, hN]
          clear HE HR HN
          have hne : ((crc P : Int) == S) = false := by simpa using heq
          by_cases hca : cap = 8
          · obtain rfl : L = 0 := by omega
            obtain rfl := HZ.out rfl
            subst hca
            have hf2 : Calls Tryz.prog 144 #[.slice (some ⟨b0, off + 4, none⟩) 4 4] w _ := hf2
            have hsA : Sees w (.slice (some ⟨b0, off, none⟩) 0 0) [] := .inl ⟨rfl, _, _, rfl, (fun e => by cases e), by decide⟩
            go_enter Tryz.func118, Tryz.ntmps118
            go_wp2_with (first | (go_at_call 144; first | (with_reducible refine hf1.mono ?_; rintro e w1 ⟨rfl, rfl⟩) | (with_reducible refine hf2.mono ?_; rintro e w1 ⟨rfl, rfl⟩)) | (go_at_call 127; refine (hsum _ hsA).mono ?_; rintro e w1 ⟨rfl, rfl⟩))
            go_ret3
            exact ⟨_, rfl, .inl ⟨rfl, _, _, rfl, (fun _ => rfl), by decide⟩, Below.refl _ _⟩
          · have hsA := HP.out (cap - 8) (by omega) (by omega) (by omega)
            go_enter Tryz.func118, Tryz.ntmps118
            go_wp2_with (first | (go_at_call 144; first | (with_reducible refine hf1.mono ?_; rintro e w1 ⟨rfl, rfl⟩) | (with_reducible refine hf2.mono ?_; rintro e w1 ⟨rfl, rfl⟩)) | (go_at_call 127; refine (hsum _ hsA).mono ?_; rintro e w1 ⟨rfl, rfl⟩))
            go_ret3
            exact ⟨_, rfl, .inl ⟨rfl, _, _, rfl, (fun _ => rfl), by decide⟩, Below.refl _ _⟩
theorem be_last (n : Int) : (be (IntKind.u64.wrap n)).drop 7 = [n % 256] := by
  show [IntKind.u64.wrap n % 256] = [n % 256]
  rw [IntKind.wrap_u64]
  congr 1
  omega
theorem frameB_len (zs : List Int) : (frameB zs).length = zs.length + 8 := by simp [frameB, be_len]; omega
theorem rd_low4 (u : Int) (h0 : 0 ≤ u) (h1 : u < 4294967296) : rd ((be u).drop 4) = u := by
  simp only [be, rd, List.drop_succ_cons, List.drop_zero, List.foldl_cons, List.foldl_nil]
  omega
theorem frame_parts (z R : List Int) : frameB z ++ R = (be z.length).drop 4 ++ ((be (crc z : Nat)).drop 4 ++ (z ++ R)) := by simp [frameB]
theorem len4 (u : Int) : ((be u).drop 4).length = 4 := rfl
theorem take_len {α : Type} (A B : List α) (n : Nat) (h : A.length = n) : (A ++ B).take n = A := by subst h; simp
theorem drop_len {α : Type} (A B : List α) (n : Nat) (h : A.length = n) : (A ++ B).drop n = B := by subst h; simp
theorem unfL_frame (z R : List Int) (hz : z.length ≤ 100000) : unfL (frameB z ++ R) = z.length := by
  unfold unfL
  rw [frame_parts, take_len _ _ 4 (len4 _), rd_low4 _ (by omega) (by omega)]
  omega
theorem unfS_frame (z R : List Int) : unfS (frameB z ++ R) = crc z := by
  unfold unfS
  have := crc_lt z
  rw [frame_parts, drop_len _ _ 4 (len4 _), take_len _ _ 4 (len4 _), rd_low4 _ (by omega) (by omega)]
theorem unfB_frame (z R : List Int) (hz : z.length ≤ 100000) : unfB (frameB z ++ R) = z := by
  unfold unfB
  rw [unfL_frame z R hz, frame_parts, ← List.append_assoc, drop_len _ _ 8 (by rw [List.length_append, len4, len4]), take_len _ _ _ rfl]
theorem unfE_frame (z R : List Int) (hz : z.length ≤ 100000) : unfE (frameB z ++ R) = 0 := by
  have hl : (frameB z ++ R).length = z.length + 8 + R.length := by rw [List.length_append, frameB_len]
  rw [unfE, if_neg (by omega), unfL_frame z R hz, if_neg (by omega), if_neg (by omega), unfB_frame z R hz, unfS_frame, if_pos rfl]
theorem unfR_frame (z R : List Int) (hz : z.length ≤ 100000) : unfR (frameB z ++ R) = z := by rw [unfR, if_pos (unfE_frame z R hz), unfB_frame z R hz]
theorem unfN_frame (z R : List Int) (hz : z.length ≤ 100000) : unfN (frameB z ++ R) = z.length + 8 := by rw [unfN, if_pos (unfE_frame z R hz), unfL_frame z R hz]; omega
theorem unfE_cut (z : List Int) (hz : z.length ≤ 100000) (c : Nat) (hc : c < (frameB z).length) : unfE ((frameB z).take c) = 8 := by
  have hfl := frameB_len z
  have hl : ((frameB z).take c).length = c := by simp; omega
  rw [unfE]
  by_cases h8 : c < 8
  · rw [if_pos (by omega)]
  · have hL : unfL ((frameB z).take c) = z.length := by
      have := unfL_frame z [] hz
      unfold unfL at this ⊢
      rw [List.take_take, Nat.min_eq_left (by omega)]
      simpa using this
    rw [if_neg (by omega), hL, if_neg (by omega), if_pos (by omega)]
theorem u64_bd (n : Int) : 0 ≤ IntKind.u64.wrap n ∧ IntKind.u64.wrap n < 18446744073709551616 := by rw [IntKind.wrap_u64]; omega
theorem rd_be0 (n : Int) (h1 : -9223372036854775808 ≤ n) (h2 : n ≤ 9223372036854775807) : wrap64 (rd ((be (IntKind.u64.wrap n)).drop 0)) = n := by
  have hb := u64_bd n
  have e : rd ((be (IntKind.u64.wrap n)).drop 0) = IntKind.u64.wrap n := by
    generalize IntKind.u64.wrap n = u at hb
    simp only [be, rd, List.drop_zero, List.foldl_cons, List.foldl_nil]
    omega
  rw [e, IntKind.wrap_u64]
  unfold wrap64
  omega
theorem rd_be4 (n : Int) : wrap64 (rd ((be (IntKind.u64.wrap n)).drop 4)) = n % 4294967296 := by
  have hb := u64_bd n
  have e : rd ((be (IntKind.u64.wrap n)).drop 4) = IntKind.u64.wrap n % 4294967296 := by
    generalize IntKind.u64.wrap n = u at hb
    simp only [be, rd, List.drop_succ_cons, List.drop_zero, List.foldl_cons, List.foldl_nil]
    omega
  rw [e, IntKind.wrap_u64]
  unfold wrap64
  omega
theorem rd_be7 (n : Int) : wrap64 (rd ((be (IntKind.u64.wrap n)).drop 7)) = n % 256 := by
  rw [be_last]
  simp only [rd, List.foldl_cons, List.foldl_nil]
  unfold wrap64
  omega
theorem str_back (s : ByteArray) : strOfNums (strB s) = s := by
  unfold strOfNums strB
  rw [List.map_map]
  have : (s.data.toList.map ((fun n : Int => UInt8.ofNat n.toNat) ∘ fun b : UInt8 => (b.toNat : Int))) = s.data.toList := by
    conv => rhs; rw [← List.map_id s.data.toList]
    apply List.map_congr_left
    intro b _
    simp
  rw [this]
theorem ok_at (A X R : List Int) : okT (A ++ (X ++ R)) A.length 0 X.length = true := by simp [okT]
theorem takeB_at (A X R : List Int) : takeB (A ++ (X ++ R)) A.length 0 X.length = X := by rw [takeB, if_pos (ok_at A X R)]; simp
theorem takeA_at (A X R : List Int) : takeA (A ++ (X ++ R)) A.length 0 X.length = A.length + X.length := by rw [takeA, if_pos (ok_at A X R)]
theorem takeE_at (A X R : List Int) : takeE (A ++ (X ++ R)) A.length 0 X.length = 0 := by rw [takeE, if_pos (ok_at A X R)]
theorem text_at (A R : List Int) (s : ByteArray) (hs : s.size ≤ 100000) : textB (A ++ (((be (IntKind.u64.wrap s.size)).drop 4 ++ strB s) ++ R)) A.length 0 = strB s ∧
    textE (A ++ (((be (IntKind.u64.wrap s.size)).drop 4 ++ strB s) ++ R)) A.length 0 = 0 ∧ textA (A ++ (((be (IntKind.u64.wrap s.size)).drop 4 ++ strB s) ++ R)) A.length 0 = A.length + ((be (IntKind.u64.wrap s.size)).drop 4 ++ strB s).length := by
  obtain ⟨L, hL⟩ : ∃ L, L = (be (IntKind.u64.wrap s.size)).drop 4 := ⟨_, rfl⟩
  have h4 : L.length = 4 := by rw [hL]; rfl
  have hv : (rd L).toNat = (strB s).length := by
    have h := rd_be4 s.size
    have h1 := rd_le (l := L) (by rw [hL]; exact fun x hx => be_isB _ (u64_bd _).1 (u64_bd _).2 x (List.mem_of_mem_drop hx)) (by omega)
    rw [← hL] at h
    unfold wrap64 at h
    rw [strB_len]
    omega
  rw [← hL]
  have e1 : A ++ ((L ++ strB s) ++ R) = A ++ (L ++ (strB s ++ R)) := by simp
  have e2 : A ++ ((L ++ strB s) ++ R) = (A ++ L) ++ (strB s ++ R) := by simp
  have b4 : takeB (A ++ ((L ++ strB s) ++ R)) A.length 0 4 = L := by rw [e1, ← h4]; exact takeB_at A L _
  have a4 : takeA (A ++ ((L ++ strB s) ++ R)) A.length 0 4 = (A ++ L).length := by rw [e1, ← h4, takeA_at]; simp
  have f4 : takeE (A ++ ((L ++ strB s) ++ R)) A.length 0 4 = 0 := by rw [e1, ← h4]; exact takeE_at A L _
  have n4 : textN (A ++ ((L ++ strB s) ++ R)) A.length 0 = (strB s).length := by rw [textN, b4, hv]
  have hE : textE (A ++ ((L ++ strB s) ++ R)) A.length 0 = 0 := by rw [textE, a4, f4, n4, e2]; exact takeE_at _ _ _
  refine ⟨?_, hE, ?_⟩
  · rw [textB, a4, f4, n4, e2]; exact takeB_at _ _ _
  · rw [textA, if_pos hE, a4, f4, n4, e2, takeA_at]; simp; omega
end Go.Proofs.YtecnlfalpfbobaaGreatDoor
