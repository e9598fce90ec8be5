/- The sum of bytes, half a byte at a time, by the table: what pen.sumOf answers. -/
import Derived.Test.YtamgoknoapcnjaaDoorLeaf
namespace Go.Proofs.YtamgoknoapcnjaaDoor
open Go Go.RowKit
/-- What sixteen half bytes do to a sum. -/
def tab : List Nat := [0, 498536548, 997073096, 651767980, 1994146192, 1802195444, 1303535960, 1342533948, 3988292384, 4027552580, 3604390888, 3412177804, 2607071920, 2262029012, 2685067896, 3183342108]
def HasTab (w : World) : Prop := ∀ j, j < 16 → w.cell? ⟨0, j, none⟩ = some (.int .u32 (tab.getD j 0 : Nat))
theorem HasTab.below {w w' : World} (h : HasTab w) (hb : Below w.heap.size w w') : HasTab w' := fun j hj => by
  have h1 := h j hj
  rw [← h1]
  exact hb.cell (p := ⟨0, j, none⟩) (World.block_lt_of_cell? _ _ h1)
def half (s : Nat) : Nat := (s / 16) ^^^ tab.getD (s % 16) 0
def crcStep (s x : Nat) : Nat := half (half (s ^^^ x))
def crcRun (l : List Int) : Nat := l.foldl (fun s x => crcStep s x.toNat) 4294967295
/-- The sum of bytes. -/
def crc (l : List Int) : Nat := 4294967295 - crcRun l
theorem xor_lt {a b : Nat} (ha : a < 4294967296) (hb : b < 4294967296) : a ^^^ b < 4294967296 := Nat.xor_lt_two_pow (n := 32) ha hb
theorem tab_lt (j : Nat) : tab.getD j 0 < 4294967296 := by
  rcases Nat.lt_or_ge j 16 with h | h
  · have : ∀ j : Fin 16, tab.getD j.val 0 < 4294967296 := by decide
    exact this ⟨j, h⟩
  · have : tab.getD j 0 = 0 := by simp [tab, List.getD_eq_getElem?_getD, List.getElem?_eq_none (l := [0, 498536548, 997073096, 651767980, 1994146192, 1802195444, 1303535960, 1342533948, 3988292384, 4027552580, 3604390888, 3412177804, 2607071920, 2262029012, 2685067896, 3183342108]) (by simpa using h)]
    omega
theorem half_lt {s : Nat} (hs : s < 4294967296) : half s < 4294967296 := xor_lt (by omega) (tab_lt _)
theorem crcStep_lt {s x : Nat} (hs : s < 4294967296) (hx : x < 4294967296) : crcStep s x < 4294967296 := half_lt (half_lt (xor_lt hs hx))
theorem half_facts {w : World} (hT : HasTab w) {s : Nat} (hs : s < 4294967296) : ∃ i t : Nat, i < 16 ∧ bits .and .u32 (s : Int) 15 = (i : Int) ∧ w.cell? ⟨0, i, none⟩ = some (.int .u32 (t : Int)) ∧ bits .xor .u32 ((s : Int) / 16) (t : Int) = (half s : Nat) := by
  refine ⟨s % 16, tab.getD (s % 16) 0, Nat.mod_lt _ (by omega), ?_, hT _ (Nat.mod_lt _ (by omega)), ?_⟩
  · rw [u32_and _ _ (by omega) (by omega) (by omega) (by omega)]
    show (((s : Int).toNat &&& 15 : Nat) : Int) = _
    rw [nat_mask4]; rfl
  · rw [u32_xor _ _ (by omega) (by omega) (by omega) (by have := tab_lt (s % 16); omega)]
    have e1 : ((s : Int) / 16).toNat = s / 16 := by omega
    rw [e1, Int.toNat_natCast]; rfl
theorem crcRun_snoc (l : List Int) (x : Int) : crcRun (l ++ [x]) = crcStep (crcRun l) x.toNat := by simp [crcRun]
theorem crcRun_lt : ∀ (n : Nat) (l : List Int), l.length = n → isB l → crcRun l < 4294967296
  | 0, l, h, _ => by obtain rfl := List.eq_nil_of_length_eq_zero h; decide
  | n + 1, l, h, hb => by
    obtain ⟨l', x, rfl⟩ : ∃ l' x, l = l' ++ [x] := ⟨l.dropLast, l.getLast (by intro e; simp [e] at h), (List.dropLast_concat_getLast _).symm⟩
    have h1 := crcRun_lt n l' (by simpa using h) (fun y hy => hb y (by simp [hy]))
    have h2 := hb x (by simp)
    rw [crcRun_snoc]
    exact crcStep_lt h1 (by omega)

theorem xor_ones (s : Nat) (hs : s < 4294967296) : 4294967295 ^^^ s = 4294967295 - s := by
  have h : (BitVec.allOnes 32 ^^^ BitVec.ofNat 32 s) = ~~~ (BitVec.ofNat 32 s) := by rw [BitVec.xor_comm, BitVec.xor_allOnes]
  have h' := congrArg BitVec.toNat h
  simp only [BitVec.toNat_xor, BitVec.toNat_allOnes, BitVec.toNat_not, BitVec.toNat_ofNat] at h'
  rw [Nat.mod_eq_of_lt hs] at h'
  simpa using h'
theorem not_u32 (s : Nat) (hs : s < 4294967296) : bits .xor .u32 IntKind.u32.max (s : Int) = ((4294967295 - s : Nat) : Int) := by
  have e : IntKind.u32.max = ((4294967295 : Nat) : Int) := by decide
  rw [e, u32_xor_nat _ _ (by omega) hs, xor_ones s hs]

set_option maxRecDepth 100000 in
set_option maxHeartbeats 400000 in
theorem sum_any (v : Value) (zs : List Int) (w : World) (hT : HasTab w) (hb : isB zs) (hl : zs.length ≤ 1000000) (hv : Sees w v zs) :
    Calls Tryd.prog 60 #[v] w fun e w' => e = .returned (.int .u32 (crc zs)) ∧ w' = w := by
  rcases hv with ⟨rfl, ao, cap, rfl, _, _⟩ | ⟨b, off, cap, rfl, h0, _, _, hc⟩
  · go_enter Tryd.func60, Tryd.ntmps60
    go_wp2
    go_rounds 1
    go_ret
    exact ⟨rfl, rfl⟩
  · have HT : Hid (HasTab w) := hT
    have HB : Hid (isB zs) := hb
    clear hT hb
    go_enter Tryd.func60, Tryd.ntmps60
    go_wp2
    go_loop [3, 8] (fun n i => ∃ k : Nat, k ≤ zs.length ∧ i = .int .i64 k ∧ n = .int .u32 (crcRun (zs.take k))) (fun _ i => zs.length - (intOf i).toNat)
    case atStart => exact ⟨0, Nat.zero_le _, rfl, rfl⟩
    case round =>
      obtain ⟨k, hk, rfl, rfl⟩ := hrel
      by_cases hlt : k < zs.length
      · have hck := hc k hlt
        have hx := HB.out _ (List.getElem_mem hlt)
        have hs : crcRun (zs.take k) < 4294967296 := crcRun_lt _ _ rfl (fun x hx => HB.out x (List.mem_of_mem_take hx))
        have HE : Hid (crcRun (zs.take (k + 1)) = crcStep (crcRun (zs.take k)) zs[k].toNat) := by
          show crcRun (zs.take (k + 1)) = _
          rw [List.take_succ_eq_append_getElem hlt, crcRun_snoc]
        generalize crcRun (zs.take k) = s at hs HE ⊢
        have he1 : bits .xor .u32 (s : Int) zs[k] = ((s ^^^ zs[k].toNat : Nat) : Int) := by
          rw [u32_xor _ _ (by omega) (by omega) (by omega) (by omega), Int.toNat_natCast]
        have hs1 : s ^^^ zs[k].toNat < 4294967296 := xor_lt hs (by omega)
        have HE' : Hid (crcRun (zs.take (k + 1)) = half (half (s ^^^ zs[k].toNat))) := HE.out
        clear HE hs
        generalize s ^^^ zs[k].toNat = s1 at he1 hs1 HE'
        obtain ⟨i1, t1, hi1, ha1, hc1, hx1⟩ := half_facts HT.out hs1
        have hs2 := half_lt hs1
        generalize half s1 = s2 at hx1 hs2 HE'
        obtain ⟨i2, t2, hi2, ha2, hc2, hx2⟩ := half_facts HT.out hs2
        have HB3 : Hid (half s2 < 4294967296) := half_lt hs2
        generalize half s2 = s3 at hx2 HB3 HE'
        clear hc HT HB
        go_wp2
        go_round
        case rel => exact ⟨k + 1, by omega, by go_num, by rw [HE'.out]⟩
        case measure => simp [intOf]; omega
      · have hs : crcRun zs < 4294967296 := crcRun_lt _ _ rfl HB.out
        have HK : Hid (zs.take k = zs) := List.take_of_length_le (by omega)
        clear hc HT HB
        go_wp2
        go_ret
        exact ⟨ret_int (by rw [HK.out]; exact not_u32 _ hs), rfl⟩
theorem crc_known : crc [49, 50, 51, 52, 53, 54, 55, 56, 57] = 3421780262 := by decide
end Go.Proofs.YtamgoknoapcnjaaDoor
