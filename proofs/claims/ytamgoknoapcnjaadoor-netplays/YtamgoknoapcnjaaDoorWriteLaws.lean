/- Numbers and texts, written and read: plain laws. -/
import Derived.Test.YtamgoknoapcnjaaDoorRefWrite
import Derived.Deep.RegionWith
namespace Go.Proofs.YtamgoknoapcnjaaDoor
open Go Go.RowKit
theorem i64_and255 (n : Int) : bits .and .i64 n 255 = n % 256 := by
  have hm : (BitVec.ofInt 64 255).toNat = 2 ^ 8 - 1 := by decide
  have key : (BitVec.ofInt 64 n &&& BitVec.ofInt 64 255).toNat = (n % ((2 ^ 64 : Nat) : Int)).toNat % 2 ^ 8 := by
    rw [BitVec.toNat_and, BitVec.toNat_ofInt, hm, Nat.and_two_pow_sub_one_eq_mod]
  show IntKind.i64.wrap ((BitVec.ofInt 64 n &&& BitVec.ofInt 64 255).toNat : Nat) = n % 256
  rw [key, IntKind.wrap_i64]
  omega
theorem i64_and32 (n : Int) : bits .and .i64 n 4294967295 = n % 4294967296 := by
  have hm : (BitVec.ofInt 64 4294967295).toNat = 2 ^ 32 - 1 := by decide
  have key : (BitVec.ofInt 64 n &&& BitVec.ofInt 64 4294967295).toNat = (n % ((2 ^ 64 : Nat) : Int)).toNat % 2 ^ 32 := by
    rw [BitVec.toNat_and, BitVec.toNat_ofInt, hm, Nat.and_two_pow_sub_one_eq_mod]
  show IntKind.i64.wrap ((BitVec.ofInt 64 n &&& BitVec.ofInt 64 4294967295).toNat : Nat) = n % 4294967296
  rw [key, IntKind.wrap_i64]
  omega
theorem rd_be0 (n : Int) (h1 : -9223372036854775808 ≤ n) (h2 : n ≤ 9223372036854775807) : wrap64 (rd ((be (IntKind.u64.wrap n)).drop 0)) = n := by
  have hb := u64_bd n
  have e : rd ((be (IntKind.u64.wrap n)).drop 0) = IntKind.u64.wrap n := by
    generalize IntKind.u64.wrap n = u at hb
    simp only [be, rd, List.drop_zero, List.foldl_cons, List.foldl_nil]
    omega
  rw [e, IntKind.wrap_u64]
  unfold wrap64
  omega
theorem rd_be4 (n : Int) : wrap64 (rd ((be (IntKind.u64.wrap n)).drop 4)) = n % 4294967296 := by
  have hb := u64_bd n
  have e : rd ((be (IntKind.u64.wrap n)).drop 4) = IntKind.u64.wrap n % 4294967296 := by
    generalize IntKind.u64.wrap n = u at hb
    simp only [be, rd, List.drop_succ_cons, List.drop_zero, List.foldl_cons, List.foldl_nil]
    omega
  rw [e, IntKind.wrap_u64]
  unfold wrap64
  omega
theorem rd_be7 (n : Int) : wrap64 (rd ((be (IntKind.u64.wrap n)).drop 7)) = n % 256 := by
  rw [be_last]
  simp only [rd, List.foldl_cons, List.foldl_nil]
  unfold wrap64
  omega
theorem str_back (s : ByteArray) : strOfNums (strB s) = s := by
  unfold strOfNums strB
  rw [List.map_map]
  have : (s.data.toList.map ((fun n : Int => UInt8.ofNat n.toNat) ∘ fun b : UInt8 => (b.toNat : Int))) = s.data.toList := by
    conv => rhs; rw [← List.map_id s.data.toList]
    apply List.map_congr_left
    intro b _
    simp
  rw [this]
theorem ok_at (A X R : List Int) : okT (A ++ (X ++ R)) A.length 0 X.length = true := by simp [okT]
theorem takeB_at (A X R : List Int) : takeB (A ++ (X ++ R)) A.length 0 X.length = X := by rw [takeB, if_pos (ok_at A X R)]; simp
theorem takeA_at (A X R : List Int) : takeA (A ++ (X ++ R)) A.length 0 X.length = A.length + X.length := by rw [takeA, if_pos (ok_at A X R)]
theorem takeE_at (A X R : List Int) : takeE (A ++ (X ++ R)) A.length 0 X.length = 0 := by rw [takeE, if_pos (ok_at A X R)]
theorem text_at (A R : List Int) (s : ByteArray) (hs : s.size ≤ 30000) : textB (A ++ (((be (IntKind.u64.wrap s.size)).drop 4 ++ strB s) ++ R)) A.length 0 = strB s ∧
    textE (A ++ (((be (IntKind.u64.wrap s.size)).drop 4 ++ strB s) ++ R)) A.length 0 = 0 ∧ textA (A ++ (((be (IntKind.u64.wrap s.size)).drop 4 ++ strB s) ++ R)) A.length 0 = A.length + ((be (IntKind.u64.wrap s.size)).drop 4 ++ strB s).length := by
  obtain ⟨L, hL⟩ : ∃ L, L = (be (IntKind.u64.wrap s.size)).drop 4 := ⟨_, rfl⟩
  have h4 : L.length = 4 := by rw [hL]; rfl
  have hv : (rd L).toNat = (strB s).length := by
    have h := rd_be4 s.size
    have h1 := rd_le (l := L) (by rw [hL]; exact fun x hx => be_isB _ (u64_bd _).1 (u64_bd _).2 x (List.mem_of_mem_drop hx)) (by omega)
    rw [← hL] at h
    unfold wrap64 at h
    rw [strB_len]
    omega
  rw [← hL]
  have e1 : A ++ ((L ++ strB s) ++ R) = A ++ (L ++ (strB s ++ R)) := by simp
  have e2 : A ++ ((L ++ strB s) ++ R) = (A ++ L) ++ (strB s ++ R) := by simp
  have b4 : takeB (A ++ ((L ++ strB s) ++ R)) A.length 0 4 = L := by rw [e1, ← h4]; exact takeB_at A L _
  have a4 : takeA (A ++ ((L ++ strB s) ++ R)) A.length 0 4 = (A ++ L).length := by rw [e1, ← h4, takeA_at]; simp
  have f4 : takeE (A ++ ((L ++ strB s) ++ R)) A.length 0 4 = 0 := by rw [e1, ← h4]; exact takeE_at A L _
  have n4 : textN (A ++ ((L ++ strB s) ++ R)) A.length 0 = (strB s).length := by rw [textN, b4, hv]
  have hE : textE (A ++ ((L ++ strB s) ++ R)) A.length 0 = 0 := by rw [textE, a4, f4, n4, e2]; exact takeE_at _ _ _
  refine ⟨?_, hE, ?_⟩
  · rw [textB, a4, f4, n4, e2]; exact takeB_at _ _ _
  · rw [textA, if_pos hE, a4, f4, n4, e2, takeA_at]; simp; omega
theorem enc_at {ps : List Pc} {k : Nat} (hk : k < ps.length) : encB ps = encB (ps.take k) ++ (pcB ps[k] ++ encB (ps.drop (k + 1))) := by
  have h : ps = ps.take k ++ (ps[k] :: ps.drop (k + 1)) := by rw [← List.drop_eq_getElem_cons hk, List.take_append_drop]
  refine (congrArg encB h).trans ?_
  simp only [encB, List.flatMap_append, List.flatMap_cons]
theorem pcB_isB (p : Pc) : isB (pcB p) := by
  have hs : isB (strB p.2.2) := by
    intro x hx
    simp only [strB, List.mem_map] at hx
    obtain ⟨b, _, rfl⟩ := hx
    have := b.toNat_lt
    omega
  have hb : ∀ n d, isB ((be (IntKind.u64.wrap n)).drop d) := fun n d x hx => be_isB _ (u64_bd n).1 (u64_bd n).2 x (List.mem_of_mem_drop hx)
  unfold pcB
  split
  · exact hb _ _
  · split
    · exact hb _ _
    · split
      · exact hb _ _
      · intro x hx
        rcases List.mem_append.1 hx with h | h
        · exact hb _ _ x h
        · exact hs x h
theorem encB_isB (ps : List Pc) : isB (encB ps) := by
  intro x hx
  simp only [encB, List.mem_flatMap] at hx
  obtain ⟨p, _, hp⟩ := hx
  exact pcB_isB p x hp
end Go.Proofs.YtamgoknoapcnjaaDoor
