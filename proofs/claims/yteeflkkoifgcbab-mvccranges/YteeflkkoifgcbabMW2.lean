/- MvccRanges. -/
import Derived.Test.YteeflkkoifgcbabMW1
import Derived.BigQuiet
namespace Go.Proofs.Yteeflkkoifgcbab
open Go Go.RowKit

def withinF (a n : Int) : Int := if a.tmod n < 0 then a.tmod n + n else a.tmod n
theorem withinF_bd (a n : Int) (hn : 0 < n) : 0 ≤ withinF a n ∧ withinF a n < n := by
  have h1 := Int.lt_tmod_of_pos a (b := n) hn
  have h2 := Int.tmod_lt_of_pos a (b := n) hn
  unfold withinF
  split <;> omega
set_option maxHeartbeats 1000000 in
theorem within_any (a n : Int) (w : World) (hn : 0 < n) (hm : n ≤ 1000000000000000) :
    Calls Try.prog 9 #[.int .i64 a, .int .i64 n] w fun e w' => e = .returned (.int .i64 (withinF a n)) ∧ w' = w := by
  have h1 := Int.lt_tmod_of_pos a (b := n) hn
  have h2 := Int.tmod_lt_of_pos a (b := n) hn
  have hn0 : (n == 0) = false := by simp; omega
  by_cases h : a.tmod n < 0
  · have HW : Hid (withinF a n = a.tmod n + n) := by show _ = _; rw [withinF, if_pos h]
    go_enter Try.func9, Try.ntmps9
    go_wp2
    go_ret
    exact ⟨ret_int HW.out.symm, rfl⟩
  · have HW : Hid (withinF a n = a.tmod n) := by show _ = _; rw [withinF, if_neg h]
    go_enter Try.func9, Try.ntmps9
    go_wp2
    go_ret
    exact ⟨ret_int HW.out.symm, rfl⟩
/-- Of texts ahead of place i, how many are in the range. -/
def cntR (lo hi : ByteArray) (ks : List ByteArray) (i : Nat) : Nat := ((ks.take i).filter (inR lo hi)).length
theorem cntR_succ {lo hi : ByteArray} {ks : List ByteArray} {i : Nat} {k : ByteArray} (hk : ks[i]? = some k) : cntR lo hi ks (i + 1) = cntR lo hi ks i + if inR lo hi k = true then 1 else 0 := by
  unfold cntR
  rw [List.take_add_one, hk]
  simp only [Option.toList_some, List.filter_append, List.length_append]
  by_cases hq : inR lo hi k = true
  · simp [hq]
  · simp [hq]
theorem cntR_le (lo hi : ByteArray) (ks : List ByteArray) (i : Nat) : cntR lo hi ks i ≤ i := Nat.le_trans (List.length_filter_le _ _) (by rw [List.length_take]; omega)
theorem cntR_all (lo hi : ByteArray) (ks : List ByteArray) : cntR lo hi ks ks.length = (ks.filter (inR lo hi)).length := by
  unfold cntR
  rw [List.take_length]
theorem empty_isEmpty : ByteArray.empty.toList.isEmpty = true := by rw [toList_data]; rfl
theorem ne_isEmpty {hi : ByteArray} (h : ¬ hi = ByteArray.empty) : hi.toList.isEmpty = false := by
  cases hq : hi.toList.isEmpty
  · rfl
  · exfalso
    apply h
    apply bytes_ext
    rw [← toList_data]
    simpa using hq
/-- The texts that are had, ahead of place i. -/
def haveL (keys : List ByteArray) : Nat → List ByteArray
  | 0 => []
  | i + 1 => if (keys.getD i ByteArray.empty).size < 200 ∧ putR (haveL keys i) (keys.getD i ByteArray.empty) = 0 then haveL keys i ++ [keys.getD i ByteArray.empty] else haveL keys i
theorem haveL_le (keys : List ByteArray) : ∀ i, (haveL keys i).length ≤ i
  | 0 => Nat.le_refl _
  | i + 1 => by
    unfold haveL
    have := haveL_le keys i
    split
    · simp; omega
    · omega
theorem asc_get2 {ks : List ByteArray} (h : Asc ks) {i : Nat} {a b : ByteArray} (ha : ks[i]? = some a) (hb : ks[i + 1]? = some b) : klt a b = true := by
  induction ks generalizing i with
  | nil => simp at ha
  | cons k l ih =>
    obtain ⟨h1, h2⟩ := h
    cases i with
    | zero =>
      obtain rfl : k = a := by simpa using ha
      exact h1 b (List.mem_of_getElem? (i := 0) (by simpa using hb))
    | succ i => exact ih h2 (by simpa using ha) (by simpa using hb)
/-- What is told: the first ones. -/
theorem told_get {limit : Int} {T : List ByteArray} {j : Nat} {x : KVd} (h : (toldL limit (T.map nkv))[j]? = some x) : ∃ k, T[j]? = some k ∧ x = nkv k := by
  have : (T.map nkv)[j]? = some x := by
    unfold toldL at h
    split at h
    · exact h
    · rw [List.getElem?_take] at h
      split at h
      · exact h
      · cases h
  rw [List.getElem?_map] at this
  obtain ⟨k, h1, h2⟩ := Option.map_eq_some_iff.1 this
  exact ⟨k, h1, h2.symm⟩
theorem kvsC_get : ∀ {l : List KVd} {j : Nat} {x : KVd}, l[j]? = some x → (kvsC l)[j * 6]? = some (.string x.key)
  | [], _, _, hj => by simp at hj
  | a :: l, 0, x, hj => by
    obtain rfl : a = x := by simpa using hj
    rfl
  | a :: l, j + 1, x, hj => by
    have := kvsC_get (l := l) (j := j) (by simpa using hj)
    show (kvC a ++ kvsC l)[(j + 1) * 6]? = _
    rw [List.getElem?_append_right (by simp [kvC]; omega)]
    have e : (j + 1) * 6 - (kvC a).length = j * 6 := by simp [kvC]; omega
    rw [e]
    exact this
theorem kvs_cell {w : World} {B : Nat} {v : Value} {l : List KVd} (h : w.ownsRow B 36 6 v l.length (kvsC l)) {j : Nat} {x : KVd} (hj : l[j]? = some x) : ∃ g c, v = .slice (some ⟨g, 0, none⟩) l.length c ∧ g < w.heap.size ∧ w.cell? ⟨g, j * 6, none⟩ = some (.string x.key) := by
  have hl := (List.getElem?_eq_some_iff.1 hj).1
  obtain ⟨g, c, hv, _, _⟩ := owns_formB h (by omega)
  have hc := h.cells (g := g) (by rw [hv]; rfl) _ _ (kvsC_get hj)
  simp only [Addr.add_lit, Nat.zero_add] at hc
  exact ⟨g, c, hv, World.block_lt_of_cell? _ _ hc, hc⟩
theorem told_len (limit : Int) (T : List ByteArray) : ((toldL limit (T.map nkv)).length : Int) = if limit < 1 then (T.length : Int) else min limit T.length := by
  unfold toldL
  split
  · simp
  · rw [List.length_take, List.length_map]
    omega
theorem r1_new (w0 w : World) (hb : Below w0.heap.size w0 w) : Calls Try.prog 5 #[] w fun e w' => ∃ s, e = .returned (ptr s) ∧ Hid (Calls Try.prog 6 #[ptr s] w' fun e w2 => ∃ b, e = .returned (ptr b) ∧ Hid (R1 w0 w2 s b [] (.slice none 0 0) [])) := by
  refine (new_st w).mono ?_
  rintro e w' ⟨s, g, rfl, h1, h2, h3⟩
  exact ⟨s, rfl, r1_start w0 w' (hb.trans (h2.mono hb.size)) h1 (fun k hk => Nat.le_trans hb.size (h3 k hk))⟩
theorem asc_at {ks : List ByteArray} (h : Asc ks) {i : Nat} {a b : ByteArray} (ha : ks[i]? = some a) (hb : ks[i + 1]? = some b) : Op.bytesLess b.toList a.toList = false ∧ (b.toList == a.toList) = false := by
  have hl := asc_get2 h ha hb
  rw [bl_data, beq_data]
  exact ⟨klt_asymm hl, decide_eq_false (klt_ne hl).symm⟩
set_option maxRecDepth 100000 in
set_option maxHeartbeats 4000000 in
theorem mvccRanges_walk (v0 : Value) (lo hi : ByteArray) (limit0 : Int) (keys : List ByteArray) (w : World) (hK : SeesS w v0 keys) (_hkl : keys.length ≤ 140737488355328) (_hlo : lo.size ≤ 140737488355328) (_hhi : hi.size ≤ 140737488355328) (_hli : -9223372036854775808 ≤ limit0 ∧ limit0 ≤ 9223372036854775807) :
    Calls Try.prog 3 #[v0, .string lo, .string hi, .int .i64 limit0] w fun e w' => e = .returned (.bool true) ∧ Below w.heap.size w w' := by
  obtain ⟨ka, kc, rfl⟩ := hK.form
  have HK := Hid.mk'' hK
  clear hK
  have hkn := known_st w
  have hwi := fun W => within_any limit0 8 W (by decide) (by decide)
  have hlim := withinF_bd limit0 8 (by decide)
  generalize withinF limit0 8 = limit at *
  obtain ⟨t9, hti9, hz09, hz19, hz29⟩ := info_parts info9
  go_enter Try.func3, Try.ntmps3
  go_upto_region 3 with (go_at_call 4; refine hkn.mono ?_; rintro e w1 ⟨rfl, hb1⟩)
  by_cases hbig : 30 < keys.length ∨ 300 < lo.size + hi.size
  · by_cases h60 : 30 < keys.length
    · go_wp2
      go_ret
      exact ⟨rfl, hb1⟩
    · have h300 : 300 < lo.size + hi.size := by omega
      go_wp2
      go_ret
      exact ⟨rfl, hb1⟩
  have h60 : ¬ 30 < keys.length := by omega
  have h300 : ¬ 300 < lo.size + hi.size := by omega
  clear hbig
  have hnew := r1_new w w1 hb1
  clear hkn hb1
  go_upto_region 9 with (first | (go_at_call 5; refine hnew.mono ?_; rintro e w2 ⟨s, rfl, HWR⟩; have hwr := HWR.out) | (go_at_call 6; refine hwr.mono ?_; rintro e w3 ⟨b, rfl, HR⟩))
  clear hnew hwr HWR
  go_wp2
  go_loopg [11, 12] (keys.length + 1) (fun kx s11 s12 wr => ∃ (i : Nat) (vp : Option Addr) (vc : Nat), s11 = .slice vp (haveL keys i).length vc ∧ s12 = .int .i64 i ∧ kx + i = keys.length + 1 ∧ i ≤ keys.length ∧ Hid (R1 w wr s b (haveL keys i) (.slice vp (haveL keys i).length vc) (haveL keys i)))
  case atStart => exact ⟨0, none, 0, rfl, rfl, rfl, Nat.zero_le _, HR⟩
  case round =>
    clear HR
    obtain ⟨i, vp, vc, rfl, rfl, hkx, hi', HM⟩ := hrel
    have hle := haveL_le keys i
    by_cases hlt : i < keys.length
    · obtain ⟨kb, ko, rfl, hkl, hkc, hks⟩ := HK.out.at hlt
      have HC : Hid (∀ W, Below w.heap.size w W → W.cell? ⟨kb, ko + i, none⟩ = some (.string (keys.getD i ByteArray.empty))) := fun W hb => (hb.cell (p := ⟨kb, ko + i, none⟩) hkl).trans hkc
      have hsucc : haveL keys (i + 1) = if (keys.getD i ByteArray.empty).size < 200 ∧ putR (haveL keys i) (keys.getD i ByteArray.empty) = 0 then haveL keys i ++ [keys.getD i ByteArray.empty] else haveL keys i := rfl
      have hkcell := HC.out _ HM.out.below
      have hput := HM.out.put (by omega) (keys.getD i ByteArray.empty) hks
      generalize keys.getD i ByteArray.empty = key at *
      generalize hhv : haveL keys i = hv at *
      clear hkc hkl
      by_cases h2 : key.size < 200
      · by_cases hp0 : putR hv key = 0
        · rw [if_pos ⟨h2, hp0⟩] at hsucc
          rw [hp0, if_pos rfl] at hput
          have HSU := Hid.mk'' hsucc
          clear HM hhv hp0 hsucc
          go_upto_region 12 with (go_at_call 7; refine hput.mono ?_; rintro e w3 ⟨rfl, HM3⟩)
          have hc3 := HC.out _ HM3.out.below
          have hba : Below w3.heap.size w3 (w3.alloc (.cells #[.string key] 9)) := (Below.refl _ w3).alloc (Nat.le_refl _) _
          have hsrc : Src Try.prog 1 22 (.slice (some ⟨w3.heap.size, 0, none⟩) 1 1) 1 (strs [key]) (w3.alloc (.cells #[.string key] 9)) := Src.ofSlice _ Try.underlying22 ⟨w3.heap.size, 0, none⟩ 1 1 _ rfl (fun j u hj => by
            rw [Addr.add_lit, Nat.zero_add, cell_of_row _ _ _ _ _ _ (row_alloc w3 #[.string key] 9)]; simpa using hj) (fun u hu => by simp at hu; subst hu; rfl)
          have hown : (w3.alloc (.cells #[.string key] 9)).ownsRow w.heap.size 9 1 (.slice vp hv.length vc) hv.length (strs hv) := ownsRow_upd HM3.out.row (Upd.ofBelow (S := fun _ => False) hba) (fun _ _ h => h)
          have hwz : w.heap.size ≤ w3.heap.size := HM3.out.below.size
          clear hput
          go_wp2_with (at_builtin; refine wpList_appS _ rfl (.tmp 56) (.tmp 61) 22 22 rfl w.heap.size 9 t9 _ 1 Try.underlying22 hti9 hz09 hz19 rfl (by rw [hz29]; decide) _ hv.length (strs hv) rfl hown _ rfl 1 (strs [key]) hsrc (by omega) (by simp; omega) ?_; intro v' w' p1 p2 p3 p4; obtain ⟨np, nc, hnv⟩ := owns_formB0 p1; subst hnv; clear p4)
          go_roundg (keys.length - i)
          case measure => omega
          case rel =>
            have HL := HM3.out.app hba p2 p3 (vs' := hv ++ [key]) (by simpa using p1)
            exact ⟨i + 1, np, nc, by rw [HSU.out]; simp, by congr 1, by omega, by omega, by rw [HSU.out]; exact Hid.mk'' (by simpa using HL)⟩
        · rw [if_neg (fun h => hp0 h.2)] at hsucc
          rw [if_neg hp0] at hput
          have HSU := Hid.mk'' hsucc
          have hpb : (putR hv key == 0) = false := by rw [beq_eq_false_iff_ne]; exact hp0
          generalize putR hv key = pe at *
          clear HM hhv hsucc
          go_wp2_with (go_at_call 7; refine hput.mono ?_; rintro e w3 ⟨rfl, HM3⟩)
          go_roundg (keys.length - i)
          case measure => omega
          case rel => exact ⟨i + 1, vp, vc, by rw [HSU.out], by congr 1, by omega, by omega, by rw [HSU.out]; exact HM3⟩
      · rw [if_neg (fun h => h2 h.1)] at hsucc
        have HSU := Hid.mk'' hsucc
        have HM3 := HM
        clear HM hhv hsucc hput
        go_wp2
        go_roundg (keys.length - i)
        case measure => omega
        case rel => exact ⟨i + 1, vp, vc, by rw [HSU.out], by congr 1, by omega, by omega, by rw [HSU.out]; exact HM3⟩
    · have hdn := (HM.out.done (by omega)).mono (R' := fun e w' => (∃ r : Int, e = .returned (.int .i64 r)) ∧ Hid (R2 w w' s (haveL keys i) (.slice vp (haveL keys i).length vc) (haveL keys i)) ∧ Hid (haveL keys i).Nodup) (fun e w' ⟨q1, q2, q3⟩ => ⟨⟨_, q1⟩, q2, q3⟩)
      generalize haveL keys i = hv at *
      have hhl : hv.length ≤ 30 := by omega
      clear HM
      go_upto_region 15 with (first | (go_at_call 8; refine hdn.mono ?_; rintro e w4 ⟨⟨r, rfl⟩, HR2, HND⟩) | (go_at_call 9; refine (hwi _).mono ?_; rintro e w' ⟨rfl, hw'⟩; obtain rfl := hw'.symm))
      have hrg := HR2.out.range HND.out (by omega) lo hi limit (by omega) (by omega)
      go_upto_region 16 with (go_at_call 10; refine hrg.mono ?_; rintro e w5 ⟨T, p, c, HT, rfl, HL, HV⟩)
      have HTL := Hid.mk'' (told_len limit T)
      have HTG : Hid (∀ j x, (toldL limit (T.map nkv))[j]? = some x → ∃ k, T[j]? = some k ∧ x = nkv k) := fun j x h => told_get h
      have hTl : T.length ≤ 30 := by rw [HT.out.len]; exact Nat.le_trans (List.length_filter_le _ _) hhl
      generalize toldL limit (T.map nkv) = tl at *
      have HCA : Hid (cntR lo hi hv hv.length = T.length) := by rw [cntR_all, HT.out.len]; exact rfl
      clear hrg HR2 HND hdn
      obtain ⟨W0, hW0⟩ : ∃ W0, W0 = wr := ⟨_, rfl⟩
      subst hW0
      go_wp2
      go_loopg [16, 17] (hv.length + 1) (fun kx s16 s17 wr => ∃ j : Nat, s16 = .int .i64 (cntR lo hi hv j) ∧ s17 = .int .i64 j ∧ kx + j = hv.length + 1 ∧ j ≤ hv.length ∧ wr = w5)
      case atStart => exact ⟨0, by simp [cntR], rfl, rfl, Nat.zero_le _, rfl⟩
      case round =>
        obtain ⟨j, rfl, rfl, hkj, hj, rfl⟩ := hrel
        have hcl := cntR_le lo hi hv j
        by_cases hlj : j < hv.length
        · obtain ⟨k, hkk⟩ : ∃ k, hv[j]? = some k := ⟨_, List.getElem?_eq_getElem hlj⟩
          obtain ⟨gk, ck, hvv, hcell⟩ := row_cell (HV.out.1.mono (Nat.zero_le _)) hkk
          have hvp : vp = some ⟨gk, 0, none⟩ := by cases hvv; rfl
          subst hvp
          have hs := cntR_succ (lo := lo) (hi := hi) hkk
          have b0 := beq_data k lo
          have b1 := bl_data k lo
          have b2 := bl_data k hi
          generalize hcn : cntR lo hi hv (j + 1) = cn at *
          generalize hc0 : cntR lo hi hv j = c0 at *
          have HCN := Hid.mk'' hcn
          clear hcn hc0 hvv hkk
          have hq : (hi = ByteArray.empty ∧ k = lo ∧ cn = c0 + 1) ∨ (hi = ByteArray.empty ∧ ¬ k = lo ∧ cn = c0) ∨ (¬ hi = ByteArray.empty ∧ klt k lo = true ∧ cn = c0) ∨ (¬ hi = ByteArray.empty ∧ klt k lo = false ∧ klt k hi = true ∧ cn = c0 + 1) ∨ (¬ hi = ByteArray.empty ∧ klt k lo = false ∧ klt k hi = false ∧ cn = c0) := by
            unfold inR at hs
            by_cases e : hi = ByteArray.empty
            · rw [if_pos e] at hs
              by_cases e2 : k = lo
              · exact .inl ⟨e, e2, by simpa [e2] using hs⟩
              · exact .inr (.inl ⟨e, e2, by simpa [e2] using hs⟩)
            · rw [if_neg e] at hs
              cases h1 : klt k lo
              · cases h2 : klt k hi
                · exact .inr (.inr (.inr (.inr ⟨e, rfl, rfl, by rw [h1, h2] at hs; simpa using hs⟩)))
                · exact .inr (.inr (.inr (.inl ⟨e, rfl, rfl, by rw [h1, h2] at hs; simpa using hs⟩)))
              · exact .inr (.inr (.inl ⟨e, rfl, by rw [h1] at hs; simpa using hs⟩))
          clear hs
          rcases hq with ⟨rfl, rfl, rfl⟩ | ⟨rfl, e2, rfl⟩ | ⟨e1, e2, rfl⟩ | ⟨e1, e2, e3, rfl⟩ | ⟨e1, e2, e3, rfl⟩
          · have q5 := empty_isEmpty
            clear b0 b1 b2
            go_wp2
            go_roundg (hv.length - j)
            case measure => omega
            case rel => exact ⟨j + 1, by rw [HCN.out]; rfl, by congr 1, by omega, by omega, rfl⟩
          · have q5 := empty_isEmpty
            rw [decide_eq_false e2] at b0
            clear b1 b2
            go_wp2
            go_roundg (hv.length - j)
            case measure => omega
            case rel => exact ⟨j + 1, by rw [HCN.out], by congr 1, by omega, by omega, rfl⟩
          · have q4 := ne_isEmpty e1
            rw [e2] at b1
            have hne : ¬ k = lo := klt_ne e2
            rw [decide_eq_false hne] at b0
            clear b2
            go_wp2
            go_roundg (hv.length - j)
            case measure => omega
            case rel => exact ⟨j + 1, by rw [HCN.out], by congr 1, by omega, by omega, rfl⟩
          · have q4 := ne_isEmpty e1
            rw [e2] at b1
            rw [e3] at b2
            by_cases hne : k = lo
            · subst hne
              clear b0
              go_wp2
              go_roundg (hv.length - j)
              case measure => omega
              case rel => exact ⟨j + 1, by rw [HCN.out]; rfl, by congr 1, by omega, by omega, rfl⟩
            · rw [decide_eq_false hne] at b0
              go_wp2
              go_roundg (hv.length - j)
              case measure => omega
              case rel => exact ⟨j + 1, by rw [HCN.out]; rfl, by congr 1, by omega, by omega, rfl⟩
          · have q4 := ne_isEmpty e1
            rw [e2] at b1
            rw [e3] at b2
            by_cases hne : k = lo
            · subst hne
              clear b0
              go_wp2
              go_roundg (hv.length - j)
              case measure => omega
              case rel => exact ⟨j + 1, by rw [HCN.out], by congr 1, by omega, by omega, rfl⟩
            · rw [decide_eq_false hne] at b0
              go_wp2
              go_roundg (hv.length - j)
              case measure => omega
              case rel => exact ⟨j + 1, by rw [HCN.out], by congr 1, by omega, by omega, rfl⟩
        · obtain rfl : j = hv.length := by omega
          rw [HCA.out]
          have HB5 := Hid.mk'' HV.out.2
          clear HV HCA hcl
          generalize wr = W5 at *
          have htl := HTL.out
          have hgo : (limit = 0 ∧ (tl.length : Int) = T.length) ∨ (0 < limit ∧ (T.length : Int) < limit ∧ (tl.length : Int) = T.length) ∨ (0 < limit ∧ limit ≤ (T.length : Int) ∧ (tl.length : Int) = limit) := by
            rcases Int.lt_or_le limit 1 with h | h
            · rw [if_pos h] at htl; exact .inl ⟨by omega, htl⟩
            · rw [if_neg (by omega)] at htl
              by_cases h2 : (T.length : Int) < limit
              · exact .inr (.inl ⟨by omega, h2, by omega⟩)
              · exact .inr (.inr ⟨by omega, by omega, by omega⟩)
          have htl0 : tl.length ≤ 30 := by
            rcases hgo with ⟨_, h⟩ | ⟨_, h1, h⟩ | ⟨_, h1, h⟩ <;> omega
          clear htl HTL
          rcases hgo with ⟨rfl, hgl⟩ | ⟨hl0, hlt1, hgl⟩ | ⟨hl0, hge, hgl⟩
          · have hb1 : ((tl.length : Int) != (T.length : Int)) = false := by rw [hgl]; simp
            have hb4 : ((T.length : Int) != (T.length : Int)) = false := by simp
            clear hgl
            go_wp2
            go_loopg [18] (tl.length + 1) (fun kx s18 wr => ∃ m : Nat, s18 = .int .i64 m ∧ kx + m = tl.length + 1 ∧ m ≤ tl.length ∧ Hid (Below W5.heap.size W5 wr))
            case atStart => exact ⟨0, rfl, rfl, Nat.zero_le _, Below.refl _ _⟩
            case round =>
              obtain ⟨m, rfl, hkm, hm, HB⟩ := hrel
              by_cases hlm : m < tl.length
              · obtain ⟨x, hx⟩ : ∃ x, tl[m]? = some x := ⟨_, List.getElem?_eq_getElem hlm⟩
                obtain ⟨k, hTk, hxk⟩ := HTG.out m x hx
                obtain ⟨g, cg, hvv, hgl2, hcell0⟩ := kvs_cell HL.out hx
                have hcell := (HB.out.cell (p := ⟨g, m * 6, none⟩) hgl2).trans hcell0
                have hxkey : x.key = k := by rw [hxk]; rfl
                rw [hxkey] at hcell
                have hpp : p = some ⟨g, 0, none⟩ := by cases hvv; rfl
                subst hpp
                have HPREV : Hid (∀ n kn, m = n + 1 → T[n]? = some kn → wr.cell? ⟨g, n * 6, none⟩ = some (.string kn) ∧ Op.bytesLess k.toList kn.toList = false ∧ (k.toList == kn.toList) = false) := fun n kn e hn => by
                  obtain ⟨y, hy⟩ : ∃ y, tl[n]? = some y := ⟨_, List.getElem?_eq_getElem (by omega)⟩
                  obtain ⟨k2, hT2, hy2⟩ := HTG.out n y hy
                  rw [hn] at hT2
                  cases hT2
                  obtain ⟨g2, cg2, hv2, hgl3, hc2⟩ := kvs_cell HL.out hy
                  have hg2 : g2 = g := by cases hv2; rfl
                  rw [hg2] at hc2 hgl3
                  have hyk : y.key = kn := by rw [hy2]; rfl
                  rw [hyk] at hc2
                  refine ⟨(HB.out.cell (p := ⟨g, n * 6, none⟩) hgl3).trans hc2, asc_at HT.out.asc hn ?_⟩
                  rw [← e]; exact hTk
                have hin := HT.out.inr k (List.mem_of_getElem? hTk)
                have hq : (hi = ByteArray.empty ∧ k = lo) ∨ (¬ hi = ByteArray.empty ∧ Op.bytesLess k.toList lo.toList = false ∧ Op.bytesLess k.toList hi.toList = true) := by
                  unfold inR at hin
                  by_cases e : hi = ByteArray.empty
                  · rw [if_pos e] at hin; exact .inl ⟨e, by simpa using hin⟩
                  · rw [if_neg e] at hin
                    rw [bl_data, bl_data]
                    simp at hin
                    exact .inr ⟨e, hin.1, hin.2⟩
                have HBD : ∀ q, Hid (Below W5.heap.size W5 (wr.drewN q)) := fun q => below_drewQ HB.out q
                have HTN : Hid (∀ n, m = n + 1 → ∃ kn, T[n]? = some kn) := fun n e => by
                  have := (List.getElem?_eq_some_iff.1 hTk).1
                  exact ⟨_, List.getElem?_eq_getElem (by omega)⟩
                clear hx hTk hxk hvv hcell0 hxkey hin
                obtain rfl | ⟨n, rfl⟩ : m = 0 ∨ ∃ n, m = n + 1 := by cases m with
                  | zero => exact .inl rfl
                  | succ n => exact .inr ⟨n, rfl⟩
                · clear HPREV HTN
                  rw [Nat.zero_mul] at hcell
                  rcases hq with ⟨rfl, rfl⟩ | ⟨q2, q3, q6⟩
                  all_goals
                    try have q4 := ne_isEmpty q2
                    try have q5 := empty_isEmpty
                    go_wp2
                    go_quiet (fail)
                    go_wp2
                    go_roundg tl.length
                    case measure => omega
                    case rel => exact ⟨1, rfl, by omega, by omega, HBD _⟩
                · obtain ⟨kn, hkn⟩ := HTN.out n rfl
                  obtain ⟨hcn, hbn1, hbn2⟩ := HPREV.out n kn rfl hkn
                  have hx : IntKind.i64.wrap (((n + 1 : Nat) : Int) - 1) = (n : Int) := by rw [IntKind.wrap_i64]; omega
                  clear HPREV HTN hkn
                  rcases hq with ⟨rfl, rfl⟩ | ⟨q2, q3, q6⟩
                  all_goals
                    try have q4 := ne_isEmpty q2
                    try have q5 := empty_isEmpty
                    go_wp2
                    go_quiet (fail)
                    go_wp2
                    go_roundg (tl.length - (n + 1))
                    case measure => omega
                    case rel => exact ⟨n + 1 + 1, by congr 1, by omega, by omega, HBD _⟩
              · have hBW := HB.out
                go_wp2
                go_ret
                exact ⟨rfl, HB5.out.trans (hBW.mono HB5.out.size)⟩
          · have hb2 : (limit == 0) = false := by rw [beq_eq_false_iff_ne]; omega
            have hb3 : decide (0 < limit) = true := decide_eq_true hl0
            have hb4 : ((T.length : Int) != (T.length : Int)) = false := by simp
            have hb5 : ((tl.length : Int) != (T.length : Int)) = false := by rw [hgl]; simp
            clear hgl
            go_wp2
            go_loopg [18] (tl.length + 1) (fun kx s18 wr => ∃ m : Nat, s18 = .int .i64 m ∧ kx + m = tl.length + 1 ∧ m ≤ tl.length ∧ Hid (Below W5.heap.size W5 wr))
            case atStart => exact ⟨0, rfl, rfl, Nat.zero_le _, Below.refl _ _⟩
            case round =>
              obtain ⟨m, rfl, hkm, hm, HB⟩ := hrel
              by_cases hlm : m < tl.length
              · obtain ⟨x, hx⟩ : ∃ x, tl[m]? = some x := ⟨_, List.getElem?_eq_getElem hlm⟩
                obtain ⟨k, hTk, hxk⟩ := HTG.out m x hx
                obtain ⟨g, cg, hvv, hgl2, hcell0⟩ := kvs_cell HL.out hx
                have hcell := (HB.out.cell (p := ⟨g, m * 6, none⟩) hgl2).trans hcell0
                have hxkey : x.key = k := by rw [hxk]; rfl
                rw [hxkey] at hcell
                have hpp : p = some ⟨g, 0, none⟩ := by cases hvv; rfl
                subst hpp
                have HPREV : Hid (∀ n kn, m = n + 1 → T[n]? = some kn → wr.cell? ⟨g, n * 6, none⟩ = some (.string kn) ∧ Op.bytesLess k.toList kn.toList = false ∧ (k.toList == kn.toList) = false) := fun n kn e hn => by
                  obtain ⟨y, hy⟩ : ∃ y, tl[n]? = some y := ⟨_, List.getElem?_eq_getElem (by omega)⟩
                  obtain ⟨k2, hT2, hy2⟩ := HTG.out n y hy
                  rw [hn] at hT2
                  cases hT2
                  obtain ⟨g2, cg2, hv2, hgl3, hc2⟩ := kvs_cell HL.out hy
                  have hg2 : g2 = g := by cases hv2; rfl
                  rw [hg2] at hc2 hgl3
                  have hyk : y.key = kn := by rw [hy2]; rfl
                  rw [hyk] at hc2
                  refine ⟨(HB.out.cell (p := ⟨g, n * 6, none⟩) hgl3).trans hc2, asc_at HT.out.asc hn ?_⟩
                  rw [← e]; exact hTk
                have hin := HT.out.inr k (List.mem_of_getElem? hTk)
                have hq : (hi = ByteArray.empty ∧ k = lo) ∨ (¬ hi = ByteArray.empty ∧ Op.bytesLess k.toList lo.toList = false ∧ Op.bytesLess k.toList hi.toList = true) := by
                  unfold inR at hin
                  by_cases e : hi = ByteArray.empty
                  · rw [if_pos e] at hin; exact .inl ⟨e, by simpa using hin⟩
                  · rw [if_neg e] at hin
                    rw [bl_data, bl_data]
                    simp at hin
                    exact .inr ⟨e, hin.1, hin.2⟩
                have HBD : ∀ q, Hid (Below W5.heap.size W5 (wr.drewN q)) := fun q => below_drewQ HB.out q
                have HTN : Hid (∀ n, m = n + 1 → ∃ kn, T[n]? = some kn) := fun n e => by
                  have := (List.getElem?_eq_some_iff.1 hTk).1
                  exact ⟨_, List.getElem?_eq_getElem (by omega)⟩
                clear hx hTk hxk hvv hcell0 hxkey hin
                obtain rfl | ⟨n, rfl⟩ : m = 0 ∨ ∃ n, m = n + 1 := by cases m with
                  | zero => exact .inl rfl
                  | succ n => exact .inr ⟨n, rfl⟩
                · clear HPREV HTN
                  rw [Nat.zero_mul] at hcell
                  rcases hq with ⟨rfl, rfl⟩ | ⟨q2, q3, q6⟩
                  all_goals
                    try have q4 := ne_isEmpty q2
                    try have q5 := empty_isEmpty
                    go_wp2
                    go_quiet (fail)
                    go_wp2
                    go_roundg tl.length
                    case measure => omega
                    case rel => exact ⟨1, rfl, by omega, by omega, HBD _⟩
                · obtain ⟨kn, hkn⟩ := HTN.out n rfl
                  obtain ⟨hcn, hbn1, hbn2⟩ := HPREV.out n kn rfl hkn
                  have hx : IntKind.i64.wrap (((n + 1 : Nat) : Int) - 1) = (n : Int) := by rw [IntKind.wrap_i64]; omega
                  clear HPREV HTN hkn
                  rcases hq with ⟨rfl, rfl⟩ | ⟨q2, q3, q6⟩
                  all_goals
                    try have q4 := ne_isEmpty q2
                    try have q5 := empty_isEmpty
                    go_wp2
                    go_quiet (fail)
                    go_wp2
                    go_roundg (tl.length - (n + 1))
                    case measure => omega
                    case rel => exact ⟨n + 1 + 1, by congr 1, by omega, by omega, HBD _⟩
              · have hBW := HB.out
                go_wp2
                go_ret
                exact ⟨rfl, HB5.out.trans (hBW.mono HB5.out.size)⟩
          · have hb2 : (limit == 0) = false := by rw [beq_eq_false_iff_ne]; omega
            have hb3 : decide (0 < limit) = true := decide_eq_true hl0
            have hb4 : ((T.length : Int) != (T.length : Int)) = false := by simp
            have hb5 : ((tl.length : Int) != limit) = false := by rw [hgl]; simp
            have hge' : ¬ (T.length : Int) < limit := by omega
            clear hgl
            go_wp2
            go_loopg [18] (tl.length + 1) (fun kx s18 wr => ∃ m : Nat, s18 = .int .i64 m ∧ kx + m = tl.length + 1 ∧ m ≤ tl.length ∧ Hid (Below W5.heap.size W5 wr))
            case atStart => exact ⟨0, rfl, rfl, Nat.zero_le _, Below.refl _ _⟩
            case round =>
              obtain ⟨m, rfl, hkm, hm, HB⟩ := hrel
              by_cases hlm : m < tl.length
              · obtain ⟨x, hx⟩ : ∃ x, tl[m]? = some x := ⟨_, List.getElem?_eq_getElem hlm⟩
                obtain ⟨k, hTk, hxk⟩ := HTG.out m x hx
                obtain ⟨g, cg, hvv, hgl2, hcell0⟩ := kvs_cell HL.out hx
                have hcell := (HB.out.cell (p := ⟨g, m * 6, none⟩) hgl2).trans hcell0
                have hxkey : x.key = k := by rw [hxk]; rfl
                rw [hxkey] at hcell
                have hpp : p = some ⟨g, 0, none⟩ := by cases hvv; rfl
                subst hpp
                have HPREV : Hid (∀ n kn, m = n + 1 → T[n]? = some kn → wr.cell? ⟨g, n * 6, none⟩ = some (.string kn) ∧ Op.bytesLess k.toList kn.toList = false ∧ (k.toList == kn.toList) = false) := fun n kn e hn => by
                  obtain ⟨y, hy⟩ : ∃ y, tl[n]? = some y := ⟨_, List.getElem?_eq_getElem (by omega)⟩
                  obtain ⟨k2, hT2, hy2⟩ := HTG.out n y hy
                  rw [hn] at hT2
                  cases hT2
                  obtain ⟨g2, cg2, hv2, hgl3, hc2⟩ := kvs_cell HL.out hy
                  have hg2 : g2 = g := by cases hv2; rfl
                  rw [hg2] at hc2 hgl3
                  have hyk : y.key = kn := by rw [hy2]; rfl
                  rw [hyk] at hc2
                  refine ⟨(HB.out.cell (p := ⟨g, n * 6, none⟩) hgl3).trans hc2, asc_at HT.out.asc hn ?_⟩
                  rw [← e]; exact hTk
                have hin := HT.out.inr k (List.mem_of_getElem? hTk)
                have hq : (hi = ByteArray.empty ∧ k = lo) ∨ (¬ hi = ByteArray.empty ∧ Op.bytesLess k.toList lo.toList = false ∧ Op.bytesLess k.toList hi.toList = true) := by
                  unfold inR at hin
                  by_cases e : hi = ByteArray.empty
                  · rw [if_pos e] at hin; exact .inl ⟨e, by simpa using hin⟩
                  · rw [if_neg e] at hin
                    rw [bl_data, bl_data]
                    simp at hin
                    exact .inr ⟨e, hin.1, hin.2⟩
                have HBD : ∀ q, Hid (Below W5.heap.size W5 (wr.drewN q)) := fun q => below_drewQ HB.out q
                have HTN : Hid (∀ n, m = n + 1 → ∃ kn, T[n]? = some kn) := fun n e => by
                  have := (List.getElem?_eq_some_iff.1 hTk).1
                  exact ⟨_, List.getElem?_eq_getElem (by omega)⟩
                clear hx hTk hxk hvv hcell0 hxkey hin
                obtain rfl | ⟨n, rfl⟩ : m = 0 ∨ ∃ n, m = n + 1 := by cases m with
                  | zero => exact .inl rfl
                  | succ n => exact .inr ⟨n, rfl⟩
                · clear HPREV HTN
                  rw [Nat.zero_mul] at hcell
                  rcases hq with ⟨rfl, rfl⟩ | ⟨q2, q3, q6⟩
                  all_goals
                    try have q4 := ne_isEmpty q2
                    try have q5 := empty_isEmpty
                    go_wp2
                    go_quiet (fail)
                    go_wp2
                    go_roundg tl.length
                    case measure => omega
                    case rel => exact ⟨1, rfl, by omega, by omega, HBD _⟩
                · obtain ⟨kn, hkn⟩ := HTN.out n rfl
                  obtain ⟨hcn, hbn1, hbn2⟩ := HPREV.out n kn rfl hkn
                  have hx : IntKind.i64.wrap (((n + 1 : Nat) : Int) - 1) = (n : Int) := by rw [IntKind.wrap_i64]; omega
                  clear HPREV HTN hkn
                  rcases hq with ⟨rfl, rfl⟩ | ⟨q2, q3, q6⟩
                  all_goals
                    try have q4 := ne_isEmpty q2
                    try have q5 := empty_isEmpty
                    go_wp2
                    go_quiet (fail)
                    go_wp2
                    go_roundg (tl.length - (n + 1))
                    case measure => omega
                    case rel => exact ⟨n + 1 + 1, by congr 1, by omega, by omega, HBD _⟩
              · have hBW := HB.out
                go_wp2
                go_ret
                exact ⟨rfl, HB5.out.trans (hBW.mono HB5.out.size)⟩
end Go.Proofs.Yteeflkkoifgcbab
