/- IndexOrder. -/
import Derived.Test.YtilginghgigiiaaU2
import Derived.BigQuiet
namespace Go.Proofs.Ytilginghgigiiaa
open Go Go.RowKit

/-- Of keys ahead of place i, how many are in the range. -/
def cntR (lo hi : ByteArray) (ks : List ByteArray) (i : Nat) : Nat := ((ks.take i).filter fun k => !klt k lo && inHi hi k).length
theorem cntR_succ {lo hi : ByteArray} {ks : List ByteArray} {i : Nat} {k : ByteArray} (hk : ks[i]? = some k) : cntR lo hi ks (i + 1) = cntR lo hi ks i + if (!klt k lo && inHi hi k) = true then 1 else 0 := by
  unfold cntR
  rw [List.take_add_one, hk]
  simp only [Option.toList_some, List.filter_append, List.length_append]
  by_cases hq : (!klt k lo && inHi hi k) = true
  · simp [hq]
  · simp [hq]
theorem cntR_le (lo hi : ByteArray) (ks : List ByteArray) (i : Nat) : cntR lo hi ks i ≤ i := Nat.le_trans (List.length_filter_le _ _) (by rw [List.length_take]; omega)
theorem cntR_all (lo hi : ByteArray) (D : Dat) : cntR lo hi (D.map Prod.fst) D.length = (keysD lo hi D).length := by
  unfold cntR keysD
  rw [List.take_of_length_le (by simp)]
theorem asc_at {ks : List ByteArray} (h : Asc ks) {i : Nat} {a b : ByteArray} (ha : ks[i]? = some a) (hb : ks[i + 1]? = some b) : Op.bytesLess b.toList a.toList = false ∧ (b.toList == a.toList) = false := by
  have hl := asc_get h (Nat.lt_succ_self i) ha hb
  rw [bl_data, beq_data]
  exact ⟨klt_asymm hl, decide_eq_false (klt_ne hl).symm⟩
theorem below_drewN {B : Nat} {w W : World} (h : Below B w W) : ∀ n, Below B w (W.drewN n)
  | 0 => h
  | n + 1 => (below_drewN h n).drew
theorem empty_isEmpty : ByteArray.empty.toList.isEmpty = true := by rw [toList_data]; rfl
theorem ne_isEmpty {hi : ByteArray} (h : ¬ hi = ByteArray.empty) : hi.toList.isEmpty = false := by
  cases hq : hi.toList.isEmpty
  · rfl
  · exfalso
    apply h
    apply bytes_ext
    rw [← toList_data]
    simpa using hq

set_option maxRecDepth 100000 in
set_option maxHeartbeats 4000000 in
/-- The second loop's line and the third's, and the end. -/
theorem indexOrder_walk (v0 : Value) (lo hi : ByteArray) (keys : List ByteArray) (w : World) (hK : SeesS w v0 keys) (_hkl : keys.length ≤ 140737488355328) (_hlo : lo.size ≤ 140737488355328) (_hhi : hi.size ≤ 140737488355328) :
    Calls Try.prog 6 #[v0, .string lo, .string hi] w fun e w' => e = .returned (.bool true) ∧ Below w.heap.size w w' := by
  obtain ⟨ka, kc, rfl⟩ := hK.form
  have HK := Hid.mk'' hK
  clear hK
  go_enter Try.func6, Try.ntmps6
  go_upto_region 3 with (go_at_call 8; refine (known_any w).mono ?_; rintro e w1 ⟨rfl, hb1⟩)
  by_cases hbig : 60 < keys.length ∨ 300 < lo.size + hi.size
  · by_cases h60 : 60 < keys.length
    · go_wp2
      go_ret
      exact ⟨rfl, hb1⟩
    · have h300 : 300 < lo.size + hi.size := by omega
      go_wp2
      go_ret
      exact ⟨rfl, hb1⟩
  have h60 : ¬ 60 < keys.length := by omega
  have h300 : ¬ 300 < lo.size + hi.size := by omega
  clear hbig
  go_upto_region 6 with (go_at_call 9; refine (new_xd w1).mono ?_; rintro e w2 ⟨rfl, hx2, hb2, hz2⟩)
  have HS0 : Hid (OS w w2 w1.heap.size 0 [] [w1.heap.size]) := ⟨hx2, Bd.nil, hb1.trans (hb2.mono hb1.size), fun k hk => by
    have : k = w1.heap.size := by simpa using hk
    rw [this]; exact hb1.size⟩
  generalize hX : w1.heap.size = X at *
  clear hX hx2 hb2 hz2 hb1
  go_wp2
  go_loopg [8, 9] 61 (fun kx s8 s9 wr => ∃ (i : Nat) (D : Dat) (F : List Nat), s8 = .int .i64 D.length ∧ s9 = .int .i64 i ∧ kx + i = 61 ∧ i ≤ keys.length ∧ Hid (OS w wr X i D F))
  case atStart => exact ⟨0, [], _, rfl, rfl, rfl, by omega, HS0⟩
  case round =>
    clear HS0
    obtain ⟨i, D, F, rfl, rfl, hk, hi', HM⟩ := hrel
    have hDl := HM.out.b.len
    by_cases hlt : i < keys.length
    · obtain ⟨kb, ko, rfl, hkl, hkc, hks⟩ := HK.out.at hlt
      have kcell := (HM.out.below.cell (p := ⟨kb, ko + i, none⟩) hkl).trans hkc
      have HC : Hid (∀ W, Below w.heap.size w W → W.cell? ⟨kb, ko + i, none⟩ = some (.string (keys.getD i ByteArray.empty))) := fun W hb => (hb.cell (p := ⟨kb, ko + i, none⟩) hkl).trans hkc
      generalize keys.getD i ByteArray.empty = key at *
      clear hkc hkl
      by_cases h3 : key.size < 300
      · have hmk := HM.out.marks (by omega) key
        cases hl : lookD D key with
        | some ms =>
          rw [hl] at hmk
          have hpos := bd_pos HM.out.b hl
          dsimp only [Option.getD_some] at hmk
          generalize ms.length = ml at *
          clear HM hl
          go_wp2_with (go_at_call 14; refine hmk.mono ?_; rintro e wa ⟨pa, ca, rfl, HM', hba⟩)
          go_roundg (60 - i)
          case measure => omega
          case rel => exact ⟨i + 1, D, F, rfl, by congr 1, by omega, by omega, HM'.out.skip⟩
        | none =>
          rw [hl] at hmk
          have HPUT : Hid (∀ W, OS w W X i D F → Calls Try.prog 10 #[ptr X, .string key, .agg #[.int .i64 ((i : Int) + 1), .bool false]] W fun e w' => e = .returned (.int .i64 (putE D key (i + 1) false)) ∧ ∃ F', Hid (OS w w' X (i + 1) (putD D key (i + 1) false) F') ∧ Below w.heap.size w w') := fun W h => h.put (by omega) key _ _ hks (by omega)
          have hlen := fun he : putE D key (i + 1) false = 0 => putD_len HM.out.b.asc hl he
          have hE : putE D key ((i : Int) + 1) false = if key.size = 0 ∨ 100 < key.size then 1 else 0 := by
            unfold putE
            rw [hl]
            by_cases hb : key.size = 0 ∨ 100 < key.size
            · rw [if_pos (by omega), if_pos hb]
            · rw [if_neg (by omega), if_neg hb]; rfl
          by_cases hbad : key.size = 0 ∨ 100 < key.size
          · rw [if_pos hbad] at hE
            have hsame := putD_same (D := D) (key := key) (r := (i : Int) + 1) (del := false) (by omega)
            rw [hE, hsame] at HPUT
            clear HM hl hlen hE hsame hbad
            go_wp2_with (first | (go_at_call 14; refine hmk.mono ?_; rintro e wa ⟨pa, ca, rfl, HM', hba⟩; have kc2 := HC.out _ hba; have hput := HPUT.out _ HM'.out) | (go_at_call 10; refine hput.mono ?_; rintro e wb ⟨rfl, F', HM2, hbb⟩))
            go_roundg (60 - i)
            case measure => omega
            case rel => exact ⟨i + 1, D, F', rfl, by congr 1, by omega, by omega, HM2⟩
          · rw [if_neg hbad] at hE
            have hln := hlen hE
            rw [hE] at HPUT
            clear HM hl hlen hE hbad
            generalize putD D key ((i : Int) + 1) false = D' at *
            go_wp2_with (first | (go_at_call 14; refine hmk.mono ?_; rintro e wa ⟨pa, ca, rfl, HM', hba⟩; have kc2 := HC.out _ hba; have hput := HPUT.out _ HM'.out) | (go_at_call 10; refine hput.mono ?_; rintro e wb ⟨rfl, F', HM2, hbb⟩))
            go_roundg (60 - i)
            case measure => omega
            case rel => exact ⟨i + 1, D', F', by congr 1; omega, by congr 1, by omega, by omega, HM2⟩
      · go_wp2
        go_roundg (60 - i)
        case measure => omega
        case rel => exact ⟨i + 1, D, F, rfl, by congr 1, by omega, by omega, HM.out.skip⟩
    · have hDa := HM.out.b.asc
      have hkeys := keys_xd HM.out.x (by omega) ⟨#[]⟩ ⟨#[]⟩
      rw [keysD_all] at hkeys
      have hbw := HM.out.below
      have HKY : Hid (∀ W, Below wr.heap.size wr W → Calls Try.prog 16 #[ptr X, .string lo, .string hi] W fun e w' => ∃ v, e = .returned v ∧ KeysPost W w' v (keysD lo hi D)) := fun W hb => keys_xd (HM.out.x.below hb) (by omega) lo hi
      have HLN : Hid (∀ W, Below wr.heap.size wr W → Calls Try.prog 18 #[ptr X] W fun e w' => e = .returned (.int .i64 D.length) ∧ w' = W) := fun W hb => len_xd (HM.out.x.below hb)
      have HASC := Hid.mk'' hDa
      have hkl : (D.map Prod.fst).length = D.length := by simp
      have HCA := Hid.mk'' (cntR_all lo hi D)
      have HMA : Hid (Asc (keysD lo hi D)) := keysD_asc hDa
      have HMI : Hid (∀ k ∈ keysD lo hi D, klt k lo = false ∧ inHi hi k = true) := fun k hk => by
        have := (List.mem_filter.1 hk).2
        simpa using this
      have hml : (keysD lo hi D).length ≤ D.length := by rw [← cntR_all]; exact cntR_le _ _ _ _
      generalize hks : D.map Prod.fst = ks at *
      generalize hms : keysD lo hi D = ms at *
      clear HM hDa hks hms
      go_upto_region 13 with (go_at_call 16; refine hkeys.mono ?_; rintro e wa ⟨va, rfl, hP⟩)
      obtain ⟨pa, ca, hva⟩ := hP.row.form
      have HR1 := Hid.mk'' hP.row
      have hba := hP.2
      clear hP hkeys
      subst hva
      rw [hkl] at HR1 ⊢
      have hln := HLN.out _ hba
      go_upto_region 15 with (go_at_call 18; refine hln.mono ?_; rintro e wb ⟨rfl, rfl⟩)
      clear hln HLN
      have HB0 : Hid (Below w.heap.size w wb) := hbw.trans (hba.mono hbw.size)
      have HBW : Hid (∀ W, Below wb.heap.size wb W → Below wr.heap.size wr W) := fun W h => hba.trans (h.mono hba.size)
      generalize hW0 : wr = W0 at *
      clear hW0 hbw hba
      go_wp2
      go_loopg [11, 12] (D.length + 1) (fun kx s11 s12 wr => ∃ i : Nat, s11 = .int .i64 (cntR lo hi ks i) ∧ s12 = .int .i64 i ∧ kx + i = D.length + 1 ∧ i ≤ D.length ∧ Hid (Below wb.heap.size wb wr))
      case atStart => exact ⟨0, by simp [cntR], rfl, rfl, Nat.zero_le _, Below.refl _ _⟩
      case round =>
        obtain ⟨i2, rfl, rfl, hk2, hi2, HB⟩ := hrel
        have hcl := cntR_le lo hi ks i2
        by_cases hlt2 : i2 < D.length
        · obtain ⟨k, hkk⟩ : ∃ k, ks[i2]? = some k := ⟨_, List.getElem?_eq_getElem (by omega)⟩
          obtain ⟨g, cg, hv, hgl, hgc⟩ := (HR1.out.below HB.out).at_ i2 k hkk
          have hsucc := cntR_succ (lo := lo) (hi := hi) hkk
          have HP : Hid (∀ j kj, i2 = j + 1 → ks[j]? = some kj → wr.cell? ⟨g, j, none⟩ = some (.string kj) ∧ Op.bytesLess k.toList kj.toList = false ∧ (k.toList == kj.toList) = false) := fun j kj e hj => by
            obtain ⟨g', cg', hv', _, hgc'⟩ := (HR1.out.below HB.out).at_ j kj hj
            rw [hv] at hv'
            cases hv'
            refine ⟨hgc', asc_at HASC.out hj ?_⟩
            rw [← e]; exact hkk
          have hpa : pa = some ⟨g, 0, none⟩ := by rw [hkl] at hv; cases hv; rfl
          subst hpa
          clear hv hkk
          have hq4 : (klt k lo = true ∧ cntR lo hi ks (i2 + 1) = cntR lo hi ks i2) ∨ (klt k lo = false ∧ hi = ByteArray.empty ∧ cntR lo hi ks (i2 + 1) = cntR lo hi ks i2 + 1) ∨ (klt k lo = false ∧ ¬ hi = ByteArray.empty ∧ klt k hi = true ∧ cntR lo hi ks (i2 + 1) = cntR lo hi ks i2 + 1) ∨ (klt k lo = false ∧ ¬ hi = ByteArray.empty ∧ klt k hi = false ∧ cntR lo hi ks (i2 + 1) = cntR lo hi ks i2) := by
            unfold inHi at hsucc
            cases h1 : klt k lo
            · by_cases h2 : hi = ByteArray.empty
              · rw [h1] at hsucc; simp [h2] at hsucc; exact .inr (.inl ⟨rfl, h2, by rw [h2]; exact hsucc⟩)
              · cases h3 : klt k hi
                · rw [h1, h3] at hsucc; simp [h2] at hsucc; exact .inr (.inr (.inr ⟨rfl, h2, rfl, hsucc⟩))
                · rw [h1, h3] at hsucc; simp at hsucc; exact .inr (.inr (.inl ⟨rfl, h2, rfl, hsucc⟩))
            · rw [h1] at hsucc; simp at hsucc; exact .inl ⟨rfl, hsucc⟩
          clear hsucc
          have b1 := bl_data k lo
          have b2 := bl_data k hi
          have HBD : ∀ q, Hid (Below wb.heap.size wb (wr.drewN q)) := fun q => below_drewN HB.out q
          generalize hcn : cntR lo hi ks (i2 + 1) = cn at *
          generalize hc0 : cntR lo hi ks i2 = c0 at *
          clear hc0
          have HCN := Hid.mk'' hcn
          clear hcn
          obtain rfl | ⟨j, rfl⟩ : i2 = 0 ∨ ∃ j, i2 = j + 1 := by cases i2 with
            | zero => exact .inl rfl
            | succ j => exact .inr ⟨j, rfl⟩
          · clear HP
            rcases hq4 with ⟨q1, rfl⟩ | ⟨q1, rfl, rfl⟩ | ⟨q1, q2, q3, rfl⟩ | ⟨q1, q2, q3, rfl⟩
            all_goals
              rw [q1] at b1
              try rw [q3] at b2
              try have q4 := ne_isEmpty q2
              try have q5 := empty_isEmpty
              go_wp2
              go_quiet (fail)
              go_wp2
              go_roundg D.length
              case measure => omega
              case rel => exact ⟨1, by rw [HCN.out]; try rfl, rfl, by omega, by omega, HBD _⟩
          · obtain ⟨kj, hkj⟩ : ∃ kj, ks[j]? = some kj := ⟨_, List.getElem?_eq_getElem (by omega)⟩
            obtain ⟨hcj, hbj1, hbj2⟩ := HP.out j kj rfl hkj
            have hx : IntKind.i64.wrap (((j + 1 : Nat) : Int) - 1) = (j : Int) := by rw [IntKind.wrap_i64]; omega
            clear HP hkj
            rcases hq4 with ⟨q1, rfl⟩ | ⟨q1, rfl, rfl⟩ | ⟨q1, q2, q3, rfl⟩ | ⟨q1, q2, q3, rfl⟩
            all_goals
              rw [q1] at b1
              try rw [q3] at b2
              try have q4 := ne_isEmpty q2
              try have q5 := empty_isEmpty
              go_wp2
              go_quiet (fail)
              go_wp2
              go_roundg (D.length - (j + 1))
              case measure => omega
              case rel => exact ⟨j + 1 + 1, by rw [HCN.out]; try rfl, by congr 1, by omega, by omega, HBD _⟩
        · obtain rfl : i2 = D.length := by omega
          rw [HCA.out]
          have hky := HKY.out _ (HBW.out _ HB.out)
          have hBW2 := HB.out
          clear HR1 HASC HKY HBW
          go_upto_region 24 with (go_at_call 16; refine hky.mono ?_; rintro e wm ⟨vm, rfl, hP⟩)
          obtain ⟨pm, cm, hvm⟩ := hP.row.form
          have HR2 := Hid.mk'' hP.row
          have HB3 : Hid (Below w.heap.size w wm) := HB0.out.trans ((hBW2.trans (hP.2.mono hBW2.size)).mono HB0.out.size)
          clear hP hky hBW2 HB
          subst hvm
          generalize hW1 : wr = W1 at *
          clear hW1
          go_wp2
          go_loopg [14] (ms.length + 1) (fun kx s14 wr => ∃ i : Nat, s14 = .int .i64 i ∧ kx + i = ms.length + 1 ∧ i ≤ ms.length ∧ Hid (Below wm.heap.size wm wr))
          case atStart => exact ⟨0, rfl, rfl, Nat.zero_le _, Below.refl _ _⟩
          case round =>
            obtain ⟨i3, rfl, hk3, hi3, HB⟩ := hrel
            by_cases hlt3 : i3 < ms.length
            · obtain ⟨k, hkk⟩ : ∃ k, ms[i3]? = some k := ⟨_, List.getElem?_eq_getElem hlt3⟩
              obtain ⟨g, cg, hv, hgl, hgc⟩ := (HR2.out.below HB.out).at_ i3 k hkk
              have HP : Hid (∀ j kj, i3 = j + 1 → ms[j]? = some kj → wr.cell? ⟨g, j, none⟩ = some (.string kj) ∧ Op.bytesLess k.toList kj.toList = false ∧ (k.toList == kj.toList) = false) := fun j kj e hj => by
                obtain ⟨g', cg', hv', _, hgc'⟩ := (HR2.out.below HB.out).at_ j kj hj
                rw [hv] at hv'
                cases hv'
                refine ⟨hgc', asc_at HMA.out hj ?_⟩
                rw [← e]; exact hkk
              obtain ⟨q1, q2⟩ := HMI.out k (List.mem_of_getElem? hkk)
              have hpm : pm = some ⟨g, 0, none⟩ := by cases hv; rfl
              subst hpm
              clear hv hkk
              have b1 := bl_data k lo
              rw [q1] at b1
              have hq : hi = ByteArray.empty ∨ (¬ hi = ByteArray.empty ∧ Op.bytesLess k.toList hi.toList = true) := by
                by_cases he : hi = ByteArray.empty
                · exact .inl he
                · refine .inr ⟨he, ?_⟩
                  rw [bl_data]
                  unfold inHi at q2
                  simpa [he] using q2
              clear q1 q2
              have HBD : ∀ q, Hid (Below wm.heap.size wm (wr.drewN q)) := fun q => below_drewN HB.out q
              obtain rfl | ⟨j, rfl⟩ : i3 = 0 ∨ ∃ j, i3 = j + 1 := by cases i3 with
                | zero => exact .inl rfl
                | succ j => exact .inr ⟨j, rfl⟩
              · clear HP
                rcases hq with rfl | ⟨q2, q3⟩
                all_goals
                  try have q4 := ne_isEmpty q2
                  try have q5 := empty_isEmpty
                  go_wp2
                  go_quiet (fail)
                  go_wp2
                  go_roundg ms.length
                  case measure => omega
                  case rel => exact ⟨1, rfl, by omega, by omega, HBD _⟩
              · obtain ⟨kj, hkj⟩ : ∃ kj, ms[j]? = some kj := ⟨_, List.getElem?_eq_getElem (by omega)⟩
                obtain ⟨hcj, hbj1, hbj2⟩ := HP.out j kj rfl hkj
                have hx : IntKind.i64.wrap (((j + 1 : Nat) : Int) - 1) = (j : Int) := by rw [IntKind.wrap_i64]; omega
                clear HP hkj
                rcases hq with rfl | ⟨q2, q3⟩
                all_goals
                  try have q4 := ne_isEmpty q2
                  try have q5 := empty_isEmpty
                  go_wp2
                  go_quiet (fail)
                  go_wp2
                  go_roundg (ms.length - (j + 1))
                  case measure => omega
                  case rel => exact ⟨j + 1 + 1, by congr 1, by omega, by omega, HBD _⟩
            · have hBW3 := HB.out
              go_wp2
              go_ret
              exact ⟨rfl, HB3.out.trans (hBW3.mono HB3.out.size)⟩
end Go.Proofs.Ytilginghgigiiaa
