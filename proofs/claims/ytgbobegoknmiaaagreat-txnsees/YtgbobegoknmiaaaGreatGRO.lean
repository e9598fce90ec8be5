/- What a write tells of a range. -/
import Derived.Test.YtgbobegoknmiaaaGreatGRN
import Derived.Test.YtgbobegoknmiaaaGreatGRB
import Derived.Test.YtgbobegoknmiaaaGreatGRC
import Derived.BigQuiet
namespace Go.Proofs.YtgbobegoknmiaaaGreat
open Go Go.RowKit Go.Sort Go.Lib

set_option maxRecDepth 100000 in
set_option maxHeartbeats 2000000 in
theorem tell_anyM (kp : Option Addr) (kc : Nat) (ks : List ByteArray) (limit : Int) (pb : Value) (f : ByteArray → Option KVd) (w : World)
    (hR : Row w (.slice kp ks.length kc) ks) (hn : ks.length ≤ 1000000)
    (hf : ∀ W k, k ∈ ks → Below w.heap.size w W → Calls Tryz.prog 55 #[pb, .string k] W fun e w' => e = .returned (.tuple #[encKV ((f k).getD noKV), .bool (f k).isSome]) ∧ Below W.heap.size W w') :
    Calls Tryz.prog 71 #[.slice kp ks.length kc, .int .i64 limit, .func (.func 55) #[pb] #[]] w fun e w' => ∃ p c, e = .returned (.tuple #[.slice p (toldL limit (ks.filterMap f)).length c, .int .i64 (ks.filterMap f).length]) ∧ KR w w' (.slice p (toldL limit (ks.filterMap f)).length c) (toldL limit (ks.filterMap f)) := by
  have HR := Hid.mk'' hR
  have HF := Hid.mk'' hf
  clear hR hf
  obtain ⟨t9, hti, hz0, hz1, hz2⟩ := info_parts info56
  go_enter Tryz.func71, Tryz.ntmps71
  go_wp2
  go_loopg [8, 9, 16] (ks.length + 1) (fun kx s8 s9 s16 wr => ∃ (i : Nat) (p : Option Addr) (c : Nat), s8 = .slice p (toldL limit ((ks.take i).filterMap f)).length c ∧ s9 = .int .i64 ((ks.take i).filterMap f).length ∧ s16 = .int .i64 i ∧ kx + i = ks.length + 1 ∧ i ≤ ks.length ∧ Hid (KR w wr (.slice p (toldL limit ((ks.take i).filterMap f)).length c) (toldL limit ((ks.take i).filterMap f))))
  case atStart =>
    have e : toldL limit (([] : List ByteArray).filterMap f) = [] := by unfold toldL; split <;> simp
    exact ⟨0, none, 0, by simp [toldL], by simp, rfl, rfl, Nat.zero_le _, by rw [List.take_zero, e]; exact ⟨World.ownsRow_nil _ _ _ _, Below.refl _ _⟩⟩
  case round =>
    obtain ⟨i, p, c, rfl, rfl, rfl, hk, hi, HM⟩ := hrel
    have hl1 : ((ks.take i).filterMap f).length ≤ i := Nat.le_trans (List.length_filterMap_le _ _) (by rw [List.length_take]; omega)
    have hl2 := toldL_len limit ((ks.take i).filterMap f)
    by_cases hlt : i < ks.length
    · obtain ⟨k, hkk⟩ : ∃ k, ks[i]? = some k := ⟨_, List.getElem?_eq_getElem hlt⟩
      have hfm := fm_take (f := f) hkk
      obtain ⟨g, cg, hv, hgl, hgc⟩ := (HR.out).at_ i k hkk
      have kcell := (HM.out.2.cell (p := ⟨g, i, none⟩) hgl).trans hgc
      have hcall := HF.out wr k (List.mem_of_getElem? hkk) HM.out.2
      have hkp : kp = some ⟨g, 0, none⟩ := by cases hv; rfl
      subst hkp
      clear hv hgc hgl hkk
      generalize hfd : (ks.take i).filterMap f = fd at *
      cases hfk : f k with
      | none =>
        rw [hfk] at hcall hfm
        simp only [Option.toList_none, List.append_nil] at hfm
        have HM2 : Hid (∀ W, Below wr.heap.size wr W → KR w W (.slice p (toldL limit fd).length c) (toldL limit fd)) := fun W hb => ⟨ownsRow_upd HM.out.1 (Upd.ofBelow (S := fun _ => False) hb) (fun _ _ h => h), HM.out.2.trans (hb.mono HM.out.2.size)⟩
        dsimp only [Option.getD_none, encKV, noKV, Option.isSome_none] at hcall
        clear HM hfk HF
        go_wp2_with (go_at_call 55; refine hcall.mono ?_; rintro e w3 ⟨rfl, hb3⟩)
        go_roundg (ks.length - i)
        case measure => omega
        case rel => exact ⟨i + 1, p, c, by rw [hfm], by rw [hfm], by congr 1, by omega, by omega, by rw [hfm]; exact HM2.out _ (hb3.alloc (by have := hb3.size; omega) _)⟩
      | some kv =>
        rw [hfk] at hcall hfm
        simp only [Option.toList_some] at hfm
        have HM3 : Hid (KR w wr (.slice p (toldL limit fd).length c) (toldL limit fd)) := HM.out
        obtain ⟨kk, kvv, kcr, kmo, kve, kle⟩ := kv
        dsimp only [Option.getD_some, encKV, Option.isSome_some] at hcall
        have HFM := Hid.mk'' hfm
        clear HM hfk HF hfm
        go_upto_region 8 with (go_at_call 55; refine hcall.mono ?_; rintro e w3 ⟨rfl, hb3⟩)
        obtain ⟨w4, hw4⟩ : ∃ w4, w4 = w3.alloc (.cells #[.string kk, .string kvv, .int .i64 kcr, .int .i64 kmo, .int .i64 kve, .int .i64 kle] 62) := ⟨_, rfl⟩
        rw [← hw4]
        obtain ⟨bx, hbx⟩ : ∃ bx, bx = w3.heap.size := ⟨_, rfl⟩
        rw [← hbx]
        have r4 : w4.heap[bx]? = some (.cells #[.string kk, .string kvv, .int .i64 kcr, .int .i64 kmo, .int .i64 kve, .int .i64 kle] 62 (0, 0)) := by rw [hw4, hbx]; exact row_alloc w3 _ _
        have b34 : Below wr.heap.size wr w4 := by rw [hw4]; exact hb3.alloc hb3.size _
        have HK4 : Hid (KR w w4 (.slice p (toldL limit fd).length c) (toldL limit fd)) := ⟨ownsRow_upd HM3.out.1 (Upd.ofBelow (S := fun _ => False) b34) (fun _ _ h => h), HM3.out.2.trans (b34.mono HM3.out.2.size)⟩
        obtain ⟨⟨x0, x1, x2, x3, x4, x5⟩, -⟩ := box6 r4
        clear hw4 hbx b34 hb3 hcall HM3 r4
        by_cases hmore : limit < 1 ∨ (fd.length : Int) + 1 ≤ limit
        · have hto := toldL_more (x := (⟨kk, kvv, kcr, kmo, kve, kle⟩ : KVd)) hmore
          have HTO := Hid.mk'' hto
          have hba : Below w4.heap.size w4 (w4.alloc (.cells #[.string kk, .string kvv, .int .i64 kcr, .int .i64 kmo, .int .i64 kve, .int .i64 kle] 62)) := (Below.refl _ w4).alloc (Nat.le_refl _) _
          have hsrc : Src Tryz.prog 6 28 (.slice (some ⟨w4.heap.size, 0, none⟩) 1 1) 1 (kvsC [⟨kk, kvv, kcr, kmo, kve, kle⟩]) (w4.alloc (.cells #[.string kk, .string kvv, .int .i64 kcr, .int .i64 kmo, .int .i64 kve, .int .i64 kle] 62)) := Src.ofSlice _ Tryz.underlying28 ⟨w4.heap.size, 0, none⟩ 1 1 _ rfl (fun j u hj => by
            rw [Addr.add_lit, Nat.zero_add, cell_of_row _ _ _ _ _ _ (row_alloc w4 _ 62)]; simpa [kvsC, kvC] using hj) (fun u hu => by simp [kvsC, kvC] at hu; rcases hu with rfl | rfl | rfl | rfl | rfl | rfl <;> rfl)
          have hown : (w4.alloc (.cells #[.string kk, .string kvv, .int .i64 kcr, .int .i64 kmo, .int .i64 kve, .int .i64 kle] 62)).ownsRow w.heap.size 62 6 (.slice p (toldL limit fd).length c) (toldL limit fd).length (kvsC (toldL limit fd)) := ownsRow_upd HK4.out.1 (Upd.ofBelow (S := fun _ => False) hba) (fun _ _ h => h)
          have hwz : w.heap.size ≤ w4.heap.size := HK4.out.2.size
          have hl3 : (toldL limit fd).length ≤ 1000000 := by omega
          have HFIN : Hid (∀ w', Upd (w4.alloc (.cells #[.string kk, .string kvv, .int .i64 kcr, .int .i64 kmo, .int .i64 kve, .int .i64 kle] 62)) w' (fun k => some k = (Value.slice p (toldL limit fd).length c).ownBlock) → Below w.heap.size w w')   := fun w' hu => (HK4.out.2.trans (hba.mono hwz)).trans (hu.below (HK4.out.2.trans (hba.mono hwz)).size (fun k hk e => by have := (HK4.out.1.lt k e.symm).1; omega))
          have HTL := Hid.mk'' (rfl : toldL limit fd = toldL limit fd)
          generalize htl : toldL limit fd = tl at *
          clear hto hba HK4 HTL
          rcases Int.lt_or_le limit 1 with hli | hli
          · go_wp2_with (at_builtin; refine wpList_appS _ rfl (.tmp 37) (.tmp 39) 28 28 rfl w.heap.size 62 t9 _ 6 Tryz.underlying28 hti hz0 hz1 rfl (by rw [hz2]; decide) _ tl.length (kvsC tl) rfl hown _ rfl 1 (kvsC [⟨kk, kvv, kcr, kmo, kve, kle⟩]) hsrc (by omega) (by simp; omega) ?_; intro v' w' q1 q2 q3 q4; obtain ⟨np, nc, hnv⟩ := owns_formB0 q1; subst hnv; clear q3 q4)
            go_roundg (ks.length - i)
            case measure => omega
            case rel => exact ⟨i + 1, np, nc, by rw [HFM.out, HTO.out]; simp, by rw [HFM.out]; simp, by congr 1, by omega, by omega, by rw [HFM.out, HTO.out]; exact ⟨by simpa [kvsC] using q1, HFIN.out _ q2⟩⟩
          · have hm2 : (fd.length : Int) + 1 ≤ limit := by omega
            go_wp2_with (at_builtin; refine wpList_appS _ rfl (.tmp 37) (.tmp 39) 28 28 rfl w.heap.size 62 t9 _ 6 Tryz.underlying28 hti hz0 hz1 rfl (by rw [hz2]; decide) _ tl.length (kvsC tl) rfl hown _ rfl 1 (kvsC [⟨kk, kvv, kcr, kmo, kve, kle⟩]) hsrc (by omega) (by simp; omega) ?_; intro v' w' q1 q2 q3 q4; obtain ⟨np, nc, hnv⟩ := owns_formB0 q1; subst hnv; clear q3 q4)
            go_roundg (ks.length - i)
            case measure => omega
            case rel => exact ⟨i + 1, np, nc, by rw [HFM.out, HTO.out]; simp, by rw [HFM.out]; simp, by congr 1, by omega, by omega, by rw [HFM.out, HTO.out]; exact ⟨by simpa [kvsC] using q1, HFIN.out _ q2⟩⟩
        · have h1 : ¬ limit < 1 := fun h => hmore (.inl h)
          have h2 : ¬ (fd.length : Int) + 1 ≤ limit := fun h => hmore (.inr h)
          have HTO := Hid.mk'' (toldL_full (x := (⟨kk, kvv, kcr, kmo, kve, kle⟩ : KVd)) h1 h2)
          clear hmore
          go_wp2
          go_roundg (ks.length - i)
          case measure => omega
          case rel => exact ⟨i + 1, p, c, by rw [HFM.out, HTO.out], by rw [HFM.out]; simp, by congr 1, by omega, by omega, by rw [HFM.out, HTO.out]; exact HK4.out⟩
    · obtain rfl : i = ks.length := by omega
      rw [List.take_length] at HM ⊢
      have HB := HM
      go_wp2
      refine bodyPost_ret (results_tmp2 rfl _ _ _) rfl ?_
      exact ⟨p, c, rfl, HB.out⟩
theorem inRr_eq (lo hi k : ByteArray) : inRr lo hi k = inR lo hi k := rfl
/-- The keys of a range that a write sees, rising. -/
def seenK (S : Sto) (W : Wri) (lo hi : ByteArray) : List ByteArray := (Lib.compact (((rangeK S lo hi ++ W.keys.filter (inR lo hi)).map toL).mergeSort fun x y => decide (x ≤ y))).map ofL
theorem seenK_asc (S : Sto) (W : Wri) (lo hi : ByteArray) : Asc (seenK S W lo hi) := comp_asc (sorted_ms _)
theorem seenK_mem (S : Sto) (W : Wri) (lo hi k : ByteArray) : k ∈ seenK S W lo hi ↔ (k ∈ rangeK S lo hi ∨ (k ∈ W.keys ∧ inR lo hi k = true)) := by
  unfold seenK
  rw [mem_ofL (ss := rangeK S lo hi ++ W.keys.filter (inR lo hi)) (fun x => (mem_comp _ x).trans (List.mergeSort_perm _ _).mem_iff), List.mem_append, List.mem_filter]
def wrV (S : Sto) (W : Wri) (lo hi : ByteArray) : List KVd := (seenK S W lo hi).filterMap (lookW S W)
set_option maxRecDepth 100000 in
set_option maxHeartbeats 2000000 in
theorem wrange_st {n : Nat} {w : World} {s b : Nat} {S : Sto} {W : Wri} {g : Sg} {h : Wg} (H : Ow n w s b S W g h) (hn : n ≤ 500000) (hw : W.keys.length ≤ 100000) (lo hi : ByteArray) (limit : Int) (hls : lo.size ≤ 140737488355328) (hhs : hi.size ≤ 140737488355328) :
    Calls Tryz.prog 82 #[ptr b, .string lo, .string hi, .int .i64 limit] w fun e w' => ∃ p c, e = .returned (.tuple #[.slice p (toldL limit (wrV S W lo hi)).length c, .int .i64 (wrV S W lo hi).length]) ∧ Hid (KR w w' (.slice p (toldL limit (wrV S W lo hi)).length c) (toldL limit (wrV S W lo hi))) := by
  obtain ⟨t9, hti9, hz09, hz19, hz29⟩ := info_parts info9
  obtain ⟨c0, c1, -⟩ := H.wr.cells
  have hopen := open_st H
  have hkeys := keys_st H.st (by omega) lo hi hls hhs
  have hlen : (rangeK S lo hi).length ≤ 500000 := by
    have h2 : (datS S).length = S.ks.length := by unfold datS; simp
    have h3 : (rangeK S lo hi).length ≤ S.ks.length := List.length_filter_le _ _
    have := H.st.bd.len
    omega
  obtain ⟨vp, vc, hv⟩ := owns_formB0 H.wr.row
  have hrow := H.wr.row
  rw [hv] at c1 hrow
  have HROW := Hid.mk'' hrow
  have hbl : b < w.heap.size := H.wr.lt (.inl rfl)
  have HH := Hid.mk'' H
  have hwi := fun (k : ByteArray) (V : World) => mwithin_any k lo hi V
  have HFM : Hid (∀ i k, W.keys[i]? = some k → (W.keys.take (i + 1)).filter (inR lo hi) = (W.keys.take i).filter (inR lo hi) ++ (if inR lo hi k then [k] else [])) := fun i k hk => by
    rw [List.take_add_one, hk, List.filter_append]
    cases h : inR lo hi k <;> simp [h]
  have HFL : Hid (∀ i, ((W.keys.take i).filter (inR lo hi)).length ≤ W.keys.length) := fun i => Nat.le_trans (List.length_filter_le _ _) (by rw [List.length_take]; omega)
  clear H hv hrow
  obtain ⟨R, hR⟩ : ∃ R, R = rangeK S lo hi := ⟨_, rfl⟩
  rw [← hR] at hlen hkeys
  have HR := Hid.mk'' hR
  clear hR
  obtain ⟨m, hm⟩ : ∃ m, m = W.keys.length := ⟨_, rfl⟩
  rw [← hm] at c1 hw
  have HMM := Hid.mk'' hm
  clear hm
  go_enter Tryz.func82, Tryz.ntmps82
  go_upto_region 4 with (first | (go_at_call 53; refine hopen.mono ?_; rintro e w1 ⟨rfl, hw1⟩; obtain rfl := hw1.symm) | (go_at_call 72; refine hkeys.mono ?_; rintro e w2 ⟨p, c, rfl, hP⟩))
  have c1' := (hP.2.cell (p := ⟨b, 1, none⟩) hbl).trans c1
  have HP : Hid (KeysPost w w2 (.slice p R.length c) R) := hP
  clear c0 c1 hopen hkeys hP
  go_wp2_with fail
  clear c1'
  go_loopg [10, 28] (m + 1) (fun kx s10 s28 wr => ∃ (i : Nat) (p : Option Addr) (c : Nat), s10 = .slice p (R ++ (W.keys.take i).filter (inR lo hi)).length c ∧ s28 = .int .i64 i ∧ kx + i = m + 1 ∧ i ≤ m ∧ Hid (KeysPost w wr (.slice p (R ++ (W.keys.take i).filter (inR lo hi)).length c) (R ++ (W.keys.take i).filter (inR lo hi))))
  case atStart => exact ⟨0, p, c, by simp, rfl, rfl, Nat.zero_le _, by rw [List.take_zero, List.filter_nil, List.append_nil]; exact HP.out⟩
  case round =>
    obtain ⟨i, p', c', rfl, rfl, hkx, hi', HM⟩ := hrel
    obtain ⟨W0, hW0⟩ : ∃ W0, W0 = wr := ⟨_, rfl⟩
    subst hW0
    by_cases hlt : i < m
    · obtain ⟨k, hk⟩ : ∃ k, W.keys[i]? = some k := ⟨_, List.getElem?_eq_getElem (by rw [← HMM.out]; exact hlt)⟩
      obtain ⟨gg, cg, hvv, hcell⟩ := row_cell HROW.out hk
      have hgl : gg < w.heap.size := (HROW.out.lt gg (by rw [hvv]; rfl)).2
      have kcell := (HM.out.2.cell (p := ⟨gg, i, none⟩) hgl).trans hcell
      have hvp : vp = some ⟨gg, 0, none⟩ := by cases hvv; rfl
      subst hvp
      have hst := HFM.out i k hk
      have hfl := HFL.out i
      have hwk := hwi k
      rw [inRr_eq] at hwk
      clear hk hvv hcell
      obtain ⟨B, hB⟩ : ∃ B, B = R ++ (W.keys.take i).filter (inR lo hi) := ⟨_, rfl⟩
      rw [← hB] at HM ⊢
      have hBl : B.length ≤ 700000 := by rw [hB, List.length_append]; have := HMM.out; omega
      cases hin : inR lo hi k with
      | true =>
        rw [hin] at hst hwk
        have hbs : R ++ (W.keys.take (i + 1)).filter (inR lo hi) = B ++ [k] := by rw [hst, hB, List.append_assoc]; rfl
        have HBS := Hid.mk'' hbs
        have hba : Below W0.heap.size W0 (W0.alloc (.cells #[.string k] 9)) := (Below.refl _ W0).alloc (Nat.le_refl _) _
        have hsrc : Src Tryz.prog 1 53 (.slice (some ⟨W0.heap.size, 0, none⟩) 1 1) 1 (strs [k]) (W0.alloc (.cells #[.string k] 9)) := Src.ofSlice _ Tryz.underlying53 ⟨W0.heap.size, 0, none⟩ 1 1 _ rfl (fun j u hj => by
          rw [Addr.add_lit, Nat.zero_add, cell_of_row _ _ _ _ _ _ (row_alloc W0 #[.string k] 9)]; simpa using hj) (fun u hu => by simp at hu; subst hu; rfl)
        have hown : (W0.alloc (.cells #[.string k] 9)).ownsRow w.heap.size 9 1 (.slice p' B.length c') B.length (strs B) := ownsRow_upd HM.out.1 (Upd.ofBelow (S := fun _ => False) hba) (fun _ _ h => h)
        have hwz : w.heap.size ≤ (W0.alloc (.cells #[.string k] 9)).heap.size := Nat.le_trans HM.out.2.size hba.size
        have HFIN : Hid (∀ w', Upd (W0.alloc (.cells #[.string k] 9)) w' (fun k => some k = (Value.slice p' B.length c').ownBlock) → Below w.heap.size w w') := fun w' hu => (HM.out.2.trans (hba.mono HM.out.2.size)).trans (hu.below (HM.out.2.trans (hba.mono HM.out.2.size)).size (fun k hk e => by have := (HM.out.1.lt k e.symm).1; omega))
        clear hst hbs hB hba
        go_wp2_with (first | (go_at_call 89; refine (hwk _).mono ?_; rintro e w3 ⟨rfl, hw3⟩; obtain rfl := hw3.symm) | (at_builtin; refine wpList_appS _ rfl (.tmp 36) (.tmp 38) 53 53 rfl w.heap.size 9 t9 _ 1 Tryz.underlying53 hti9 hz09 hz19 rfl (by rw [hz29]; decide) _ B.length (strs B) rfl hown _ rfl 1 (strs [k]) hsrc (by omega) hwz ?_; intro v' w4 q1 q2 q3 q4; obtain ⟨np, nc, hnv⟩ := owns_formB0 q1; subst hnv; clear q3 q4))
        go_roundg (m - i)
        case measure => omega
        case rel => exact ⟨i + 1, np, nc, by rw [HBS.out]; simp, by congr 1, by omega, by omega, by rw [HBS.out]; exact ⟨by simpa using q1, HFIN.out _ q2⟩⟩
      | false =>
        rw [hin] at hst hwk
        have hbs : R ++ (W.keys.take (i + 1)).filter (inR lo hi) = B := by rw [hst, hB]; simp
        have HBS := Hid.mk'' hbs
        clear hst hbs hB
        go_wp2_with (first | (go_at_call 89; refine (hwk _).mono ?_; rintro e w3 ⟨rfl, hw3⟩; obtain rfl := hw3.symm))
        go_roundg (m - i)
        case measure => omega
        case rel => exact ⟨i + 1, p', c', by rw [HBS.out], by congr 1, by omega, by omega, by rw [HBS.out]; exact HM.out⟩
    · obtain rfl : i = m := by omega
      have htk : W.keys.take i = W.keys := by rw [HMM.out, List.take_length]
      rw [htk] at HM ⊢
      obtain ⟨B, hB⟩ : ∃ B, B = R ++ W.keys.filter (inR lo hi) := ⟨_, rfl⟩
      rw [← hB] at HM ⊢
      have hBl : B.length ≤ 700000 := by
        have h1 := List.length_filter_le (inR lo hi) W.keys
        have := HMM.out
        rw [hB, List.length_append]
        omega
      have hsort := sort_rowA W0 w.heap.size p' c' B HM.out.1 (by omega)
      have HB := Hid.mk'' hB
      obtain ⟨W1, hW1⟩ : ∃ W1, W1 = W0 := ⟨_, rfl⟩
      have HCOMP : Hid (∀ w4 ss', ss'.length = B.length → (∀ k, k ∈ ss' ↔ k ∈ B) → (ss'.map toL).Pairwise (fun x y => Op.bytesLess y x = false) → w4.ownsRow w.heap.size 9 1 (.slice p' B.length c') B.length (strs ss') → Below w.heap.size w w4 → Calls Tryz.prog 91 #[.slice p' B.length c'] w4 fun e w5 => e = .returned (.slice p' (seenK S W lo hi).length c') ∧ Hid (Below w.heap.size w w5 ∧ Row w5 (.slice p' (seenK S W lo hi).length c') (seenK S W lo hi))) := fun w4 ss' h1 h2 h3 h4 h5 => by
        have := comp_rowA w4 w.heap.size p' c' ss' (by rw [h1]; exact h4) (by omega) h3
        rw [h1] at this
        refine this.mono ?_
        rintro e w5 ⟨K, k1, k2, k3, rfl, k4, k5⟩
        have hK : K = seenK S W lo hi := asc_ext k3 (seenK_asc _ _ _ _) (fun k => by rw [k2, h2, seenK_mem, HB.out, HR.out, List.mem_append, List.mem_filter])
        subst hK
        have hb5 : Below w.heap.size w w5 := h5.trans (k5.below h5.size (fun k hk e => by have := (h4.lt k e.symm).1; omega))
        refine ⟨rfl, hb5, ⟨p', c', rfl⟩, fun j k hj => ?_⟩
        obtain ⟨g2, rfl, _, e3⟩ := k4 j k hj
        exact ⟨g2, c', rfl, World.block_lt_of_cell? _ _ e3, e3⟩
      have HTELL : Hid (∀ w5, (Below w.heap.size w w5 ∧ Row w5 (.slice p' (seenK S W lo hi).length c') (seenK S W lo hi)) → Calls Tryz.prog 71 #[.slice p' (seenK S W lo hi).length c', .int .i64 limit, .func (.func 55) #[ptr b] #[]] w5 fun e w' => ∃ p c, e = .returned (.tuple #[.slice p (toldL limit (wrV S W lo hi)).length c, .int .i64 (wrV S W lo hi).length]) ∧ Hid (KR w w' (.slice p (toldL limit (wrV S W lo hi)).length c) (toldL limit (wrV S W lo hi)))) := fun w5 h5 => by
        have hsl : (seenK S W lo hi).length ≤ B.length := by
          unfold seenK
          rw [List.length_map]
          refine Nat.le_trans (comp_le _) ?_
          rw [List.length_mergeSort, List.length_map, HB.out, HR.out]
          exact Nat.le_refl _
        refine (tell_anyM p' c' (seenK S W lo hi) limit (ptr b) (lookW S W) w5 h5.2 (by omega) (fun V k _ hb => look_st (HH.out.below (h5.1.trans (hb.mono h5.1.size))) k)).mono ?_
        rintro e w' ⟨p2, c2, rfl, hK⟩
        exact ⟨p2, c2, rfl, hK.1.mono h5.1.size, h5.1.trans (hK.2.mono h5.1.size)⟩
      have HSB : Hid (∀ w4, Upd W0 w4 (fun k => some k = (Value.slice p' B.length c').ownBlock) → Below w.heap.size w w4) := fun w4 hu => HM.out.2.trans (hu.below HM.out.2.size (fun k hk e => by have := (HM.out.1.lt k e.symm).1; omega))
      generalize hsk : seenK S W lo hi = SK at *
      generalize hwv : wrV S W lo hi = WV at *
      have hmf : ∀ V, (Instr.makeFunc (Fn.func 55) #[ptr b] #[]).run Tryz.prog V = .ok (.func (.func 55) #[ptr b] #[]) V := fun V => by kernel_rfl
      have HWV := Hid.mk'' hwv
      clear hsk hwv hB hW1 hwi htk
      go_wp2_with (first | (go_at_call 90; refine hsort.mono ?_; rintro e w4 ⟨rfl, ss', s1, s2, s3, s4, s5⟩; have hcomp := HCOMP.out w4 ss' s1 s2 s3 s4 (HSB.out w4 s5); clear s1 s2 s3 s4 s5) | (go_at_call 91; refine hcomp.mono ?_; rintro e w5 ⟨rfl, H5⟩; have htell := HTELL.out w5 H5.out) | (go_at_call 71; refine htell.mono ?_; rintro e w6 ⟨p2, c2, rfl, HK6⟩))
      refine bodyPost_ret (results_tmp2 rfl _ _ _) rfl ?_
      exact ⟨p2, c2, by rw [HWV.out]; rfl, by rw [HWV.out]; exact HK6⟩
end Go.Proofs.YtgbobegoknmiaaaGreat
/- Range of a store. -/
namespace Go.Proofs.YtgbobegoknmiaaaGreat
open Go Go.RowKit

set_option maxRecDepth 100000 in
set_option maxHeartbeats 1000000 in
/-- The look that Range hands on. -/
theorem rlook_st {n : Nat} {w : World} {s : Nat} {S : Sto} {g : Sg} {o : Value} (h : St n w s S g o) (hn : n ≤ 1000000) (key : ByteArray) (rev : Int) (a q : Nat) (ha : w.cell? ⟨a, 0, none⟩ = some (ptr s)) (hq : w.cell? ⟨q, 0, none⟩ = some (.int .i64 rev)) :
    Calls Tryz.prog 73 #[.string key, ptr a, ptr q] w fun e w' => e = .returned (.tuple #[encKV ((atH (S.kh key) rev).getD noKV), .bool (atH (S.kh key) rev).isSome]) ∧ Below w.heap.size w w' := by
  have hb0 : Below w.heap.size w (w.alloc (.cells #[.string ⟨#[]⟩, .string ⟨#[]⟩, .int .i64 0, .int .i64 0, .int .i64 0, .int .i64 0] 62)) := (Below.refl _ w).alloc (Nat.le_refl _) _
  have r0 := row_alloc w #[.string ⟨#[]⟩, .string ⟨#[]⟩, .int .i64 0, .int .i64 0, .int .i64 0, .int .i64 0] 62
  generalize hV : w.alloc (.cells #[.string ⟨#[]⟩, .string ⟨#[]⟩, .int .i64 0, .int .i64 0, .int .i64 0, .int .i64 0] 62) = V at *
  have hVs : V.heap.size = w.heap.size + 1 := by rw [← hV]; simp
  have hat := at_rev (h.below hb0) hn key rev
  have ka := (hb0.cell (p := ⟨a, 0, none⟩) (World.block_lt_of_cell? _ _ ha)).trans ha
  have kq := (hb0.cell (p := ⟨q, 0, none⟩) (World.block_lt_of_cell? _ _ hq)).trans hq
  generalize (atH (S.kh key) rev).getD noKV = kv at *
  generalize (atH (S.kh key) rev).isSome = th at *
  obtain ⟨kk, kvv, kcr, kmo, kve, kle⟩ := kv
  dsimp only [encKV] at hat
  clear h
  go_enter Tryz.func73, Tryz.ntmps73
  go_wp2_with (go_at_call 74; refine hat.mono ?_; rintro e w3 ⟨rfl, hb3⟩; have r3 := (hb3.block w.heap.size (by omega)).trans r0; have HB : Hid (Below w.heap.size w w3) := hb0.trans (hb3.mono (by omega)); obtain ⟨⟨k0, k1, k2, k3, k4, k5⟩, f0, f1, f2, f3, f4, f5⟩ := box6 r3; have HR := Hid.mk'' r3; clear r3 hb3 hat hV hVs)
  refine bodyPost_ret (results_ct rfl _ _ w.heap.size 62 #[.string kk, .string kvv, .int .i64 kcr, .int .i64 kmo, .int .i64 kve, .int .i64 kle] (0, 0) _ rfl (set6 HR.out _ _ _ _ _ _) Tryz.underlying62 rfl size56) rfl ?_
  exact ⟨rfl, below6 HB.out (Nat.le_refl _) _ _ _ _ _ _⟩
/-- What Range answers. -/
def rangeE (S : Sto) (rev : Int) : Int := if rev < 0 then 1 else if (S.rev : Int) < rev then 17 else if 0 < rev ∧ rev < S.past then 16 else 0
def revOf (S : Sto) (rev : Int) : Int := if rev = 0 then S.rev else rev
def rangeV (S : Sto) (lo hi : ByteArray) (rev : Int) : List KVd := (rangeK S lo hi).filterMap fun k => atH (S.kh k) (revOf S rev)
set_option maxRecDepth 100000 in
set_option maxHeartbeats 2000000 in
theorem range_ok {n : Nat} {w : World} {s : Nat} {S : Sto} {g : Sg} {o : Value} (h : St n w s S g o) (hn : n ≤ 1000000) (lo hi : ByteArray) (rev limit : Int) (hl : lo.size ≤ 140737488355328) (hh : hi.size ≤ 140737488355328) (h0 : 0 ≤ rev) (h1 : rev ≤ S.rev) (h2 : rev = 0 ∨ (S.past : Int) ≤ rev) :
    Calls Tryz.prog 47 #[ptr s, .string lo, .string hi, .int .i64 rev, .int .i64 limit] w fun e w' => ∃ p c, e = .returned (.tuple #[.slice p (toldL limit (rangeV S lo hi rev)).length c, .int .i64 (rangeV S lo hi rev).length, .int .i64 0]) ∧ Hid (KR w w' (.slice p (toldL limit (rangeV S lo hi rev)).length c) (toldL limit (rangeV S lo hi rev))) := by
  obtain ⟨w2, hw2⟩ : ∃ w2, w2 = (w.alloc (.cells #[ptr s] 25)).alloc (.cells #[.int .i64 rev] 3) := ⟨_, rfl⟩
  have hb2 : Below w.heap.size w w2 := by rw [hw2]; exact ((Below.refl _ w).alloc (Nat.le_refl _) _).alloc (by simp) _
  have ra : w2.heap[w.heap.size]? = some (.cells #[ptr s] 25 (0, 0)) := by rw [hw2]; exact (heap_alloc_old _ _ (by simp)).trans (row_alloc w _ _)
  have rq : w2.heap[w.heap.size + 1]? = some (.cells #[.int .i64 rev] 3 (0, 0)) := by rw [hw2]; have := row_alloc (w.alloc (.cells #[ptr s] 25)) #[.int .i64 rev] 3; simpa using this
  have ca : w2.cell? ⟨w.heap.size, 0, none⟩ = some (ptr s) := cell_of_row _ _ _ _ _ _ ra
  have cq : w2.cell? ⟨w.heap.size + 1, 0, none⟩ = some (.int .i64 rev) := cell_of_row _ _ _ _ _ _ rq
  have fq := frozen_of_row w2 (w.heap.size + 1) 0 _ _ rq
  obtain ⟨c0, c1, -⟩ := (h.below hb2).cells
  have HH := Hid.mk'' h
  have HB2 := Hid.mk'' hb2
  have HRA := Hid.mk'' ra
  have HRQ := Hid.mk'' rq
  clear h hb2 ra rq
  generalize hrv : rangeV S lo hi rev = rv
  have HRV := Hid.mk'' hrv
  clear hrv
  go_enter Tryz.func47, Tryz.ntmps47
  go_upto_region 1 with fail
  rw [← hw2]
  clear hw2
  go_upto_region 3 with fail
  go_quiet (fail)
  obtain ⟨N, hN⟩ : ∃ N, N = nq := ⟨_, rfl⟩
  rw [← hN]
  clear hN
  by_cases hz : rev = 0
  · subst hz
    have hrv2 : (rangeK S lo hi).filterMap (fun k => atH (S.kh k) (S.rev : Int)) = rv := by rw [← HRV.out]; unfold rangeV; rw [show revOf S 0 = S.rev from if_pos rfl]
    have HRV2 := Hid.mk'' hrv2
    clear hrv2
    go_upto_region 5 with fail
    go_quiet (fail)
    go_upto_region 9 with fail
    obtain ⟨w5, hw5⟩ : ∃ w5, w5 = (w2.drewN (N + nq)).setCell ⟨w.heap.size + 1, 0, none⟩ (.int .i64 S.rev) := ⟨_, rfl⟩
    rw [← hw5]
    have hb5 : Below w.heap.size w w5 := by rw [hw5]; exact (below_drewQ HB2.out _).setCell (by show w.heap.size ≤ w.heap.size + 1; omega) _
    have ca5 : w5.cell? ⟨w.heap.size, 0, none⟩ = some (ptr s) := by rw [hw5]; exact cell_of_row _ _ _ _ _ _ (((Upd.refl (w2.drewN (N + nq)) (fun k => k = w.heap.size + 1)).setCell (p := ⟨w.heap.size + 1, 0, none⟩) (.inr rfl) (.int .i64 S.rev)).block w.heap.size (by have := (below_drewQ (Below.refl w2.heap.size w2) (N + nq)).size; have := (Array.getElem?_eq_some_iff.1 HRA.out).1; omega) (by omega) |>.trans (((below_drewQ (Below.refl w2.heap.size w2) (N + nq)).block w.heap.size (Array.getElem?_eq_some_iff.1 HRA.out).1).trans HRA.out))
    have cq5 : w5.cell? ⟨w.heap.size + 1, 0, none⟩ = some (.int .i64 (S.rev : Int)) := by rw [hw5]; exact cell_of_row _ _ _ _ _ _ (heap_setCell_row (((below_drewQ (Below.refl w2.heap.size w2) (N + nq)).block (w.heap.size + 1) (Array.getElem?_eq_some_iff.1 HRQ.out).1).trans HRQ.out) _)
    have hlt5 : w.heap.size + 1 < w5.heap.size := World.block_lt_of_cell? _ _ cq5
    obtain ⟨a, ha⟩ : ∃ a, a = w.heap.size := ⟨_, rfl⟩
    obtain ⟨q, hq⟩ : ∃ q, q = w.heap.size + 1 := ⟨_, rfl⟩
    rw [← hq, ← ha]
    rw [← hq] at cq5
    rw [← ha] at ca5
    have hS5 := HH.out.below hb5
    have hks := keys_st hS5 hn lo hi hl hh
    have hlen : (rangeK S lo hi).length ≤ 1000000 := by
      have h2 : (datS S).length = S.ks.length := by unfold datS; simp
      have h3 : (rangeK S lo hi).length ≤ S.ks.length := List.length_filter_le _ _
      have := HH.out.bd.len
      omega
    have HTELL : Hid (∀ w6 p c, KeysPost w5 w6 (.slice p (rangeK S lo hi).length c) (rangeK S lo hi) → Calls Tryz.prog 71 #[.slice p (rangeK S lo hi).length c, .int .i64 limit, .func (.func 73) #[] #[ptr a, ptr q]] w6 fun e w' => ∃ p c, e = .returned (.tuple #[.slice p (toldL limit rv).length c, .int .i64 rv.length]) ∧ Hid (KR w w' (.slice p (toldL limit rv).length c) (toldL limit rv))) := fun w6 p c hP => by
      refine (tell_any p c (rangeK S lo hi) limit (ptr a) (ptr q) (fun k => atH (S.kh k) (S.rev : Int)) w6 hP.row hlen (fun W k _ hb => ?_)).mono ?_
      · have hb6 : Below w5.heap.size w5 W := hP.2.trans (hb.mono hP.2.size)
        have hbw : Below w.heap.size w W := hb5.trans (hb6.mono hb5.size)
        exact rlook_st (HH.out.below hbw) hn k (S.rev : Int) a q ((hb6.cell (p := ⟨a, 0, none⟩) (World.block_lt_of_cell? _ _ ca5)).trans ca5) ((hb6.cell (p := ⟨q, 0, none⟩) (World.block_lt_of_cell? _ _ cq5)).trans cq5)
      · rintro e w' ⟨p', c', rfl, hK⟩
        rw [HRV2.out] at hK ⊢
        refine ⟨p', c', rfl, ?_⟩
        have hb56 : Below w.heap.size w w6 := hb5.trans (hP.2.mono hb5.size)
        exact ⟨hK.1.mono hb56.size, hb56.trans (hK.2.mono hb56.size)⟩
    clear HRV HRV2
    generalize rangeK S lo hi = ks at *
    clear hw5 hS5 hb5 hlt5 ca cq fq c0 c1 HRA HRQ ha hq hlen
    go_wp2_with (first | (go_at_call 72; refine hks.mono ?_; rintro e w6 ⟨p, c, rfl, hP⟩; have htl := HTELL.out _ _ _ hP) | (go_at_call 71; refine htl.mono ?_; rintro e w7 ⟨p', c', rfl, HK7⟩))
    refine bodyPost_ret (results_tmp3 rfl _ _ _) rfl ?_
    exact ⟨p', c', rfl, HK7⟩
  · have hrv2 : (rangeK S lo hi).filterMap (fun k => atH (S.kh k) rev) = rv := by rw [← HRV.out]; unfold rangeV; rw [show revOf S rev = rev from if_neg hz]
    have HRV2 := Hid.mk'' hrv2
    clear hrv2
    have h2' : (S.past : Int) ≤ rev := h2.resolve_left hz
    have hpos : 0 < rev := by omega
    clear h2 hz
    go_upto_region 5 with fail
    go_quiet (fail)
    go_upto_region 9 with fail
    obtain ⟨w5, hw5⟩ : ∃ w5, w5 = w2.drewN (N + nq) := ⟨_, rfl⟩
    rw [← hw5]
    have hb5 : Below w.heap.size w w5 := by rw [hw5]; exact below_drewQ HB2.out _
    have ca5 : w5.cell? ⟨w.heap.size, 0, none⟩ = some (ptr s) := by rw [hw5]; exact cell_of_row _ _ _ _ _ _ (((below_drewQ (Below.refl w2.heap.size w2) (N + nq)).block w.heap.size (Array.getElem?_eq_some_iff.1 HRA.out).1).trans HRA.out)
    have cq5 : w5.cell? ⟨w.heap.size + 1, 0, none⟩ = some (.int .i64 (rev)) := by rw [hw5]; exact cell_of_row _ _ _ _ _ _ (((below_drewQ (Below.refl w2.heap.size w2) (N + nq)).block (w.heap.size + 1) (Array.getElem?_eq_some_iff.1 HRQ.out).1).trans HRQ.out)
    have hlt5 : w.heap.size + 1 < w5.heap.size := World.block_lt_of_cell? _ _ cq5
    obtain ⟨a, ha⟩ : ∃ a, a = w.heap.size := ⟨_, rfl⟩
    obtain ⟨q, hq⟩ : ∃ q, q = w.heap.size + 1 := ⟨_, rfl⟩
    rw [← hq, ← ha]
    rw [← hq] at cq5
    rw [← ha] at ca5
    have hS5 := HH.out.below hb5
    have hks := keys_st hS5 hn lo hi hl hh
    have hlen : (rangeK S lo hi).length ≤ 1000000 := by
      have h2 : (datS S).length = S.ks.length := by unfold datS; simp
      have h3 : (rangeK S lo hi).length ≤ S.ks.length := List.length_filter_le _ _
      have := HH.out.bd.len
      omega
    have HTELL : Hid (∀ w6 p c, KeysPost w5 w6 (.slice p (rangeK S lo hi).length c) (rangeK S lo hi) → Calls Tryz.prog 71 #[.slice p (rangeK S lo hi).length c, .int .i64 limit, .func (.func 73) #[] #[ptr a, ptr q]] w6 fun e w' => ∃ p c, e = .returned (.tuple #[.slice p (toldL limit rv).length c, .int .i64 rv.length]) ∧ Hid (KR w w' (.slice p (toldL limit rv).length c) (toldL limit rv))) := fun w6 p c hP => by
      refine (tell_any p c (rangeK S lo hi) limit (ptr a) (ptr q) (fun k => atH (S.kh k) (rev)) w6 hP.row hlen (fun W k _ hb => ?_)).mono ?_
      · have hb6 : Below w5.heap.size w5 W := hP.2.trans (hb.mono hP.2.size)
        have hbw : Below w.heap.size w W := hb5.trans (hb6.mono hb5.size)
        exact rlook_st (HH.out.below hbw) hn k (rev) a q ((hb6.cell (p := ⟨a, 0, none⟩) (World.block_lt_of_cell? _ _ ca5)).trans ca5) ((hb6.cell (p := ⟨q, 0, none⟩) (World.block_lt_of_cell? _ _ cq5)).trans cq5)
      · rintro e w' ⟨p', c', rfl, hK⟩
        rw [HRV2.out] at hK ⊢
        refine ⟨p', c', rfl, ?_⟩
        have hb56 : Below w.heap.size w w6 := hb5.trans (hP.2.mono hb5.size)
        exact ⟨hK.1.mono hb56.size, hb56.trans (hK.2.mono hb56.size)⟩
    clear HRV HRV2
    generalize rangeK S lo hi = ks at *
    clear hw5 hS5 hb5 hlt5 ca cq fq c0 c1 HRA HRQ ha hq hlen
    go_wp2_with (first | (go_at_call 72; refine hks.mono ?_; rintro e w6 ⟨p, c, rfl, hP⟩; have htl := HTELL.out _ _ _ hP) | (go_at_call 71; refine htl.mono ?_; rintro e w7 ⟨p', c', rfl, HK7⟩))
    refine bodyPost_ret (results_tmp3 rfl _ _ _) rfl ?_
    exact ⟨p', c', rfl, HK7⟩
end Go.Proofs.YtgbobegoknmiaaaGreat
/- A change as Since tells it. -/
namespace Go.Proofs.YtgbobegoknmiaaaGreat
open Go Go.RowKit

/-- What was done to a key at a revision, as it is told. -/
def evKV (rev : Int) (key : ByteArray) : Option KVd → KVd
  | some kv => kv
  | none => ⟨key, ByteArray.empty, 0, rev, 0, 0⟩
def evC (rev : Int) (del : Bool) (k : KVd) : Array Value := #[.int .i64 rev, .bool del, .string k.key, .string k.value, .int .i64 k.create, .int .i64 k.mod, .int .i64 k.version, .int .i64 k.lease]
def encEv (rev : Int) (key : ByteArray) (c : Option KVd) : Value := .agg (evC rev c.isNone (evKV rev key c))
theorem chF_mem {n : Nat} {w : World} {s : Nat} {S : Sto} {g : Sg} {o : Value} (h : St n w s S g o) {key : ByteArray} {rev : Int} {c : Option KVd} (hc : (rev, c) ∈ S.kh key) : chF S (rev, key) = some (encC key c) := by
  unfold chF
  rw [find_mem (h.hok key).asc hc]
  rfl
theorem results_c1 {P : Program} {fn : Func} {u : Tmp} {ty : TypeId} (h : fn.results = #[.cell u ty]) (tmps : Array Value) (w : World) (g : Nat) (t : TypeId) (cs : Array Value) (fr : Nat × Nat) (d : TypeDesc)
    (hp : tmps.getD u undef = .pointer (some ⟨g, 0, none⟩)) (hg : w.heap[g]? = some (.cells cs t fr))
    (hu : P.underlying ty = some d) (hd : (match d with | .struct _ | .array _ _ => true | _ => false) = true) (hi : (P.info? ty).map (·.size) = some cs.size) :
    (results fn tmps).run P w = .ok (.agg cs) w := by
  have hp' : tmps[u]?.getD undef = .pointer (some ⟨g, 0, none⟩) := by simpa using hp
  simp [results, h, hp', asAddr, run_loadVar_row w g t ty cs fr d hg hu hd hi]
theorem size85 : (Tryz.prog.info? 141).map (·.size) = some 8 := by kernel_rfl
section
variable {W : World} {gb t : Nat} {a0 a1 a2 a3 a4 a5 a6 a7 : Value} (h : W.heap[gb]? = some (.cells #[a0, a1, a2, a3, a4, a5, a6, a7] t (0, 0)))
include h
theorem box8 : (W.cell? ⟨gb, 0, none⟩ = some a0 ∧ W.cell? ⟨gb, 1, none⟩ = some a1 ∧ W.cell? ⟨gb, 2, none⟩ = some a2 ∧ W.cell? ⟨gb, 3, none⟩ = some a3 ∧ W.cell? ⟨gb, 4, none⟩ = some a4 ∧ W.cell? ⟨gb, 5, none⟩ = some a5 ∧ W.cell? ⟨gb, 6, none⟩ = some a6 ∧ W.cell? ⟨gb, 7, none⟩ = some a7) ∧
    W.frozen? ⟨gb, 0, none⟩ = false ∧ W.frozen? ⟨gb, 1, none⟩ = false ∧ W.frozen? ⟨gb, 2, none⟩ = false ∧ W.frozen? ⟨gb, 3, none⟩ = false ∧ W.frozen? ⟨gb, 4, none⟩ = false ∧ W.frozen? ⟨gb, 5, none⟩ = false ∧ W.frozen? ⟨gb, 6, none⟩ = false ∧ W.frozen? ⟨gb, 7, none⟩ = false :=
  ⟨⟨cell_of_row _ _ _ _ _ _ h, cell_of_row _ _ _ _ _ _ h, cell_of_row _ _ _ _ _ _ h, cell_of_row _ _ _ _ _ _ h, cell_of_row _ _ _ _ _ _ h, cell_of_row _ _ _ _ _ _ h, cell_of_row _ _ _ _ _ _ h, cell_of_row _ _ _ _ _ _ h⟩, frozen_of_row _ _ _ _ _ h, frozen_of_row _ _ _ _ _ h, frozen_of_row _ _ _ _ _ h, frozen_of_row _ _ _ _ _ h, frozen_of_row _ _ _ _ _ h, frozen_of_row _ _ _ _ _ h, frozen_of_row _ _ _ _ _ h, frozen_of_row _ _ _ _ _ h⟩
theorem set8 (v0 v1 v2 v3 v4 v5 v6 v7 : Value) : ((((((((W.setCell ⟨gb, 0, none⟩ v0).setCell ⟨gb, 1, none⟩ v1).setCell ⟨gb, 2, none⟩ v2).setCell ⟨gb, 3, none⟩ v3).setCell ⟨gb, 4, none⟩ v4).setCell ⟨gb, 5, none⟩ v5).setCell ⟨gb, 6, none⟩ v6).setCell ⟨gb, 7, none⟩ v7).heap[gb]? = some (.cells #[v0, v1, v2, v3, v4, v5, v6, v7] t (0, 0)) := by
  have e0 : (W.setCell ⟨gb, 0, none⟩ v0).heap[gb]? = some (.cells #[v0, a1, a2, a3, a4, a5, a6, a7] t (0, 0)) := heap_setCell_row h v0
  have e1 : ((W.setCell ⟨gb, 0, none⟩ v0).setCell ⟨gb, 1, none⟩ v1).heap[gb]? = some (.cells #[v0, v1, a2, a3, a4, a5, a6, a7] t (0, 0)) := heap_setCell_row e0 v1
  have e2 : (((W.setCell ⟨gb, 0, none⟩ v0).setCell ⟨gb, 1, none⟩ v1).setCell ⟨gb, 2, none⟩ v2).heap[gb]? = some (.cells #[v0, v1, v2, a3, a4, a5, a6, a7] t (0, 0)) := heap_setCell_row e1 v2
  have e3 : ((((W.setCell ⟨gb, 0, none⟩ v0).setCell ⟨gb, 1, none⟩ v1).setCell ⟨gb, 2, none⟩ v2).setCell ⟨gb, 3, none⟩ v3).heap[gb]? = some (.cells #[v0, v1, v2, v3, a4, a5, a6, a7] t (0, 0)) := heap_setCell_row e2 v3
  have e4 : (((((W.setCell ⟨gb, 0, none⟩ v0).setCell ⟨gb, 1, none⟩ v1).setCell ⟨gb, 2, none⟩ v2).setCell ⟨gb, 3, none⟩ v3).setCell ⟨gb, 4, none⟩ v4).heap[gb]? = some (.cells #[v0, v1, v2, v3, v4, a5, a6, a7] t (0, 0)) := heap_setCell_row e3 v4
  have e5 : ((((((W.setCell ⟨gb, 0, none⟩ v0).setCell ⟨gb, 1, none⟩ v1).setCell ⟨gb, 2, none⟩ v2).setCell ⟨gb, 3, none⟩ v3).setCell ⟨gb, 4, none⟩ v4).setCell ⟨gb, 5, none⟩ v5).heap[gb]? = some (.cells #[v0, v1, v2, v3, v4, v5, a6, a7] t (0, 0)) := heap_setCell_row e4 v5
  have e6 : (((((((W.setCell ⟨gb, 0, none⟩ v0).setCell ⟨gb, 1, none⟩ v1).setCell ⟨gb, 2, none⟩ v2).setCell ⟨gb, 3, none⟩ v3).setCell ⟨gb, 4, none⟩ v4).setCell ⟨gb, 5, none⟩ v5).setCell ⟨gb, 6, none⟩ v6).heap[gb]? = some (.cells #[v0, v1, v2, v3, v4, v5, v6, a7] t (0, 0)) := heap_setCell_row e5 v6
  have e7 : ((((((((W.setCell ⟨gb, 0, none⟩ v0).setCell ⟨gb, 1, none⟩ v1).setCell ⟨gb, 2, none⟩ v2).setCell ⟨gb, 3, none⟩ v3).setCell ⟨gb, 4, none⟩ v4).setCell ⟨gb, 5, none⟩ v5).setCell ⟨gb, 6, none⟩ v6).setCell ⟨gb, 7, none⟩ v7).heap[gb]? = some (.cells #[v0, v1, v2, v3, v4, v5, v6, v7] t (0, 0)) := heap_setCell_row e6 v7
  exact e7
end
theorem below8 {B : Nat} {w W : World} (h : Below B w W) {gb : Nat} (hg : B ≤ gb) (v0 v1 v2 v3 v4 v5 v6 v7 : Value) : Below B w ((((((((W.setCell ⟨gb, 0, none⟩ v0).setCell ⟨gb, 1, none⟩ v1).setCell ⟨gb, 2, none⟩ v2).setCell ⟨gb, 3, none⟩ v3).setCell ⟨gb, 4, none⟩ v4).setCell ⟨gb, 5, none⟩ v5).setCell ⟨gb, 6, none⟩ v6).setCell ⟨gb, 7, none⟩ v7) :=
  (((((((h.setCell hg _).setCell hg _).setCell hg _).setCell hg _).setCell hg _).setCell hg _).setCell hg _).setCell hg _
set_option maxRecDepth 100000 in
set_option maxHeartbeats 400000 in
theorem event_any {n : Nat} {w : World} {s : Nat} {S : Sto} {g : Sg} {o : Value} (h : St n w s S g o) (key : ByteArray) (rev : Int) (c : Option KVd) (hc : (rev, c) ∈ S.kh key) :
    Calls Tryz.prog 75 #[ptr s, .agg #[.int .i64 rev, .string key]] w fun e w' => e = .returned (encEv rev key c) ∧ Below w.heap.size w w' := by
  obtain ⟨V0, hV0⟩ : ∃ V0, V0 = w.alloc (.cells #[.int .i64 rev, .string key] 148) := ⟨_, rfl⟩
  obtain ⟨V, hV⟩ : ∃ V, V = V0.alloc (.cells #[.int .i64 0, .bool false, .string ⟨#[]⟩, .string ⟨#[]⟩, .int .i64 0, .int .i64 0, .int .i64 0, .int .i64 0] 141) := ⟨_, rfl⟩
  have hb0 : Below w.heap.size w V0 := by rw [hV0]; exact (Below.refl _ w).alloc (Nat.le_refl _) _
  have hs0 : V0.heap.size = w.heap.size + 1 := by rw [hV0]; simp
  have hb1 : Below w.heap.size w V := by rw [hV]; exact hb0.alloc (by omega) _
  have hs1 : V.heap.size = w.heap.size + 2 := by rw [hV]; simp [hs0]
  have r0 : V.heap[w.heap.size]? = some (.cells #[.int .i64 rev, .string key] 148 (0, 0)) := by
    rw [hV]; refine (heap_alloc_old V0 _ (by omega)).trans ?_; rw [hV0]; exact row_alloc w _ _
  have r1 : V.heap[w.heap.size + 1]? = some (.cells #[.int .i64 0, .bool false, .string ⟨#[]⟩, .string ⟨#[]⟩, .int .i64 0, .int .i64 0, .int .i64 0, .int .i64 0] 141 (0, 0)) := by
    rw [hV, ← hs0]; exact row_alloc V0 _ _
  have hsl : s < w.heap.size := (Array.getElem?_eq_some_iff.1 h.blk).1
  have HL : Hid (∀ W, Below w.heap.size w W → (Instr.lookup 75 (.map (some g.bc)) (.agg #[.int .i64 rev, .string key]) false).run Tryz.prog W = .ok (encC key c) W ∧ W.cell? ⟨s, 3, none⟩ = some (.map (some g.bc))) := fun W hb => by
    have := (h.below hb).ch.look law60 Tryz.underlying75 (zero71 _) (rev, key) false
    rw [chF_mem h hc] at this
    exact ⟨this, (h.below hb).cells.2.2.2.1⟩
  obtain ⟨ti, xi, kv, hni, hkt, hta⟩ : ∃ ti xi kv, encC key c = .iface ti xi ∧ Hid (c.getD noKV = kv) ∧ ∀ W, (Instr.typeAssert (.iface ti xi) 120 124 true).run Tryz.prog W = .ok (.tuple #[encKV kv, .bool c.isSome]) W := by
    cases c with
    | none => exact ⟨158, _, noKV, rfl, rfl, fun W => ta_no _ W⟩
    | some kv => exact ⟨124, _, kv, rfl, rfl, fun W => ta_yes _ W⟩
  rw [hni] at HL
  obtain ⟨kk, kvv, kcr, kmo, kve, kle⟩ := kv
  dsimp only [encKV] at hta
  have hbd : Below w.heap.size w V.drew := hb1.drew
  obtain ⟨l1, c1⟩ := HL.out _ hbd
  have hbe : Below w.heap.size w (V.alloc (.cells #[.string ⟨#[]⟩, .string ⟨#[]⟩, .int .i64 0, .int .i64 0, .int .i64 0, .int .i64 0] 124)).drew := (hb1.alloc (show w.heap.size ≤ V.heap.size by omega) _).drew
  obtain ⟨l2, c2⟩ := HL.out _ hbe
  have a0 : V.drew.cell? ⟨w.heap.size, 0, none⟩ = some (.int .i64 rev) := cell_of_row _ _ _ _ _ _ r0
  have a1 : V.drew.cell? ⟨w.heap.size, 1, none⟩ = some (.string key) := cell_of_row _ _ _ _ _ _ r0
  have r2 := (heap_alloc_old V (.cells #[.string ⟨#[]⟩, .string ⟨#[]⟩, .int .i64 0, .int .i64 0, .int .i64 0, .int .i64 0] 124) (show w.heap.size < V.heap.size by omega)).trans r0
  have b0 : (V.alloc (.cells #[.string ⟨#[]⟩, .string ⟨#[]⟩, .int .i64 0, .int .i64 0, .int .i64 0, .int .i64 0] 124)).drew.cell? ⟨w.heap.size, 0, none⟩ = some (.int .i64 rev) := cell_of_row _ _ _ _ _ _ r2
  have b1 : (V.alloc (.cells #[.string ⟨#[]⟩, .string ⟨#[]⟩, .int .i64 0, .int .i64 0, .int .i64 0, .int .i64 0] 124)).drew.cell? ⟨w.heap.size, 1, none⟩ = some (.string key) := cell_of_row _ _ _ _ _ _ r2
  have HR0 := Hid.mk'' r0
  have HR1 := Hid.mk'' r1
  have HB1 := Hid.mk'' hb1
  clear h hc hb0 HL hni r0 r1 r2 hb1 hbd hbe
  go_enter Tryz.func75, Tryz.ntmps75
  go_upto_region 1 with fail
  rw [← hV0, ← hV]
  clear hV0 hV hs0
  go_region
  all_goals
    obtain ⟨w2, hw2⟩ : ∃ w2, w2 = (V.alloc (.cells #[.string kk, .string kvv, .int .i64 kcr, .int .i64 kmo, .int .i64 kve, .int .i64 kle] 124)).drew := ⟨_, rfl⟩
    rw [← hw2]
    have q0 : w2.heap[w.heap.size]? = some (.cells #[.int .i64 rev, .string key] 148 (0, 0)) := by rw [hw2]; exact (heap_alloc_old V _ (by omega)).trans HR0.out
    have q1 : w2.heap[w.heap.size + 1]? = some (.cells #[.int .i64 0, .bool false, .string ⟨#[]⟩, .string ⟨#[]⟩, .int .i64 0, .int .i64 0, .int .i64 0, .int .i64 0] 141 (0, 0)) := by rw [hw2]; exact (heap_alloc_old V _ (by omega)).trans HR1.out
    have q2 : w2.heap[w.heap.size + 2]? = some (.cells #[.string kk, .string kvv, .int .i64 kcr, .int .i64 kmo, .int .i64 kve, .int .i64 kle] 124 (0, 0)) := by rw [hw2, ← hs1]; exact row_alloc V _ _
    have HB2 : Hid (Below w.heap.size w w2) := by rw [hw2]; exact (HB1.out.alloc (by omega) _).drew
    have x0 : w2.cell? ⟨w.heap.size, 0, none⟩ = some (.int .i64 rev) := cell_of_row _ _ _ _ _ _ q0
    have x1 : w2.cell? ⟨w.heap.size, 1, none⟩ = some (.string key) := cell_of_row _ _ _ _ _ _ q0
    obtain ⟨⟨k0, k1, k2, k3, k4, k5, k6, k7⟩, f0, f1, f2, f3, f4, f5, f6, f7⟩ := box8 q1
    obtain ⟨⟨y0, y1, y2, y3, y4, y5⟩, -⟩ := box6 q2
    have HQ1 := Hid.mk'' q1
    clear hw2 q0 q1 q2 HR0 HR1 HB1 l1 c1 l2 c2 a0 a1 b0 b1 hta hs1
    cases c with
    | none =>
      simp only [Option.isSome_none]
      go_wp2
      refine bodyPost_ret (results_c1 rfl _ _ (w.heap.size + 1) 141 (evC rev true ⟨key, ByteArray.empty, 0, rev, 0, 0⟩) (0, 0) _ rfl (set8 HQ1.out _ _ _ _ _ _ _ _) Tryz.underlying141 rfl size85) rfl ?_
      exact ⟨rfl, below8 HB2.out (Nat.le_succ _) _ _ _ _ _ _ _ _⟩
    | some kv =>
      simp only [Option.isSome_some]
      go_wp2
      refine bodyPost_ret (results_c1 rfl _ _ (w.heap.size + 1) 141 (evC rev false ⟨kk, kvv, kcr, kmo, kve, kle⟩) (0, 0) _ rfl (set8 HQ1.out _ _ _ _ _ _ _ _) Tryz.underlying141 rfl size85) rfl ?_
      exact ⟨by have e := hkt.out; subst e; rfl, below8 HB2.out (Nat.le_succ _) _ _ _ _ _ _ _ _⟩
end Go.Proofs.YtgbobegoknmiaaaGreat
/- Whether comparisons hold. -/
namespace Go.Proofs.YtgbobegoknmiaaaGreat
open Go Go.RowKit

theorem filter_one : ∀ {l : List ByteArray} {k : ByteArray}, Asc l → k ∈ l → l.filter (inR k ByteArray.empty) = [k]
  | x :: l, k, ha, hk => by
    have hin : ∀ y, inR k ByteArray.empty y = decide (y = k) := fun y => if_pos rfl
    rw [List.filter_cons]
    rcases List.mem_cons.1 hk with rfl | hm
    · rw [hin, decide_eq_true rfl, if_pos rfl]
      congr 1
      rw [List.filter_eq_nil_iff]
      intro y hy
      rw [hin]
      have := klt_ne (ha.1 y hy)
      simp
      exact fun e => this e.symm
    · have hne : ¬ x = k := klt_ne (ha.1 k hm)
      rw [hin, decide_eq_false hne, if_neg (by decide)]
      exact filter_one ha.2 hm
theorem filter_zero {l : List ByteArray} {k : ByteArray} (hk : k ∉ l) : l.filter (inR k ByteArray.empty) = [] := by
  rw [List.filter_eq_nil_iff]
  intro y hy
  have hin : inR k ByteArray.empty y = decide (y = k) := if_pos rfl
  rw [hin]
  simp
  exact fun e => hk (e ▸ hy)
theorem St.asc {n : Nat} {w : World} {s : Nat} {S : Sto} {g : Sg} {o : Value} (h : St n w s S g o) : Asc S.ks := by
  have := h.bd.asc
  rw [datS_keys] at this
  exact this
theorem St.at_now {n : Nat} {w : World} {s : Nat} {S : Sto} {g : Sg} {o : Value} (h : St n w s S g o) (k : ByteArray) : atH (S.kh k) S.rev = thereH (S.kh k) := atH_all (fun p hp => ((h.hok k).pos p hp).2)
theorem rangeV_one {n : Nat} {w : World} {s : Nat} {S : Sto} {g : Sg} {o : Value} (h : St n w s S g o) (k : ByteArray) : rangeV S k ByteArray.empty 0 = (thereH (S.kh k)).toList := by
  have hr : revOf S 0 = S.rev := if_pos rfl
  unfold rangeV rangeK
  rw [hr]
  by_cases hk : k ∈ S.ks
  · rw [filter_one h.asc hk]
    simp only [List.filterMap_cons, List.filterMap_nil, h.at_now k]
    cases thereH (S.kh k) <;> rfl
  · rw [filter_zero hk]
    have : S.kh k = [] := Classical.byContradiction (fun e => hk ((h.mem k).2 e))
    rw [this]
    rfl
theorem told_one {l : List KVd} (h : l.length ≤ 1) : toldL 1 l = l := by
  unfold toldL
  rw [if_neg (by decide)]
  exact List.take_of_length_le h
set_option maxRecDepth 100000 in
set_option maxHeartbeats 1000000 in
theorem now_any {n : Nat} {w : World} {s : Nat} {S : Sto} {g : Sg} {o : Value} (h : St n w s S g o) (hn : n ≤ 1000000) (key : ByteArray) (hk : key.size ≤ 140737488355328) :
    Calls Tryz.prog 64 #[ptr s, .string key] w fun e w' => e = .returned (encKV ((thereH (S.kh key)).getD noKV)) ∧ Below w.heap.size w w' := by
  have hb0 : Below w.heap.size w (w.alloc (.cells #[.string ⟨#[]⟩, .string ⟨#[]⟩, .int .i64 0, .int .i64 0, .int .i64 0, .int .i64 0] 62)) := (Below.refl _ w).alloc (Nat.le_refl _) _
  have r0 := row_alloc w #[.string ⟨#[]⟩, .string ⟨#[]⟩, .int .i64 0, .int .i64 0, .int .i64 0, .int .i64 0] 62
  generalize hV : w.alloc (.cells #[.string ⟨#[]⟩, .string ⟨#[]⟩, .int .i64 0, .int .i64 0, .int .i64 0, .int .i64 0] 62) = V at *
  have hVs : V.heap.size = w.heap.size + 1 := by rw [← hV]; simp
  have hc := range_ok (h.below hb0) hn key ByteArray.empty 0 1 hk (by decide) (by omega) (by omega) (.inl rfl)
  rw [rangeV_one h key] at hc
  obtain ⟨bx, hbx⟩ : ∃ bx, bx = w.heap.size := ⟨_, rfl⟩
  rw [← hbx] at r0
  have HBX := Hid.mk'' hbx
  have HB0 := Hid.mk'' hb0
  have HR0 := Hid.mk'' r0
  have hbl : bx < V.heap.size := by omega
  cases ht : thereH (S.kh key) with
  | none =>
    rw [ht] at hc
    have e0 : toldL 1 ((none : Option KVd).toList) = [] := told_one (by simp)
    rw [e0] at hc
    clear h ht r0 hb0
    go_enter Tryz.func64, Tryz.ntmps64
    go_upto_region 1 with fail
    rw [← hbx]
    clear hV hbx hVs
    go_wp2_with (go_at_call 47; refine hc.mono ?_; rintro e w3 ⟨p, c, rfl, HK⟩
                 have r3 := (HK.out.2.block bx hbl).trans HR0.out
                 obtain ⟨⟨k0, k1, k2, k3, k4, k5⟩, f0, f1, f2, f3, f4, f5⟩ := box6 r3; have HR := Hid.mk'' r3; clear r3)
    refine bodyPost_ret (results_c1 rfl _ _ bx 62 #[.string ⟨#[]⟩, .string ⟨#[]⟩, .int .i64 0, .int .i64 0, .int .i64 0, .int .i64 0] (0, 0) _ rfl (set6 HR.out _ _ _ _ _ _) Tryz.underlying62 rfl size56) rfl ?_
    exact ⟨rfl, below6 (HB0.out.trans (HK.out.2.mono HB0.out.size)) (by rw [HBX.out]; exact Nat.le_refl _) _ _ _ _ _ _⟩
  | some kv =>
    rw [ht] at hc
    have e0 : toldL 1 ((some kv).toList) = [kv] := told_one (by simp)
    rw [e0] at hc
    obtain ⟨kk, kvv, kcr, kmo, kve, kle⟩ := kv
    have HKC : Hid (∀ w3 p c, KR V w3 (.slice p [(⟨kk, kvv, kcr, kmo, kve, kle⟩ : KVd)].length c) [⟨kk, kvv, kcr, kmo, kve, kle⟩] → ∃ gg, p = some ⟨gg, 0, none⟩ ∧ (w3.cell? ⟨gg, 0, none⟩ = some (.string kk) ∧ w3.cell? ⟨gg, 1, none⟩ = some (.string kvv) ∧ w3.cell? ⟨gg, 2, none⟩ = some (.int .i64 kcr) ∧ w3.cell? ⟨gg, 3, none⟩ = some (.int .i64 kmo) ∧ w3.cell? ⟨gg, 4, none⟩ = some (.int .i64 kve) ∧ w3.cell? ⟨gg, 5, none⟩ = some (.int .i64 kle)) ∧ V.heap.size ≤ gg) := fun w3 p c hK => by
      rcases hK.1.2 with ⟨e1, e2⟩ | ⟨gg, cap, cur, e, hbase, hb, h1, h2, h3, h4⟩
      · simp at e2
      · cases e
        have hcl := fun j u hj => hK.1.cells (g := gg) rfl j u hj
        refine ⟨gg, rfl, ?_, hbase⟩
        have q : ∀ j u, (kvsC [(⟨kk, kvv, kcr, kmo, kve, kle⟩ : KVd)])[j]? = some u → w3.cell? ⟨gg, j, none⟩ = some u := fun j u hj => by
          have := hcl j u hj
          simpa only [Addr.add_lit, Nat.zero_add] using this
        exact ⟨q 0 _ rfl, q 1 _ rfl, q 2 _ rfl, q 3 _ rfl, q 4 _ rfl, q 5 _ rfl⟩
    clear h ht r0 hb0
    go_enter Tryz.func64, Tryz.ntmps64
    go_upto_region 1 with fail
    rw [← hbx]
    clear hV hbx hVs
    go_wp2_with (go_at_call 47; refine hc.mono ?_; rintro e w3 ⟨p, c, rfl, HK⟩
                 have r3 := (HK.out.2.block bx hbl).trans HR0.out
                 obtain ⟨gg, rfl, ⟨y0, y1, y2, y3, y4, y5⟩, hgg⟩ := HKC.out _ _ _ HK.out
                 have hne : ¬ gg = bx := by omega
                 have hne' : ¬ bx = gg := by omega
                 obtain ⟨⟨k0, k1, k2, k3, k4, k5⟩, f0, f1, f2, f3, f4, f5⟩ := box6 r3; have HR := Hid.mk'' r3; clear r3)
    refine bodyPost_ret (results_c1 rfl _ _ bx 62 #[.string kk, .string kvv, .int .i64 kcr, .int .i64 kmo, .int .i64 kve, .int .i64 kle] (0, 0) _ rfl (set6 HR.out _ _ _ _ _ _) Tryz.underlying62 rfl size56) rfl ?_
    exact ⟨rfl, below6 (HB0.out.trans (HK.out.2.mono HB0.out.size)) (by rw [HBX.out]; exact Nat.le_refl _) _ _ _ _ _ _⟩
/-- How a key lies to what a comparison holds against it. -/
def compE (kv : KVd) (c : Ifd) : Int × Bool :=
  if c.target = 0 then (cmpN kv.version c.n, true) else if c.target = 1 then (cmpN kv.create c.n, true) else if c.target = 2 then (cmpN kv.mod c.n, true) else if c.target = 3 then (cmpN kv.lease c.n, true) else if c.target = 4 then (cmpT kv.value c.text, true) else (0, false)
set_option maxRecDepth 100000 in
set_option maxHeartbeats 1000000 in
theorem compared_any (kv : KVd) (c : Ifd) (w : World) : Calls Tryz.prog 63 #[encKV kv, encIf c] w fun e w' => e = .returned (.tuple #[.int .i64 (compE kv c).1, .bool (compE kv c).2]) ∧ Below w.heap.size w w' := by
  obtain ⟨kk, kvv, kcr, kmo, kve, kle⟩ := kv
  obtain ⟨k, t, s, n, x⟩ := c
  unfold compE encKV encIf
  dsimp only
  have hci := fun a b W => cmp_int a b W
  have hcs := fun a b W => cmp_str a b W
  have hb : Below w.heap.size w ((w.alloc (.cells #[.string kk, .string kvv, .int .i64 kcr, .int .i64 kmo, .int .i64 kve, .int .i64 kle] 62)).alloc (.cells #[.string k, .int .i64 t, .int .i64 s, .int .i64 n, .string x] 55)) := ((Below.refl _ _).alloc (Nat.le_refl _) _).alloc (by simp) _
  have HB := Hid.mk'' hb
  clear hb
  by_cases h0 : t = 0
  · subst h0
    rw [if_pos rfl]
    go_enter Tryz.func63, Tryz.ntmps63
    go_wp2_with (first | (go_at_call 79; refine (hci _ _ _).mono ?_; rintro e w1 ⟨rfl, rfl⟩))
    refine bodyPost_ret (results_tmp2 rfl _ _ _) rfl ?_
    exact ⟨rfl, HB.out⟩
  rw [if_neg h0]
  by_cases h1 : t = 1
  · subst h1
    rw [if_pos rfl]
    go_enter Tryz.func63, Tryz.ntmps63
    go_wp2_with (first | (go_at_call 79; refine (hci _ _ _).mono ?_; rintro e w1 ⟨rfl, rfl⟩))
    refine bodyPost_ret (results_tmp2 rfl _ _ _) rfl ?_
    exact ⟨rfl, HB.out⟩
  rw [if_neg h1]
  by_cases h2 : t = 2
  · subst h2
    rw [if_pos rfl]
    go_enter Tryz.func63, Tryz.ntmps63
    go_wp2_with (first | (go_at_call 79; refine (hci _ _ _).mono ?_; rintro e w1 ⟨rfl, rfl⟩))
    refine bodyPost_ret (results_tmp2 rfl _ _ _) rfl ?_
    exact ⟨rfl, HB.out⟩
  rw [if_neg h2]
  by_cases h3 : t = 3
  · subst h3
    rw [if_pos rfl]
    go_enter Tryz.func63, Tryz.ntmps63
    go_wp2_with (first | (go_at_call 79; refine (hci _ _ _).mono ?_; rintro e w1 ⟨rfl, rfl⟩))
    refine bodyPost_ret (results_tmp2 rfl _ _ _) rfl ?_
    exact ⟨rfl, HB.out⟩
  rw [if_neg h3]
  by_cases h4 : t = 4
  · subst h4
    rw [if_pos rfl]
    go_enter Tryz.func63, Tryz.ntmps63
    go_wp2_with (first | (go_at_call 78; refine (hcs _ _ _).mono ?_; rintro e w1 ⟨rfl, rfl⟩))
    refine bodyPost_ret (results_tmp2 rfl _ _ _) rfl ?_
    exact ⟨rfl, HB.out⟩
  rw [if_neg h4]
  go_enter Tryz.func63, Tryz.ntmps63
  go_wp2_with fail
  refine bodyPost_ret (results_tmp2 rfl _ _ _) rfl ?_
  exact ⟨rfl, HB.out⟩
/-- A comparison holds. -/
def holdsC (S : Sto) (c : Ifd) : Bool :=
  let r := compE ((thereH (S.kh c.key)).getD noKV) c
  if r.2 = false then false else if c.sign = 0 then decide (r.1 = 0) else if c.sign = 1 then !decide (r.1 = 0) else if c.sign = 2 then decide (r.1 < 0) else if c.sign = 3 then decide (0 < r.1) else false
theorem eq_dec (a : Int) : (a == 0) = decide (a = 0) := by by_cases h : a = 0 <;> simp [h]
set_option maxRecDepth 100000 in
set_option maxHeartbeats 2000000 in
theorem holds_any {n : Nat} {w : World} {s : Nat} {S : Sto} {g : Sg} {o : Value} (h : St n w s S g o) (hn : n ≤ 1000000) (c : Ifd) (hk : c.key.size ≤ 140737488355328) :
    Calls Tryz.prog 35 #[ptr s, encIf c] w fun e w' => e = .returned (.bool (holdsC S c)) ∧ Below w.heap.size w w' := by
  unfold holdsC
  obtain ⟨kv, hkv⟩ : ∃ kv, kv = (thereH (S.kh c.key)).getD noKV := ⟨_, rfl⟩
  rw [← hkv]
  have hcm := fun W => compared_any kv c W
  generalize hr : compE kv c = r at *
  obtain ⟨r1, r2⟩ := r
  obtain ⟨k, t, sg, m, x⟩ := c
  have hno : ∀ W, Below w.heap.size w W → Calls Tryz.prog 64 #[ptr s, .string k] W fun e w' => e = .returned (encKV kv) ∧ Below W.heap.size W w' := fun W hb => by
    have := now_any (h.below hb) hn k hk
    rw [← hkv] at this
    exact this
  clear hr hkv h
  unfold encKV at hcm hno
  unfold encIf at hcm ⊢
  dsimp only at hcm hk ⊢
  obtain ⟨w1, hw1⟩ : ∃ w1, w1 = w.alloc (.cells #[.string k, .int .i64 t, .int .i64 sg, .int .i64 m, .string x] 55) := ⟨_, rfl⟩
  have hb1 : Below w.heap.size w w1 := by rw [hw1]; exact (Below.refl _ _).alloc (Nat.le_refl _) _
  have hs1 : w.heap.size < w1.heap.size := by rw [hw1]; simp
  have r1' : w1.heap[w.heap.size]? = some (.cells #[.string k, .int .i64 t, .int .i64 sg, .int .i64 m, .string x] 55 (0, 0)) := by rw [hw1]; exact heap_alloc_new w _
  have HB1 := Hid.mk'' hb1
  obtain ⟨bx, hbx⟩ : ∃ bx, bx = w.heap.size := ⟨_, rfl⟩
  rw [← hbx] at hs1 r1'
  have HK : Hid (∀ W W', (W.cell? ⟨bx, 0, none⟩ = some (.string k) ∧ W.cell? ⟨bx, 1, none⟩ = some (.int .i64 t) ∧ W.cell? ⟨bx, 2, none⟩ = some (.int .i64 sg) ∧ W.cell? ⟨bx, 3, none⟩ = some (.int .i64 m) ∧ W.cell? ⟨bx, 4, none⟩ = some (.string x) ∧ Hid (Below w1.heap.size w1 W)) → Below W.heap.size W W' → (W'.cell? ⟨bx, 0, none⟩ = some (.string k) ∧ W'.cell? ⟨bx, 1, none⟩ = some (.int .i64 t) ∧ W'.cell? ⟨bx, 2, none⟩ = some (.int .i64 sg) ∧ W'.cell? ⟨bx, 3, none⟩ = some (.int .i64 m) ∧ W'.cell? ⟨bx, 4, none⟩ = some (.string x) ∧ Hid (Below w1.heap.size w1 W'))) := fun W W' h hb => by
    obtain ⟨a, b, c, d, e, f⟩ := h
    have hl : bx < W.heap.size := Nat.lt_of_lt_of_le hs1 f.out.size
    exact ⟨(hb.cell (p := ⟨bx, 0, none⟩) hl).trans a, (hb.cell (p := ⟨bx, 1, none⟩) hl).trans b, (hb.cell (p := ⟨bx, 2, none⟩) hl).trans c, (hb.cell (p := ⟨bx, 3, none⟩) hl).trans d, (hb.cell (p := ⟨bx, 4, none⟩) hl).trans e, f.out.trans (hb.mono f.out.size)⟩
  have k1 : ∀ W, (W.cell? ⟨bx, 0, none⟩ = some (.string k) ∧ W.cell? ⟨bx, 1, none⟩ = some (.int .i64 t) ∧ W.cell? ⟨bx, 2, none⟩ = some (.int .i64 sg) ∧ W.cell? ⟨bx, 3, none⟩ = some (.int .i64 m) ∧ W.cell? ⟨bx, 4, none⟩ = some (.string x) ∧ Hid (Below w1.heap.size w1 W)) → Calls Tryz.prog 64 #[ptr s, .string k] W fun e W' => e = .returned (.agg #[.string kv.key, .string kv.value, .int .i64 kv.create, .int .i64 kv.mod, .int .i64 kv.version, .int .i64 kv.lease]) ∧ (W'.cell? ⟨bx, 0, none⟩ = some (.string k) ∧ W'.cell? ⟨bx, 1, none⟩ = some (.int .i64 t) ∧ W'.cell? ⟨bx, 2, none⟩ = some (.int .i64 sg) ∧ W'.cell? ⟨bx, 3, none⟩ = some (.int .i64 m) ∧ W'.cell? ⟨bx, 4, none⟩ = some (.string x) ∧ Hid (Below w1.heap.size w1 W')) := fun W h => (hno W (HB1.out.trans (h.2.2.2.2.2.out.mono HB1.out.size))).mono fun e W' h' => ⟨h'.1, HK.out W W' h h'.2⟩
  have k2 : ∀ W, (W.cell? ⟨bx, 0, none⟩ = some (.string k) ∧ W.cell? ⟨bx, 1, none⟩ = some (.int .i64 t) ∧ W.cell? ⟨bx, 2, none⟩ = some (.int .i64 sg) ∧ W.cell? ⟨bx, 3, none⟩ = some (.int .i64 m) ∧ W.cell? ⟨bx, 4, none⟩ = some (.string x) ∧ Hid (Below w1.heap.size w1 W)) → Calls Tryz.prog 63 #[.agg #[.string kv.key, .string kv.value, .int .i64 kv.create, .int .i64 kv.mod, .int .i64 kv.version, .int .i64 kv.lease], .agg #[.string k, .int .i64 t, .int .i64 sg, .int .i64 m, .string x]] W fun e W' => e = .returned (.tuple #[.int .i64 r1, .bool r2]) ∧ (W'.cell? ⟨bx, 0, none⟩ = some (.string k) ∧ W'.cell? ⟨bx, 1, none⟩ = some (.int .i64 t) ∧ W'.cell? ⟨bx, 2, none⟩ = some (.int .i64 sg) ∧ W'.cell? ⟨bx, 3, none⟩ = some (.int .i64 m) ∧ W'.cell? ⟨bx, 4, none⟩ = some (.string x) ∧ Hid (Below w1.heap.size w1 W')) := fun W h => (hcm W).mono fun e W' h' => ⟨h'.1, HK.out W W' h h'.2⟩
  have hS1 : w1.drew.cell? ⟨bx, 0, none⟩ = some (.string k) ∧ w1.drew.cell? ⟨bx, 1, none⟩ = some (.int .i64 t) ∧ w1.drew.cell? ⟨bx, 2, none⟩ = some (.int .i64 sg) ∧ w1.drew.cell? ⟨bx, 3, none⟩ = some (.int .i64 m) ∧ w1.drew.cell? ⟨bx, 4, none⟩ = some (.string x) ∧ Hid (Below w1.heap.size w1 w1.drew) := ⟨cell_of_row _ _ _ _ _ _ r1', cell_of_row _ _ _ _ _ _ r1', cell_of_row _ _ _ _ _ _ r1', cell_of_row _ _ _ _ _ _ r1', cell_of_row _ _ _ _ _ _ r1', (Below.refl _ _).drew⟩
  have HFIN : Hid (∀ W, Hid (Below w1.heap.size w1 W) → Below w.heap.size w W) := fun W h => HB1.out.trans (h.out.mono HB1.out.size)
  clear HK hb1 hk hn hcm hno
  have hed := eq_dec r1
  go_enter Tryz.func35, Tryz.ntmps35
  go_upto_region 1 with fail
  rw [← hw1, ← hbx]
  clear hw1 hbx r1' HB1
  go_region_held_law (fun W => W.cell? ⟨bx, 0, none⟩ = some (.string k) ∧ W.cell? ⟨bx, 1, none⟩ = some (.int .i64 t) ∧ W.cell? ⟨bx, 2, none⟩ = some (.int .i64 sg) ∧ W.cell? ⟨bx, 3, none⟩ = some (.int .i64 m) ∧ W.cell? ⟨bx, 4, none⟩ = some (.string x) ∧ Hid (Below w1.heap.size w1 W)) (first | with_reducible assumption | (show _ ∧ _; with_reducible assumption)) (first | (go_at_call 64; with_reducible refine (k1 _ (by assumption)).mono ?_; rintro r w8 ⟨rfl, hS8⟩) | (go_at_call 63; with_reducible refine (k2 _ (by assumption)).mono ?_; rintro r w9 ⟨rfl, hS9⟩))
  all_goals
    obtain ⟨y0, y1, y2, y3, y4, HY⟩ := hS9
    clear hS8 hS1 k1 k2 hed
    cases r2 with
    | false =>
      go_wp2_with fail
      go_ret
      exact ⟨rfl, HFIN.out _ HY⟩
    | true =>
      by_cases h0 : sg = 0
      · subst h0
        go_wp2_with fail
        go_ret
        exact ⟨ret_bool (by first | rfl | exact eq_dec _ | (show (!(r1 == 0)) = !decide (r1 = 0); rw [eq_dec]) | simp), HFIN.out _ HY⟩
      by_cases h1 : sg = 1
      · subst h1
        go_wp2_with fail
        go_ret
        exact ⟨ret_bool (by first | rfl | exact eq_dec _ | (show (!(r1 == 0)) = !decide (r1 = 0); rw [eq_dec]) | simp), HFIN.out _ HY⟩
      by_cases h2 : sg = 2
      · subst h2
        go_wp2_with fail
        go_ret
        exact ⟨ret_bool (by first | rfl | exact eq_dec _ | (show (!(r1 == 0)) = !decide (r1 = 0); rw [eq_dec]) | simp), HFIN.out _ HY⟩
      by_cases h3 : sg = 3
      · subst h3
        go_wp2_with fail
        go_ret
        exact ⟨ret_bool (by first | rfl | exact eq_dec _ | (show (!(r1 == 0)) = !decide (r1 = 0); rw [eq_dec]) | simp), HFIN.out _ HY⟩
      go_wp2_with fail
      go_ret
      exact ⟨ret_bool (by simp []), HFIN.out _ HY⟩
theorem all_take {α : Type} {f : α → Bool} {l : List α} {i : Nat} {x : α} (_h : ∀ (j : Nat) (y : α), j < i → l[j]? = some y → f y = true) (hx : l[i]? = some x) (hf : f x = false) : l.all f = false := by
  rw [List.all_eq_false]
  exact ⟨x, List.mem_of_getElem? hx, by rw [hf]; decide⟩
set_option maxRecDepth 100000 in
set_option maxHeartbeats 1000000 in
theorem Holds_any {Z : Nat → Prop} {n : Nat} {w : World} {s : Nat} {S : Sto} {g : Sg} {o : Value} (h : St n w s S g o) (hn : n ≤ 1000000) (l : List Ifd) (v : Value) (hv : IFs Z w v l) (hl : l.length ≤ 1000000) :
    Calls Tryz.prog 14 #[ptr s, v] w fun e w' => e = .returned (.bool (l.all (holdsC S))) ∧ Below w.heap.size w w' := by
  obtain ⟨p, c, rfl, hh⟩ := hv
  have HH := Hid.mk'' hh
  have HS := Hid.mk'' h
  obtain ⟨m, hm⟩ : ∃ m, m = l.length := ⟨_, rfl⟩
  rw [← hm] at hl ⊢
  have HN := Hid.mk'' hm
  clear hh hm h
  go_enter Tryz.func14, Tryz.ntmps14
  go_wp2
  go_loopg [9] (m + 1) (fun kx s9 wr => ∃ i : Nat, s9 = .int .i64 i ∧ kx + i = m + 1 ∧ i ≤ m ∧ Hid (Below w.heap.size w wr ∧ ∀ (j : Nat) (x : Ifd), j < i → l[j]? = some x → holdsC S x = true))
  case atStart => exact ⟨0, rfl, rfl, Nat.zero_le _, Below.refl _ _, fun j x hj => by omega⟩
  case round =>
    obtain ⟨i, rfl, hkx, hi, HM⟩ := hrel
    by_cases hlt : i < m
    · obtain ⟨x, hx⟩ : ∃ x, l[i]? = some x := ⟨_, List.getElem?_eq_getElem (by rw [← HN.out]; exact hlt)⟩
      obtain ⟨gg, oo, rfl, hz, hgl, hk⟩ := HH.out i x hx
      have hk2 := hk.same (w' := wr) (fun j => HM.out.1.cell (p := ⟨gg, j, none⟩) hgl)
      obtain ⟨q0, q1, q2, q3, q4, z0, z1⟩ := hk2
      have hba : ∀ o, Below w.heap.size w (wr.alloc o) := fun o => HM.out.1.alloc HM.out.1.size _
      have hok := fun o => holds_any (HS.out.below (hba o)) hn x z0
      have HX := Hid.mk'' hx
      have HB2 : Hid (∀ o W, Below (wr.alloc o).heap.size (wr.alloc o) W → Below w.heap.size w W) := fun o W hb => (HM.out.1.alloc HM.out.1.size _).trans (hb.mono (by have := HM.out.1.size; simp; omega))
      cases hE : holdsC S x with
      | true =>
        have HE := Hid.mk'' hE
        rw [hE] at hok
        obtain ⟨a, b, cc, d, f⟩ := x
        dsimp only [encIf] at *
        clear hk hx hE hba
        go_wp2_with (go_at_call 35; refine (hok _).mono ?_; rintro e2 w2 ⟨rfl, hb2⟩)
        go_roundg (m - i)
        case measure => omega
        case rel =>
          refine ⟨i + 1, by congr 1, by omega, by omega, HB2.out _ _ hb2, fun j y hj hy => ?_⟩
          rcases Nat.lt_or_ge j i with h | h
          · exact HM.out.2 j y h hy
          · obtain rfl : j = i := by omega
            obtain rfl := Option.some.inj (HX.out.symm.trans hy)
            exact HE.out
      | false =>
        have HE := Hid.mk'' (all_take HM.out.2 hx hE)
        rw [hE] at hok
        obtain ⟨a, b, cc, d, f⟩ := x
        dsimp only [encIf] at *
        clear hk hx hE hba
        go_wp2_with (go_at_call 35; refine (hok _).mono ?_; rintro e2 w2 ⟨rfl, hb2⟩)
        go_ret
        exact ⟨by rw [HE.out]; rfl, HB2.out _ _ hb2⟩
    · obtain rfl : i = m := by omega
      have HE : Hid (l.all (holdsC S) = true) := by
        show l.all (holdsC S) = true
        rw [List.all_eq_true]
        intro x hx
        obtain ⟨j, hj, e⟩ := List.getElem_of_mem hx
        exact HM.out.2 j x (by rw [HN.out]; exact hj) (by rw [List.getElem?_eq_getElem hj, e])
      go_wp2
      go_ret
      exact ⟨by rw [HE.out]; rfl, HM.out.1⟩
end Go.Proofs.YtgbobegoknmiaaaGreat
