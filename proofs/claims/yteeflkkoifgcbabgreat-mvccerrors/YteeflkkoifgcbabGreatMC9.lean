/- Delete of a write. -/
import Derived.Test.YteeflkkoifgcbabGreatMC8
import Derived.BigQuiet
namespace Go.Proofs.YteeflkkoifgcbabGreat
open Go Go.RowKit

def hasK (l : List ByteArray) (k : ByteArray) : Bool := l.any fun x => decide (x = k)
theorem hasK_iff {l : List ByteArray} {k : ByteArray} : hasK l k = true ↔ k ∈ l := by
  unfold hasK
  rw [List.any_eq_true]
  exact ⟨fun ⟨x, h1, h2⟩ => by rw [← of_decide_eq_true h2]; exact h1, fun h => ⟨k, h, decide_eq_true rfl⟩⟩
def Wri.notes (W : Wri) (l : List ByteArray) : Wri := { W with keys := W.keys ++ l, ch := fun k => if hasK l k then some none else W.ch k }
theorem Wri.notes_nil (W : Wri) : W.notes [] = W := by
  unfold Wri.notes
  cases W
  simp [hasK]
theorem Wri.notes_snoc (W : Wri) (l : List ByteArray) (k : ByteArray) : W.notes (l ++ [k]) = (W.notes l).note k none := by
  unfold Wri.notes Wri.note
  simp only [List.append_assoc, Wri.mk.injEq, and_true, true_and]
  funext j
  by_cases h1 : j = k
  · simp [h1, hasK]
  · have h2 : ¬ k = j := fun e => h1 e.symm
    have e : hasK (l ++ [k]) j = hasK l j := by unfold hasK; rw [List.any_append]; simp [h2]
    simp only [h1, e, if_false]
theorem Wri.notes_ch {W : Wri} {l : List ByteArray} {k : ByteArray} (h : k ∉ l) : (W.notes l).ch k = W.ch k := by
  unfold Wri.notes
  have : ¬ hasK l k = true := fun e => h (hasK_iff.1 e)
  simp [this]
/-- The keys that a deletion of keys takes. -/
def goesP (S : Sto) (W : Wri) (k : ByteArray) : Bool := (W.ch k).isNone && (thereH (S.kh k)).isSome
theorem goes_take {S : Sto} {W : Wri} {ks : List ByteArray} {i : Nat} {k : ByteArray} (hk : ks[i]? = some k) : (ks.take (i + 1)).filter (goesP S W) = (ks.take i).filter (goesP S W) ++ if goesP S W k then [k] else [] := by
  rw [List.take_add_one, hk, List.filter_append]
  congr 1
  simp [List.filter_cons]
theorem asc_nodup : ∀ {l : List ByteArray}, Asc l → l.Nodup
  | [], _ => List.nodup_nil
  | k :: _, ⟨h1, h2⟩ => List.nodup_cons.2 ⟨fun hm => klt_ne (h1 k hm) rfl, asc_nodup h2⟩
theorem not_take {l : List ByteArray} (h : l.Nodup) {i : Nat} {k : ByteArray} (hk : l[i]? = some k) : k ∉ l.take i := fun hm => by
  rw [← List.take_append_drop i l, List.nodup_append] at h
  have hd : k ∈ l.drop i := List.mem_of_getElem? (i := 0) (by rw [List.getElem?_drop]; exact hk)
  exact h.2.2 k hm k hd rfl
set_option maxRecDepth 100000 in
set_option maxHeartbeats 2000000 in
theorem delete_st {n : Nat} {w : World} {s b : Nat} {S : Sto} {W : Wri} {g : Sg} {h : Wg} (H : Ow n w s b S W g h) (hn : n ≤ 50000) (lo hi : ByteArray) (hlo : lo.size ≤ 140737488355328) (hhi : hi.size ≤ 140737488355328) (hkl : W.keys.length ≤ 50000) (hct : -1000000 ≤ W.count ∧ W.count ≤ 1000000) :
    Calls Tryz.prog 14 #[ptr b, .string lo, .string hi] w fun e w' => e = .returned (.int .i64 ((rangeK S lo hi).filter (goesP S W)).length) ∧ ∃ h', Ow n w' s b S { W.notes ((rangeK S lo hi).filter (goesP S W)) with count := W.count - ((rangeK S lo hi).filter (goesP S W)).length } g h' ∧ KpW w w' b h h' := by
  have ho := open_st H
  have hks := keys_st H.st (by omega) lo hi hlo hhi
  obtain ⟨c0, -⟩ := H.wr.cells
  have hnd : (rangeK S lo hi).Nodup := asc_nodup (by
    have := H.st.bd.asc
    rw [datS_keys] at this
    exact asc_sublist List.filter_sublist this)
  have hlen : (rangeK S lo hi).length ≤ 50000 := by
    have := H.st.bd.len
    have h2 : (datS S).length = S.ks.length := by unfold datS; simp
    have h3 : (rangeK S lo hi).length ≤ S.ks.length := List.length_filter_le _ _
    omega
  have HH := Hid.mk'' H
  have HND := Hid.mk'' hnd
  generalize rangeK S lo hi = ks at *
  clear H hnd
  go_enter Tryz.func14, Tryz.ntmps14
  go_upto_region 5 with (first | (go_at_call 16; refine ho.mono ?_; rintro e w' ⟨rfl, hw'⟩; obtain rfl := hw'.symm) | (go_at_call 28; refine hks.mono ?_; rintro e w1 ⟨p, c, rfl, hP⟩))
  have HP := Hid.mk'' hP
  have hb1 := hP.2
  have H1 := HH.out.below hb1
  have HB1 := Hid.mk'' hb1
  have HS1 : Hid (Ow n w1 s b S W g h) := H1
  clear hP hb1 H1 hks ho c0
  go_wp2
  go_loopg [7, 21] (ks.length + 1) (fun kx s7 s21 wr => ∃ (i : Nat) (h' : Wg), s7 = .int .i64 ((ks.take i).filter (goesP S W)).length ∧ s21 = .int .i64 i ∧ kx + i = ks.length + 1 ∧ i ≤ ks.length ∧ Hid (Ow n wr s b S (W.notes ((ks.take i).filter (goesP S W))) g h' ∧ KpW w1 wr b h h'))
  case atStart => exact ⟨0, h, by simp, rfl, rfl, Nat.zero_le _, by rw [List.take_zero, List.filter_nil, Wri.notes_nil]; exact ⟨HS1.out, KpW.same (Below.refl _ _)⟩⟩
  case round =>
    obtain ⟨i, h', rfl, rfl, hk, hi', HM⟩ := hrel
    have hl1 : ((ks.take i).filter (goesP S W)).length ≤ i := Nat.le_trans (List.length_filter_le _ _) (by rw [List.length_take]; omega)
    by_cases hlt : i < ks.length
    · obtain ⟨k, hkk⟩ : ∃ k, ks[i]? = some k := ⟨_, List.getElem?_eq_getElem hlt⟩
      have hgt := goes_take (S := S) (W := W) hkk
      have hnt : k ∉ (ks.take i).filter (goesP S W) := fun hm => not_take HND.out hkk (List.mem_filter.1 hm).1
      have hnch := Wri.notes_ch (W := W) hnt
      obtain ⟨gk, cg, hv, hgl, hgc⟩ := (HP.out.row).at_ i k hkk
      have hpp : p = some ⟨gk, 0, none⟩ := by cases hv; rfl
      subst hpp
      have hge : w.heap.size ≤ gk := (HP.out.1.lt gk rfl).1
      have hno : ¬ ftW b h gk := fun hf => by have := HH.out.wr.lt hf; omega
      have kcell := (HM.out.2.1.cell (p := ⟨gk, i, none⟩) hgl hno).trans hgc
      obtain ⟨c0, -, c2, -⟩ := HM.out.1.wr.cells
      obtain ⟨-, -, -, -, -, d5, -⟩ := HM.out.1.st.cells
      have hlk : (Instr.lookup 50 (.map (some h'.bw)) (.string k) false).run Tryz.prog wr = .ok ((wcF (W.notes ((ks.take i).filter (goesP S W))) k).getD .nilIface) wr := HM.out.1.wr.mp.look law65 Tryz.underlying50 (zero71 _) k false
      have hlt2 : (Instr.lookup 47 (.map (some g.bt)) (.string k) false).run Tryz.prog wr = .ok (.int .i64 (modOf (thereH (S.kh k)))) wr := by
        rw [← thF_get]
        exact HM.out.1.st.th.look law65 Tryz.underlying47 (zero3 _) k false
      generalize hdl : (ks.take i).filter (goesP S W) = dl at *
      clear hv hgc hgl hkk
      cases hch : W.ch k with
      | some o =>
        have e2 : wcF (W.notes dl) k = some (encC k o) := by unfold wcF; rw [hnch, hch]; rfl
        have e3 : goesP S W k = false := by unfold goesP; rw [hch]; rfl
        rw [e2] at hlk
        dsimp only [Option.getD_some] at hlk
        obtain ⟨ti, xi, hni⟩ : ∃ ti xi, encC k o = .iface ti xi := by cases o <;> exact ⟨_, _, rfl⟩
        rw [hni] at hlk
        rw [e3] at hgt
        simp only [Bool.false_eq_true, if_false, List.append_nil] at hgt
        clear hni e2 e3 hch hnch hnt
        go_wp2
        go_roundg (ks.length - i)
        case measure => omega
        case rel => exact ⟨i + 1, h', by rw [hgt], by congr 1, by omega, by omega, by rw [hgt]; exact HM.out⟩
      | none =>
        have e2 : wcF (W.notes dl) k = none := by unfold wcF; rw [hnch, hch]; rfl
        rw [e2] at hlk
        dsimp only [Option.getD_none] at hlk
        cases hth : thereH (S.kh k) with
        | none =>
          have e3 : goesP S W k = false := by unfold goesP; rw [hth]; simp
          rw [e3] at hgt
          simp only [Bool.false_eq_true, if_false, List.append_nil] at hgt
          rw [hth] at hlt2
          dsimp only [modOf] at hlt2
          clear e2 e3 hch hnch hnt hth
          go_wp2
          go_roundg (ks.length - i)
          case measure => omega
          case rel => exact ⟨i + 1, h', by rw [hgt], by congr 1, by omega, by omega, by rw [hgt]; exact HM.out⟩
        | some kv =>
          have e3 : goesP S W k = true := by unfold goesP; rw [hch, hth]; rfl
          rw [e3] at hgt
          simp only [if_true] at hgt
          rw [hth] at hlt2
          dsimp only [modOf] at hlt2
          have hpos : ¬ kv.mod = 0 := by
            obtain ⟨r, hm, _⟩ := thereH_mem hth
            obtain ⟨_, q2, _⟩ := (HH.out.st.hok k).kv r kv hm
            have := ((HH.out.st.hok k).pos _ hm).1
            omega
          have hnote := note_st HM.out.1.wr k none (fun hm => by have := (HM.out.1.wr.cov k).2 hm; rw [hnch, hch] at this; exact this rfl) (by unfold Wri.notes; simp; omega)
          rw [← Wri.notes_snoc] at hnote
          dsimp only [encC] at hnote
          have HFIN : Hid (∀ w9, (∃ h2, Wm w9 b s (W.notes (dl ++ [k])) h2 ∧ KpW wr w9 b h' h2) → ∃ h2, Ow n w9 s b S (W.notes (dl ++ [k])) g h2 ∧ KpW w1 w9 b h h2) := fun w9 ⟨h2, q1, q2⟩ => ⟨h2, HM.out.1.step q1 q2, HM.out.2.trans q2⟩
          clear e2 e3 hch hnch hnt hth HM
          go_wp2_with (go_at_call 21; refine hnote.mono ?_; rintro e w9 ⟨rfl, HN⟩; have HN := Hid.mk'' HN)
          obtain ⟨h2, q⟩ := HFIN.out _ HN.out
          go_roundg (ks.length - i)
          case measure => omega
          case rel => exact ⟨i + 1, h2, by rw [hgt]; simp, by congr 1, by omega, by omega, by rw [hgt]; exact q⟩
    · obtain rfl : i = ks.length := by omega
      rw [List.take_length] at HM hl1 ⊢
      obtain ⟨-, -, -, c3⟩ := HM.out.1.wr.cells
      have f3 := frozen_of_row wr b 3 _ _ HM.out.1.wr.blk
      have hst := HM.out.1.wr.setCount (W.count - (ks.filter (goesP S W)).length)
      have HFIN : Hid (∃ h', Ow n (wr.setCell ⟨b, 3, none⟩ (.int .i64 (W.count - (ks.filter (goesP S W)).length))) s b S { W.notes (ks.filter (goesP S W)) with count := W.count - (ks.filter (goesP S W)).length } g h' ∧ KpW w (wr.setCell ⟨b, 3, none⟩ (.int .i64 (W.count - (ks.filter (goesP S W)).length))) b h h') := ⟨h', HM.out.1.step hst.1 hst.2, (KpW.same HB1.out).trans (HM.out.2.trans hst.2)⟩
      have c3' : wr.cell? ⟨b, 3, none⟩ = some (.int .i64 W.count) := c3
      clear HM hst c3
      generalize hdl : ks.filter (goesP S W) = dl at hl1 HFIN ⊢
      have HE := Hid.mk'' hdl
      clear hdl
      go_wp2
      go_ret
      have e := HE.out
      subst e
      exact ⟨rfl, HFIN.out⟩
end Go.Proofs.YteeflkkoifgcbabGreat
