/- Delete of a write. -/
import Derived.Test.YtjdmgmnndfhmgaaGreatGRJ
import Derived.BigQuiet
namespace Go.Proofs.YtjdmgmnndfhmgaaGreat
open Go Go.RowKit

def hasK (l : List ByteArray) (k : ByteArray) : Bool := l.any fun x => decide (x = k)
theorem hasK_iff {l : List ByteArray} {k : ByteArray} : hasK l k = true ↔ k ∈ l := by
  unfold hasK
  rw [List.any_eq_true]
  exact ⟨fun ⟨x, h1, h2⟩ => by rw [← of_decide_eq_true h2]; exact h1, fun h => ⟨k, h, decide_eq_true rfl⟩⟩
def Wri.notes (W : Wri) (l : List ByteArray) : Wri := { W with keys := W.keys ++ l, ch := fun k => if hasK l k then some none else W.ch k }
theorem Wri.notes_nil (W : Wri) : W.notes [] = W := by
  unfold Wri.notes
  cases W
  simp [hasK]
theorem Wri.notes_snoc (W : Wri) (l : List ByteArray) (k : ByteArray) : W.notes (l ++ [k]) = (W.notes l).note k none := by
  unfold Wri.notes Wri.note
  simp only [List.append_assoc, Wri.mk.injEq, and_true, true_and]
  funext j
  by_cases h1 : j = k
  · simp [h1, hasK]
  · have h2 : ¬ k = j := fun e => h1 e.symm
    have e : hasK (l ++ [k]) j = hasK l j := by unfold hasK; rw [List.any_append]; simp [h2]
    simp only [h1, e, if_false]
theorem Wri.notes_ch {W : Wri} {l : List ByteArray} {k : ByteArray} (h : k ∉ l) : (W.notes l).ch k = W.ch k := by
  unfold Wri.notes
  have : ¬ hasK l k = true := fun e => h (hasK_iff.1 e)
  simp [this]
/-- The keys that a deletion of keys takes. -/
def goesP (S : Sto) (W : Wri) (k : ByteArray) : Bool := (W.ch k).isNone && (thereH (S.kh k)).isSome
theorem goes_take {S : Sto} {W : Wri} {ks : List ByteArray} {i : Nat} {k : ByteArray} (hk : ks[i]? = some k) : (ks.take (i + 1)).filter (goesP S W) = (ks.take i).filter (goesP S W) ++ if goesP S W k then [k] else [] := by
  rw [List.take_add_one, hk, List.filter_append]
  congr 1
  simp [List.filter_cons]
theorem asc_nodup : ∀ {l : List ByteArray}, Asc l → l.Nodup
  | [], _ => List.nodup_nil
  | k :: _, ⟨h1, h2⟩ => List.nodup_cons.2 ⟨fun hm => klt_ne (h1 k hm) rfl, asc_nodup h2⟩
theorem not_take {l : List ByteArray} (h : l.Nodup) {i : Nat} {k : ByteArray} (hk : l[i]? = some k) : k ∉ l.take i := fun hm => by
  rw [← List.take_append_drop i l, List.nodup_append] at h
  have hd : k ∈ l.drop i := List.mem_of_getElem? (i := 0) (by rw [List.getElem?_drop]; exact hk)
  exact h.2.2 k hm k hd rfl
set_option maxRecDepth 100000 in
set_option maxHeartbeats 2000000 in
theorem delete_st {n : Nat} {w : World} {s b : Nat} {S : Sto} {W : Wri} {g : Sg} {h : Wg} (H : Ow n w s b S W g h) (hn : n ≤ 50000) (lo hi : ByteArray) (hlo : lo.size ≤ 140737488355328) (hhi : hi.size ≤ 140737488355328) (hkl : W.keys.length ≤ 50000) (hct : -1000000 ≤ W.count ∧ W.count ≤ 1000000) :
    Calls Tryz.prog 13 #[ptr b, .string lo, .string hi] w fun e w' => e = .returned (.int .i64 ((rangeK S lo hi).filter (goesP S W)).length) ∧ ∃ h', Ow n w' s b S { W.notes ((rangeK S lo hi).filter (goesP S W)) with count := W.count - ((rangeK S lo hi).filter (goesP S W)).length } g h' ∧ KpW w w' b h h' := by
  have ho := open_st H
  have hks := keys_st H.st (by omega) lo hi hlo hhi
  obtain ⟨c0, -⟩ := H.wr.cells
  have hnd : (rangeK S lo hi).Nodup := asc_nodup (by
    have := H.st.bd.asc
    rw [datS_keys] at this
    exact asc_sublist List.filter_sublist this)
  have hlen : (rangeK S lo hi).length ≤ 50000 := by
    have := H.st.bd.len
    have h2 : (datS S).length = S.ks.length := by unfold datS; simp
    have h3 : (rangeK S lo hi).length ≤ S.ks.length := List.length_filter_le _ _
    omega
  have HH := Hid.mk'' H
  have HND := Hid.mk'' hnd
  generalize rangeK S lo hi = ks at *
  clear H hnd
  go_enter Tryz.func13, Tryz.ntmps13
  go_upto_region 5 with (first | (go_at_call 36; refine ho.mono ?_; rintro e w' ⟨rfl, hw'⟩; obtain rfl := hw'.symm) | (go_at_call 37; refine hks.mono ?_; rintro e w1 ⟨p, c, rfl, hP⟩))
  have HP := Hid.mk'' hP
  have hb1 := hP.2
  have H1 := HH.out.below hb1
  have HB1 := Hid.mk'' hb1
  have HS1 : Hid (Ow n w1 s b S W g h) := H1
  clear hP hb1 H1 hks ho c0
  go_wp2
  go_loopg [7, 21] (ks.length + 1) (fun kx s7 s21 wr => ∃ (i : Nat) (h' : Wg), s7 = .int .i64 ((ks.take i).filter (goesP S W)).length ∧ s21 = .int .i64 i ∧ kx + i = ks.length + 1 ∧ i ≤ ks.length ∧ Hid (Ow n wr s b S (W.notes ((ks.take i).filter (goesP S W))) g h' ∧ KpW w1 wr b h h'))
  case atStart => exact ⟨0, h, by simp, rfl, rfl, Nat.zero_le _, by rw [List.take_zero, List.filter_nil, Wri.notes_nil]; exact ⟨HS1.out, KpW.same (Below.refl _ _)⟩⟩
  case round =>
    obtain ⟨i, h', rfl, rfl, hk, hi', HM⟩ := hrel
    have hl1 : ((ks.take i).filter (goesP S W)).length ≤ i := Nat.le_trans (List.length_filter_le _ _) (by rw [List.length_take]; omega)
    by_cases hlt : i < ks.length
    · obtain ⟨k, hkk⟩ : ∃ k, ks[i]? = some k := ⟨_, List.getElem?_eq_getElem hlt⟩
      have hgt := goes_take (S := S) (W := W) hkk
      have hnt : k ∉ (ks.take i).filter (goesP S W) := fun hm => not_take HND.out hkk (List.mem_filter.1 hm).1
      have hnch := Wri.notes_ch (W := W) hnt
      obtain ⟨gk, cg, hv, hgl, hgc⟩ := (HP.out.row).at_ i k hkk
      have hpp : p = some ⟨gk, 0, none⟩ := by cases hv; rfl
      subst hpp
      have hge : w.heap.size ≤ gk := (HP.out.1.lt gk rfl).1
      have hno : ¬ ftW b h gk := fun hf => by have := HH.out.wr.lt hf; omega
      have kcell := (HM.out.2.1.cell (p := ⟨gk, i, none⟩) hgl hno).trans hgc
      obtain ⟨c0, -, c2, -⟩ := HM.out.1.wr.cells
      obtain ⟨-, -, -, -, -, d5, -⟩ := HM.out.1.st.cells
      have hlk : (Instr.lookup 78 (.map (some h'.bw)) (.string k) false).run Tryz.prog wr = .ok ((wcF (W.notes ((ks.take i).filter (goesP S W))) k).getD .nilIface) wr := HM.out.1.wr.mp.look law65 Tryz.underlying78 (zero71 _) k false
      have hlt2 : (Instr.lookup 72 (.map (some g.bt)) (.string k) false).run Tryz.prog wr = .ok (.int .i64 (modOf (thereH (S.kh k)))) wr := by
        rw [← thF_get]
        exact HM.out.1.st.th.look law65 Tryz.underlying72 (zero3 _) k false
      generalize hdl : (ks.take i).filter (goesP S W) = dl at *
      clear hv hgc hgl hkk
      cases hch : W.ch k with
      | some o =>
        have e2 : wcF (W.notes dl) k = some (encC k o) := by unfold wcF; rw [hnch, hch]; rfl
        have e3 : goesP S W k = false := by unfold goesP; rw [hch]; rfl
        rw [e2] at hlk
        dsimp only [Option.getD_some] at hlk
        obtain ⟨ti, xi, hni⟩ : ∃ ti xi, encC k o = .iface ti xi := by cases o <;> exact ⟨_, _, rfl⟩
        rw [hni] at hlk
        rw [e3] at hgt
        simp only [Bool.false_eq_true, if_false, List.append_nil] at hgt
        clear hni e2 e3 hch hnch hnt
        go_wp2
        go_roundg (ks.length - i)
        case measure => omega
        case rel => exact ⟨i + 1, h', by rw [hgt], by congr 1, by omega, by omega, by rw [hgt]; exact HM.out⟩
      | none =>
        have e2 : wcF (W.notes dl) k = none := by unfold wcF; rw [hnch, hch]; rfl
        rw [e2] at hlk
        dsimp only [Option.getD_none] at hlk
        cases hth : thereH (S.kh k) with
        | none =>
          have e3 : goesP S W k = false := by unfold goesP; rw [hth]; simp
          rw [e3] at hgt
          simp only [Bool.false_eq_true, if_false, List.append_nil] at hgt
          rw [hth] at hlt2
          dsimp only [modOf] at hlt2
          clear e2 e3 hch hnch hnt hth
          go_wp2
          go_roundg (ks.length - i)
          case measure => omega
          case rel => exact ⟨i + 1, h', by rw [hgt], by congr 1, by omega, by omega, by rw [hgt]; exact HM.out⟩
        | some kv =>
          have e3 : goesP S W k = true := by unfold goesP; rw [hch, hth]; rfl
          rw [e3] at hgt
          simp only [if_true] at hgt
          rw [hth] at hlt2
          dsimp only [modOf] at hlt2
          have hpos : ¬ kv.mod = 0 := by
            obtain ⟨r, hm, _⟩ := thereH_mem hth
            obtain ⟨_, q2, _⟩ := (HH.out.st.hok k).kv r kv hm
            have := ((HH.out.st.hok k).pos _ hm).1
            omega
          have hnote := note_st HM.out.1.wr k none (fun hm => by have := (HM.out.1.wr.cov k).2 hm; rw [hnch, hch] at this; exact this rfl) (by unfold Wri.notes; simp; omega)
          rw [← Wri.notes_snoc] at hnote
          dsimp only [encC] at hnote
          have HFIN : Hid (∀ w9, (∃ h2, Wm w9 b s (W.notes (dl ++ [k])) h2 ∧ KpW wr w9 b h' h2) → ∃ h2, Ow n w9 s b S (W.notes (dl ++ [k])) g h2 ∧ KpW w1 w9 b h h2) := fun w9 ⟨h2, q1, q2⟩ => ⟨h2, HM.out.1.step q1 q2, HM.out.2.trans q2⟩
          clear e2 e3 hch hnch hnt hth HM
          go_wp2_with (go_at_call 38; refine hnote.mono ?_; rintro e w9 ⟨rfl, HN⟩; have HN := Hid.mk'' HN)
          obtain ⟨h2, q⟩ := HFIN.out _ HN.out
          go_roundg (ks.length - i)
          case measure => omega
          case rel => exact ⟨i + 1, h2, by rw [hgt]; simp, by congr 1, by omega, by omega, by rw [hgt]; exact q⟩
    · obtain rfl : i = ks.length := by omega
      rw [List.take_length] at HM hl1 ⊢
      obtain ⟨-, -, -, c3⟩ := HM.out.1.wr.cells
      have f3 := frozen_of_row wr b 3 _ _ HM.out.1.wr.blk
      have hst := HM.out.1.wr.setCount (W.count - (ks.filter (goesP S W)).length)
      have HFIN : Hid (∃ h', Ow n (wr.setCell ⟨b, 3, none⟩ (.int .i64 (W.count - (ks.filter (goesP S W)).length))) s b S { W.notes (ks.filter (goesP S W)) with count := W.count - (ks.filter (goesP S W)).length } g h' ∧ KpW w (wr.setCell ⟨b, 3, none⟩ (.int .i64 (W.count - (ks.filter (goesP S W)).length))) b h h') := ⟨h', HM.out.1.step hst.1 hst.2, (KpW.same HB1.out).trans (HM.out.2.trans hst.2)⟩
      have c3' : wr.cell? ⟨b, 3, none⟩ = some (.int .i64 W.count) := c3
      clear HM hst c3
      generalize hdl : ks.filter (goesP S W) = dl at hl1 HFIN ⊢
      have HE := Hid.mk'' hdl
      clear hdl
      go_wp2
      go_ret
      have e := HE.out
      subst e
      exact ⟨rfl, HFIN.out⟩
end Go.Proofs.YtjdmgmnndfhmgaaGreat
/- A change laid into a store, as data. -/
namespace Go.Proofs.YtjdmgmnndfhmgaaGreat
open Go Go.RowKit

def insK (key : ByteArray) : List ByteArray → List ByteArray
  | [] => [key]
  | k :: l => if klt k key then k :: insK key l else if k = key then k :: l else key :: k :: l
theorem mem_insK {key j : ByteArray} : ∀ {l : List ByteArray}, j ∈ insK key l ↔ j = key ∨ j ∈ l
  | [] => by simp [insK]
  | k :: l => by
    unfold insK
    split
    · simp only [List.mem_cons, mem_insK (l := l)]
      constructor
      · rintro (h | h | h)
        · exact .inr (.inl h)
        · exact .inl h
        · exact .inr (.inr h)
      · rintro (h | h | h)
        · exact .inr (.inl h)
        · exact .inl h
        · exact .inr (.inr h)
    · split
      · rename_i e
        simp only [List.mem_cons]
        constructor
        · exact .inr
        · rintro (h | h)
          · exact .inl (by rw [h, e])
          · exact h
      · simp only [List.mem_cons]
def layS (S : Sto) (r : Int) (key : ByteArray) (c : Option KVd) : Sto :=
  { S with ks := insK key S.ks, kh := fun k => if k = key then S.kh k ++ [(r, c)] else S.kh k, nth := if c.isSome then (if (thereH (S.kh key)).isSome then S.nth else S.nth + 1) else (if (thereH (S.kh key)).isSome then S.nth - 1 else S.nth) }
theorem layS_same (S : Sto) (r : Int) (key : ByteArray) (c : Option KVd) : (layS S r key c).kh key = S.kh key ++ [(r, c)] := by simp [layS]
theorem layS_other (S : Sto) (r : Int) {key k : ByteArray} (c : Option KVd) (h : ¬ k = key) : (layS S r key c).kh k = S.kh k := by simp [layS, h]
theorem look_ks (f : ByteArray → List Mk) : ∀ (ks : List ByteArray) (key : ByteArray), lookD (ks.map fun k => (k, f k)) key = if hasK ks key then some (f key) else none
  | [], key => rfl
  | k :: ks, key => by
    simp only [List.map_cons, lookD]
    by_cases h : k = key
    · subst h; simp [hasK]
    · rw [if_neg h, look_ks f ks key]
      have : hasK (k :: ks) key = hasK ks key := by simp [hasK, h]
      rw [this]
theorem set_ks (f : ByteArray → List Mk) (key : ByteArray) (ms : List Mk) : ∀ {ks : List ByteArray}, Asc ks → setD (ks.map fun k => (k, f k)) key ms = (insK key ks).map fun k => (k, if k = key then ms else f k)
  | [], _ => by simp [setD, insK]
  | k :: ks, ⟨h1, h2⟩ => by
    simp only [List.map_cons, setD, insK]
    by_cases hk : klt k key = true
    · rw [if_pos hk, if_pos hk, List.map_cons, set_ks f key ms h2]
      have : ¬ k = key := klt_ne hk
      simp [this]
    · rw [if_neg hk, if_neg hk]
      have htl : ∀ j ∈ ks, klt key j = true → (fun k => (k, f k)) j = (fun k => (k, if k = key then ms else f k)) j := fun j _ hj => by
        have : ¬ j = key := (klt_ne hj).symm
        simp [this]
      by_cases e : k = key
      · subst e
        rw [if_pos rfl, if_pos rfl, List.map_cons]
        congr 1
        · simp
        · exact List.map_congr_left (fun j hj => htl j hj (h1 j hj))
      · rw [if_neg e, if_neg e, List.map_cons, List.map_cons]
        have hkk : klt key k = true := by
          cases hq : klt key k
          · exact absurd (klt_tri (by simpa using hk) hq) e
          · rfl
        congr 1
        · simp
        · congr 1
          · simp [e]
          · exact List.map_congr_left (fun j hj => htl j hj (klt_trans hkk (h1 j hj)))
theorem lookD_datS {n : Nat} {w : World} {s : Nat} {S : Sto} {g : Sg} {o : Value} (h : St n w s S g o) (key : ByteArray) : (lookD (datS S) key).getD [] = (S.kh key).map markOf ∧ ((lookD (datS S) key) = none ↔ S.kh key = []) := by
  unfold datS
  rw [look_ks (fun k => (S.kh k).map markOf)]
  by_cases hm : key ∈ S.ks
  · rw [if_pos (hasK_iff.2 hm)]
    have := (h.mem key).1 hm
    simp [this]
  · have h0 : S.kh key = [] := Classical.byContradiction fun hn => hm ((h.mem key).2 hn)
    have : ¬ hasK S.ks key = true := fun e => hm (hasK_iff.1 e)
    rw [if_neg this, h0]
    simp
theorem lastM_marks {h : Hs} {p : Int × Option KVd} (e : h.getLast? = some p) : lastM (h.map markOf) = markOf p := by
  unfold lastM
  rw [List.getLastD_eq_getLast?, List.getLast?_map, e]
  rfl
/-- What may be laid. -/
structure LayOk (S : Sto) (r : Int) (key : ByteArray) (c : Option KVd) : Prop where
  sz : 0 < key.size ∧ key.size ≤ 100
  lt : ∀ p ∈ S.kh key, p.1 < r
  pos : 0 < r
  kv : ∀ v, c = some v → v.key = key ∧ v.mod = r ∧ 1 ≤ v.version ∧ v.version ≤ r
  del : c = none → (thereH (S.kh key)).isSome = true
theorem putE_lay {n : Nat} {w : World} {s : Nat} {S : Sto} {g : Sg} {o : Value} (h : St n w s S g o) {r : Int} {key : ByteArray} {c : Option KVd} (L : LayOk S r key c) : putE (datS S) key r c.isNone = 0 ∧ putD (datS S) key r c.isNone = datS (layS S r key c) := by
  obtain ⟨h1, h2⟩ := lookD_datS h key
  have hE : putE (datS S) key r c.isNone = 0 := by
    unfold putE
    have hs := L.sz
    have hp := L.pos
    rw [if_neg (by omega)]
    cases hl : lookD (datS S) key with
    | none =>
      have h0 := h2.1 hl
      cases c with
      | none => have := L.del rfl; rw [h0] at this; cases this
      | some v => rfl
    | some ms =>
      rw [hl] at h1
      dsimp only [Option.getD_some] at h1
      have hne : S.kh key ≠ [] := fun e => by have := h2.2 e; rw [hl] at this; cases this
      obtain ⟨p, hp'⟩ : ∃ p, (S.kh key).getLast? = some p := ⟨_, List.getLast?_eq_some_getLast hne⟩
      have hlm : lastM ms = markOf p := by rw [h1]; exact lastM_marks hp'
      have hlt := L.lt p (List.mem_of_getLast? hp')
      dsimp only
      rw [hlm]
      have : ¬ r ≤ (markOf p).1 := by unfold markOf; dsimp only; omega
      rw [if_neg this]
      cases c with
      | some v => rfl
      | none =>
        have hd := L.del rfl
        unfold thereH at hd
        rw [hp'] at hd
        obtain ⟨pr, po⟩ := p
        cases po with
        | none => cases hd
        | some v => rfl
  refine ⟨hE, ?_⟩
  unfold putD
  rw [if_pos hE, h1]
  have ha : Asc S.ks := by have := h.bd.asc; rw [datS_keys] at this; exact this
  unfold datS
  rw [set_ks (fun k => (S.kh k).map markOf) key _ ha]
  show _ = (insK key S.ks).map _
  refine List.map_congr_left (fun k _ => ?_)
  by_cases e : k = key
  · subst e
    rw [if_pos rfl, layS_same, List.map_append]
    rfl
  · rw [if_neg e, layS_other _ _ _ e]
theorem chF_lay (S : Sto) {r : Int} {key : ByteArray} {c : Option KVd} (L : LayOk S r key c) (p : Int × ByteArray) : chF (layS S r key c) p = setF (chF S) (r, key) (encC key c) p := by
  obtain ⟨a, k⟩ := p
  unfold chF setF
  by_cases e : k = key
  · subst e
    simp only [layS_same]
    rw [List.find?_append]
    by_cases ea : a = r
    · subst ea
      have hno : (S.kh k).find? (fun q => decide (q.1 = a)) = none := List.find?_eq_none.2 (fun q hq => by have := L.lt q hq; simp; omega)
      rw [hno]
      simp
    · have : ¬ r = a := fun e => ea e.symm
      simp [ea, this]
  · simp only [layS_other _ _ _ e]
    have : ¬ (a, k) = (r, key) := fun h => e (by cases h; rfl)
    rw [if_neg this]
theorem thF_lay (S : Sto) (r : Int) (key : ByteArray) {v : KVd} (k : ByteArray) (hv : v.mod = r) : thF (layS S r key (some v)) k = setF (thF S) key (.int .i64 r) k := by
  unfold thF setF
  by_cases e : k = key
  · subst e
    rw [layS_same, thereH_snoc]
    simp [hv]
  · rw [layS_other _ _ _ e, if_neg e]
theorem thF_layD (S : Sto) (r : Int) (key k : ByteArray) : thF (layS S r key none) k = delF (thF S) key k := by
  unfold thF delF
  by_cases e : k = key
  · subst e
    rw [layS_same, thereH_snoc]
    simp
  · rw [layS_other _ _ _ e, if_neg e]
end Go.Proofs.YtjdmgmnndfhmgaaGreat
/- A change laid into a store: its memory. -/
namespace Go.Proofs.YtjdmgmnndfhmgaaGreat
open Go Go.RowKit

/-- What a store's call leaves of its blocks. -/
def KpM (w w' : World) (s : Nat) (g g' : Sg) : Prop := Upd w w' (ftS s g) ∧ ∀ k, ftS s g' k → ftS s g k ∨ w.heap.size ≤ k
theorem KpM.same {w w' : World} {s : Nat} {g : Sg} (hb : Below w.heap.size w w') : KpM w w' s g g := ⟨Upd.ofBelow hb, fun _ hk => .inl hk⟩
theorem KpM.trans {w w1 w2 : World} {s : Nat} {g g1 g2 : Sg} (K : KpM w w1 s g g1) (K' : KpM w1 w2 s g1 g2) : KpM w w2 s g g2 :=
  ⟨K.1.trans K'.1 (fun j hj hg => (K.2 j hg).resolve_right (by omega)), fun k hk => (K'.2 k hk).elim (K.2 k) (fun hge => .inr (Nat.le_trans K.1.size hge))⟩
section
variable {n : Nat} {w : World} {s : Nat} {S : Sto} {g : Sg} {o : Value} (h : St n w s S g o)
include h
/-- The index's blocks are none of the others. -/
theorem St.off : s ∉ g.Fi ∧ g.bc ∉ g.Fi ∧ g.bl ∉ g.Fi ∧ g.bt ∉ g.Fi ∧ ∀ r v k, g.lv r = some v → v.ownBlock = some k → k ∉ g.Fi := by
  obtain ⟨_, _, _, hc, _⟩ := h.ch
  obtain ⟨_, _, _, hl, _⟩ := h.lg
  obtain ⟨_, _, _, ht, _⟩ := h.th
  refine ⟨fun hm => (h.ix.kind _ hm).ne h.blk (by simp) rfl, fun hm => (h.ix.kind _ hm).ne_map hc rfl, fun hm => (h.ix.kind _ hm).ne_map hl rfl, fun hm => (h.ix.kind _ hm).ne_map ht rfl, fun r v k hv hk hm => ?_⟩
  obtain ⟨_, cc, f, hh⟩ := ownBlock_ge (h.rows r v hv).2 hk
  exact (h.ix.kind _ hm).ne hh (by simp) rfl
/-- The maps' blocks are none of the cells. -/
theorem St.offm {b : Nat} (hb : b = g.bc ∨ b = g.bl ∨ b = g.bt) : s ≠ b ∧ (∀ k ∈ g.Fi, k ≠ b) ∧ ∀ r v k, g.lv r = some v → v.ownBlock = some k → k ≠ b := by
  obtain ⟨e1, c1, L1, hc, _⟩ := h.ch
  obtain ⟨e2, c2, L2, hl, _⟩ := h.lg
  obtain ⟨e3, c3, L3, ht, _⟩ := h.th
  obtain ⟨es, cl, hm⟩ : ∃ es cl, w.heap[b]? = some (.map es cl) := by
    rcases hb with rfl | rfl | rfl
    · exact ⟨_, _, hc⟩
    · exact ⟨_, _, hl⟩
    · exact ⟨_, _, ht⟩
  refine ⟨fun e => ?_, fun k hk => (h.ix.kind k hk).ne_map hm, fun r v k hv hk e => ?_⟩
  · have := h.blk; rw [e, hm] at this; cases this
  · obtain ⟨_, cc, f, hh⟩ := ownBlock_ge (h.rows r v hv).2 hk
    rw [e, hm] at hh
    cases hh
/-- A change is laid: the index, the changes, the keys that are there. -/
theorem St.laid {r : Int} {key : ByteArray} {c : Option KVd} (L : LayOk S r key c) (hr : r = S.rev) {w3 w4 w5 : World} {F' : List Nat} {nc' nth' : Nat} {f' : ByteArray → Option Value}
    (hx : Xd w3 g.x (putD (datS S) key r c.isNone) F') (hs : Step w w3 g.Fi F')
    (hm4 : MapF w4 encP g.bc (setF (chF S) (r, key) (encC key c)) nc') (hu4 : Upd w3 w4 (fun k => k = g.bc))
    (hm5 : MapF w5 encB g.bt f' nth') (hu5 : Upd w4 w5 (fun k => k = g.bt)) (hf : ∀ k, thF (layS S r key c) k = f' k) (hnt : nth' = (layS S r key c).nth) :
    St (n + 1) w5 s (layS S r key c) { g with Fi := F', nc := nc' } o ∧ KpM w w5 s g { g with Fi := F', nc := nc' } := by
  obtain ⟨o1, o2, o3, o4, o5⟩ := h.off
  obtain ⟨a1, a2, a3⟩ := h.offm (b := g.bc) (.inl rfl)
  obtain ⟨b1, b2, b3⟩ := h.offm (b := g.bt) (.inr (.inr rfl))
  obtain ⟨n1, n2, n3⟩ := h.ne
  obtain ⟨hE, hD⟩ := putE_lay h L
  have hsl := h.lt (.inl rfl)
  have s3 := hs.upd.size
  have s4 := hu4.size
  have hF : ∀ k ∈ F', k ≠ g.bc ∧ k ≠ g.bt := fun k hk => by
    have hcl := h.lt (.inr (.inl rfl))
    have htl := h.lt (.inr (.inr (.inr (.inl rfl))))
    rcases hs.sub k hk with hk | hk
    · exact ⟨a2 k hk, b2 k hk⟩
    · exact ⟨by omega, by omega⟩
  have u3 : Upd w w3 (ftS s g) := hs.upd.mono (fun k _ hk => .inr (.inr (.inr (.inr (.inl hk)))))
  have u4 : Upd w w4 (ftS s g) := u3.trans (hu4.mono (T := ftS s g) (fun k _ hk => .inr (.inl hk))) (fun j _ hg => hg)
  have u5 : Upd w w5 (ftS s g) := u4.trans (hu5.mono (T := ftS s g) (fun k _ hk => .inr (.inr (.inr (.inl hk))))) (fun j _ hg => hg)
  rw [hD] at hx
  refine ⟨⟨?_, (hx.upd hu4 (fun k hk => (hF k hk).1)).upd hu5 (fun k hk => (hF k hk).2), by rw [← hD]; exact h.bd.put key r _, ?_, ?_, ?_, h.ne, ?_, ?_, ?_, ?_, h.past⟩, u5, ?_⟩
  · refine (hu5.block s (by omega) b1).trans ((hu4.block s (by omega) a1).trans ((hs.upd.block s hsl o1).trans h.blk))
  · refine (hm4.congr (chF_lay S L)).upd hu5 n2
  · exact ((h.lg.upd hs.upd o3).upd hu4 n1.symm).upd hu5 n3
  · rw [← hnt]; exact hm5.congr hf
  · intro r' v hv
    obtain ⟨q1, q2⟩ := h.rows r' v hv
    exact ⟨q1, ownsRow_upd (ownsRow_upd (ownsRow_upd q2 hs.upd (fun k hk => o5 r' v k hv hk)) hu4 (fun k hk => a3 r' v k hv hk)) hu5 (fun k hk => b3 r' v k hv hk)⟩
  · intro k
    by_cases e : k = key
    · subst e
      rw [layS_same]
      have hok := h.hok k
      have hp := L.pos
      refine ⟨?_, ?_, ?_⟩
      · rw [List.pairwise_append]
        refine ⟨hok.asc, by simp, fun p hp' q hq => ?_⟩
        obtain rfl : q = (r, c) := by simpa using hq
        exact L.lt p hp'
      · intro p hp'
        rcases List.mem_append.1 hp' with hp' | hp'
        · exact hok.pos p hp'
        · obtain rfl : p = (r, c) := by simpa using hp'
          show 0 < r ∧ r ≤ S.rev
          omega
      · intro r' v hp'
        rcases List.mem_append.1 hp' with hp' | hp'
        · exact hok.kv r' v hp'
        · obtain ⟨rfl, e2⟩ : r' = r ∧ some v = c := by simpa using hp'
          exact L.kv v e2.symm
    · rw [layS_other _ _ _ e]
      exact h.hok k
  · intro k
    show k ∈ insK key S.ks ↔ _
    rw [mem_insK]
    by_cases e : k = key
    · subst e; rw [layS_same]; simp
    · rw [layS_other _ _ _ e, h.mem k]; simp [e]
  · intro k hk
    rcases mem_insK.1 (show k ∈ insK key S.ks from hk) with rfl | hk
    · exact L.sz
    · exact h.sz k hk
  · rintro k (rfl | rfl | rfl | rfl | hk | ⟨r', v, hv, hk⟩)
    · exact .inl (.inl rfl)
    · exact .inl (.inr (.inl rfl))
    · exact .inl (.inr (.inr (.inl rfl)))
    · exact .inl (.inr (.inr (.inr (.inl rfl))))
    · rcases hs.sub k hk with hk | hk
      · exact .inl (.inr (.inr (.inr (.inr (.inl hk)))))
      · exact .inr hk
    · exact .inl (.inr (.inr (.inr (.inr (.inr ⟨r', v, hv, hk⟩)))))
end
end Go.Proofs.YtjdmgmnndfhmgaaGreat
/- A change laid into a store. -/
namespace Go.Proofs.YtjdmgmnndfhmgaaGreat
open Go Go.RowKit

theorem Upd.undrew {w w' : World} {S : Nat → Prop} (h : Upd w.drew w' S) : Upd w w' S := ⟨h.os, h.tape, h.output, h.size, h.block⟩
set_option maxRecDepth 100000 in
set_option maxHeartbeats 2000000 in
theorem lay_put {n : Nat} {w : World} {s : Nat} {S : Sto} {g : Sg} {o : Value} (h : St n w s S g o) (hn : n ≤ 900000) {r : Int} {key : ByteArray} {v : KVd} (L : LayOk S r key (some v)) (hr : r = S.rev) (hrb : r ≤ 1000000) :
    Calls Tryz.prog 64 #[ptr s, .agg #[.int .i64 r, .string key], encC key (some v)] w fun e w' => e = .returned (.tuple #[]) ∧ ∃ g', St (n + 1) w' s (layS S r key (some v)) g' o ∧ KpM w w' s g g' ∧ g'.lv = g.lv := by
  obtain ⟨kk, kvv, kcr, kmo, kve, kle⟩ := v
  have hta := ta_yes
  dsimp only [encC, encKV]
  obtain ⟨w2, hw2⟩ : ∃ w2, w2 = (w.alloc (.cells #[.int .i64 r, .string key] 122)).alloc (.cells #[.string kk, .string kvv, .int .i64 kcr, .int .i64 kmo, .int .i64 kve, .int .i64 kle] 96) := ⟨_, rfl⟩
  have hb2 : Below w.heap.size w w2 := by rw [hw2]; exact ((Below.refl _ w).alloc (Nat.le_refl _) _).alloc (by simp) _
  have hp2 : w2.heap[w.heap.size]? = some (.cells #[.int .i64 r, .string key] 122 (0, 0)) := by rw [hw2]; first | exact (heap_alloc_old _ _ (by simp)).trans (row_alloc w _ _) | exact (heap_alloc_old _ _ _ (by simp)).trans (row_alloc w _ _)
  obtain ⟨bp, hbp⟩ : ∃ bp, bp = w.heap.size := ⟨_, rfl⟩
  have HH := Hid.mk'' h
  have HL := Hid.mk'' L
  have hpos := L.pos
  have hsz := L.sz
  have HRV := Hid.mk'' hr
  clear h L hr
  go_enter Tryz.func64, Tryz.ntmps64
  go_upto_region 2 with fail
  rw [← hw2]
  rw [← hbp] at hp2 ⊢
  have h2 := HH.out.below (hb2.drew)
  have hput := put_xd h2.ix h2.bd (by omega) key r false (by omega) (by omega)
  obtain ⟨-, -, c2, -⟩ := h2.cells
  have p0 : w2.drew.cell? ⟨bp, 0, none⟩ = some (.int .i64 r) := cell_of_row _ _ _ _ _ _ hp2
  have p1 : w2.drew.cell? ⟨bp, 1, none⟩ = some (.string key) := cell_of_row _ _ _ _ _ _ hp2
  have hE := (putE_lay h2 HL.out).1
  dsimp only [Option.isNone_some, Option.isNone_none] at hE
  rw [hE] at hput
  have hS2 : w2.drew.cell? ⟨s, 2, none⟩ = some (ptr g.x) ∧ w2.drew.cell? ⟨bp, 0, none⟩ = some (.int .i64 r) ∧ w2.drew.cell? ⟨bp, 1, none⟩ = some (.string key) := ⟨c2, p0, p1⟩
  have hpl : bp < w2.drew.heap.size := (Array.getElem?_eq_some_iff.1 hp2).1
  have hpn : bp ∉ g.Fi := fun hm => (h2.ix.kind _ hm).ne (b := bp) hp2 (by simp) rfl
  have hsl := h2.lt (.inl rfl)
  have HS3 : Hid (∀ w3 F', Step w2.drew w3 g.Fi F' → w3.cell? ⟨s, 2, none⟩ = some (ptr g.x) ∧ w3.cell? ⟨bp, 0, none⟩ = some (.int .i64 r) ∧ w3.cell? ⟨bp, 1, none⟩ = some (.string key)) := fun w3 F' hs => ⟨(hs.upd.cell (p := ⟨s, 2, none⟩) hsl h2.off.1).trans c2, (hs.upd.cell (p := ⟨bp, 0, none⟩) hpl hpn).trans p0, (hs.upd.cell (p := ⟨bp, 1, none⟩) hpl hpn).trans p1⟩
  have H2 := Hid.mk'' h2
  have HB2 := Hid.mk'' hb2
  have HBP := Hid.mk'' hbp
  clear h2 c2 p0 p1 hE hta hw2 hb2 hbp
  go_region_held_law (fun V => V.cell? ⟨s, 2, none⟩ = some (ptr g.x) ∧ V.cell? ⟨bp, 0, none⟩ = some (.int .i64 r) ∧ V.cell? ⟨bp, 1, none⟩ = some (.string key)) (first | with_reducible assumption | (show _ ∧ _ ∧ _; with_reducible assumption)) (first | (go_at_call 76; refine hput.mono ?_; rintro e w3 ⟨rfl, F', hx3, hs3⟩; have hS3 := HS3.out w3 F' hs3; have HX3 := Hid.mk'' hx3; have HT3 := Hid.mk'' hs3; clear hx3 hs3))
  go_upto_region 3 with fail
  obtain ⟨o1, o2, o3, o4, o5⟩ := H2.out.off
  have hc3 := (H2.out.ch.upd HT3.out.upd o2)
  have hcd : MapF w3.drew encP g.bc (chF S) g.nc := hc3
  obtain ⟨w4, hup4, hm4, hu4⟩ := hcd.set law60 Tryz.underlying70 (r, key) (.iface 96 (.agg #[.string kk, .string kvv, .int .i64 kcr, .int .i64 kmo, .int .i64 kve, .int .i64 kle]))
  have hup4' : (Instr.mapUpdate 70 (.map (some g.bc)) (.agg #[.int .i64 r, .string key]) (.iface 96 (.agg #[.string kk, .string kvv, .int .i64 kcr, .int .i64 kmo, .int .i64 kve, .int .i64 kle]))).run Tryz.prog w3.drew = .ok () w4 := hup4
  have hs3 : w3.heap[s]? = _ := (HT3.out.upd.block s hsl o1).trans H2.out.blk
  have c33 : w3.cell? ⟨s, 3, none⟩ = some (.map (some g.bc)) := cell_of_row _ _ _ _ _ _ hs3
  obtain ⟨-, q30, q31⟩ := hS3
  obtain ⟨a1, a2, a3⟩ := H2.out.offm (b := g.bc) (.inl rfl)
  have hsl3 : s < w3.heap.size := Nat.lt_of_lt_of_le hsl HT3.out.upd.size
  have hpl3 : bp < w3.heap.size := Nat.lt_of_lt_of_le hpl HT3.out.upd.size
  have hpb : bp ≠ g.bc ∧ bp ≠ g.bt := by
    have h1 := HH.out.lt (.inr (.inl rfl))
    have h2 := HH.out.lt (.inr (.inr (.inr (.inl rfl))))
    have h3 := HBP.out
    omega
  have hu4' : Upd w3 w4 (fun k => k = g.bc) := hu4.undrew
  have s4 : w4.heap[s]? = _ := (hu4'.block s hsl3 a1).trans hs3
  have c45 : w4.cell? ⟨s, 5, none⟩ = some (.map (some g.bt)) := cell_of_row _ _ _ _ _ _ s4
  have q40 : w4.cell? ⟨bp, 0, none⟩ = some (.int .i64 r) := (hu4'.cell (p := ⟨bp, 0, none⟩) hpl3 hpb.1).trans q30
  have q41 : w4.cell? ⟨bp, 1, none⟩ = some (.string key) := (hu4'.cell (p := ⟨bp, 1, none⟩) hpl3 hpb.1).trans q31
  have ht4 : MapF w4 encB g.bt (thF S) S.nth := (H2.out.th.upd HT3.out.upd o4).upd hu4' H2.out.ne.2.1.symm
  have hm4' : MapF w4 encP g.bc (setF (chF S) (r, key) (.iface 96 (.agg #[.string kk, .string kvv, .int .i64 kcr, .int .i64 kmo, .int .i64 kve, .int .i64 kle]))) (if (chF S (r, key)).isSome then g.nc else g.nc + 1) := hm4
  clear hup4 hc3 hcd hs3 s4 o1 o2 o3 o4 o5 a1 a2 a3 hm4 hu4
  have HM4 := Hid.mk'' hm4'
  have HU4 := Hid.mk'' hu4'
  clear hm4' hu4'
  obtain ⟨w5, hup5, hm5, hu5⟩ := (show MapF w4.drew encB g.bt (thF S) S.nth from ht4).set law65 Tryz.underlying72 key (.int .i64 r)
  have hup5' : (Instr.mapUpdate 72 (.map (some g.bt)) (.string key) (.int .i64 r)).run Tryz.prog w4.drew = .ok () w5 := hup5
  have HFIN : Hid (∃ g', St (n + 1) w5 s (layS S r key (some ⟨kk, kvv, kcr, kmo, kve, kle⟩)) g' o ∧ KpM w w5 s g g' ∧ g'.lv = g.lv) := by
    have := H2.out.laid HL.out HRV.out HX3.out HT3.out HM4.out HU4.out hm5 hu5.undrew (fun k => thF_lay S r key k (HL.out.kv _ rfl).2.1) (by
      show _ = (layS S r key (some ⟨kk, kvv, kcr, kmo, kve, kle⟩)).nth
      unfold layS thF
      cases thereH (S.kh key) <;> rfl)
    exact ⟨_, this.1, (KpM.same HB2.out.drew).trans this.2, rfl⟩
  clear hup5 hm5 hu5 ht4 HM4 HU4 HX3 HT3 H2 HB2 HL HH HS3 hput
  go_region
  go_upto_region 5 with fail
  go_region
  all_goals
    go_wp2
    first | go_end0 | refine bodyPost_ret (results_none rfl _ _ _) rfl ?_
    exact ⟨rfl, HFIN.out⟩
set_option maxRecDepth 100000 in
set_option maxHeartbeats 2000000 in
theorem lay_del {n : Nat} {w : World} {s : Nat} {S : Sto} {g : Sg} {o : Value} (h : St n w s S g o) (hn : n ≤ 900000) {r : Int} {key : ByteArray} (L : LayOk S r key none) (hr : r = S.rev) (hrb : r ≤ 1000000) :
    Calls Tryz.prog 64 #[ptr s, .agg #[.int .i64 r, .string key], encC key none] w fun e w' => e = .returned (.tuple #[]) ∧ ∃ g', St (n + 1) w' s (layS S r key none) g' o ∧ KpM w w' s g g' ∧ g'.lv = g.lv := by
  have hta := ta_no
  dsimp only [encC, encKV]
  obtain ⟨w2, hw2⟩ : ∃ w2, w2 = (w.alloc (.cells #[.int .i64 r, .string key] 122)).alloc (.cells #[.string ⟨#[]⟩, .string ⟨#[]⟩, .int .i64 0, .int .i64 0, .int .i64 0, .int .i64 0] 96) := ⟨_, rfl⟩
  have hb2 : Below w.heap.size w w2 := by rw [hw2]; exact ((Below.refl _ w).alloc (Nat.le_refl _) _).alloc (by simp) _
  have hp2 : w2.heap[w.heap.size]? = some (.cells #[.int .i64 r, .string key] 122 (0, 0)) := by rw [hw2]; first | exact (heap_alloc_old _ _ (by simp)).trans (row_alloc w _ _) | exact (heap_alloc_old _ _ _ (by simp)).trans (row_alloc w _ _)
  obtain ⟨bp, hbp⟩ : ∃ bp, bp = w.heap.size := ⟨_, rfl⟩
  have HH := Hid.mk'' h
  have HL := Hid.mk'' L
  have hpos := L.pos
  have hsz := L.sz
  have HRV := Hid.mk'' hr
  clear h L hr
  go_enter Tryz.func64, Tryz.ntmps64
  go_upto_region 2 with fail
  rw [← hw2]
  rw [← hbp] at hp2 ⊢
  have h2 := HH.out.below (hb2.drew)
  have hput := put_xd h2.ix h2.bd (by omega) key r true (by omega) (by omega)
  obtain ⟨-, -, c2, -⟩ := h2.cells
  have p0 : w2.drew.cell? ⟨bp, 0, none⟩ = some (.int .i64 r) := cell_of_row _ _ _ _ _ _ hp2
  have p1 : w2.drew.cell? ⟨bp, 1, none⟩ = some (.string key) := cell_of_row _ _ _ _ _ _ hp2
  have hE := (putE_lay h2 HL.out).1
  dsimp only [Option.isNone_some, Option.isNone_none] at hE
  rw [hE] at hput
  have hS2 : w2.drew.cell? ⟨s, 2, none⟩ = some (ptr g.x) ∧ w2.drew.cell? ⟨bp, 0, none⟩ = some (.int .i64 r) ∧ w2.drew.cell? ⟨bp, 1, none⟩ = some (.string key) := ⟨c2, p0, p1⟩
  have hpl : bp < w2.drew.heap.size := (Array.getElem?_eq_some_iff.1 hp2).1
  have hpn : bp ∉ g.Fi := fun hm => (h2.ix.kind _ hm).ne (b := bp) hp2 (by simp) rfl
  have hsl := h2.lt (.inl rfl)
  have HS3 : Hid (∀ w3 F', Step w2.drew w3 g.Fi F' → w3.cell? ⟨s, 2, none⟩ = some (ptr g.x) ∧ w3.cell? ⟨bp, 0, none⟩ = some (.int .i64 r) ∧ w3.cell? ⟨bp, 1, none⟩ = some (.string key)) := fun w3 F' hs => ⟨(hs.upd.cell (p := ⟨s, 2, none⟩) hsl h2.off.1).trans c2, (hs.upd.cell (p := ⟨bp, 0, none⟩) hpl hpn).trans p0, (hs.upd.cell (p := ⟨bp, 1, none⟩) hpl hpn).trans p1⟩
  have H2 := Hid.mk'' h2
  have HB2 := Hid.mk'' hb2
  have HBP := Hid.mk'' hbp
  clear h2 c2 p0 p1 hE hta hw2 hb2 hbp
  go_region_held_law (fun V => V.cell? ⟨s, 2, none⟩ = some (ptr g.x) ∧ V.cell? ⟨bp, 0, none⟩ = some (.int .i64 r) ∧ V.cell? ⟨bp, 1, none⟩ = some (.string key)) (first | with_reducible assumption | (show _ ∧ _ ∧ _; with_reducible assumption)) (first | (go_at_call 76; refine hput.mono ?_; rintro e w3 ⟨rfl, F', hx3, hs3⟩; have hS3 := HS3.out w3 F' hs3; have HX3 := Hid.mk'' hx3; have HT3 := Hid.mk'' hs3; clear hx3 hs3))
  go_upto_region 3 with fail
  obtain ⟨o1, o2, o3, o4, o5⟩ := H2.out.off
  have hc3 := (H2.out.ch.upd HT3.out.upd o2)
  have hcd : MapF w3.drew encP g.bc (chF S) g.nc := hc3
  obtain ⟨w4, hup4, hm4, hu4⟩ := hcd.set law60 Tryz.underlying70 (r, key) (.iface 88 (.agg #[.string key]))
  have hup4' : (Instr.mapUpdate 70 (.map (some g.bc)) (.agg #[.int .i64 r, .string key]) (.iface 88 (.agg #[.string key]))).run Tryz.prog w3.drew = .ok () w4 := hup4
  have hs3 : w3.heap[s]? = _ := (HT3.out.upd.block s hsl o1).trans H2.out.blk
  have c33 : w3.cell? ⟨s, 3, none⟩ = some (.map (some g.bc)) := cell_of_row _ _ _ _ _ _ hs3
  obtain ⟨-, q30, q31⟩ := hS3
  obtain ⟨a1, a2, a3⟩ := H2.out.offm (b := g.bc) (.inl rfl)
  have hsl3 : s < w3.heap.size := Nat.lt_of_lt_of_le hsl HT3.out.upd.size
  have hpl3 : bp < w3.heap.size := Nat.lt_of_lt_of_le hpl HT3.out.upd.size
  have hpb : bp ≠ g.bc ∧ bp ≠ g.bt := by
    have h1 := HH.out.lt (.inr (.inl rfl))
    have h2 := HH.out.lt (.inr (.inr (.inr (.inl rfl))))
    have h3 := HBP.out
    omega
  have hu4' : Upd w3 w4 (fun k => k = g.bc) := hu4.undrew
  have s4 : w4.heap[s]? = _ := (hu4'.block s hsl3 a1).trans hs3
  have c45 : w4.cell? ⟨s, 5, none⟩ = some (.map (some g.bt)) := cell_of_row _ _ _ _ _ _ s4
  have q40 : w4.cell? ⟨bp, 0, none⟩ = some (.int .i64 r) := (hu4'.cell (p := ⟨bp, 0, none⟩) hpl3 hpb.1).trans q30
  have q41 : w4.cell? ⟨bp, 1, none⟩ = some (.string key) := (hu4'.cell (p := ⟨bp, 1, none⟩) hpl3 hpb.1).trans q31
  have ht4 : MapF w4 encB g.bt (thF S) S.nth := (H2.out.th.upd HT3.out.upd o4).upd hu4' H2.out.ne.2.1.symm
  have hm4' : MapF w4 encP g.bc (setF (chF S) (r, key) (.iface 88 (.agg #[.string key]))) (if (chF S (r, key)).isSome then g.nc else g.nc + 1) := hm4
  clear hup4 hc3 hcd hs3 s4 o1 o2 o3 o4 o5 a1 a2 a3 hm4 hu4
  have HM4 := Hid.mk'' hm4'
  have HU4 := Hid.mk'' hu4'
  clear hm4' hu4'
  obtain ⟨w5, hup5, hm5, hu5⟩ := (show MapF w4.drew encB g.bt (thF S) S.nth from ht4).del law65 Tryz.underlying72 key 0
  have hup5' : (Builtin.delete_ #[72, 9] 0 #[.map (some g.bt), .string key]).run Tryz.prog w4.drew = .ok (.tuple #[]) w5 := hup5
  have HFIN : Hid (∃ g', St (n + 1) w5 s (layS S r key none) g' o ∧ KpM w w5 s g g' ∧ g'.lv = g.lv) := by
    have := H2.out.laid HL.out HRV.out HX3.out HT3.out HM4.out HU4.out hm5 hu5.undrew (fun k => thF_layD S r key k) (by
      show _ = (layS S r key none).nth
      unfold layS thF
      cases thereH (S.kh key) <;> rfl)
    exact ⟨_, this.1, (KpM.same HB2.out.drew).trans this.2, rfl⟩
  clear hup5 hm5 hu5 ht4 HM4 HU4 HX3 HT3 H2 HB2 HL HH HS3 hput
  go_region
  go_upto_region 6 with fail
  go_region
  all_goals
    go_wp2
    first | go_end0 | refine bodyPost_ret (results_none rfl _ _ _) rfl ?_
    exact ⟨rfl, HFIN.out⟩
end Go.Proofs.YtjdmgmnndfhmgaaGreat
