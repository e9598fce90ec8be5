/- A store that is compacted, as data. -/
import Derived.Test.YteeflkkoifgcbabGreatGRI
import Derived.Test.YteeflkkoifgcbabGreatNN
namespace Go.Proofs.YteeflkkoifgcbabGreat
open Go Go.RowKit

theorem cutM_eq {ms : List Mk} {r : Int} (hs : MAsc ms) : cutM ms r = match tlen ms r with | 0 => 0 | c + 1 => cutA ms c := by
  have hl := tlen_le ms r
  have hp := plm_le ms r
  unfold cutM
  by_cases hh : hrm ms r = true
  · rw [if_pos hh]
    have h1 := hrm_lt hh
    obtain ⟨m, hm⟩ : ∃ m, ms[plm ms r]? = some m := ⟨_, List.getElem?_eq_getElem h1⟩
    have hmr : m.1 = r := by
      unfold hrm at hh
      rw [hm] at hh
      simpa using hh
    have e : tlen ms r = plm ms r + 1 := by
      rcases Nat.lt_or_ge (plm ms r) (tlen ms r) with h2 | h2
      · rcases Nat.lt_or_ge (plm ms r + 1) (tlen ms r) with h3 | h3
        · obtain ⟨q, hq⟩ : ∃ q, ms[plm ms r + 1]? = some q := ⟨_, List.getElem?_eq_getElem (by omega)⟩
          have h4 := tlen_lt h3 hq
          have h5 := masc_get hs (Nat.lt_succ_self _) hm hq
          omega
        · omega
      · have := tlen_ge hs h2 hm
        omega
    rw [e]
  · rw [if_neg hh]
    have e : tlen ms r = plm ms r := by
      rcases Nat.lt_trichotomy (tlen ms r) (plm ms r) with h2 | h2 | h2
      · obtain ⟨q, hq⟩ : ∃ q, ms[tlen ms r]? = some q := ⟨_, List.getElem?_eq_getElem (by omega)⟩
        have h4 := tlen_ge hs (Nat.le_refl _) hq
        have h5 := plm_lt h2 hq
        omega
      · exact h2
      · obtain ⟨q, hq⟩ : ∃ q, ms[plm ms r]? = some q := ⟨_, List.getElem?_eq_getElem (by omega)⟩
        have h4 := tlen_lt h2 hq
        have h5 := plm_not hq
        exact absurd (by unfold hrm; rw [hq]; exact decide_eq_true (by omega)) hh
    rw [← e]
    cases tlen ms r with
    | zero => rfl
    | succ c => rfl
/-- What stays of a key's history when it is compacted. -/
def keepH (h : Hs) (rev : Int) : Hs := h.filter fun p => decide (rev < p.1 ∨ p.1 = modOf (atH h rev))
theorem keep_drop {k : ByteArray} {R : Int} {h : Hs} (H : HOk k R h) (rev : Int) : h.drop (cutM (h.map markOf) rev) = keepH h rev := by
  have hm := marks_asc H.asc
  rw [cutM_eq hm]
  cases hc : tlen (h.map markOf) rev with
  | zero =>
    show h.drop 0 = _
    rw [List.drop_zero, keepH, List.filter_eq_self.2]
    intro p hp
    obtain ⟨j, hj⟩ := List.getElem?_of_mem hp
    have := tlen_ge (r := rev) (k := j) (m := markOf p) hm (by omega) (by rw [List.getElem?_map, hj]; rfl)
    exact decide_eq_true (.inl this)
  | succ c =>
    obtain ⟨p, hp, hpm, ha⟩ := atH_pos H.asc hc
    have hlt := (List.getElem?_eq_some_iff.1 hp).1
    have hs : h = h.take c ++ p :: h.drop (c + 1) := by
      conv => lhs; rw [← List.take_append_drop c h]
      rw [List.drop_eq_getElem_cons hlt]
      rw [List.getElem?_eq_getElem hlt] at hp
      cases hp
      rfl
    have hple : p.1 ≤ rev := tlen_lt (r := rev) (k := c) (m := markOf p) (by omega) hpm
    have hpos := (H.pos p (List.mem_of_getElem? hp)).1
    have h1 : ∀ q ∈ h.take c, q.1 < p.1 := fun q hq => by
      have := H.asc
      rw [hs] at this
      exact (List.pairwise_append.1 this).2.2 q hq p (by simp)
    have h2 : ∀ q ∈ h.drop (c + 1), rev < q.1 := fun q hq => by
      obtain ⟨j, hj⟩ := List.getElem?_of_mem hq
      rw [List.getElem?_drop] at hj
      exact tlen_ge (r := rev) (k := c + 1 + j) (m := markOf q) hm (by omega) (by rw [List.getElem?_map, hj]; rfl)
    have hk : keepH h rev = (if p.1 = modOf p.2 then [p] else []) ++ h.drop (c + 1) := by
      unfold keepH
      rw [ha]
      conv => lhs; rw [hs]
      have e1 : (h.take c).filter (fun q => decide (rev < q.1 ∨ q.1 = modOf p.2)) = [] := by
        rw [List.filter_eq_nil_iff]
        intro q hq hd
        have hq1 := h1 q hq
        have hqp := (H.pos q (List.mem_of_mem_take hq)).1
        rcases of_decide_eq_true hd with hd | hd
        · omega
        · cases hp2 : p.2 with
          | none => rw [hp2] at hd; simp only [modOf] at hd; omega
          | some v =>
            have := (H.kv p.1 v (by rw [← hp2]; exact List.mem_of_getElem? hp)).2.1
            rw [hp2] at hd; simp only [modOf] at hd; omega
      have e2 : (h.drop (c + 1)).filter (fun q => decide (rev < q.1 ∨ q.1 = modOf p.2)) = h.drop (c + 1) := List.filter_eq_self.2 fun q hq => decide_eq_true (.inl (h2 q hq))
      rw [List.filter_append, List.filter_cons, e1, e2, List.nil_append]
      have : ¬ rev < p.1 := by omega
      by_cases hq : p.1 = modOf p.2
      · rw [if_pos (decide_eq_true (.inr hq)), if_pos hq]; rfl
      · rw [if_neg (by simp [this, hq]), if_neg hq]; rfl
    show h.drop (cutA (h.map markOf) c) = _
    rw [hk]
    unfold cutA
    rw [hpm]
    show h.drop (if p.2.isNone = true then c + 1 else c) = _
    cases hp2 : p.2 with
    | none =>
      have : ¬ p.1 = modOf (none : Option KVd) := by simp only [modOf]; omega
      rw [if_neg this]
      rfl
    | some v =>
      have hv := (H.kv p.1 v (by rw [← hp2]; exact List.mem_of_getElem? hp)).2.1
      have : p.1 = modOf (some v) := by simp only [modOf]; omega
      rw [if_pos this]
      show h.drop c = _
      rw [List.drop_eq_getElem_cons (show c < h.length from hlt)]
      rw [List.getElem?_eq_getElem hlt] at hp
      cases hp
      rfl
theorem atH_keep {k : ByteArray} {R : Int} {h : Hs} (H : HOk k R h) {rev r : Int} (hr : rev ≤ r) : atH (keepH h rev) r = atH h r := by
  unfold atH
  have e : (keepH h rev).filter (fun p => decide (p.1 ≤ r)) = keepH (h.filter fun p => decide (p.1 ≤ r)) rev := by
    unfold keepH
    have : atH (h.filter fun p => decide (p.1 ≤ r)) rev = atH h rev := by
      unfold atH
      rw [List.filter_filter]
      congr 1
      refine List.filter_congr fun p _ => ?_
      by_cases hp : p.1 ≤ rev
      · simp [hp]; omega
      · simp [hp]
    rw [this, List.filter_filter, List.filter_filter]
    exact List.filter_congr fun p _ => Bool.and_comm _ _
  rw [e]
  have hsub : (h.filter fun p => decide (p.1 ≤ r)).Sublist h := List.filter_sublist
  generalize h.filter (fun p => decide (p.1 ≤ r)) = l at hsub ⊢
  rcases List.eq_nil_or_concat l with rfl | ⟨ini, q, rfl⟩
  · rfl
  · rw [List.concat_eq_append] at hsub ⊢
    have hasc := H.asc.sublist hsub
    have hq : q ∈ h := hsub.subset (by simp)
    have hqpos := (H.pos q hq).1
    by_cases hqr : rev < q.1
    · unfold keepH
      rw [List.filter_append, List.filter_cons, if_pos (decide_eq_true (.inl hqr))]
      show thereH (_ ++ [(q.1, q.2)]) = thereH (_ ++ [(q.1, q.2)])
      rw [thereH_snoc, thereH_snoc]
    · have hall : ∀ p ∈ ini ++ [q], p.1 ≤ rev := fun p hp => by
        rcases List.mem_append.1 hp with hp | hp
        · have := (List.pairwise_append.1 hasc).2.2 p hp q (by simp)
          omega
        · obtain rfl : p = q := by simpa using hp
          omega
      unfold keepH
      rw [atH_all hall]
      have ht : thereH (ini ++ [q]) = q.2 := thereH_snoc ini q.1 q.2
      rw [ht]
      cases hq2 : q.2 with
      | none =>
        rw [List.filter_eq_nil_iff.2]
        · rfl
        · intro p hp hd
          have h1 := hall p hp
          have h2 := (H.pos p (hsub.subset hp)).1
          have := of_decide_eq_true hd
          simp only [modOf] at this
          omega
      | some v =>
        have hv := (H.kv q.1 v (by rw [← hq2]; exact hq)).2.1
        have : q.1 = modOf (some v) := by simp only [modOf]; omega
        rw [List.filter_append, List.filter_cons, if_pos (decide_eq_true (.inr this))]
        show thereH (_ ++ [(q.1, q.2)]) = _
        rw [thereH_snoc, hq2]
theorem there_keep {k : ByteArray} {R : Int} {h : Hs} (H : HOk k R h) {rev : Int} (hr : rev ≤ R) : thereH (keepH h rev) = thereH h := by
  have h1 := atH_keep H hr
  rw [atH_all (fun p hp => (H.pos p hp).2), atH_all (h := keepH h rev) (fun p hp => (H.pos p (List.mem_filter.1 hp).1).2)] at h1
  exact h1
theorem HOk.keep {k : ByteArray} {R : Int} {h : Hs} (H : HOk k R h) (rev : Int) : HOk k R (keepH h rev) :=
  ⟨H.asc.sublist List.filter_sublist, fun p hp => H.pos p (List.mem_filter.1 hp).1, fun r v hv => H.kv r v (List.mem_filter.1 hv |>.1)⟩
theorem keep_keep {k : ByteArray} {R : Int} {h : Hs} (H : HOk k R h) (rev : Int) : keepH (keepH h rev) rev = keepH h rev := by
  conv => lhs; unfold keepH
  rw [show atH (h.filter fun p => decide (rev < p.1 ∨ p.1 = modOf (atH h rev))) rev = atH h rev from atH_keep H (Int.le_refl _), List.filter_filter]
  unfold keepH
  exact List.filter_congr fun p _ => Bool.and_self _
/-- A key that no change has touched since stays as it is. -/
theorem keep_same {h : Hs} {past rev : Int} (hp : keepH h past = h) (hle : past ≤ rev) (hno : ∀ p ∈ h, p.1 ≤ past ∨ rev < p.1) : keepH h rev = h := by
  have ha : atH h rev = atH h past := by
    unfold atH
    congr 1
    refine List.filter_congr fun p hq => ?_
    have := hno p hq
    by_cases h1 : p.1 ≤ past
    · simp [h1]; omega
    · simp [h1]; omega
  unfold keepH
  rw [List.filter_eq_self]
  intro p hq
  rw [ha]
  have : p ∈ keepH h past := by rw [hp]; exact hq
  have h2 := of_decide_eq_true (List.mem_filter.1 this).2
  have h3 := hno p hq
  exact decide_eq_true (by omega)
/-- A store that is compacted. -/
def compS (S : Sto) (rev : Nat) : Sto := ⟨S.rev, rev, S.ks.filter fun k => !(keepH (S.kh k) rev).isEmpty, fun k => keepH (S.kh k) rev, fun r => if r ≤ rev then [] else S.lg r, S.nth⟩
theorem datS_comp {S : Sto} {rev : Nat} (H : ∀ k, HOk k S.rev (S.kh k)) : datS (compS S rev) = trimD rev (datS S) := by
  unfold datS trimD compS
  rw [List.map_map, List.filter_map]
  have e1 : ∀ k, cutL rev ((S.kh k).map markOf) = (keepH (S.kh k) rev).map markOf := fun k => by
    unfold cutL
    rw [← List.map_drop, keep_drop (H k)]
  have e2 : ((fun p : ByteArray × List Mk => !p.2.isEmpty) ∘ ((fun p : ByteArray × List Mk => (p.1, cutL rev p.2)) ∘ fun k => (k, (S.kh k).map markOf))) = fun k => !(keepH (S.kh k) rev).isEmpty := by
    funext k
    simp only [Function.comp_def, e1]
    cases keepH (S.kh k) rev <;> rfl
  rw [e2]
  refine List.map_congr_left fun k _ => ?_
  simp only [Function.comp_def, e1]
theorem thF_comp {S : Sto} {rev : Nat} (H : ∀ k, HOk k S.rev (S.kh k)) (hr : rev ≤ S.rev) : thF (compS S rev) = thF S := by
  funext k
  unfold thF compS
  dsimp only
  rw [there_keep (H k) (by omega)]
/-- The changes that forget takes away of a key. -/
def goneP (S : Sto) (rev : Int) (p : Int × ByteArray) : Prop := p.1 ≤ rev ∧ p.1 ≠ modOf (atH (S.kh p.2) rev)
instance (S : Sto) (rev : Int) (p : Int × ByteArray) : Decidable (goneP S rev p) := inferInstanceAs (Decidable (_ ∧ _))
theorem chF_comp (S : Sto) (rev : Nat) (p : Int × ByteArray) : chF (compS S rev) p = if goneP S rev p then none else chF S p := by
  unfold chF compS keepH
  dsimp only
  rw [List.find?_filter]
  by_cases hg : goneP S rev p
  · have hg' : p.1 ≤ rev ∧ p.1 ≠ modOf (atH (S.kh p.2) rev) := hg
    rw [if_pos hg, List.find?_eq_none.2]
    · rfl
    · intro q _ hq
      have h1 : decide ((rev : Int) < q.1 ∨ q.1 = modOf (atH (S.kh p.2) rev)) = true ∧ decide (q.1 = p.1) = true := by simpa using hq
      have h2 := of_decide_eq_true h1.1
      have h3 := of_decide_eq_true h1.2
      omega
  · have hg' : ¬ (p.1 ≤ rev ∧ p.1 ≠ modOf (atH (S.kh p.2) rev)) := hg
    rw [if_neg hg]
    congr 2
    funext q
    by_cases h3 : q.1 = p.1
    · have : (rev : Int) < q.1 ∨ q.1 = modOf (atH (S.kh p.2) rev) := by omega
      simp [h3] at this ⊢
      exact this
    · simp [h3]
/-- What lies at or ahead of the last compaction is one put at most. -/
def PastOk (S : Sto) : Prop := ∀ k, keepH (S.kh k) S.past = S.kh k
theorem PastOk.comp {S : Sto} {rev : Nat} (H : ∀ k, HOk k S.rev (S.kh k)) : PastOk (compS S rev) := fun k => keep_keep (H k) rev
theorem comp_mem {S : Sto} {rev : Nat} (h : ∀ k, k ∈ S.ks ↔ S.kh k ≠ []) (k : ByteArray) : k ∈ (compS S rev).ks ↔ (compS S rev).kh k ≠ [] := by
  show k ∈ S.ks.filter (fun k => !(keepH (S.kh k) rev).isEmpty) ↔ keepH (S.kh k) rev ≠ []
  rw [List.mem_filter, h k]
  constructor
  · rintro ⟨_, h2⟩ e
    rw [e] at h2
    cases h2
  · intro hn
    refine ⟨fun e => hn (by rw [e]; rfl), ?_⟩
    cases hq : keepH (S.kh k) rev with
    | nil => exact absurd hq hn
    | cons a l => rfl
end Go.Proofs.YteeflkkoifgcbabGreat
