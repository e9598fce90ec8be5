/- What Compact does. -/
import Derived.Test.YteeflkkoifgcbabGreatCF
import Derived.Test.YteeflkkoifgcbabGreatSC
import Derived.Test.YteeflkkoifgcbabGreatXT
import Derived.Test.YteeflkkoifgcbabGreatMC9
import Derived.Test.YteeflkkoifgcbabGreatGRH
import Derived.Test.YteeflkkoifgcbabGreatMN2
namespace Go.Proofs.YteeflkkoifgcbabGreat
open Go Go.RowKit

/-- The keys that changed in j revisions behind the last compaction. -/
def chg (S : Sto) (j : Nat) : List ByteArray := (List.range j).flatMap fun (i : Nat) => S.lg ((S.past : Int) + 1 + i)
theorem chg_succ (S : Sto) (j : Nat) : chg S (j + 1) = chg S j ++ S.lg ((S.past : Int) + 1 + j) := by
  unfold chg
  rw [List.range_succ, List.flatMap_append]
  simp
theorem chg_le (S : Sto) {i j : Nat} (h : i ≤ j) : (chg S i).length ≤ (chg S j).length := by
  induction j with
  | zero => obtain rfl : i = 0 := by omega
            exact Nat.le_refl _
  | succ j ih =>
    rcases Nat.lt_or_ge i (j + 1) with hlt | hge
    · rw [chg_succ, List.length_append]
      have := ih (by omega)
      omega
    · obtain rfl : i = j + 1 := by omega
      exact Nat.le_refl _
theorem chg_mem {S : Sto} {j : Nat} {k : ByteArray} {r : Int} (h1 : (S.past : Int) < r) (h2 : r ≤ (S.past : Int) + j) (hk : k ∈ S.lg r) : k ∈ chg S j := by
  unfold chg
  rw [List.mem_flatMap]
  refine ⟨(r - S.past - 1).toNat, List.mem_range.2 (by omega), ?_⟩
  have : (S.past : Int) + 1 + ((r - S.past - 1).toNat : Nat) = r := by omega
  rw [this]
  exact hk
/-- The log with j revisions cut. -/
def flJ (S : Sto) (g : Sg) (j : Nat) : Int → Option Value := fun r => if (S.past : Int) < r ∧ r ≤ (S.past : Int) + j then none else g.lv r
theorem flJ_zero (S : Sto) (g : Sg) : flJ S g 0 = g.lv := by
  funext r
  unfold flJ
  rw [if_neg (by omega)]
theorem flJ_at (S : Sto) (g : Sg) (j : Nat) : flJ S g j ((S.past : Int) + 1 + j) = g.lv ((S.past : Int) + 1 + j) := by
  unfold flJ
  rw [if_neg (by omega)]
theorem flJ_succ (S : Sto) (g : Sg) (j : Nat) (r : Int) : flJ S g (j + 1) r = delF (flJ S g j) ((S.past : Int) + 1 + j) r := by
  unfold flJ delF
  dsimp only
  by_cases h : r = (S.past : Int) + 1 + j
  · rw [if_pos h, if_pos (by omega)]
  · rw [if_neg h]
    by_cases h2 : (S.past : Int) < r ∧ r ≤ (S.past : Int) + j
    · rw [if_pos h2, if_pos (by omega)]
    · rw [if_neg h2, if_neg (by omega)]
/-- The changes without what a compaction takes away of these keys. -/
def cF (S : Sto) (rev : Int) (K : List ByteArray) : Int × ByteArray → Option Value := fun p => if hasK K p.2 = true ∧ goneP S rev p then none else chF S p
theorem cF_nil (S : Sto) (rev : Int) : cF S rev [] = chF S := by
  funext p
  unfold cF
  rw [if_neg (fun h => by have := hasK_iff.1 h.1; cases this)]
theorem cF_snoc (S : Sto) (rev : Int) (K : List ByteArray) (key : ByteArray) : fgF S rev key (cF S rev K) (S.kh key).length = cF S rev (K ++ [key]) := by
  funext p
  unfold fgF cF
  rw [List.take_length]
  by_cases hg : goneP S rev p
  · by_cases hk : p.2 = key
    · rw [if_pos (show hasK (K ++ [key]) p.2 = true ∧ goneP S rev p from ⟨hasK_iff.2 (by simp [hk]), hg⟩)]
      by_cases ha : ((S.kh key).any fun q => decide (q.1 = p.1)) = true
      · rw [if_pos ⟨hk, hg, ha⟩]
      · rw [if_neg (fun h => ha h.2.2)]
        by_cases hm : hasK K p.2 = true
        · rw [if_pos ⟨hm, hg⟩]
        · rw [if_neg (fun h => hm h.1)]
          unfold chF
          rw [hk, List.find?_eq_none.2]
          · rfl
          · intro q hq e
            exact ha (List.any_eq_true.2 ⟨q, hq, e⟩)
    · rw [if_neg (fun h => hk h.1)]
      have : hasK (K ++ [key]) p.2 = true ↔ hasK K p.2 = true := by rw [hasK_iff, hasK_iff]; simp [hk]
      by_cases hm : hasK K p.2 = true
      · rw [if_pos ⟨hm, hg⟩, if_pos ⟨this.2 hm, hg⟩]
      · rw [if_neg (fun h => hm h.1), if_neg (fun h => hm (this.1 h.1))]
  · rw [if_neg (fun h => hg h.2.1), if_neg (fun h => hg h.2), if_neg (fun h => hg h.2)]
/-- The log has each key's changes that are not compacted, and none that are. -/
structure LgAll (S : Sto) (g : Sg) : Prop where
  ok : LgOk S g
  all : ∀ k r c, (r, c) ∈ S.kh k → (S.past : Int) < r → k ∈ S.lg r
  none_ : ∀ r, r ≤ (S.past : Int) → g.lv r = none
  past : PastOk S
theorem cF_all {S : Sto} {g : Sg} (L : LgAll S g) {rev : Nat} {m : Nat} (hm : (rev : Int) = S.past + m) {K : List ByteArray} (hK : ∀ k, k ∈ K ↔ k ∈ chg S m) (p : Int × ByteArray) : chF (compS S rev) p = cF S rev K p := by
  rw [chF_comp]
  unfold cF
  by_cases hg : goneP S rev p
  · rw [if_pos hg]
    by_cases hk : hasK K p.2 = true
    · rw [if_pos ⟨hk, hg⟩]
    · rw [if_neg (fun h => hk h.1)]
      have hno : ∀ q ∈ S.kh p.2, q.1 ≤ (S.past : Int) ∨ (rev : Int) < q.1 := fun q hq => by
        rcases Int.lt_or_le (rev : Int) q.1 with h1 | h1
        · exact .inr h1
        · exact .inl (Int.not_lt.1 fun h2 => hk (hasK_iff.2 ((hK _).2 (chg_mem h2 (by omega) (L.all p.2 q.1 q.2 hq h2)))))
      have hsame : keepH (S.kh p.2) rev = S.kh p.2 := keep_same (L.past p.2) (by omega) hno
      unfold chF
      rw [List.find?_eq_none.2]
      · rfl
      · intro q hq e
        rw [← hsame] at hq
        have h1 := of_decide_eq_true (List.mem_filter.1 hq).2
        have h2 : q.1 = p.1 := of_decide_eq_true e
        have h3 : p.1 ≤ rev ∧ p.1 ≠ modOf (atH (S.kh p.2) rev) := hg
        omega
  · rw [if_neg hg, if_neg (fun h => hg h.2)]
theorem src_row {w : World} {v : Value} {ks : List ByteArray} (h : w.ownsRow 0 9 1 v ks.length (strs ks)) : Src Tryz.prog 1 51 v ks.length (strs ks) w := by
  rcases h.2 with ⟨rfl, e⟩ | ⟨g, cap, cur, rfl, _⟩
  · have : ks = [] := List.eq_nil_of_length_eq_zero e
    subst this
    exact Src.ofNil _ Tryz.underlying51 0
  · refine Src.ofSlice _ Tryz.underlying51 ⟨g, 0, none⟩ _ cap _ (by simp) (fun j u hj => ?_) (fun u hu => ?_)
    · exact h.cells (g := g) rfl j u hj
    · obtain ⟨k, _, rfl⟩ := List.mem_map.1 hu
      rfl
/-- A store that was compacted. -/
theorem Cm.done {n : Nat} {w : World} {s : Nat} {S : Sto} {g : Sg} {o : Value} (hst : St n w s S g o) (L : LgAll S g) {rev m : Nat} (hm : (rev : Int) = S.past + m) (hr : rev ≤ S.rev) {K : List ByteArray} (hK : ∀ k, k ∈ K ↔ k ∈ chg S m)
    {w5 w6 : World} {nc' nl' : Nat} {F' : List Nat} (h : Cm n w5 s S g o (cF S rev K) nc' (flJ S g m) nl') (hu : Upd w w5 (fun k => k = g.bc ∨ k = g.bl)) (hx : Xd w6 g.x (trimD rev (datS S)) F') (hs : Step w5 w6 g.Fi F') :
    ∃ g', St n (w6.setCell ⟨s, 1, none⟩ (.int .i64 rev)) s (compS S rev) g' o ∧ KpM w (w6.setCell ⟨s, 1, none⟩ (.int .i64 rev)) s g g' ∧ LgAll (compS S rev) g' := by
  have o1 : s ∉ g.Fi := fun hm => (h.ix.kind _ hm).ne h.blk (by simp) rfl
  have om : ∀ b, b = g.bc ∨ b = g.bl ∨ b = g.bt → b ∉ g.Fi ∧ s ≠ b := fun b hb => ⟨fun hm => (h.offm hb).2.1 b hm rfl, (h.offm hb).1⟩
  have orow : ∀ r v k, flJ S g m r = some v → v.ownBlock = some k → k ∉ g.Fi ∧ k ≠ s := fun r v k hv hk => by
    obtain ⟨_, cc, f, hh⟩ := ownBlock_ge (h.rows r v hv).2 hk
    refine ⟨fun hm => (h.ix.kind _ hm).ne hh (by simp) rfl, fun e => ?_⟩
    rw [e, h.blk] at hh
    cases hh
  have hsl5 : s < w5.heap.size := (Array.getElem?_eq_some_iff.1 h.blk).1
  have hs6 := (hs.upd.block s hsl5 o1).trans h.blk
  have hsl6 := (Array.getElem?_eq_some_iff.1 hs6).1
  have u7 : Upd w6 (w6.setCell ⟨s, 1, none⟩ (.int .i64 rev)) (fun k => k = s) := (Upd.refl w6 (fun k => k = s)).setCell (p := ⟨s, 1, none⟩) (.inr rfl) _
  have hFs : ∀ k ∈ F', ¬ k = s := fun k hk e => by
    subst e
    rcases hs.sub k hk with h1 | h1
    · exact o1 h1
    · omega
  have hsw : s < w.heap.size := hst.lt (.inl rfl)
  have hd := datS_comp (S := S) (rev := rev) hst.hok
  have hflp : ∀ r v, flJ S g m r = some v → (rev : Int) < r ∧ g.lv r = some v := fun r v hv => by
    unfold flJ at hv
    split at hv
    · cases hv
    · rename_i hn
      refine ⟨Int.not_le.1 fun hle => ?_, hv⟩
      have : r ≤ (S.past : Int) := by omega
      rw [L.none_ r this] at hv
      cases hv
  have hlg : ∀ r, (rev : Int) < r → (compS S rev).lg r = S.lg r := fun r hr => if_neg (by omega)
  refine ⟨{ g with Fi := F', lv := flJ S g m, nc := nc', nl := nl' }, ⟨heap_setCell_row hs6 _, ?_, ?_, ?_, ?_, ?_, h.ne, ?_, fun k => (hst.hok k).keep rev, comp_mem hst.mem, fun k hk => hst.sz k (List.mem_filter.1 hk).1, hr⟩, ⟨?_, ?_⟩, ⟨?_, ?_, ?_, PastOk.comp hst.hok⟩⟩
  · rw [hd]; exact hx.upd u7 hFs
  · rw [hd]; exact h.bd.trim rev
  · exact ((h.ch.congr (cF_all L hm hK)).upd hs.upd (om _ (.inl rfl)).1).upd u7 (om _ (.inl rfl)).2.symm
  · exact (h.lg.upd hs.upd (om _ (.inr (.inl rfl))).1).upd u7 (om _ (.inr (.inl rfl))).2.symm
  · rw [thF_comp hst.hok hr]
    exact (h.th.upd hs.upd (om _ (.inr (.inr rfl))).1).upd u7 (om _ (.inr (.inr rfl))).2.symm
  · intro r v hv
    obtain ⟨q1, q2⟩ := h.rows r v hv
    rw [hlg r (hflp r v hv).1]
    exact ⟨q1, ownsRow_upd (ownsRow_upd q2 hs.upd (fun k hk => (orow r v k hv hk).1)) u7 (fun k hk => (orow r v k hv hk).2)⟩
  · have u5 : Upd w w5 (ftS s g) := hu.mono (fun k _ hk => hk.elim (fun e => .inr (.inl e)) (fun e => .inr (.inr (.inl e))))
    have u6 : Upd w w6 (ftS s g) := u5.trans (hs.upd.mono (T := ftS s g) (fun k _ hk => .inr (.inr (.inr (.inr (.inl hk)))))) (fun j _ hg => hg)
    exact u6.trans (u7.mono (T := ftS s g) (fun k _ hk => .inl hk)) (fun j _ hg => hg)
  · rintro k (rfl | rfl | rfl | rfl | hk | ⟨r', v, hv, hk⟩)
    · exact .inl (.inl rfl)
    · exact .inl (.inr (.inl rfl))
    · exact .inl (.inr (.inr (.inl rfl)))
    · exact .inl (.inr (.inr (.inr (.inl rfl))))
    · rcases hs.sub k hk with hk | hk
      · exact .inl (.inr (.inr (.inr (.inr (.inl hk)))))
      · exact .inr (Nat.le_trans hu.size hk)
    · exact .inl (.inr (.inr (.inr (.inr (.inr ⟨r', v, (hflp r' v hv).2, hk⟩)))))
  · intro r h1 h2
    have h1' : (rev : Int) < r := h1
    obtain ⟨⟨v, hv⟩, hks⟩ := L.ok r (by omega) h2
    refine ⟨⟨v, ?_⟩, fun k hk => ?_⟩
    · show flJ S g m r = some v
      unfold flJ
      rw [if_neg (by omega)]
      exact hv
    · rw [hlg r h1'] at hk
      obtain ⟨c, hc⟩ := hks k hk
      exact ⟨c, List.mem_filter.2 ⟨hc, decide_eq_true (.inl h1')⟩⟩
  · intro k r c hc h1
    have h1' : (rev : Int) < r := h1
    rw [hlg r h1']
    exact L.all k r c (List.mem_filter.1 hc).1 (by omega)
  · intro r hr'
    have hr2 : r ≤ (rev : Int) := hr'
    show flJ S g m r = none
    unfold flJ
    split
    · rfl
    · exact L.none_ r (by omega)
end Go.Proofs.YteeflkkoifgcbabGreat
