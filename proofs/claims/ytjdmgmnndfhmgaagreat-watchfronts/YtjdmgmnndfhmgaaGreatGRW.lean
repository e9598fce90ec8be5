/- An index by what it says: its Trim. -/
import Derived.Test.YtjdmgmnndfhmgaaGreatGRJ
import Derived.Test.YtjdmgmnndfhmgaaGreatGRV
import Derived.Test.YtjdmgmnndfhmgaaGreatGRK
import Derived.Test.YtjdmgmnndfhmgaaGreatGRL
import Derived.Test.YtjdmgmnndfhmgaaGreatGRN
import Derived.Test.YtjdmgmnndfhmgaaGreatGRO
namespace Go.Proofs.YtjdmgmnndfhmgaaGreat
open Go Go.RowKit

theorem Bd.trim {n : Nat} {D : Dat} (h : Bd n D) (rev : Int) : Bd n (trimD rev D) := by
  unfold trimD
  refine ⟨Nat.le_trans (List.length_filter_le _ _) (by simpa using h.len), fun p hp => ?_, ?_⟩
  · obtain ⟨h1, h2⟩ := List.mem_filter.1 hp
    obtain ⟨q, hq, rfl⟩ := List.mem_map.1 h1
    obtain ⟨q1, q2, q3⟩ := h.ms q hq
    refine ⟨by simp [cutL]; omega, q2.sublist (List.drop_sublist _ _), ?_⟩
    dsimp only at h2 ⊢
    cases hc : cutL rev q.2 with
    | nil => rw [hc] at h2; simp at h2
    | cons a l => simp
  · refine asc_sublist ((List.filter_sublist).map _) ?_
    rw [List.map_map]
    exact h.asc
theorem trim_xd {w : World} {x : Nat} {D : Dat} {F : List Nat} {n : Nat} (H : Xd w x D F) (hB : Bd n D) (hn : n ≤ 1000000) (rev : Int) : Calls Tryz.prog 56 #[ptr x, .int .i64 rev] w fun e w' => e = .returned (.tuple #[]) ∧ ∃ F', Xd w' x (trimD rev D) F' ∧ Step w w' F F' := by
  obtain ⟨R, h1, rfl⟩ := H
  refine (trim_any h1 (fun r hr => by obtain ⟨q1, q2, _⟩ := hB.ms _ (mem_dat hr); dsimp only at q1 q2; exact ⟨q2, by omega⟩) rev (by have := hB.len; rw [dat_len] at this; omega)).mono ?_
  rintro e w' ⟨rfl, R', F', q1, q2, q3⟩
  exact ⟨rfl, F', ⟨R', q1, q2⟩, q3⟩
end Go.Proofs.YtjdmgmnndfhmgaaGreat
/- What Compact does. -/
namespace Go.Proofs.YtjdmgmnndfhmgaaGreat
open Go Go.RowKit

/-- The keys that changed in j revisions behind the last compaction. -/
def chg (S : Sto) (j : Nat) : List ByteArray := (List.range j).flatMap fun (i : Nat) => S.lg ((S.past : Int) + 1 + i)
theorem chg_succ (S : Sto) (j : Nat) : chg S (j + 1) = chg S j ++ S.lg ((S.past : Int) + 1 + j) := by
  unfold chg
  rw [List.range_succ, List.flatMap_append]
  simp
theorem chg_le (S : Sto) {i j : Nat} (h : i ≤ j) : (chg S i).length ≤ (chg S j).length := by
  induction j with
  | zero => obtain rfl : i = 0 := by omega
            exact Nat.le_refl _
  | succ j ih =>
    rcases Nat.lt_or_ge i (j + 1) with hlt | hge
    · rw [chg_succ, List.length_append]
      have := ih (by omega)
      omega
    · obtain rfl : i = j + 1 := by omega
      exact Nat.le_refl _
theorem chg_mem {S : Sto} {j : Nat} {k : ByteArray} {r : Int} (h1 : (S.past : Int) < r) (h2 : r ≤ (S.past : Int) + j) (hk : k ∈ S.lg r) : k ∈ chg S j := by
  unfold chg
  rw [List.mem_flatMap]
  refine ⟨(r - S.past - 1).toNat, List.mem_range.2 (by omega), ?_⟩
  have : (S.past : Int) + 1 + ((r - S.past - 1).toNat : Nat) = r := by omega
  rw [this]
  exact hk
/-- The log with j revisions cut. -/
def flJ (S : Sto) (g : Sg) (j : Nat) : Int → Option Value := fun r => if (S.past : Int) < r ∧ r ≤ (S.past : Int) + j then none else g.lv r
theorem flJ_zero (S : Sto) (g : Sg) : flJ S g 0 = g.lv := by
  funext r
  unfold flJ
  rw [if_neg (by omega)]
theorem flJ_at (S : Sto) (g : Sg) (j : Nat) : flJ S g j ((S.past : Int) + 1 + j) = g.lv ((S.past : Int) + 1 + j) := by
  unfold flJ
  rw [if_neg (by omega)]
theorem flJ_succ (S : Sto) (g : Sg) (j : Nat) (r : Int) : flJ S g (j + 1) r = delF (flJ S g j) ((S.past : Int) + 1 + j) r := by
  unfold flJ delF
  dsimp only
  by_cases h : r = (S.past : Int) + 1 + j
  · rw [if_pos h, if_pos (by omega)]
  · rw [if_neg h]
    by_cases h2 : (S.past : Int) < r ∧ r ≤ (S.past : Int) + j
    · rw [if_pos h2, if_pos (by omega)]
    · rw [if_neg h2, if_neg (by omega)]
/-- The changes without what a compaction takes away of these keys. -/
def cF (S : Sto) (rev : Int) (K : List ByteArray) : Int × ByteArray → Option Value := fun p => if hasK K p.2 = true ∧ goneP S rev p then none else chF S p
theorem cF_nil (S : Sto) (rev : Int) : cF S rev [] = chF S := by
  funext p
  unfold cF
  rw [if_neg (fun h => by have := hasK_iff.1 h.1; cases this)]
theorem cF_snoc (S : Sto) (rev : Int) (K : List ByteArray) (key : ByteArray) : fgF S rev key (cF S rev K) (S.kh key).length = cF S rev (K ++ [key]) := by
  funext p
  unfold fgF cF
  rw [List.take_length]
  by_cases hg : goneP S rev p
  · by_cases hk : p.2 = key
    · rw [if_pos (show hasK (K ++ [key]) p.2 = true ∧ goneP S rev p from ⟨hasK_iff.2 (by simp [hk]), hg⟩)]
      by_cases ha : ((S.kh key).any fun q => decide (q.1 = p.1)) = true
      · rw [if_pos ⟨hk, hg, ha⟩]
      · rw [if_neg (fun h => ha h.2.2)]
        by_cases hm : hasK K p.2 = true
        · rw [if_pos ⟨hm, hg⟩]
        · rw [if_neg (fun h => hm h.1)]
          unfold chF
          rw [hk, List.find?_eq_none.2]
          · rfl
          · intro q hq e
            exact ha (List.any_eq_true.2 ⟨q, hq, e⟩)
    · rw [if_neg (fun h => hk h.1)]
      have : hasK (K ++ [key]) p.2 = true ↔ hasK K p.2 = true := by rw [hasK_iff, hasK_iff]; simp [hk]
      by_cases hm : hasK K p.2 = true
      · rw [if_pos ⟨hm, hg⟩, if_pos ⟨this.2 hm, hg⟩]
      · rw [if_neg (fun h => hm h.1), if_neg (fun h => hm (this.1 h.1))]
  · rw [if_neg (fun h => hg h.2.1), if_neg (fun h => hg h.2), if_neg (fun h => hg h.2)]
/-- The log has each key's changes that are not compacted, and none that are. -/
structure LgAll (S : Sto) (g : Sg) : Prop where
  ok : LgOk S g
  all : ∀ k r c, (r, c) ∈ S.kh k → (S.past : Int) < r → k ∈ S.lg r
  none_ : ∀ r, r ≤ (S.past : Int) → g.lv r = none
  past : PastOk S
theorem cF_all {S : Sto} {g : Sg} (L : LgAll S g) {rev : Nat} {m : Nat} (hm : (rev : Int) = S.past + m) {K : List ByteArray} (hK : ∀ k, k ∈ K ↔ k ∈ chg S m) (p : Int × ByteArray) : chF (compS S rev) p = cF S rev K p := by
  rw [chF_comp]
  unfold cF
  by_cases hg : goneP S rev p
  · rw [if_pos hg]
    by_cases hk : hasK K p.2 = true
    · rw [if_pos ⟨hk, hg⟩]
    · rw [if_neg (fun h => hk h.1)]
      have hno : ∀ q ∈ S.kh p.2, q.1 ≤ (S.past : Int) ∨ (rev : Int) < q.1 := fun q hq => by
        rcases Int.lt_or_le (rev : Int) q.1 with h1 | h1
        · exact .inr h1
        · exact .inl (Int.not_lt.1 fun h2 => hk (hasK_iff.2 ((hK _).2 (chg_mem h2 (by omega) (L.all p.2 q.1 q.2 hq h2)))))
      have hsame : keepH (S.kh p.2) rev = S.kh p.2 := keep_same (L.past p.2) (by omega) hno
      unfold chF
      rw [List.find?_eq_none.2]
      · rfl
      · intro q hq e
        rw [← hsame] at hq
        have h1 := of_decide_eq_true (List.mem_filter.1 hq).2
        have h2 : q.1 = p.1 := of_decide_eq_true e
        have h3 : p.1 ≤ rev ∧ p.1 ≠ modOf (atH (S.kh p.2) rev) := hg
        omega
  · rw [if_neg hg, if_neg (fun h => hg h.2)]
theorem src_row {w : World} {v : Value} {ks : List ByteArray} (h : w.ownsRow 0 9 1 v ks.length (strs ks)) : Src Tryz.prog 1 37 v ks.length (strs ks) w := by
  rcases h.2 with ⟨rfl, e⟩ | ⟨g, cap, cur, rfl, _⟩
  · have : ks = [] := List.eq_nil_of_length_eq_zero e
    subst this
    exact Src.ofNil _ Tryz.underlying37 0
  · refine Src.ofSlice _ Tryz.underlying37 ⟨g, 0, none⟩ _ cap _ (by simp) (fun j u hj => ?_) (fun u hu => ?_)
    · exact h.cells (g := g) rfl j u hj
    · obtain ⟨k, _, rfl⟩ := List.mem_map.1 hu
      rfl
/-- A store that was compacted. -/
theorem Cm.done {n : Nat} {w : World} {s : Nat} {S : Sto} {g : Sg} {o : Value} (hst : St n w s S g o) (L : LgAll S g) {rev m : Nat} (hm : (rev : Int) = S.past + m) (hr : rev ≤ S.rev) {K : List ByteArray} (hK : ∀ k, k ∈ K ↔ k ∈ chg S m)
    {w5 w6 : World} {nc' nl' : Nat} {F' : List Nat} (h : Cm n w5 s S g o (cF S rev K) nc' (flJ S g m) nl') (hu : Upd w w5 (fun k => k = g.bc ∨ k = g.bl)) (hx : Xd w6 g.x (trimD rev (datS S)) F') (hs : Step w5 w6 g.Fi F') :
    ∃ g', St n (w6.setCell ⟨s, 1, none⟩ (.int .i64 rev)) s (compS S rev) g' o ∧ KpM w (w6.setCell ⟨s, 1, none⟩ (.int .i64 rev)) s g g' ∧ LgAll (compS S rev) g' := by
  have o1 : s ∉ g.Fi := fun hm => (h.ix.kind _ hm).ne h.blk (by simp) rfl
  have om : ∀ b, b = g.bc ∨ b = g.bl ∨ b = g.bt → b ∉ g.Fi ∧ s ≠ b := fun b hb => ⟨fun hm => (h.offm hb).2.1 b hm rfl, (h.offm hb).1⟩
  have orow : ∀ r v k, flJ S g m r = some v → v.ownBlock = some k → k ∉ g.Fi ∧ k ≠ s := fun r v k hv hk => by
    obtain ⟨_, cc, f, hh⟩ := ownBlock_ge (h.rows r v hv).2 hk
    refine ⟨fun hm => (h.ix.kind _ hm).ne hh (by simp) rfl, fun e => ?_⟩
    rw [e, h.blk] at hh
    cases hh
  have hsl5 : s < w5.heap.size := (Array.getElem?_eq_some_iff.1 h.blk).1
  have hs6 := (hs.upd.block s hsl5 o1).trans h.blk
  have hsl6 := (Array.getElem?_eq_some_iff.1 hs6).1
  have u7 : Upd w6 (w6.setCell ⟨s, 1, none⟩ (.int .i64 rev)) (fun k => k = s) := (Upd.refl w6 (fun k => k = s)).setCell (p := ⟨s, 1, none⟩) (.inr rfl) _
  have hFs : ∀ k ∈ F', ¬ k = s := fun k hk e => by
    subst e
    rcases hs.sub k hk with h1 | h1
    · exact o1 h1
    · omega
  have hsw : s < w.heap.size := hst.lt (.inl rfl)
  have hd := datS_comp (S := S) (rev := rev) hst.hok
  have hflp : ∀ r v, flJ S g m r = some v → (rev : Int) < r ∧ g.lv r = some v := fun r v hv => by
    unfold flJ at hv
    split at hv
    · cases hv
    · rename_i hn
      refine ⟨Int.not_le.1 fun hle => ?_, hv⟩
      have : r ≤ (S.past : Int) := by omega
      rw [L.none_ r this] at hv
      cases hv
  have hlg : ∀ r, (rev : Int) < r → (compS S rev).lg r = S.lg r := fun r hr => if_neg (by omega)
  refine ⟨{ g with Fi := F', lv := flJ S g m, nc := nc', nl := nl' }, ⟨heap_setCell_row hs6 _, ?_, ?_, ?_, ?_, ?_, h.ne, ?_, fun k => (hst.hok k).keep rev, comp_mem hst.mem, fun k hk => hst.sz k (List.mem_filter.1 hk).1, hr⟩, ⟨?_, ?_⟩, ⟨?_, ?_, ?_, PastOk.comp hst.hok⟩⟩
  · rw [hd]; exact hx.upd u7 hFs
  · rw [hd]; exact h.bd.trim rev
  · exact ((h.ch.congr (cF_all L hm hK)).upd hs.upd (om _ (.inl rfl)).1).upd u7 (om _ (.inl rfl)).2.symm
  · exact (h.lg.upd hs.upd (om _ (.inr (.inl rfl))).1).upd u7 (om _ (.inr (.inl rfl))).2.symm
  · rw [thF_comp hst.hok hr]
    exact (h.th.upd hs.upd (om _ (.inr (.inr rfl))).1).upd u7 (om _ (.inr (.inr rfl))).2.symm
  · intro r v hv
    obtain ⟨q1, q2⟩ := h.rows r v hv
    rw [hlg r (hflp r v hv).1]
    exact ⟨q1, ownsRow_upd (ownsRow_upd q2 hs.upd (fun k hk => (orow r v k hv hk).1)) u7 (fun k hk => (orow r v k hv hk).2)⟩
  · have u5 : Upd w w5 (ftS s g) := hu.mono (fun k _ hk => hk.elim (fun e => .inr (.inl e)) (fun e => .inr (.inr (.inl e))))
    have u6 : Upd w w6 (ftS s g) := u5.trans (hs.upd.mono (T := ftS s g) (fun k _ hk => .inr (.inr (.inr (.inr (.inl hk)))))) (fun j _ hg => hg)
    exact u6.trans (u7.mono (T := ftS s g) (fun k _ hk => .inl hk)) (fun j _ hg => hg)
  · rintro k (rfl | rfl | rfl | rfl | hk | ⟨r', v, hv, hk⟩)
    · exact .inl (.inl rfl)
    · exact .inl (.inr (.inl rfl))
    · exact .inl (.inr (.inr (.inl rfl)))
    · exact .inl (.inr (.inr (.inr (.inl rfl))))
    · rcases hs.sub k hk with hk | hk
      · exact .inl (.inr (.inr (.inr (.inr (.inl hk)))))
      · exact .inr (Nat.le_trans hu.size hk)
    · exact .inl (.inr (.inr (.inr (.inr (.inr ⟨r', v, (hflp r' v hv).2, hk⟩)))))
  · intro r h1 h2
    have h1' : (rev : Int) < r := h1
    obtain ⟨⟨v, hv⟩, hks⟩ := L.ok r (by omega) h2
    refine ⟨⟨v, ?_⟩, fun k hk => ?_⟩
    · show flJ S g m r = some v
      unfold flJ
      rw [if_neg (by omega)]
      exact hv
    · rw [hlg r h1'] at hk
      obtain ⟨c, hc⟩ := hks k hk
      exact ⟨c, List.mem_filter.2 ⟨hc, decide_eq_true (.inl h1')⟩⟩
  · intro k r c hc h1
    have h1' : (rev : Int) < r := h1
    rw [hlg r h1']
    exact L.all k r c (List.mem_filter.1 hc).1 (by omega)
  · intro r hr'
    have hr2 : r ≤ (rev : Int) := hr'
    show flJ S g m r = none
    unfold flJ
    split
    · rfl
    · exact L.none_ r (by omega)
end Go.Proofs.YtjdmgmnndfhmgaaGreat
/- Compact: the walk. -/
namespace Go.Proofs.YtjdmgmnndfhmgaaGreat
open Go Go.RowKit

set_option maxRecDepth 100000 in
theorem compact_arg (w : World) (s : Nat) (rev : Int) (hr : rev < 1) : Calls Tryz.prog 28 #[ptr s, .int .i64 rev] w fun e w' => e = .returned (.int .i64 1) ∧ w' = w := by
  go_enter Tryz.func28, Tryz.ntmps28
  go_wp2
  go_ret
  exact ⟨rfl, rfl⟩
section
variable {n : Nat} {w : World} {s : Nat} {S : Sto} {g : Sg} {o : Value} (h : St n w s S g o)
include h
set_option maxRecDepth 100000 in
theorem compact_future (rev : Int) (hr : ¬ rev < 1) (hf : (S.rev : Int) < rev) : Calls Tryz.prog 28 #[ptr s, .int .i64 rev] w fun e w' => e = .returned (.int .i64 17) ∧ w' = w := by
  obtain ⟨c0, -⟩ := h.cells
  clear h
  go_enter Tryz.func28, Tryz.ntmps28
  go_wp2
  go_ret
  exact ⟨rfl, rfl⟩
set_option maxRecDepth 100000 in
theorem compact_past (rev : Int) (hr : ¬ rev < 1) (hf : ¬ (S.rev : Int) < rev) (hp : rev ≤ S.past) : Calls Tryz.prog 28 #[ptr s, .int .i64 rev] w fun e w' => e = .returned (.int .i64 16) ∧ w' = w := by
  obtain ⟨c0, c1, -⟩ := h.cells
  clear h
  go_enter Tryz.func28, Tryz.ntmps28
  go_wp2
  go_ret
  exact ⟨rfl, rfl⟩
set_option maxRecDepth 100000 in
set_option maxHeartbeats 4000000 in
theorem compact_any (L : LgAll S g) (hn : n ≤ 1000000) (rev m : Nat) (hm : (rev : Int) = S.past + m) (hm0 : 0 < m) (hrs : rev ≤ S.rev) (hS : S.rev ≤ 1000000000) (hlen : (chg S m).length ≤ 1000000) :
    Calls Tryz.prog 28 #[ptr s, .int .i64 rev] w fun e w' => e = .returned (.int .i64 0) ∧ ∃ g', St n w' s (compS S rev) g' o ∧ KpM w w' s g g' ∧ LgAll (compS S rev) g' := by
  obtain ⟨c0, c1, -⟩ := h.cells
  have H := Hid.mk'' h
  have HL := Hid.mk'' L
  have hr : ¬ (rev : Int) < 1 := by omega
  have hf : ¬ (S.rev : Int) < rev := by omega
  have hp : ¬ (rev : Int) ≤ S.past := by omega
  have hpm : (S.past : Int) ≤ 1000000000 := by omega
  have HM := Hid.mk'' hm
  have HBL : Hid (g.bl < w.heap.size ∧ ∀ k, ftS s g k → k < w.heap.size) := ⟨h.lg.lt, fun k hk => h.lt hk⟩
  have hrm : (rev : Int) ≤ 1000000000 := by omega
  clear h L hm
  obtain ⟨t9, hti, hz0, hz1, hz2⟩ := info_parts info9
  go_enter Tryz.func28, Tryz.ntmps28
  go_wp2
  go_loopg [5, 6] (m + 1) (fun kx s5 s6 wr => ∃ (j : Nat) (p : Option Addr) (c : Nat), s5 = .slice p (chg S j).length c ∧ s6 = .int .i64 ((S.past : Int) + 1 + j) ∧ kx + j = m + 1 ∧ j ≤ m ∧ Hid (∃ nl', Cm n wr s S g o (chF S) g.nc (flJ S g j) nl' ∧ wr.ownsRow w.heap.size 9 1 (.slice p (chg S j).length c) (chg S j).length (strs (chg S j)) ∧ Upd w wr (fun k => k = g.bl)))
  case atStart => exact ⟨0, none, 0, rfl, by simp, rfl, Nat.zero_le _, g.nl, by rw [flJ_zero]; exact H.out.cm, World.ownsRow_nil _ _ _ _, Upd.refl _ _⟩
  case round =>
    obtain ⟨j, p, c, rfl, rfl, hkx, hj, HI⟩ := hrel
    by_cases hlt : j < m
    · have hle : (S.past : Int) + 1 + j ≤ rev := by have := HM.out; omega
      obtain ⟨⟨v, hv⟩, -⟩ := HL.out.ok ((S.past : Int) + 1 + j) (by omega) (by omega)
      obtain ⟨nl', hcm, hown, hu⟩ := HI.out
      have hfl : flJ S g j ((S.past : Int) + 1 + j) = some v := (flJ_at S g j).trans hv
      obtain ⟨-, hrow⟩ := hcm.rows _ v hfl
      obtain ⟨vp, vc, rfl⟩ := owns_formB0 hrow
      have hsrc := src_row hrow
      have hlk : (Instr.lookup 71 (.map (some g.bl)) (.int .i64 ((S.past : Int) + 1 + j)) false).run Tryz.prog wr = .ok (.slice vp (S.lg ((S.past : Int) + 1 + j)).length vc) wr := by
        have := hcm.lg.look law61 Tryz.underlying71 (zero66 _) ((S.past : Int) + 1 + j) false
        rw [hfl] at this
        exact this
      have c4 := hcm.cells.2.2.2.2.1
      have hsu := chg_succ S j
      have hle2 := chg_le S (show j + 1 ≤ m by omega)
      rw [hsu, List.length_append] at hle2
      have hgr : w.heap.size ≤ wr.heap.size := hu.size
      have HFIN : Hid (∀ v' w2, w2.ownsRow w.heap.size 9 1 v' ((chg S j).length + (S.lg ((S.past : Int) + 1 + j)).length) (strs (chg S j) ++ strs (S.lg ((S.past : Int) + 1 + j))) → Upd wr w2 (fun k => some k = (Value.slice p (chg S j).length c).ownBlock) →
          w2.cell? ⟨s, 4, none⟩ = some (.map (some g.bl)) ∧ ∃ w3, (Builtin.delete_ #[71, 3] 0 #[.map (some g.bl), .int .i64 ((S.past : Int) + 1 + j)]).run Tryz.prog w2 = .ok (.tuple #[]) w3 ∧ Hid (∃ nl', Cm n w3 s S g o (chF S) g.nc (flJ S g (j + 1)) nl' ∧ w3.ownsRow w.heap.size 9 1 v' (chg S (j + 1)).length (strs (chg S (j + 1))) ∧ Upd w w3 (fun k => k = g.bl))) := fun v' w2 q1 q2 => by
        have hc2 := hcm.upd q2 (fun k hk e => by
          have h1 := HBL.out.2 k hk
          have h2 := (hown.lt k e.symm).1
          omega)
        obtain ⟨w3, hup, hm3, hu3⟩ := hc2.lg.del law61 Tryz.underlying71 ((S.past : Int) + 1 + j) 0
        refine ⟨hc2.cells.2.2.2.2.1, w3, hup, _, hc2.setl (hm3.congr (flJ_succ S g j)) (fun r v hv => ?_) hu3, ?_, ?_⟩
        · rw [flJ_succ] at hv
          unfold delF at hv
          split at hv
          · cases hv
          · exact hv
        · have := ownsRow_upd q1 hu3 (fun k hk e => by
            have h1 := HBL.out.1
            have h2 := (q1.lt k hk).1
            omega)
          rw [hsu, List.length_append]
          show World.ownsRow _ _ _ _ _ _ (List.map _ _)
          rw [List.map_append]
          exact this
        · have u2 : Upd w w2 (fun k => k = g.bl) := hu.trans (q2.mono (T := fun k => k = g.bl ∨ w.heap.size ≤ k) (fun k _ e => .inr (hown.lt k e.symm).1)) (fun j hj hg => hg.elim id (fun h => absurd hj (by omega)))
          exact u2.trans hu3 (fun _ _ e => e)
      have HSU := Hid.mk'' hsu
      obtain ⟨r, hrr⟩ : ∃ r, r = (S.past : Int) + 1 + j := ⟨_, rfl⟩
      rw [← hrr] at hlk hsrc hle HFIN hle2 ⊢
      have hrb : 1 ≤ r ∧ r ≤ 1000000000 := by omega
      have HRR := Hid.mk'' hrr
      have HSU' : Hid ((chg S (j + 1)).length = (chg S j).length + (S.lg r).length) := by show _ = _; rw [hsu, List.length_append, hrr]
      clear hrow hcm hu hv hfl hsu hrr HI
      obtain ⟨A, hA⟩ : ∃ A, A = chg S j := ⟨_, rfl⟩
      obtain ⟨B, hB⟩ : ∃ B, B = S.lg r := ⟨_, rfl⟩
      rw [← hA] at hown HFIN hle2 HSU' ⊢
      rw [← hB] at hsrc hlk HFIN hle2 HSU'
      clear hA hB
      go_upto_region 12 with (at_builtin; refine wpList_appS _ rfl (.tmp 36) (.tmp 42) 37 37 rfl w.heap.size 9 t9 _ 1 Tryz.underlying37 hti hz0 hz1 rfl (by rw [hz2]; decide) _ A.length (strs A) rfl hown _ rfl B.length (strs B) hsrc (by omega) hgr ?_; intro v' w2 q1 q2 q3 q4; clear q3 q4)
      obtain ⟨k4, w3, hdel, HF3⟩ := HFIN.out v' w2 q1 q2
      obtain ⟨np, nc, hnv⟩ := owns_formB0 q1
      subst hnv
      clear q1 q2 HFIN hsrc hlk hown c4
      have hrw : IntKind.i64.wrap (r + 1) = r + 1 := by rw [IntKind.wrap_i64]; omega
      go_wp2
      go_roundg (m - j)
      case measure => omega
      case rel => exact ⟨j + 1, np, nc, by rw [HSU'.out], by have := HRR.out; congr 1; omega, by omega, by omega, by have := HF3; rw [← HSU'.out] at this; exact this⟩
    · obtain rfl : j = m := by omega
      have hle : ¬ (S.past : Int) + 1 + j ≤ rev := by have := HM.out; omega
      obtain ⟨nl', hcm, hown, hu⟩ := HI.out
      have hsort := sort_row wr w.heap.size p c (chg S j) hown hlen
      have HCM := Hid.mk'' hcm
      have HU := Hid.mk'' hu
      have hOL : Hid (∀ k, some k = (Value.slice p (chg S j).length c).ownBlock → w.heap.size ≤ k) := fun k e => (hown.lt k e.symm).1
      clear hcm hu HI hown
      obtain ⟨A, hA⟩ : ∃ A, A = chg S j := ⟨_, rfl⟩
      rw [← hA] at hsort hlen hOL ⊢
      have HA := Hid.mk'' hA
      clear hA
      go_upto_region 14 with (go_at_call 53; refine hsort.mono ?_; rintro e w2 ⟨rfl, A', hAl, hAm, hown2, hu2⟩)
      have hcomp := comp_row w2 w.heap.size p c A' (by rw [hAl]; exact hown2) (by omega)
      rw [hAl] at hcomp
      have HAM := Hid.mk'' hAm
      have HU2 := Hid.mk'' hu2
      clear hown2 hAm hu2 hsort
      go_upto_region 15 with (go_at_call 54; refine hcomp.mono ?_; rintro e w3 ⟨K, hKl, hKm, rfl, hKc, hu3⟩)
      have hbig : ∀ k, ftS s g k → ¬ some k = (Value.slice p A.length c).ownBlock := fun k hk e => by
        have h1 := HBL.out.2 k hk
        have h2 := hOL.out k e
        omega
      have H3 : Hid (Cm n w3 s S g o (chF S) g.nc (flJ S g j) nl') := (HCM.out.upd HU2.out hbig).upd hu3 hbig
      have U3 : Hid (Upd w w3 (fun k => k = g.bc ∨ k = g.bl)) := by
        have e1 : Upd w wr (fun k => k = g.bc ∨ k = g.bl) := HU.out.mono (fun k _ e => .inr e)
        have e2 : Upd w w2 (fun k => k = g.bc ∨ k = g.bl) := e1.trans (HU2.out.mono (T := fun k => (k = g.bc ∨ k = g.bl) ∨ w.heap.size ≤ k) (fun k _ e => .inr (hOL.out k e))) (fun j hj hg => hg.elim id (fun h => absurd hj (by omega)))
        exact e2.trans (hu3.mono (T := fun k => (k = g.bc ∨ k = g.bl) ∨ w.heap.size ≤ k) (fun k _ e => .inr (hOL.out k e))) (fun j hj hg => hg.elim id (fun h => absurd hj (by omega)))
      have HK : Hid (∀ k, k ∈ K ↔ k ∈ chg S j) := fun k => by rw [hKm k, HAM.out k, HA.out]
      have HKC : Hid (∀ W, Upd w3 W (fun k => k = g.bc) → ∀ i k, K[i]? = some k → ∃ gg, p = some ⟨gg, 0, none⟩ ∧ W.cell? ⟨gg, i, none⟩ = some (.string k)) := fun W hu i k hi => by
        obtain ⟨gg, e1, e2, e3⟩ := hKc i k hi
        have hgl := World.block_lt_of_cell? _ _ e3
        have hb := HBL.out.2 g.bc (.inr (.inl rfl))
        exact ⟨gg, e1, (hu.cell (p := ⟨gg, i, none⟩) hgl (fun e : gg = g.bc => by omega)).trans e3⟩
      have hKn : K.length ≤ 1000000 := by omega
      clear hKc hKm hu3 HU2 HAM HCM HU hcomp hbig hOL hKl hAl
      go_loopg [54] (K.length + 1) (fun kx s54 wq => ∃ i : Nat, s54 = .int .i64 i ∧ kx + i = K.length + 1 ∧ i ≤ K.length ∧ Hid (∃ nc', Cm n wq s S g o (cF S rev (K.take i)) nc' (flJ S g j) nl' ∧ Upd w3 wq (fun k => k = g.bc)))
      case atStart => exact ⟨0, rfl, rfl, Nat.zero_le _, g.nc, by rw [List.take_zero, cF_nil]; exact H3.out, Upd.refl _ _⟩
      case round =>
        obtain ⟨i, rfl, hkx2, hi, HJ⟩ := hrel
        obtain ⟨nc', hcq, huq⟩ := HJ.out
        by_cases hlt2 : i < K.length
        · obtain ⟨k, hk⟩ : ∃ k, K[i]? = some k := ⟨_, List.getElem?_eq_getElem hlt2⟩
          obtain ⟨gg, rfl, hcell⟩ := HKC.out _ huq i k hk
          have hfg := forget_any hcq hn k rev
          have htk : K.take (i + 1) = K.take i ++ [k] := by rw [List.take_add_one, hk]; rfl
          rw [cF_snoc, ← htk] at hfg
          have HUQ := Hid.mk'' huq
          clear hcq huq HJ hk htk HKC
          go_wp2_with (go_at_call 55; refine hfg.mono ?_; rintro e w5 ⟨rfl, nc5, hc5, hu5⟩)
          go_roundg (K.length - i)
          case measure => omega
          case rel => exact ⟨i + 1, rfl, by omega, by omega, nc5, hc5, HUQ.out.trans hu5 (fun _ _ e => e)⟩
        · obtain rfl : i = K.length := by omega
          rw [List.take_length] at hcq
          have htrim := trim_xd hcq.ix hcq.bd hn rev
          have c2 := hcq.cells.2.2.1
          have U5 : Hid (Upd w wr (fun k => k = g.bc ∨ k = g.bl)) := U3.out.trans (huq.mono (T := fun k => k = g.bc ∨ k = g.bl) (fun k _ e => .inl e)) (fun _ _ e => e)
          have HFIN : Hid (∀ w6 F', Xd w6 g.x (trimD rev (datS S)) F' → Step wr w6 g.Fi F' → w6.heap[s]? = some (.cells #[.int .i64 S.rev, .int .i64 S.past, ptr g.x, .map (some g.bc), .map (some g.bl), .map (some g.bt), o] 74 (0, 0)) ∧ ∃ g', St n (w6.setCell ⟨s, 1, none⟩ (.int .i64 rev)) s (compS S rev) g' o ∧ KpM w (w6.setCell ⟨s, 1, none⟩ (.int .i64 rev)) s g g' ∧ LgAll (compS S rev) g') := fun w6 F' hx hs =>
            ⟨(hs.upd.block s (Array.getElem?_eq_some_iff.1 hcq.blk).1 (fun hm => (hcq.ix.kind _ hm).ne hcq.blk (by simp) rfl)).trans hcq.blk, Cm.done H.out HL.out HM.out hrs HK.out hcq U5.out hx hs⟩
          clear hcq huq HJ HKC
          go_upto_region 20 with (go_at_call 56; refine htrim.mono ?_; rintro e w6 ⟨rfl, F', hx6, hs6⟩)
          obtain ⟨hblk, HF⟩ := HFIN.out w6 F' hx6 hs6
          have HF' := Hid.mk'' HF
          clear HF hx6 hs6 HFIN htrim
          have k1 : w6.cell? ⟨s, 1, none⟩ = some (.int .i64 S.past) := cell_of_row _ _ _ _ _ _ hblk
          have f1 := frozen_of_row w6 s 1 _ _ hblk
          clear hblk
          go_wp2
          go_ret
          exact ⟨rfl, HF'.out⟩
end
end Go.Proofs.YtjdmgmnndfhmgaaGreat
/- The log of a store of single puts. -/
namespace Go.Proofs.YtjdmgmnndfhmgaaGreat
open Go Go.RowKit

theorem keep_snoc {h : Hs} {past r : Int} {x : Option KVd} (hr : past < r) : keepH (h ++ [(r, x)]) past = keepH h past ++ [(r, x)] := by
  unfold keepH
  rw [atH_snoc_lt hr, List.filter_append]
  congr 1
  rw [List.filter_cons, if_pos (decide_eq_true (.inl hr))]
  rfl
theorem LgAll.lay {S : Sto} {g g' : Sg} {v : Value} (L : LgAll S g) (hp : S.past ≤ S.rev) (hok : ∀ j, HOk j S.rev (S.kh j)) (k : ByteArray) (x : Option KVd) (hlv : g'.lv = setF g.lv ((S.rev : Int) + 1) v) : LgAll (layS (nextS S [k]) ((S.rev : Int) + 1) k x) g' := by
  have hsame : (layS (nextS S [k]) ((S.rev : Int) + 1) k x).kh k = S.kh k ++ [((S.rev : Int) + 1, x)] := layS_same _ _ _ _
  have hother : ∀ j, ¬ j = k → (layS (nextS S [k]) ((S.rev : Int) + 1) k x).kh j = S.kh j := fun j hj => layS_other _ _ _ hj
  have hlg : ∀ r, (layS (nextS S [k]) ((S.rev : Int) + 1) k x).lg r = if r = (S.rev : Int) + 1 then [k] else S.lg r := fun r => by
    show (nextS S [k]).lg r = _
    unfold nextS
    rfl
  have hmem : ∀ j p, p ∈ S.kh j → p ∈ (layS (nextS S [k]) ((S.rev : Int) + 1) k x).kh j := fun j p hm => by
    by_cases e : j = k
    · subst e; rw [hsame]; exact List.mem_append_left _ hm
    · rw [hother j e]; exact hm
  refine ⟨fun r h1 h2 => ?_, fun j r c hc h1 => ?_, fun r hr => ?_, fun j => ?_⟩
  · have h1' : (S.past : Int) < r := h1
    have h2' : r ≤ ((S.rev + 1 : Nat) : Int) := h2
    rw [hlv, hlg]
    by_cases e : r = (S.rev : Int) + 1
    · subst e
      refine ⟨⟨v, setF_same _ _ _⟩, fun j hj => ?_⟩
      rw [if_pos rfl] at hj
      obtain rfl : j = k := by simpa using hj
      exact ⟨x, by rw [hsame]; simp⟩
    · obtain ⟨⟨u, hu⟩, hks⟩ := L.ok r h1' (by omega)
      refine ⟨⟨u, by rw [setF_other _ _ e]; exact hu⟩, fun j hj => ?_⟩
      rw [if_neg e] at hj
      obtain ⟨c, hc⟩ := hks j hj
      exact ⟨c, hmem j _ hc⟩
  · have h1' : (S.past : Int) < r := h1
    rw [hlg]
    by_cases e : j = k
    · subst e
      rw [hsame] at hc
      rcases List.mem_append.1 hc with hc | hc
      · by_cases er : r = (S.rev : Int) + 1
        · rw [if_pos er]; simp
        · rw [if_neg er]; exact L.all j r c hc h1'
      · have er : r = (S.rev : Int) + 1 := by
          have : (r, c) = ((S.rev : Int) + 1, x) := by simpa using hc
          exact congrArg Prod.fst this
        rw [if_pos er]; simp
    · rw [hother j e] at hc
      have er : ¬ r = (S.rev : Int) + 1 := fun er => by have := (hok j).pos _ hc; dsimp only at this; omega
      rw [if_neg er]
      exact L.all j r c hc h1'
  · have hr' : r ≤ (S.past : Int) := hr
    rw [hlv, setF_other _ _ (by omega)]
    exact L.none_ r hr'
  · show keepH _ (S.past : Int) = _
    by_cases e : j = k
    · subst e
      rw [hsame, keep_snoc (by omega)]
      have := L.past j
      rw [this]
    · rw [hother j e]
      exact L.past j
set_option maxRecDepth 100000 in
set_option maxHeartbeats 2000000 in
theorem new_lg (w : World) : Calls Tryz.prog 7 #[] w fun e w' => ∃ s g, e = .returned (ptr s) ∧ St 0 w' s noS g (.pointer none) ∧ Below w.heap.size w w' ∧ (∀ k, ftS s g k → w.heap.size ≤ k) ∧ ∀ r, g.lv r = none := by
  have hmm := @run_makeMap Tryz.prog
  have hx := new_xd w
  go_enter Tryz.func7, Tryz.ntmps7
  go_wp2_with (go_at_call 35; refine hx.mono ?_; rintro e w1 ⟨rfl, hx1, hb1, hs1⟩)
  go_ret
  obtain ⟨m1, hm1⟩ : ∃ m1, m1 = w1.alloc (.map #[] 0) := ⟨_, rfl⟩
  obtain ⟨m2, hm2⟩ : ∃ m2, m2 = m1.alloc (.map #[] 0) := ⟨_, rfl⟩
  obtain ⟨m3, hm3⟩ : ∃ m3, m3 = m2.alloc (.map #[] 0) := ⟨_, rfl⟩
  obtain ⟨m4, hm4⟩ : ∃ m4, m4 = m3.alloc (.cells #[.int .i64 0, .int .i64 0, ptr w.heap.size, .map (some (w.heap.size + 1)), .map (some (w.heap.size + 1 + 1)), .map (some (w.heap.size + 1 + 1 + 1)), .pointer none] 74) := ⟨_, rfl⟩
  rw [← hm1, ← hm2, ← hm3, ← hm4]
  have z1 : m1.heap.size = w.heap.size + 2 := by rw [hm1]; simp; omega
  have z2 : m2.heap.size = w.heap.size + 3 := by rw [hm2]; simp; omega
  have z3 : m3.heap.size = w.heap.size + 4 := by rw [hm3]; simp; omega
  have b1 : Below w1.heap.size w1 m1 := by rw [hm1]; exact (Below.refl _ _).alloc (Nat.le_refl _) _
  have b2 : Below m1.heap.size m1 m2 := by rw [hm2]; exact (Below.refl _ _).alloc (Nat.le_refl _) _
  have b3 : Below m2.heap.size m2 m3 := by rw [hm3]; exact (Below.refl _ _).alloc (Nat.le_refl _) _
  have b4 : Below m3.heap.size m3 m4 := by rw [hm4]; exact (Below.refl _ _).alloc (Nat.le_refl _) _
  have b34 := b3.trans (b4.mono b3.size)
  have b24 := b2.trans (b34.mono b2.size)
  have b14 := b1.trans (b24.mono b1.size)
  have f1 : MapF m1 encP w1.heap.size (fun _ => none) 0 := by rw [hm1]; exact MapF.made w1 encP
  have f2 : MapF m2 encI m1.heap.size (fun _ => none) 0 := by rw [hm2]; exact MapF.made m1 encI
  have f3 : MapF m3 encB m2.heap.size (fun _ => none) 0 := by rw [hm3]; exact MapF.made m2 encB
  have r4 : m4.heap[m3.heap.size]? = some (.cells #[.int .i64 0, .int .i64 0, ptr w.heap.size, .map (some (w.heap.size + 1)), .map (some (w.heap.size + 1 + 1)), .map (some (w.heap.size + 1 + 1 + 1)), .pointer none] 74 (0, 0)) := by rw [hm4]; exact row_alloc m3 _ _
  rw [hs1] at f1
  rw [z1] at f2
  rw [z2] at f3
  rw [z3] at r4
  refine ⟨w.heap.size + 4, ⟨w.heap.size, w.heap.size + 1, w.heap.size + 2, w.heap.size + 3, [w.heap.size], fun _ => none, 0, 0⟩, rfl, ⟨r4, hx1.below b14, Bd.nil, (f1.below b24).congr (fun _ => rfl), (f2.below b34).congr (fun _ => rfl), (f3.below b4).congr (fun _ => rfl), by dsimp only; omega, fun r v hv => (by cases hv), fun k => HOk.nil k _, fun k => (by simp [noS]), fun k hk => (by cases hk), Nat.le_refl _⟩, hb1.trans (b14.mono (by omega)), ?_, fun _ => rfl⟩
  rintro k (rfl | rfl | rfl | rfl | hk | ⟨r, v, hv, _⟩)
  · omega
  · dsimp only; omega
  · dsimp only; omega
  · dsimp only; omega
  · have : k = w.heap.size := by simpa using hk
    omega
  · cases hv
end Go.Proofs.YtjdmgmnndfhmgaaGreat
