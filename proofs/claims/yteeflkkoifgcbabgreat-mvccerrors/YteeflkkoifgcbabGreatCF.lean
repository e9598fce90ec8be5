/- What forget does: the changes of a key that a compaction takes away. -/
import Derived.Test.YteeflkkoifgcbabGreatCM
import Derived.Test.YteeflkkoifgcbabGreatXQ
import Derived.Deep.LoopGhost
import Derived.Deep.RegionHeldLaw
namespace Go.Proofs.YteeflkkoifgcbabGreat
open Go Go.RowKit

/-- The changes while forget goes over a key's marks. -/
def fgF (S : Sto) (rev : Int) (key : ByteArray) (fc : Int × ByteArray → Option Value) (j : Nat) : Int × ByteArray → Option Value :=
  fun p => if p.2 = key ∧ goneP S rev p ∧ ((S.kh key).take j).any (fun q => decide (q.1 = p.1)) = true then none else fc p
theorem fgF_zero (S : Sto) (rev : Int) (key : ByteArray) (fc : Int × ByteArray → Option Value) : fgF S rev key fc 0 = fc := by
  funext p
  unfold fgF
  rw [if_neg]
  simp
theorem any_snoc {h : Hs} {j : Nat} {q : Int × Option KVd} (hq : h[j]? = some q) (r : Int) : (h.take (j + 1)).any (fun q => decide (q.1 = r)) = ((h.take j).any (fun q => decide (q.1 = r)) || decide (q.1 = r)) := by
  rw [List.take_add_one, hq, List.any_append]
  simp
theorem fgF_keep {S : Sto} {rev : Int} {key : ByteArray} {fc : Int × ByteArray → Option Value} {j : Nat} {q : Int × Option KVd} (hq : (S.kh key)[j]? = some q) (hn : ¬ goneP S rev (q.1, key)) : fgF S rev key fc (j + 1) = fgF S rev key fc j := by
  funext p
  unfold fgF
  rw [any_snoc hq]
  by_cases hp : p.2 = key ∧ goneP S rev p
  · have hne : q.1 ≠ p.1 := fun e => hn (by rw [e, ← hp.1]; exact hp.2)
    rw [decide_eq_false hne, Bool.or_false]
  · rw [if_neg (fun h => hp ⟨h.1, h.2.1⟩), if_neg (fun h => hp ⟨h.1, h.2.1⟩)]
theorem fgF_del {S : Sto} {rev : Int} {key : ByteArray} {fc : Int × ByteArray → Option Value} {j : Nat} {q : Int × Option KVd} (hq : (S.kh key)[j]? = some q) (hg : goneP S rev (q.1, key)) (p : Int × ByteArray) : fgF S rev key fc (j + 1) p = delF (fgF S rev key fc j) (q.1, key) p := by
  unfold delF fgF
  rw [any_snoc hq]
  by_cases hp : p = (q.1, key)
  · subst hp
    rw [if_pos rfl, if_pos]
    exact ⟨rfl, hg, by simp⟩
  · rw [if_neg hp]
    by_cases hk : p.2 = key
    · have hne : q.1 ≠ p.1 := fun e => hp (by obtain ⟨a, b⟩ := p; simp_all)
      rw [decide_eq_false hne, Bool.or_false]
    · rw [if_neg (fun h => hk h.1), if_neg (fun h => hk h.1)]
set_option maxRecDepth 100000 in
set_option maxHeartbeats 2000000 in
theorem forget_any {n : Nat} {w : World} {s : Nat} {S : Sto} {g : Sg} {o : Value} {fc : Int × ByteArray → Option Value} {nc : Nat} {fl : Int → Option Value} {nl : Nat} (h : Cm n w s S g o fc nc fl nl) (hn : n ≤ 1000000) (key : ByteArray) (rev : Int) :
    Calls Tryz.prog 25 #[ptr s, .string key, .int .i64 rev] w fun e w' => e = .returned (.tuple #[]) ∧ ∃ nc', Cm n w' s S g o (fgF S rev key fc (S.kh key).length) nc' fl nl ∧ Upd w w' (fun k => k = g.bc) := by
  have hlast := clast h hn key rev
  have HMK : Hid (∀ W, Below w.heap.size w W → Calls Tryz.prog 37 #[ptr g.x, .string key] W fun e w' => ∃ v, e = .returned v ∧ MarksPost W w' v ((S.kh key).map markOf)) := fun W hb => by
    have := marks_xd (h.below hb).ix (h.below hb).bd hn key
    rw [(clookD (h.below hb) key).1] at this
    exact this
  have HC : Hid (∀ W, Below w.heap.size w W → W.cell? ⟨s, 2, none⟩ = some (ptr g.x)) := fun W hb => (h.below hb).cells.2.2.1
  have hhl := chlen_le h key
  have H := Hid.mk'' h
  clear h
  go_enter Tryz.func25, Tryz.ntmps25
  go_upto_region 1 with (go_at_call 36; refine hlast.mono ?_; rintro e w2 ⟨rfl, hb2⟩)
  have hmk := HMK.out _ hb2
  have c2 := HC.out _ hb2
  go_upto_region 2 with (go_at_call 37; refine hmk.mono ?_; rintro e w3 ⟨v, rfl, hP⟩; obtain ⟨⟨p, c, rfl, hge⟩, hM, hb3⟩ := hP)
  have hB3 : Below w.heap.size w w3 := hb2.trans (hb3.mono hb2.size)
  have H3 : Hid (Cm n w3 s S g o fc nc fl nl) := H.out.below hB3
  have hbc : g.bc < w.heap.size := H.out.ch.lt
  have hrow : Hid (∀ wr, Upd w3 wr (fun k => k = g.bc) → ∀ j q, (S.kh key)[j]? = some q → ∃ gk, p = some ⟨gk, 0, none⟩ ∧ gk < wr.heap.size ∧ gk ≠ g.bc ∧ wr.cell? ⟨gk, j * 2, none⟩ = some (.int .i64 q.1) ∧ wr.cell? ⟨gk, j * 2 + 1, none⟩ = some (.bool q.2.isNone)) := fun wr hu j q hj => by
    have hlt := (List.getElem?_eq_some_iff.1 hj).1
    obtain ⟨gk, ck, hv, -, -⟩ := owns_form1 hM (by rw [List.length_map]; omega)
    have hpk : p = some ⟨gk, 0, none⟩ := by cases hv; rfl
    subst hpk
    have hg1 := hge gk rfl
    have hs2 := hb2.size
    have hne : gk ≠ g.bc := by omega
    obtain ⟨x1, x2⟩ := hM.cell (j := j) (m := markOf q) (by rw [List.getElem?_map, hj]; rfl)
    have hl := World.block_lt_of_cell? _ _ x1
    exact ⟨gk, rfl, Nat.lt_of_lt_of_le hl hu.size, hne, (hu.cell (p := ⟨gk, j * 2, none⟩) hl hne).trans x1, (hu.cell (p := ⟨gk, j * 2 + 1, none⟩) hl hne).trans x2⟩
  have hU3 : Hid (Upd w w3 (fun k => k = g.bc)) := Upd.ofBelow hB3
  obtain ⟨m, hm⟩ : ∃ m, m = (S.kh key).length := ⟨_, rfl⟩
  rw [← hm] at hhl ⊢
  have HM := Hid.mk'' hm
  obtain ⟨st, hst⟩ : ∃ st, st = modOf (atH (S.kh key) rev) := ⟨_, rfl⟩
  rw [← hst]
  have HST := Hid.mk'' hst
  clear hm hM hge hB3 hb2 hb3 hmk hlast HMK HC c2 H hst
  go_loopg [20] (m + 1) (fun kx s20 wr => ∃ j : Nat, s20 = .int .i64 j ∧ kx + j = m + 1 ∧ j ≤ m ∧ Hid (∃ nc', Cm n wr s S g o (fgF S rev key fc j) nc' fl nl ∧ Upd w3 wr (fun k => k = g.bc)))
  case atStart => exact ⟨0, rfl, rfl, Nat.zero_le _, nc, by rw [fgF_zero]; exact H3.out, Upd.refl _ _⟩
  case round =>
    obtain ⟨j, rfl, hkx, hj, HI⟩ := hrel
    by_cases hlt : j < m
    · obtain ⟨q, hq⟩ : ∃ q, (S.kh key)[j]? = some q := ⟨_, List.getElem?_eq_getElem (by rw [← HM.out]; exact hlt)⟩
      obtain ⟨gk, rfl, hgl, hgn, x1, x2⟩ := hrow.out wr (by obtain ⟨nc', -, hu⟩ := HI.out; exact hu) j q hq
      go_upto_region 4 with fail
      obtain ⟨wq, hwq⟩ : ∃ wq, wq = wr.alloc (.cells #[.int .i64 q.1, .bool q.2.isNone] 90) := ⟨_, rfl⟩
      obtain ⟨bp, hbp⟩ : ∃ bp, bp = wr.heap.size := ⟨_, rfl⟩
      rw [← hwq, ← hbp]
      have hbq : Below wr.heap.size wr wq := by rw [hwq]; exact (Below.refl _ _).alloc (Nat.le_refl _) _
      have y0 : wq.cell? ⟨bp, 0, none⟩ = some (.int .i64 q.1) := by rw [hwq, hbp]; exact cell_of_row _ _ _ _ _ _ (row_alloc wr _ _)
      obtain ⟨nc', hcm, hu⟩ := HI.out
      have hcq := hcm.below hbq
      have huq : Upd w3 wq (fun k => k = g.bc) := hu.trans (Upd.ofBelow (S := fun k => k = g.bc) hbq) (fun _ _ e => e)
      have c3 := hcq.cells.2.2.2.1
      have hgi : goneP S rev (q.1, key) ↔ q.1 ≤ rev ∧ ¬ q.1 = st := by rw [HST.out]; exact Iff.rfl
      have HCQ := Hid.mk'' hcq
      have HUQ := Hid.mk'' huq
      clear hcm hu hcq huq HI hrow hwq hbp hbq x1 x2
      by_cases hle : q.1 ≤ rev
      · by_cases hne : q.1 = st
        · have HK := Hid.mk'' (fgF_keep (fc := fc) hq (fun e => (hgi.1 e).2 hne))
          clear hq hgi
          go_wp2
          go_roundg (m - j)
          case measure => omega
          case rel => exact ⟨j + 1, rfl, by omega, by omega, nc', by rw [HK.out]; exact HCQ.out, HUQ.out⟩
        · have HG := Hid.mk'' (fgF_del (fc := fc) hq (hgi.2 ⟨hle, hne⟩))
          obtain ⟨w5, hup, hm5, hu5⟩ := (show MapF wq.drew encP g.bc (fgF S rev key fc j) nc' from HCQ.out.ch).del law60 Tryz.underlying45 (q.1, key) 0
          have hup' : (Builtin.delete_ #[45, 75] 0 #[.map (some g.bc), .agg #[.int .i64 q.1, .string key]]).run Tryz.prog wq.drew = .ok (.tuple #[]) w5 := hup
          have hu5' := hu5.undrew
          have HFIN : Hid (∃ nc', Cm n w5 s S g o (fgF S rev key fc (j + 1)) nc' fl nl ∧ Upd w3 w5 (fun k => k = g.bc)) :=
            ⟨_, HCQ.out.setc (hm5.congr HG.out) hu5', HUQ.out.trans hu5' (fun _ _ e => e)⟩
          clear hup hm5 hu5 hu5' HCQ HUQ HG hq hgi
          go_upto_region 5 with fail
          go_region
          all_goals
            go_wp2
            go_roundg (m - j)
            case measure => omega
            case rel => exact ⟨j + 1, rfl, by omega, by omega, HFIN.out⟩
      · have HK := Hid.mk'' (fgF_keep (fc := fc) hq (fun e => hle (hgi.1 e).1))
        clear hq hgi
        go_wp2
        go_roundg (m - j)
        case measure => omega
        case rel => exact ⟨j + 1, rfl, by omega, by omega, nc', by rw [HK.out]; exact HCQ.out, HUQ.out⟩
    · obtain rfl : j = m := by omega
      go_wp2
      first | go_end0 | refine bodyPost_ret (results_none rfl _ _ _) rfl ?_
      obtain ⟨nc', hcm, hu⟩ := HI.out
      exact ⟨rfl, nc', by rw [← HM.out]; exact hcm, hU3.out.trans hu (fun _ _ e => e)⟩
end Go.Proofs.YteeflkkoifgcbabGreat
