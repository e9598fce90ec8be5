/- What forget does: the changes of a key that a compaction takes away. -/
import Derived.Test.YtjdmgmnndfhmgaaGreatGRU
import Derived.Test.YtjdmgmnndfhmgaaGreatGRJ
import Derived.Deep.LoopGhost
import Derived.Deep.RegionHeldLaw
import Derived.Shelf.Slices.CompactS
import Derived.Ground.SlgmProg
import Derived.Shelf.SortM.Plain
import Derived.Shelf.SortM.SortNone
import Derived.Test.YtjdmgmnndfhmgaaGreatProg
import Derived.Test.YtjdmgmnndfhmgaaGreatGRG
import Derived.Sort.OwnSorted
namespace Go.Proofs.YtjdmgmnndfhmgaaGreat
open Go Go.RowKit

/-- The changes while forget goes over a key's marks. -/
def fgF (S : Sto) (rev : Int) (key : ByteArray) (fc : Int × ByteArray → Option Value) (j : Nat) : Int × ByteArray → Option Value :=
  fun p => if p.2 = key ∧ goneP S rev p ∧ ((S.kh key).take j).any (fun q => decide (q.1 = p.1)) = true then none else fc p
theorem fgF_zero (S : Sto) (rev : Int) (key : ByteArray) (fc : Int × ByteArray → Option Value) : fgF S rev key fc 0 = fc := by
  funext p
  unfold fgF
  rw [if_neg]
  simp
theorem any_snoc {h : Hs} {j : Nat} {q : Int × Option KVd} (hq : h[j]? = some q) (r : Int) : (h.take (j + 1)).any (fun q => decide (q.1 = r)) = ((h.take j).any (fun q => decide (q.1 = r)) || decide (q.1 = r)) := by
  rw [List.take_add_one, hq, List.any_append]
  simp
theorem fgF_keep {S : Sto} {rev : Int} {key : ByteArray} {fc : Int × ByteArray → Option Value} {j : Nat} {q : Int × Option KVd} (hq : (S.kh key)[j]? = some q) (hn : ¬ goneP S rev (q.1, key)) : fgF S rev key fc (j + 1) = fgF S rev key fc j := by
  funext p
  unfold fgF
  rw [any_snoc hq]
  by_cases hp : p.2 = key ∧ goneP S rev p
  · have hne : q.1 ≠ p.1 := fun e => hn (by rw [e, ← hp.1]; exact hp.2)
    rw [decide_eq_false hne, Bool.or_false]
  · rw [if_neg (fun h => hp ⟨h.1, h.2.1⟩), if_neg (fun h => hp ⟨h.1, h.2.1⟩)]
theorem fgF_del {S : Sto} {rev : Int} {key : ByteArray} {fc : Int × ByteArray → Option Value} {j : Nat} {q : Int × Option KVd} (hq : (S.kh key)[j]? = some q) (hg : goneP S rev (q.1, key)) (p : Int × ByteArray) : fgF S rev key fc (j + 1) p = delF (fgF S rev key fc j) (q.1, key) p := by
  unfold delF fgF
  rw [any_snoc hq]
  by_cases hp : p = (q.1, key)
  · subst hp
    rw [if_pos rfl, if_pos]
    exact ⟨rfl, hg, by simp⟩
  · rw [if_neg hp]
    by_cases hk : p.2 = key
    · have hne : q.1 ≠ p.1 := fun e => hp (by obtain ⟨a, b⟩ := p; simp_all)
      rw [decide_eq_false hne, Bool.or_false]
    · rw [if_neg (fun h => hk h.1), if_neg (fun h => hk h.1)]
set_option maxRecDepth 100000 in
set_option maxHeartbeats 2000000 in
theorem forget_any {n : Nat} {w : World} {s : Nat} {S : Sto} {g : Sg} {o : Value} {fc : Int × ByteArray → Option Value} {nc : Nat} {fl : Int → Option Value} {nl : Nat} (h : Cm n w s S g o fc nc fl nl) (hn : n ≤ 1000000) (key : ByteArray) (rev : Int) :
    Calls Tryz.prog 55 #[ptr s, .string key, .int .i64 rev] w fun e w' => e = .returned (.tuple #[]) ∧ ∃ nc', Cm n w' s S g o (fgF S rev key fc (S.kh key).length) nc' fl nl ∧ Upd w w' (fun k => k = g.bc) := by
  have hlast := clast h hn key rev
  have HMK : Hid (∀ W, Below w.heap.size w W → Calls Tryz.prog 72 #[ptr g.x, .string key] W fun e w' => ∃ v, e = .returned v ∧ MarksPost W w' v ((S.kh key).map markOf)) := fun W hb => by
    have := marks_xd (h.below hb).ix (h.below hb).bd hn key
    rw [(clookD (h.below hb) key).1] at this
    exact this
  have HC : Hid (∀ W, Below w.heap.size w W → W.cell? ⟨s, 2, none⟩ = some (ptr g.x)) := fun W hb => (h.below hb).cells.2.2.1
  have hhl := chlen_le h key
  have H := Hid.mk'' h
  clear h
  go_enter Tryz.func55, Tryz.ntmps55
  go_upto_region 1 with (go_at_call 71; refine hlast.mono ?_; rintro e w2 ⟨rfl, hb2⟩)
  have hmk := HMK.out _ hb2
  have c2 := HC.out _ hb2
  go_upto_region 2 with (go_at_call 72; refine hmk.mono ?_; rintro e w3 ⟨v, rfl, hP⟩; obtain ⟨⟨p, c, rfl, hge⟩, hM, hb3⟩ := hP)
  have hB3 : Below w.heap.size w w3 := hb2.trans (hb3.mono hb2.size)
  have H3 : Hid (Cm n w3 s S g o fc nc fl nl) := H.out.below hB3
  have hbc : g.bc < w.heap.size := H.out.ch.lt
  have hrow : Hid (∀ wr, Upd w3 wr (fun k => k = g.bc) → ∀ j q, (S.kh key)[j]? = some q → ∃ gk, p = some ⟨gk, 0, none⟩ ∧ gk < wr.heap.size ∧ gk ≠ g.bc ∧ wr.cell? ⟨gk, j * 2, none⟩ = some (.int .i64 q.1) ∧ wr.cell? ⟨gk, j * 2 + 1, none⟩ = some (.bool q.2.isNone)) := fun wr hu j q hj => by
    have hlt := (List.getElem?_eq_some_iff.1 hj).1
    obtain ⟨gk, ck, hv, -, -⟩ := owns_form1 hM (by rw [List.length_map]; omega)
    have hpk : p = some ⟨gk, 0, none⟩ := by cases hv; rfl
    subst hpk
    have hg1 := hge gk rfl
    have hs2 := hb2.size
    have hne : gk ≠ g.bc := by omega
    obtain ⟨x1, x2⟩ := hM.cell (j := j) (m := markOf q) (by rw [List.getElem?_map, hj]; rfl)
    have hl := World.block_lt_of_cell? _ _ x1
    exact ⟨gk, rfl, Nat.lt_of_lt_of_le hl hu.size, hne, (hu.cell (p := ⟨gk, j * 2, none⟩) hl hne).trans x1, (hu.cell (p := ⟨gk, j * 2 + 1, none⟩) hl hne).trans x2⟩
  have hU3 : Hid (Upd w w3 (fun k => k = g.bc)) := Upd.ofBelow hB3
  obtain ⟨m, hm⟩ : ∃ m, m = (S.kh key).length := ⟨_, rfl⟩
  rw [← hm] at hhl ⊢
  have HM := Hid.mk'' hm
  obtain ⟨st, hst⟩ : ∃ st, st = modOf (atH (S.kh key) rev) := ⟨_, rfl⟩
  rw [← hst]
  have HST := Hid.mk'' hst
  clear hm hM hge hB3 hb2 hb3 hmk hlast HMK HC c2 H hst
  go_loopg [20] (m + 1) (fun kx s20 wr => ∃ j : Nat, s20 = .int .i64 j ∧ kx + j = m + 1 ∧ j ≤ m ∧ Hid (∃ nc', Cm n wr s S g o (fgF S rev key fc j) nc' fl nl ∧ Upd w3 wr (fun k => k = g.bc)))
  case atStart => exact ⟨0, rfl, rfl, Nat.zero_le _, nc, by rw [fgF_zero]; exact H3.out, Upd.refl _ _⟩
  case round =>
    obtain ⟨j, rfl, hkx, hj, HI⟩ := hrel
    by_cases hlt : j < m
    · obtain ⟨q, hq⟩ : ∃ q, (S.kh key)[j]? = some q := ⟨_, List.getElem?_eq_getElem (by rw [← HM.out]; exact hlt)⟩
      obtain ⟨gk, rfl, hgl, hgn, x1, x2⟩ := hrow.out wr (by obtain ⟨nc', -, hu⟩ := HI.out; exact hu) j q hq
      go_upto_region 4 with fail
      obtain ⟨wq, hwq⟩ : ∃ wq, wq = wr.alloc (.cells #[.int .i64 q.1, .bool q.2.isNone] 144) := ⟨_, rfl⟩
      obtain ⟨bp, hbp⟩ : ∃ bp, bp = wr.heap.size := ⟨_, rfl⟩
      rw [← hwq, ← hbp]
      have hbq : Below wr.heap.size wr wq := by rw [hwq]; exact (Below.refl _ _).alloc (Nat.le_refl _) _
      have y0 : wq.cell? ⟨bp, 0, none⟩ = some (.int .i64 q.1) := by rw [hwq, hbp]; exact cell_of_row _ _ _ _ _ _ (row_alloc wr _ _)
      obtain ⟨nc', hcm, hu⟩ := HI.out
      have hcq := hcm.below hbq
      have huq : Upd w3 wq (fun k => k = g.bc) := hu.trans (Upd.ofBelow (S := fun k => k = g.bc) hbq) (fun _ _ e => e)
      have c3 := hcq.cells.2.2.2.1
      have hgi : goneP S rev (q.1, key) ↔ q.1 ≤ rev ∧ ¬ q.1 = st := by rw [HST.out]; exact Iff.rfl
      have HCQ := Hid.mk'' hcq
      have HUQ := Hid.mk'' huq
      clear hcm hu hcq huq HI hrow hwq hbp hbq x1 x2
      by_cases hle : q.1 ≤ rev
      · by_cases hne : q.1 = st
        · have HK := Hid.mk'' (fgF_keep (fc := fc) hq (fun e => (hgi.1 e).2 hne))
          clear hq hgi
          go_wp2
          go_roundg (m - j)
          case measure => omega
          case rel => exact ⟨j + 1, rfl, by omega, by omega, nc', by rw [HK.out]; exact HCQ.out, HUQ.out⟩
        · have HG := Hid.mk'' (fgF_del (fc := fc) hq (hgi.2 ⟨hle, hne⟩))
          obtain ⟨w5, hup, hm5, hu5⟩ := (show MapF wq.drew encP g.bc (fgF S rev key fc j) nc' from HCQ.out.ch).del law60 Tryz.underlying70 (q.1, key) 0
          have hup' : (Builtin.delete_ #[70, 122] 0 #[.map (some g.bc), .agg #[.int .i64 q.1, .string key]]).run Tryz.prog wq.drew = .ok (.tuple #[]) w5 := hup
          have hu5' := hu5.undrew
          have HFIN : Hid (∃ nc', Cm n w5 s S g o (fgF S rev key fc (j + 1)) nc' fl nl ∧ Upd w3 w5 (fun k => k = g.bc)) :=
            ⟨_, HCQ.out.setc (hm5.congr HG.out) hu5', HUQ.out.trans hu5' (fun _ _ e => e)⟩
          clear hup hm5 hu5 hu5' HCQ HUQ HG hq hgi
          go_upto_region 5 with fail
          go_region
          all_goals
            go_wp2
            go_roundg (m - j)
            case measure => omega
            case rel => exact ⟨j + 1, rfl, by omega, by omega, HFIN.out⟩
      · have HK := Hid.mk'' (fgF_keep (fc := fc) hq (fun e => hle (hgi.1 e).1))
        clear hq hgi
        go_wp2
        go_roundg (m - j)
        case measure => omega
        case rel => exact ⟨j + 1, rfl, by omega, by omega, nc', by rw [HK.out]; exact HCQ.out, HUQ.out⟩
    · obtain rfl : j = m := by omega
      go_wp2
      first | go_end0 | refine bodyPost_ret (results_none rfl _ _ _) rfl ?_
      obtain ⟨nc', hcm, hu⟩ := HI.out
      exact ⟨rfl, nc', by rw [← HM.out]; exact hcm, hU3.out.trans hu (fun _ _ e => e)⟩
end Go.Proofs.YtjdmgmnndfhmgaaGreat
/- What slices.Sort and slices.Compact do at a row of keys: the library's contracts, laid at this program. -/
namespace Go.Proofs
open Go.Shelf
def Tryz.lays194_ren : Go.Shelf.Ren := ⟨fun | 194 => 54 | n => n, fun | 31 => 37 | 9 => 9 | 3 => 3 | 4 => 4 | 0 => 0 | n => n, fun | n => n⟩
theorem Tryz.lays194 : Go.Proofs.Lays.n194 Tryz.prog Tryz.lays194_ren := {
  mixed := by kernel_rfl
  f194 := Tryz.func54.trans (congrArg some (by kernel_rfl))
  t0 := Tryz.underlying0
  a0 := Tryz.isAgg0
  z0 := Tryz.sizeOf0
  v0 := Tryz.zeroValue0
  t3 := Tryz.underlying3
  a3 := Tryz.isAgg3
  z3 := Tryz.sizeOf3
  v3 := Tryz.zeroValue3
  t4 := Tryz.underlying4
  a4 := Tryz.isAgg4
  z4 := Tryz.sizeOf4
  v4 := Tryz.zeroValue4
  t9 := Tryz.underlying9
  a9 := Tryz.isAgg9
  z9 := Tryz.sizeOf9
  v9 := Tryz.zeroValue9
  t31 := Tryz.underlying37
  a31 := Tryz.isAgg37
  z31 := Tryz.sizeOf37
  v31 := Tryz.zeroValue37 }
open Go.RowKit Go.Lib Go.Sort in
theorem Tryz.slices_Compact_string_arr (blk off cap : Nat) (d : Array (List UInt8)) (w : World) (hH : Holds encStr w blk off d) (hsz : d.size ≤ 9223372036854775807) (hcap : d.size ≤ cap) :
    Calls Tryz.prog 54 #[.slice (some ⟨blk, off, none⟩) d.size cap] w fun e w' => e = .returned (.slice (some ⟨blk, off, none⟩) (compactUpTo d d.size).length cap) ∧ ∃ q, w' = putRow encStr (Sort.ahead w q) blk off (compactUpTo d d.size ++ List.replicate (d.size - (compactUpTo d d.size).length) []).toArray := Any.slices_Compact_string_arr Tryz.lays194 blk off cap d w hH hsz hcap
open Go.RowKit Go.Lib Go.Sort in
theorem Tryz.slices_Compact_string (blk off cap : Nat) (zs : List (List UInt8)) (w : World) (hH : Holds encStr w blk off zs.toArray) (hsz : zs.length ≤ 9223372036854775807) (hcap : zs.length ≤ cap) :
    Calls Tryz.prog 54 #[.slice (some ⟨blk, off, none⟩) zs.length cap] w fun e w' => e = .returned (.slice (some ⟨blk, off, none⟩) (Lib.compact zs).length cap) ∧ ∃ q, w' = putRow encStr (Sort.ahead w q) blk off (Lib.compact zs ++ List.replicate (zs.length - (Lib.compact zs).length) []).toArray := Any.slices_Compact_string Tryz.lays194 blk off cap zs w hH hsz hcap
open Go.RowKit Go.Lib Go.Sort in
theorem Tryz.slices_Compact_string_empty (a : Option Addr) (cap : Nat) (w : World) :
    Calls Tryz.prog 54 #[.slice a 0 cap] w fun e w' => e = .returned (.slice a 0 cap) ∧ w' = w := Any.slices_Compact_string_empty Tryz.lays194 a cap w
def Tryz.laysSlM6_f23_ren : Go.Shelf.Ren := ⟨fun | 6 => 53 | 8 => 70 | 9 => 69 | 19 => 91 | 20 => 92 | 21 => 82 | 22 => 83 | 23 => 84 | 24 => 85 | 25 => 86 | 26 => 87 | 27 => 88 | 28 => 89 | 29 => 90 | 36 => 107 | 31 => 108 | 32 => 109 | 37 => 110 | 38 => 111 | 39 => 112 | 41 => 121 | n => n, fun | 27 => 37 | 29 => 9 | 3 => 3 | 32 => 139 | 26 => 37 | 0 => 0 | 44 => 172 | 46 => 174 | 4 => 4 | 36 => 164 | 35 => 163 | 41 => 169 | 5 => 5 | 9 => 9 | 53 => 191 | 57 => 195 | 63 => 200 | 64 => 201 | n => n, fun | n => n⟩
theorem Tryz.laysSlM6_f23 : Go.Proofs.SlLaysM.n6 Tryz.prog Tryz.laysSlM6_f23_ren := {
  mixed := by kernel_rfl
  f6 := ⟨Tryz.f53.name, by decide, Tryz.func53.trans (congrArg some (by kernel_rfl))⟩
  f8 := Tryz.func70.trans (congrArg some (by kernel_rfl))
  f9 := ⟨Tryz.f69.name, by decide, Tryz.func69.trans (congrArg some (by kernel_rfl))⟩
  f19 := Tryz.func91.trans (congrArg some (by kernel_rfl))
  f20 := Tryz.func92.trans (congrArg some (by kernel_rfl))
  f21 := ⟨Tryz.f82.name, by decide, Tryz.func82.trans (congrArg some (by kernel_rfl))⟩
  f22 := ⟨Tryz.f83.name, by decide, Tryz.func83.trans (congrArg some (by kernel_rfl))⟩
  f23 := ⟨Tryz.f84.name, by decide, Tryz.func84.trans (congrArg some (by kernel_rfl))⟩
  f24 := ⟨Tryz.f85.name, by decide, Tryz.func85.trans (congrArg some (by kernel_rfl))⟩
  f25 := ⟨Tryz.f86.name, by decide, Tryz.func86.trans (congrArg some (by kernel_rfl))⟩
  f26 := ⟨Tryz.f87.name, by decide, Tryz.func87.trans (congrArg some (by kernel_rfl))⟩
  f27 := ⟨Tryz.f88.name, by decide, Tryz.func88.trans (congrArg some (by kernel_rfl))⟩
  f28 := ⟨Tryz.f89.name, by decide, Tryz.func89.trans (congrArg some (by kernel_rfl))⟩
  f29 := ⟨Tryz.f90.name, by decide, Tryz.func90.trans (congrArg some (by kernel_rfl))⟩
  f31 := Tryz.func108.trans (congrArg some (by kernel_rfl))
  f32 := Tryz.func109.trans (congrArg some (by kernel_rfl))
  f36 := ⟨Tryz.f107.name, by decide, Tryz.func107.trans (congrArg some (by kernel_rfl))⟩
  f37 := ⟨Tryz.f110.name, by decide, Tryz.func110.trans (congrArg some (by kernel_rfl))⟩
  f38 := ⟨Tryz.f111.name, by decide, Tryz.func111.trans (congrArg some (by kernel_rfl))⟩
  f39 := ⟨Tryz.f112.name, by decide, Tryz.func112.trans (congrArg some (by kernel_rfl))⟩
  f41 := ⟨Tryz.f121.name, by decide, Tryz.func121.trans (congrArg some (by kernel_rfl))⟩
  t0 := Tryz.underlying0
  a0 := Tryz.isAgg0
  z0 := Tryz.sizeOf0
  v0 := Tryz.zeroValue0
  t3 := Tryz.underlying3
  a3 := Tryz.isAgg3
  z3 := Tryz.sizeOf3
  v3 := Tryz.zeroValue3
  t4 := Tryz.underlying4
  a4 := Tryz.isAgg4
  z4 := Tryz.sizeOf4
  v4 := Tryz.zeroValue4
  t5 := Tryz.underlying5
  a5 := Tryz.isAgg5
  z5 := Tryz.sizeOf5
  v5 := Tryz.zeroValue5
  t9 := Tryz.underlying9
  a9 := Tryz.isAgg9
  z9 := Tryz.sizeOf9
  v9 := Tryz.zeroValue9
  t26 := Tryz.underlying37
  a26 := Tryz.isAgg37
  z26 := Tryz.sizeOf37
  v26 := Tryz.zeroValue37
  t27 := Tryz.underlying37
  a27 := Tryz.isAgg37
  z27 := Tryz.sizeOf37
  v27 := Tryz.zeroValue37
  t29 := Tryz.underlying9
  a29 := Tryz.isAgg9
  z29 := Tryz.sizeOf9
  v29 := Tryz.zeroValue9
  t32 := Tryz.underlying139
  a32 := Tryz.isAgg139
  z32 := Tryz.sizeOf139
  v32 := Tryz.zeroValue139
  t35 := Tryz.underlying163
  a35 := Tryz.isAgg163
  z35 := Tryz.sizeOf163
  v35 := Tryz.zeroValue163
  t36 := Tryz.underlying164
  a36 := Tryz.isAgg164
  z36 := Tryz.sizeOf164
  v36 := Tryz.zeroValue164
  t41 := Tryz.underlying169
  a41 := Tryz.isAgg169
  z41 := Tryz.sizeOf169
  v41 := Tryz.zeroValue169
  t44 := Tryz.underlying172
  a44 := Tryz.isAgg172
  z44 := Tryz.sizeOf172
  v44 := Tryz.zeroValue172
  t46 := Tryz.underlying174
  a46 := Tryz.isAgg174
  z46 := Tryz.sizeOf174
  v46 := Tryz.zeroValue174
  t53 := Tryz.underlying191
  a53 := Tryz.isAgg191
  z53 := Tryz.sizeOf191
  v53 := Tryz.zeroValue191
  t57 := Tryz.underlying195
  a57 := Tryz.isAgg195
  z57 := Tryz.sizeOf195
  v57 := Tryz.zeroValue195
  t63 := Tryz.underlying200
  a63 := Tryz.isAgg200
  z63 := Tryz.sizeOf200
  v63 := Tryz.zeroValue200
  t64 := Tryz.underlying201
  a64 := Tryz.isAgg201
  z64 := Tryz.sizeOf201
  v64 := Tryz.zeroValue201 }
open Go.Sort Go.RowKit in
theorem Tryz.slices_Sort_string (blk off cap : Nat) (ss : List (List UInt8)) (w : World) (hH : Holds encStr w blk off ss.toArray) (hblk : blk < w.heap.size) (hsz : ss.length < 4611686018427387904) :
    Calls Tryz.prog 53 #[.slice (some ⟨blk, off, none⟩) ss.length cap] w fun e w' =>
      e = .returned (.tuple #[]) ∧ ∃ n os, w' = grow (putRow encStr (Sort.ahead w n) blk off (ss.mergeSort fun x y => decide (x ≤ y)).toArray) os := AnyM.slices_Sort_string Tryz.laysSlM6_f23 blk off cap ss w hH hblk hsz
open Go.RowKit Go.Sort in
theorem Tryz.slices_Sort_string_none (p : Option Addr) (cap : Nat) (w : World) :
    Calls Tryz.prog 53 #[.slice p 0 cap] w fun e w' => e = .returned (.tuple #[]) ∧ w' = w := AnyM.slices_Sort_string_none Tryz.laysSlM6_f23 p cap w
end Go.Proofs
/- slices.Sort and slices.Compact of a row of keys. -/
namespace Go.Proofs.YtjdmgmnndfhmgaaGreat
open Go Go.RowKit Go.Sort Go.Lib

abbrev toL (k : ByteArray) : List UInt8 := k.data.toList
abbrev ofL (l : List UInt8) : ByteArray := ⟨l.toArray⟩
theorem strs_toL (ss : List ByteArray) : strs ss = (ss.map toL).map encStr := by
  rw [List.map_map]
  exact List.map_congr_left fun k _ => rfl
theorem strs_ofL (ts : List (List UInt8)) : ts.map encStr = strs (ts.map ofL) := by
  show _ = (ts.map ofL).map Value.string
  rw [List.map_map]
  exact List.map_congr_left fun k _ => rfl
theorem mem_ofL {ts : List (List UInt8)} {ss : List ByteArray} (h : ∀ x, x ∈ ts ↔ x ∈ ss.map toL) (k : ByteArray) : k ∈ ts.map ofL ↔ k ∈ ss := by
  rw [List.mem_map]
  constructor
  · rintro ⟨x, hx, rfl⟩
    obtain ⟨j, hj, e⟩ := List.mem_map.1 ((h x).1 hx)
    have : ofL x = j := by rw [← e]
    rw [this]; exact hj
  · intro hk
    exact ⟨toL k, (h _).2 (List.mem_map.2 ⟨k, hk, rfl⟩), rfl⟩
theorem mem_upTo (d : Array (List UInt8)) : ∀ (m i : Nat), i < m → d[i]! ∈ compactUpTo d m
  | 0, _, h => by omega
  | m + 1, i, h => by
    rw [compactUpTo_succ, List.mem_append]
    rcases Nat.lt_or_ge i m with hi | hi
    · exact .inl (mem_upTo d m i hi)
    · obtain rfl : i = m := by omega
      by_cases hk : keeps d i = true
      · exact .inr (by simp [hk])
      · have h1 : i ≠ 0 ∧ d[i]! = d[i - 1]! := by
          unfold keeps at hk
          simpa using hk
        rw [h1.2]
        exact .inl (mem_upTo d i (i - 1) (by omega))
theorem mem_comp (zs : List (List UInt8)) (x : List UInt8) : x ∈ Lib.compact zs ↔ x ∈ zs := by
  constructor
  · intro h
    unfold Lib.compact Lib.compactUpTo at h
    obtain ⟨i, hi, rfl⟩ := List.mem_map.1 h
    have hi' : i < zs.length := List.mem_range.1 (List.mem_filter.1 hi).1
    simp [getElem!_pos, hi']
  · intro h
    obtain ⟨i, hi, rfl⟩ := List.getElem_of_mem h
    have := mem_upTo zs.toArray zs.length i hi
    simpa [getElem!_pos, hi, Lib.compact] using this
theorem comp_le (zs : List (List UInt8)) : (Lib.compact zs).length ≤ zs.length := by
  unfold Lib.compact Lib.compactUpTo
  rw [List.length_map]
  exact Nat.le_trans (List.length_filter_le _ _) (by simp)
/-- slices.Sort of a row of keys. -/
theorem sort_row (w : World) (base : Nat) (p : Option Addr) (c : Nat) (ss : List ByteArray) (h : w.ownsRow base 9 1 (.slice p ss.length c) ss.length (strs ss)) (hl : ss.length ≤ 1000000) :
    Calls Tryz.prog 53 #[.slice p ss.length c] w fun e w' => e = .returned (.tuple #[]) ∧ ∃ ss', ss'.length = ss.length ∧ (∀ k, k ∈ ss' ↔ k ∈ ss) ∧ w'.ownsRow base 9 1 (.slice p ss.length c) ss.length (strs ss') ∧ Upd w w' (fun k => some k = (Value.slice p ss.length c).ownBlock) := by
  rcases h.2 with ⟨e, e2⟩ | ⟨g, cap, cur, e, hbase, hb, h1, h2, h3, h4⟩
  · have : ss = [] := List.eq_nil_of_length_eq_zero e2
    subst this
    refine (Tryz.slices_Sort_string_none p c w).mono ?_
    rintro e w' ⟨rfl, rfl⟩
    exact ⟨rfl, [], rfl, fun _ => Iff.rfl, by simpa using h, Upd.refl _ _⟩
  · cases e
    have e0 : (ss.map toL).length = ss.length := List.length_map _
    have := Tryz.slices_Sort_string g 0 c (ss.map toL) w (holds_of_block hb (by rw [e0, ← strs_toL]; simpa using h4)) (Array.getElem?_eq_some_iff.1 hb).1 (by rw [e0]; omega)
    rw [e0] at this
    refine this.mono ?_
    rintro e w' ⟨rfl, n, os, rfl⟩
    refine ⟨rfl, ((ss.map toL).mergeSort fun x y => decide (x ≤ y)).map ofL, by simp, mem_ofL (fun x => (List.mergeSort_perm _ _).mem_iff), ?_, (Upd.ofGrown (grownBy_sorted _)).mono (fun k _ e => e)⟩
    rw [← strs_ofL]
    have := ownsRow_sorted (w := w) (n := n) (os := os) (ss := ss.map toL) (ts := (ss.map toL).mergeSort fun x y => decide (x ≤ y)) (by simp) hbase hb (by rw [e0]; exact h1) h2 (by simpa using h3)
    rw [e0] at this
    exact this
/-- slices.Compact of a row of keys. -/
theorem comp_row (w : World) (base : Nat) (p : Option Addr) (c : Nat) (ss : List ByteArray) (h : w.ownsRow base 9 1 (.slice p ss.length c) ss.length (strs ss)) (hl : ss.length ≤ 1000000) :
    Calls Tryz.prog 54 #[.slice p ss.length c] w fun e w' => ∃ K : List ByteArray, K.length ≤ ss.length ∧ (∀ k, k ∈ K ↔ k ∈ ss) ∧ e = .returned (.slice p K.length c) ∧ (∀ j k, K[j]? = some k → ∃ g, p = some ⟨g, 0, none⟩ ∧ base ≤ g ∧ w'.cell? ⟨g, j, none⟩ = some (.string k)) ∧ Upd w w' (fun k => some k = (Value.slice p ss.length c).ownBlock) := by
  rcases h.2 with ⟨e, e2⟩ | ⟨g, cap, cur, e, hbase, hb, h1, h2, h3, h4⟩
  · have : ss = [] := List.eq_nil_of_length_eq_zero e2
    subst this
    refine (Tryz.slices_Compact_string_empty p c w).mono ?_
    rintro e w' ⟨rfl, rfl⟩
    exact ⟨[], Nat.le_refl _, fun _ => Iff.rfl, rfl, fun j k hj => by simp at hj, Upd.refl _ _⟩
  · cases e
    have e0 : (ss.map toL).length = ss.length := List.length_map _
    have hcl := comp_le (ss.map toL)
    rw [e0] at hcl
    have := Tryz.slices_Compact_string g 0 c (ss.map toL) w (holds_of_block hb (by rw [e0, ← strs_toL]; simpa using h4)) (by rw [e0]; omega) (by rw [e0]; exact h1)
    rw [e0] at this
    refine this.mono ?_
    rintro e w' ⟨rfl, q, rfl⟩
    have hgr : ∀ V : World, V = grow V #[] := fun V => by simp [grow]
    refine ⟨(Lib.compact (ss.map toL)).map ofL, by rw [List.length_map]; exact hcl, mem_ofL (mem_comp _), by rw [List.length_map], ?_, ?_⟩
    · intro j k hj
      refine ⟨g, rfl, hbase, ?_⟩
      have hown := ownsRow_sorted (w := w) (n := q) (os := #[]) (ss := ss.map toL) (ts := Lib.compact (ss.map toL) ++ List.replicate (ss.length - (Lib.compact (ss.map toL)).length) []) (by simp; omega) hbase hb (by rw [e0]; exact h1) h2 (by simpa using h3)
      rw [← hgr] at hown
      have hc := hown.cells (g := g) rfl j (.string k) (by
        have hlt := (List.getElem?_eq_some_iff.1 hj).1
        rw [List.length_map] at hlt
        rw [List.map_append, List.getElem?_append_left (by rw [List.length_map]; exact hlt), strs_ofL, List.getElem?_map, hj]
        rfl)
      simpa only [Addr.add_lit, Nat.zero_add] using hc
    · rw [hgr (putRow _ _ _ _ _)]
      exact (Upd.ofGrown (grownBy_sorted _)).mono (fun k _ e => e)
end Go.Proofs.YtjdmgmnndfhmgaaGreat
/- Trim: the way through the tree. -/
namespace Go.Proofs.YtjdmgmnndfhmgaaGreat
open Go Go.RowKit Go.Shelf
attribute [local go_sem] Oper.semAt_some

theorem klt_nil (k : ByteArray) : klt k ⟨#[]⟩ = false := by
  unfold klt
  cases k.data.toList <;> rfl
def hasKN (l : List ByteArray) (k : ByteArray) : Bool := l.any fun x => decide (x = k)
theorem hasKN_iff {l : List ByteArray} {k : ByteArray} : hasKN l k = true ↔ k ∈ l := by
  unfold hasKN
  rw [List.any_eq_true]
  constructor
  · rintro ⟨x, hx, h⟩
    have : x = k := by simpa using h
    rw [← this]; exact hx
  · intro h
    exact ⟨k, h, by simp⟩
theorem hasK_no {l : List ByteArray} {k : ByteArray} (h : k ∉ l) : hasKN l k = false := by
  cases hh : hasKN l k
  · rfl
  · exact absurd (hasKN_iff.1 hh) h
theorem gone_step {R' : List IM} {gone : List ByteArray} {j : Nat} {key : ByteArray} (hj : gone[j]? = some key) : (R'.filter fun r => !hasKN (gone.take j) r.it.key).filter (fun s => !decide (s.it.key = key)) = R'.filter fun r => !hasKN (gone.take (j + 1)) r.it.key := by
  rw [List.filter_filter]
  congr 1
  funext r
  have : gone.take (j + 1) = gone.take j ++ [key] := by
    rw [List.take_add_one, hj]; rfl
  rw [this]
  have e : hasKN (gone.take j ++ [key]) r.it.key = (hasKN (gone.take j) r.it.key || decide (key = r.it.key)) := by simp [hasKN]
  rw [e]
  by_cases h1 : r.it.key = key
  · simp [h1]
  · simp [h1, Ne.symm h1]
theorem gone_in {R' : List IM} {gone : List ByteArray} (hn : gone.Nodup) (hs : ∀ k ∈ gone, k ∈ keysR R') {j : Nat} {key : ByteArray} (hj : gone[j]? = some key) : key ∈ keysR (R'.filter fun r => !hasKN (gone.take j) r.it.key) := by
  obtain ⟨r, hr, he⟩ := List.mem_map.1 (hs key (List.mem_of_getElem? hj))
  refine List.mem_map.2 ⟨r, List.mem_filter.2 ⟨hr, ?_⟩, he⟩
  have : key ∉ gone.take j := fun hm => by
    obtain ⟨i, hi⟩ := List.getElem?_of_mem hm
    rw [List.getElem?_take] at hi
    split at hi
    · rename_i hlt
      have := (List.getElem?_inj (by have := (List.getElem?_eq_some_iff.1 hi).1; exact this) hn).1 (hi.trans hj.symm)
      omega
    · cases hi
  rw [he, hasK_no this]
  rfl
theorem gone_end {R' : List IM} {gone : List ByteArray} (h : ∀ r ∈ R', (r.it.key ∈ gone ↔ r.ms = [])) : (R'.filter fun r => !hasKN (gone.take gone.length) r.it.key) = R'.filter fun r => !r.ms.isEmpty := by
  rw [List.take_length]
  refine List.filter_congr fun r hr => ?_
  have := h r hr
  cases hms : r.ms with
  | nil => rw [hasKN_iff.2 (this.2 hms)]; rfl
  | cons a l => rw [hasK_no (fun e => by have := this.1 e; rw [hms] at this; cases this)]; rfl
set_option maxRecDepth 100000 in
set_option maxHeartbeats 4000000 in
theorem trim_any {w : World} {x : Nat} {R : List IM} {F : List Nat} (H : Ix w x R F) (hMA : ∀ r ∈ R, MAscH r.ms ∧ r.ms.length ≤ 1000000) (rev : Int) (hR : R.length ≤ 1000000) :
    Calls Tryz.prog 56 #[ptr x, .int .i64 rev] w fun e w' => e = .returned (.tuple #[]) ∧ TrimP w x R F rev w' := by
  obtain ⟨rp, Ft, hx, hRt, hF⟩ := H.ex
  have hnd0 := H.nd
  rw [hF] at hnd0
  have hndF : Ft.Nodup := (List.nodup_append.1 (List.nodup_cons.1 hnd0).2).1
  have hxFt : x ∉ Ft := fun h => (List.nodup_cons.1 hnd0).1 (List.mem_append_left _ h)
  have hFl : ∀ k ∈ F, k < w.heap.size := H.lt
  have hFF : ∀ k ∈ x :: Ft, k ∈ F := fun k hk => by
    rw [hF]
    rcases List.mem_cons.1 hk with rfl | hk
    · simp
    · simp [hk]
  have hFtl : ∀ k ∈ x :: Ft, k < w.heap.size := fun k hk => hFl k (hFF k hk)
  have hasc := H.asc
  have hai : Asc (keysI (R.map IM.it)) := by rw [keysI_map]; exact H.asc
  have c0 := hx.c0
  have hdd : ∀ k : Nat, (Fence.wide.depth.isSome = true → 1 ≤ k) := fun k h => by cases h
  refine (callsIn_wide (n := 3)).1 ?_
  refine callsIn_of_wp_marks Tryz.func56 rfl trivial ?_ rfl
  simp only [Tryz.ntmps56, List.size_toArray, List.length_cons, List.length_nil, Nat.reduceAdd, Nat.reduceSub, Array.replicate_succ, Array.replicate_zero, List.push_toArray, List.append_toArray, List.nil_append, List.cons_append]
  have hb0 : Below w.heap.size w (w.alloc (.cells #[.int .i64 rev] 3)) := (Below.refl _ w).alloc (Nat.le_refl _) _
  have ca : ∀ o o', ((w.alloc o).alloc o').cell? ⟨x, 0, none⟩ = some (.pointer rp) := fun o o' => (hx.below (((Below.refl _ w).alloc (Nat.le_refl _) o).alloc (by simp) o')).c0
  gi_wp2_with (refine ⟨trivial, ?_⟩; gi_at_call 73; refine (from_in _ _ _ _).mono ?_; rintro e w' ⟨rfl, rfl⟩)
  try simp only [World.size_alloc]
  obtain ⟨WL, hWL⟩ : ∃ WL, WL = (((w.alloc (.cells #[.int .i64 rev] 3)).alloc (.cells #[.slice none 0 0] 37)).alloc (.cells #[.pointer rp] 123)).alloc (.cells #[.string ⟨#[]⟩] 9) := ⟨_, rfl⟩
  have hbL : Below w.heap.size w WL := by rw [hWL]; exact ((((Below.refl _ w).alloc (Nat.le_refl _) _).alloc (by simp) _).alloc (by simp; omega) _).alloc (by simp; omega) _
  have hzL : WL.heap.size = w.heap.size + 4 := by rw [hWL]; simp
  have r0 : WL.heap[w.heap.size]? = some (.cells #[.int .i64 rev] 3 (0, 0)) := by
    rw [hWL, Below.heap_alloc _ _ _ (by simp; omega), Below.heap_alloc _ _ _ (by simp; omega), Below.heap_alloc _ _ _ (by simp)]; exact row_alloc w _ _
  have r1 : WL.heap[w.heap.size + 1]? = some (.cells #[.slice none 0 0] 37 (0, 0)) := by
    rw [hWL, Below.heap_alloc _ _ _ (by simp), Below.heap_alloc _ _ _ (by simp)]
    have := row_alloc (w.alloc (.cells #[.int .i64 rev] 3)) #[.slice none 0 0] 37
    rwa [World.size_alloc] at this
  have r2 : WL.heap[w.heap.size + 1 + 1]? = some (.cells #[.pointer rp] 123 (0, 0)) := by
    rw [hWL, Below.heap_alloc _ _ _ (by simp)]
    have := row_alloc ((w.alloc (.cells #[.int .i64 rev] 3)).alloc (.cells #[.slice none 0 0] 37)) #[.pointer rp] 123
    rwa [World.size_alloc, World.size_alloc] at this
  have r3 : WL.heap[w.heap.size + 1 + 1 + 1]? = some (.cells #[.string ⟨#[]⟩] 9 (0, 0)) := by
    rw [hWL]
    have := row_alloc (((w.alloc (.cells #[.int .i64 rev] 3)).alloc (.cells #[.slice none 0 0] 37)).alloc (.cells #[.pointer rp] 123)) #[.string ⟨#[]⟩] 9
    rwa [World.size_alloc, World.size_alloc, World.size_alloc] at this
  rw [← hWL]
  clear hWL
  obtain ⟨hT, bT, nT, hTree, hseq⟩ := seq_root2 hRt hndF hai ⟨#[]⟩ 2 (w.heap.size + 1 + 1) (w.heap.size + 1 + 1 + 1) WL hbL (by simp [World.cell?, r2]) (by simp [World.cell?, r3])
  have hJ0 : TJ w x rp R.length hT bT nT R F Ft rev [] R (.slice none 0 0) [] WL := by
    refine ⟨⟨fun hne => ?_, KpT.of_block fun k hk => hbL.block k (hFtl k (by simp [hk])), rfl, fun r hr => ?_, hMA, ?_, fun k hk => ?_, hx.below hbL, Upd.ofBelow hbL⟩, rfl, r1, World.ownsRow_nil _ _ _ _, fun k hk => (by cases hk), r0, by omega, Nat.le_refl _⟩
    · obtain ⟨its, _, T, hl, _⟩ := hTree (by simpa using hne)
      exact ⟨its, hl, T.below hbL⟩
    · obtain ⟨hM, hp⟩ := H.mks r hr
      obtain ⟨g, c, e, _⟩ := owns_form1 hM hp
      exact ⟨g, c, e, ownsRow_upd hM (Upd.ofBelow (S := fun _ => False) hbL) (fun _ _ h => h)⟩
    · exact (List.nodup_append.1 (List.nodup_cons.1 hnd0).2).2.1
    · refine .inl ⟨by rw [hF]; simp only [List.mem_cons, List.mem_append]; exact .inr (.inr hk), fun hm => ?_⟩
      rcases List.mem_cons.1 hm with rfl | hm
      · exact (List.nodup_cons.1 hnd0).1 (List.mem_append_right _ hk)
      · exact (List.nodup_append.1 (List.nodup_cons.1 hnd0).2).2.2 k hm k hk rfl
  refine wpIn_rangeFunc_ownG (w0 := WL) rfl (by decide) (gf := 97) (lb := #[.pointer (some ⟨w.heap.size + 1 + 1, 0, none⟩), .pointer (some ⟨w.heap.size + 1 + 1 + 1, 0, none⟩)]) rfl trivial (enters_of Tryz.func97 (by kernel_rfl) rfl)
    hseq KpS.t (fun W l o o' hl _ _ _ => KpS.b (fun k hk => Nat.lt_of_lt_of_le (hFtl k (by simp [hk])) hbL.size) W l o' hl) (Below.refl _ _) (fun _ => rfl)
    (fun pre W => ∃ R' v gone, TJ w x rp R.length hT bT nT R F Ft rev (pre.map fun a => a.it.key) R' v gone W)
    (fun _ _ _ => False)
    ?hI ?hIx ?h0
    (fun a => { tmps := #[ptr x, .int .i64 rev, undef, .pointer (some ⟨w.heap.size, 0, none⟩), .pointer (some ⟨w.heap.size + 1, 0, none⟩), .pointer (some (encA a)), undef, undef, ptr x, .pointer (some ⟨x, 0, none⟩), .pointer (some ⟨x, 0, none⟩), .pointer rp, .func (.func 97) #[] #[.pointer (some ⟨w.heap.size + 1 + 1, 0, none⟩), .pointer (some ⟨w.heap.size + 1 + 1 + 1, 0, none⟩)], .pointer (some (encA a)), undef, undef, undef, undef, undef, undef, undef, undef, undef, undef, undef, undef, undef, undef, undef, undef, undef, undef, undef, undef, undef, undef, undef, undef, undef, undef, undef, undef, undef, undef, undef, undef], defers := [] }) ?assign ?body ?done ?stop
  case hI =>
    rintro s W W' row ⟨R', v, gone, J⟩ hg hr
    exact ⟨R', v, gone, J.grown hFtl hg (fun r e => by have := hr r e; rw [hzL] at this; exact this)⟩
  case hIx =>
    rintro c s W W' row h
    cases h
  case h0 => exact ⟨R, _, [], hJ0⟩
  case assign =>
    intro l a W K hK
    gi_wp2
    exact hK
  case body =>
    rintro l pre a W ⟨R', v, gone, J⟩ hlt
    have hmix : Tryz.prog.follows .mixedOrders = true := by kernel_rfl
    obtain ⟨its, hrp, T0, _⟩ := hTree (fun e => by
      obtain ⟨X, Z, hXZ, _⟩ := a.ok.put
      have := congrArg List.length (hXZ.symm.trans e)
      simp at this)
    obtain ⟨g, c, ms, e1, e2, hM, m1, m2, hagl, hnx⟩ := J.next T0 hndF hasc hFF hFl hxFt a
    have k2 : W.cell? ⟨w.heap.size, 0, none⟩ = some (.int .i64 rev) := by simp [World.cell?, J.rv]
    have hlen : gone.length ≤ 1000000 := by
      have h1 : (filt ⟨#[]⟩ (R.map IM.it)).length ≤ (R.map IM.it).length := List.length_filter_le _ _
      have h2 := J.len
      simp at h1 h2; omega
    have hneed := (needed_any g c ms rev W.drew (ownsRow_upd hM (Upd.ofBelow (S := fun _ => False) (Below.refl _ W).drew) (fun _ _ h => h)) m1 m2).mono (R' := fun e V => ∃ g' c', e = .returned (.slice (some ⟨g', 0, none⟩) (cutL rev ms).length c') ∧ V.cell? ⟨a.g, a.i * 2 + 1, none⟩ = some (.slice (some ⟨g, 0, none⟩) ms.length c) ∧ V.frozen? ⟨a.g, a.i * 2 + 1, none⟩ = false ∧ Hid (TMid w x rp R.length hT bT nT R F Ft rev (pre.map fun a => a.it.key) a.it.key a.g a.i ms v gone W (V.setCell ⟨a.g, a.i * 2 + 1, none⟩ (.slice (some ⟨g', 0, none⟩) (cutL rev ms).length c')))) (by
      rintro e V ⟨v', rfl, hNP⟩
      have hNP' := hNP.after (w := W) (Below.refl _ W).drew
      obtain ⟨⟨g', c', rfl⟩, hMid⟩ := hnx V v' hNP'
      exact ⟨g', c', rfl, (hNP'.2.cell (p := ⟨a.g, a.i * 2 + 1, none⟩) hagl).trans e1, (hNP'.2.frozen (p := ⟨a.g, a.i * 2 + 1, none⟩) hagl).trans e2, hMid⟩)
    obtain ⟨ti, hti, hz0, hz1, hz2⟩ := info_parts info9
    have HOK : Hid (∀ W', TFin w x rp R.length hT bT nT R F Ft rev ((pre.map fun a => a.it.key) ++ [a.it.key]) W W' → KeepsFrom WL.heap.size W W' ∧ KpS w Ft W W' ∧ ∃ R' v gone, TJ w x rp R.length hT bT nT R F Ft rev ((pre ++ [a]).map fun a => a.it.key) R' v gone W') := fun W' hW => by
      rw [hzL, List.map_append]; exact hW
    clear hnx J hM m1 m2 hJ0 hseq hTree T0 hMA hRt H hnd0 hndF hFF hFl hFtl hasc hai hx hbL r0 r1 r2 r3 hb0 hxFt hF hlt hR hrp
    gi_wp2
    rename_i K2 hK2
    have KEY : ∀ (V : World) (g' c' : Nat), V.cell? ⟨a.g, a.i * 2 + 1, none⟩ = some (.slice (some ⟨g, 0, none⟩) ms.length c) → V.frozen? ⟨a.g, a.i * 2 + 1, none⟩ = false → Hid (TMid w x rp R.length hT bT nT R F Ft rev (pre.map fun a => a.it.key) a.it.key a.g a.i ms v gone W (V.setCell ⟨a.g, a.i * 2 + 1, none⟩ (.slice (some ⟨g', 0, none⟩) (cutL rev ms).length c'))) →
        K2 { tmps := #[ptr x, .int .i64 rev, undef, .pointer (some ⟨w.heap.size, 0, none⟩), .pointer (some ⟨w.heap.size + 1, 0, none⟩), .pointer (some (encA a)), undef, undef, ptr x, .pointer (some ⟨x, 0, none⟩), .pointer (some ⟨x, 0, none⟩), .pointer rp, .func (.func 97) #[] #[.pointer (some ⟨w.heap.size + 1 + 1, 0, none⟩), .pointer (some ⟨w.heap.size + 1 + 1 + 1, 0, none⟩)], .pointer (some (encA a)), .pointer (some (encA a)), .pointer (some (encA a)), .pointer (some (encA a)), .pointer (some ⟨a.g, a.i * 2 + 1, none⟩), .slice (some ⟨g, 0, none⟩) ms.length c, .int .i64 rev, .slice (some ⟨g', 0, none⟩) (cutL rev ms).length c', .pointer (some (encA a)), .pointer (some ⟨a.g, a.i * 2 + 1, none⟩), undef, undef, undef, undef, undef, undef, undef, undef, undef, undef, undef, undef, undef, undef, undef, undef, undef, undef, undef, undef, undef, undef, undef], defers := [] } (V.setCell ⟨a.g, a.i * 2 + 1, none⟩ (.slice (some ⟨g', 0, none⟩) (cutL rev ms).length c')) := by
      intro V g' c' v1 v2 HMid
      refine hK2 _ _ ?_
      clear hK2 K2 hneed e1 e2 k2
      by_cases hm : cutL rev ms = []
      · have hml : (cutL rev ms).length = 0 := by rw [hm]; rfl
        rw [hml] at HMid ⊢
        have HM := Hid.mk'' hm
        clear hm hml
        gi_wp2
        clear hagl v1 v2
        generalize V.setCell ⟨a.g, a.i * 2 + 1, none⟩ (.slice (some ⟨g', 0, none⟩) 0 c') = W5 at *
        obtain ⟨k0, q1, q2, q6, _, hgn⟩ := HMid.out
        have HG := Hid.mk'' (hgn HM.out)
        clear HMid hgn
        have k2 : W5.cell? ⟨w.heap.size + 1, 0, none⟩ = some v := by simp [World.cell?, q1]
        have ca1 : ∀ o, (W5.alloc o).cell? ⟨w.heap.size + 1, 0, none⟩ = some v := fun o => (((Below.refl _ W5).alloc (Nat.le_refl _) o).cell (p := ⟨w.heap.size + 1, 0, none⟩) (by show w.heap.size + 1 < W5.heap.size; omega)).trans k2
        have HRW : Hid (∀ V, Below W5.heap.size W5 V → V.ownsRow (w.heap.size + 4) 9 1 v gone.length (strs gone)) := fun V hb => ownsRow_upd q2 (Upd.ofBelow (S := fun _ => False) hb) (fun _ _ h => h)
        have HSR : Hid (∀ V, V.heap[W5.heap.size]? = some (.cells #[.string a.it.key] 9 (0, 0)) → Src Tryz.prog 1 37 (.slice (some ⟨W5.heap.size, 0, none⟩) 1 1) 1 (strs [a.it.key]) V) := fun V hr => Src.ofSlice V Tryz.underlying37 ⟨W5.heap.size, 0, none⟩ 1 1 _ rfl (fun j u hj => by
          rw [Addr.add_lit, Nat.zero_add, cell_of_row _ _ _ _ _ _ hr]; simpa using hj) (fun u hu => by simp at hu; subst hu; rfl)
        have HCL : Hid (∀ V w', Below W5.heap.size W5 V → Upd V w' (fun k => some k = v.ownBlock) → w'.cell? ⟨w.heap.size + 1, 0, none⟩ = some v ∧ w'.frozen? ⟨w.heap.size + 1, 0, none⟩ = false) := fun V w' hb hu => by
          have hl : w.heap.size + 1 < W5.heap.size := by omega
          have h1 := (hu.block _ (Nat.lt_of_lt_of_le hl hb.size) (fun e => by have := (ownBlock_ge q2 e.symm).1; omega)).trans ((hb.block _ hl).trans q1)
          exact ⟨by simp [World.cell?, h1], by simp [World.frozen?, h1]⟩
        have HFIN : Hid (∀ V2 w' nv, Below W5.heap.size W5 V2 → Upd V2 w' (fun k => some k = v.ownBlock) → (nv.ownBlock = v.ownBlock ∨ nv.ownBlock = some V2.heap.size) → w'.ownsRow (w.heap.size + 4) 9 1 nv (gone.length + 1) (strs gone ++ strs [a.it.key]) → KeepsFrom WL.heap.size W (w'.setCell ⟨w.heap.size + 1, 0, none⟩ nv) ∧ KpS w Ft W (w'.setCell ⟨w.heap.size + 1, 0, none⟩ nv) ∧ ∃ R' v gone, TJ w x rp R.length hT bT nT R F Ft rev ((pre ++ [a]).map fun a => a.it.key) R' v gone (w'.setCell ⟨w.heap.size + 1, 0, none⟩ nv)) := fun V2 w' nv h1 h2 h3 h4 => HOK.out _ (HG.out V2 w' nv h1 h2 h3 h4)
        clear HG q1
        refine wpIn_region_any (by kernel_rfl) ?_
        change wpAnyIn _ _ _ _ _ _ _ _ _ (World.drew _)
        refine wpAnyIn_ready (rs := [0, 1]) (by kernel_rfl) (by simp) ?_
        refine AllReadyIn.cons rfl (fun K hK => ?_) ?_
        · go_simp
          refine hK _ _ ?_
          clear hK K
          refine wpAnyIn_ready (rs := [1]) (by kernel_rfl) (by simp) ?_
          refine AllReadyIn.cons rfl (fun K hK => ?_) AllReadyIn.nil
          go_simp
          refine hK _ _ ?_
          clear hK K
          refine wpAnyIn_ready (rs := [2]) (by kernel_rfl) (by simp) ?_
          refine AllReadyIn.cons rfl (fun K hK => ?_) AllReadyIn.nil
          go_simp
          refine hK _ _ ?_
          clear hK K
          refine wpAnyIn_ready (rs := [3]) (by kernel_rfl) (by simp) ?_
          refine AllReadyIn.cons rfl (fun K hK => ?_) AllReadyIn.nil
          go_simp
          refine hK _ _ ?_
          clear hK K
          refine wpAnyIn_ready (rs := [4]) (by kernel_rfl) (by simp) ?_
          refine AllReadyIn.cons rfl (fun K hK => ?_) AllReadyIn.nil
          go_simp
          refine hK _ _ ?_
          clear hK K
          refine wpAnyIn_ready (rs := [5]) (by kernel_rfl) (by simp) ?_
          refine AllReadyIn.cons rfl (fun K hK => ?_) AllReadyIn.nil
          go_simp
          refine hK _ _ ?_
          clear hK K
          refine wpAnyIn_ready (rs := [6]) (by kernel_rfl) (by simp) ?_
          refine AllReadyIn.cons rfl (fun K hK => ?_) AllReadyIn.nil
          refine stepIn_appS _ rfl _ _ 37 37 rfl (w.heap.size + 4) 9 _ _ 1 Tryz.underlying37 hti hz0 hz1 rfl (by rw [hz2]; decide) v gone.length _ rfl (HRW.out _ (by repeat (first | exact Below.refl _ _ | refine Below.drew ?_ | refine Below.alloc ?_ (by simp) _))) (.slice (some ⟨W5.heap.size, 0, none⟩) 1 1) rfl 1 (strs [a.it.key]) (HSR.out _ (by first | exact row_alloc (World.drew (World.drew _)) _ _ | exact row_alloc (World.drew _) _ _)) (by omega) (by simp; omega) ?_
          intro v' w' p1 p2 p3 p4
          obtain ⟨p5, p6⟩ := HCL.out _ w' (by repeat (first | exact Below.refl _ _ | refine Below.drew ?_ | refine Below.alloc ?_ (by simp) _)) p2
          obtain ⟨g2, c2, rfl, _, _⟩ := owns_formB p1 (by omega)
          show K _ _
          refine hK _ _ ?_
          clear hK K
          refine wpAnyIn_ready (rs := [7]) (by kernel_rfl) (by simp) ?_
          refine AllReadyIn.cons rfl (fun K hK => ?_) AllReadyIn.nil
          go_simp
          refine hK _ _ ?_
          clear hK K
          refine wpAnyIn_done (by kernel_rfl) ?_ _
          gi_wp2; exact HFIN.out _ _ _ (by repeat (first | exact Below.refl _ _ | refine Below.drew ?_ | refine Below.alloc ?_ (by simp) _)) p2 p3 p1
        refine AllReadyIn.cons rfl (fun K hK => ?_) AllReadyIn.nil
        go_simp
        refine hK _ _ ?_
        clear hK K
        refine wpAnyIn_ready (rs := [0, 2]) (by kernel_rfl) (by simp) ?_
        refine AllReadyIn.cons rfl (fun K hK => ?_) ?_
        · go_simp
          refine hK _ _ ?_
          clear hK K
          refine wpAnyIn_ready (rs := [2]) (by kernel_rfl) (by simp) ?_
          refine AllReadyIn.cons rfl (fun K hK => ?_) AllReadyIn.nil
          go_simp
          refine hK _ _ ?_
          clear hK K
          refine wpAnyIn_ready (rs := [3]) (by kernel_rfl) (by simp) ?_
          refine AllReadyIn.cons rfl (fun K hK => ?_) AllReadyIn.nil
          go_simp
          refine hK _ _ ?_
          clear hK K
          refine wpAnyIn_ready (rs := [4]) (by kernel_rfl) (by simp) ?_
          refine AllReadyIn.cons rfl (fun K hK => ?_) AllReadyIn.nil
          go_simp
          refine hK _ _ ?_
          clear hK K
          refine wpAnyIn_ready (rs := [5]) (by kernel_rfl) (by simp) ?_
          refine AllReadyIn.cons rfl (fun K hK => ?_) AllReadyIn.nil
          go_simp
          refine hK _ _ ?_
          clear hK K
          refine wpAnyIn_ready (rs := [6]) (by kernel_rfl) (by simp) ?_
          refine AllReadyIn.cons rfl (fun K hK => ?_) AllReadyIn.nil
          refine stepIn_appS _ rfl _ _ 37 37 rfl (w.heap.size + 4) 9 _ _ 1 Tryz.underlying37 hti hz0 hz1 rfl (by rw [hz2]; decide) v gone.length _ rfl (HRW.out _ (by repeat (first | exact Below.refl _ _ | refine Below.drew ?_ | refine Below.alloc ?_ (by simp) _))) (.slice (some ⟨W5.heap.size, 0, none⟩) 1 1) rfl 1 (strs [a.it.key]) (HSR.out _ (by first | exact row_alloc (World.drew (World.drew _)) _ _ | exact row_alloc (World.drew _) _ _)) (by omega) (by simp; omega) ?_
          intro v' w' p1 p2 p3 p4
          obtain ⟨p5, p6⟩ := HCL.out _ w' (by repeat (first | exact Below.refl _ _ | refine Below.drew ?_ | refine Below.alloc ?_ (by simp) _)) p2
          obtain ⟨g2, c2, rfl, _, _⟩ := owns_formB p1 (by omega)
          show K _ _
          refine hK _ _ ?_
          clear hK K
          refine wpAnyIn_ready (rs := [7]) (by kernel_rfl) (by simp) ?_
          refine AllReadyIn.cons rfl (fun K hK => ?_) AllReadyIn.nil
          go_simp
          refine hK _ _ ?_
          clear hK K
          refine wpAnyIn_done (by kernel_rfl) ?_ _
          gi_wp2; exact HFIN.out _ _ _ (by repeat (first | exact Below.refl _ _ | refine Below.drew ?_ | refine Below.alloc ?_ (by simp) _)) p2 p3 p1
        refine AllReadyIn.cons rfl (fun K hK => ?_) AllReadyIn.nil
        go_simp
        refine hK _ _ ?_
        clear hK K
        refine wpAnyIn_ready (rs := [0, 3]) (by kernel_rfl) (by simp) ?_
        refine AllReadyIn.cons rfl (fun K hK => ?_) ?_
        · go_simp
          refine hK _ _ ?_
          clear hK K
          refine wpAnyIn_ready (rs := [3]) (by kernel_rfl) (by simp) ?_
          refine AllReadyIn.cons rfl (fun K hK => ?_) AllReadyIn.nil
          go_simp
          refine hK _ _ ?_
          clear hK K
          refine wpAnyIn_ready (rs := [4]) (by kernel_rfl) (by simp) ?_
          refine AllReadyIn.cons rfl (fun K hK => ?_) AllReadyIn.nil
          go_simp
          refine hK _ _ ?_
          clear hK K
          refine wpAnyIn_ready (rs := [5]) (by kernel_rfl) (by simp) ?_
          refine AllReadyIn.cons rfl (fun K hK => ?_) AllReadyIn.nil
          go_simp
          refine hK _ _ ?_
          clear hK K
          refine wpAnyIn_ready (rs := [6]) (by kernel_rfl) (by simp) ?_
          refine AllReadyIn.cons rfl (fun K hK => ?_) AllReadyIn.nil
          refine stepIn_appS _ rfl _ _ 37 37 rfl (w.heap.size + 4) 9 _ _ 1 Tryz.underlying37 hti hz0 hz1 rfl (by rw [hz2]; decide) v gone.length _ rfl (HRW.out _ (by repeat (first | exact Below.refl _ _ | refine Below.drew ?_ | refine Below.alloc ?_ (by simp) _))) (.slice (some ⟨W5.heap.size, 0, none⟩) 1 1) rfl 1 (strs [a.it.key]) (HSR.out _ (by first | exact row_alloc (World.drew (World.drew _)) _ _ | exact row_alloc (World.drew _) _ _)) (by omega) (by simp; omega) ?_
          intro v' w' p1 p2 p3 p4
          obtain ⟨p5, p6⟩ := HCL.out _ w' (by repeat (first | exact Below.refl _ _ | refine Below.drew ?_ | refine Below.alloc ?_ (by simp) _)) p2
          obtain ⟨g2, c2, rfl, _, _⟩ := owns_formB p1 (by omega)
          show K _ _
          refine hK _ _ ?_
          clear hK K
          refine wpAnyIn_ready (rs := [7]) (by kernel_rfl) (by simp) ?_
          refine AllReadyIn.cons rfl (fun K hK => ?_) AllReadyIn.nil
          go_simp
          refine hK _ _ ?_
          clear hK K
          refine wpAnyIn_done (by kernel_rfl) ?_ _
          gi_wp2; exact HFIN.out _ _ _ (by repeat (first | exact Below.refl _ _ | refine Below.drew ?_ | refine Below.alloc ?_ (by simp) _)) p2 p3 p1
        refine AllReadyIn.cons rfl (fun K hK => ?_) AllReadyIn.nil
        go_simp
        refine hK _ _ ?_
        clear hK K
        refine wpAnyIn_ready (rs := [0, 4]) (by kernel_rfl) (by simp) ?_
        refine AllReadyIn.cons rfl (fun K hK => ?_) ?_
        · go_simp
          refine hK _ _ ?_
          clear hK K
          refine wpAnyIn_ready (rs := [4]) (by kernel_rfl) (by simp) ?_
          refine AllReadyIn.cons rfl (fun K hK => ?_) AllReadyIn.nil
          go_simp
          refine hK _ _ ?_
          clear hK K
          refine wpAnyIn_ready (rs := [5]) (by kernel_rfl) (by simp) ?_
          refine AllReadyIn.cons rfl (fun K hK => ?_) AllReadyIn.nil
          go_simp
          refine hK _ _ ?_
          clear hK K
          refine wpAnyIn_ready (rs := [6]) (by kernel_rfl) (by simp) ?_
          refine AllReadyIn.cons rfl (fun K hK => ?_) AllReadyIn.nil
          refine stepIn_appS _ rfl _ _ 37 37 rfl (w.heap.size + 4) 9 _ _ 1 Tryz.underlying37 hti hz0 hz1 rfl (by rw [hz2]; decide) v gone.length _ rfl (HRW.out _ (by repeat (first | exact Below.refl _ _ | refine Below.drew ?_ | refine Below.alloc ?_ (by simp) _))) (.slice (some ⟨W5.heap.size, 0, none⟩) 1 1) rfl 1 (strs [a.it.key]) (HSR.out _ (by first | exact row_alloc (World.drew (World.drew _)) _ _ | exact row_alloc (World.drew _) _ _)) (by omega) (by simp; omega) ?_
          intro v' w' p1 p2 p3 p4
          obtain ⟨p5, p6⟩ := HCL.out _ w' (by repeat (first | exact Below.refl _ _ | refine Below.drew ?_ | refine Below.alloc ?_ (by simp) _)) p2
          obtain ⟨g2, c2, rfl, _, _⟩ := owns_formB p1 (by omega)
          show K _ _
          refine hK _ _ ?_
          clear hK K
          refine wpAnyIn_ready (rs := [7]) (by kernel_rfl) (by simp) ?_
          refine AllReadyIn.cons rfl (fun K hK => ?_) AllReadyIn.nil
          go_simp
          refine hK _ _ ?_
          clear hK K
          refine wpAnyIn_done (by kernel_rfl) ?_ _
          gi_wp2; exact HFIN.out _ _ _ (by repeat (first | exact Below.refl _ _ | refine Below.drew ?_ | refine Below.alloc ?_ (by simp) _)) p2 p3 p1
        refine AllReadyIn.cons rfl (fun K hK => ?_) AllReadyIn.nil
        go_simp
        refine hK _ _ ?_
        clear hK K
        refine wpAnyIn_ready (rs := [0, 5]) (by kernel_rfl) (by simp) ?_
        refine AllReadyIn.cons rfl (fun K hK => ?_) ?_
        · go_simp
          refine hK _ _ ?_
          clear hK K
          refine wpAnyIn_ready (rs := [5]) (by kernel_rfl) (by simp) ?_
          refine AllReadyIn.cons rfl (fun K hK => ?_) AllReadyIn.nil
          go_simp
          refine hK _ _ ?_
          clear hK K
          refine wpAnyIn_ready (rs := [6]) (by kernel_rfl) (by simp) ?_
          refine AllReadyIn.cons rfl (fun K hK => ?_) AllReadyIn.nil
          refine stepIn_appS _ rfl _ _ 37 37 rfl (w.heap.size + 4) 9 _ _ 1 Tryz.underlying37 hti hz0 hz1 rfl (by rw [hz2]; decide) v gone.length _ rfl (HRW.out _ (by repeat (first | exact Below.refl _ _ | refine Below.drew ?_ | refine Below.alloc ?_ (by simp) _))) (.slice (some ⟨W5.heap.size, 0, none⟩) 1 1) rfl 1 (strs [a.it.key]) (HSR.out _ (by first | exact row_alloc (World.drew (World.drew _)) _ _ | exact row_alloc (World.drew _) _ _)) (by omega) (by simp; omega) ?_
          intro v' w' p1 p2 p3 p4
          obtain ⟨p5, p6⟩ := HCL.out _ w' (by repeat (first | exact Below.refl _ _ | refine Below.drew ?_ | refine Below.alloc ?_ (by simp) _)) p2
          obtain ⟨g2, c2, rfl, _, _⟩ := owns_formB p1 (by omega)
          show K _ _
          refine hK _ _ ?_
          clear hK K
          refine wpAnyIn_ready (rs := [7]) (by kernel_rfl) (by simp) ?_
          refine AllReadyIn.cons rfl (fun K hK => ?_) AllReadyIn.nil
          go_simp
          refine hK _ _ ?_
          clear hK K
          refine wpAnyIn_done (by kernel_rfl) ?_ _
          gi_wp2; exact HFIN.out _ _ _ (by repeat (first | exact Below.refl _ _ | refine Below.drew ?_ | refine Below.alloc ?_ (by simp) _)) p2 p3 p1
        refine AllReadyIn.cons rfl (fun K hK => ?_) AllReadyIn.nil
        go_simp
        refine hK _ _ ?_
        clear hK K
        refine wpAnyIn_ready (rs := [0]) (by kernel_rfl) (by simp) ?_
        refine AllReadyIn.cons rfl (fun K hK => ?_) AllReadyIn.nil
        go_simp
        refine hK _ _ ?_
        clear hK K
        refine wpAnyIn_ready (rs := [6]) (by kernel_rfl) (by simp) ?_
        refine AllReadyIn.cons rfl (fun K hK => ?_) AllReadyIn.nil
        refine stepIn_appS _ rfl _ _ 37 37 rfl (w.heap.size + 4) 9 _ _ 1 Tryz.underlying37 hti hz0 hz1 rfl (by rw [hz2]; decide) v gone.length _ rfl (HRW.out _ (by repeat (first | exact Below.refl _ _ | refine Below.drew ?_ | refine Below.alloc ?_ (by simp) _))) (.slice (some ⟨W5.heap.size, 0, none⟩) 1 1) rfl 1 (strs [a.it.key]) (HSR.out _ (by first | exact row_alloc (World.drew (World.drew _)) _ _ | exact row_alloc (World.drew _) _ _)) (by omega) (by simp; omega) ?_
        intro v' w' p1 p2 p3 p4
        obtain ⟨p5, p6⟩ := HCL.out _ w' (by repeat (first | exact Below.refl _ _ | refine Below.drew ?_ | refine Below.alloc ?_ (by simp) _)) p2
        obtain ⟨g2, c2, rfl, _, _⟩ := owns_formB p1 (by omega)
        show K _ _
        refine hK _ _ ?_
        clear hK K
        refine wpAnyIn_ready (rs := [7]) (by kernel_rfl) (by simp) ?_
        refine AllReadyIn.cons rfl (fun K hK => ?_) AllReadyIn.nil
        go_simp
        refine hK _ _ ?_
        clear hK K
        refine wpAnyIn_done (by kernel_rfl) ?_ _
        gi_wp2; exact HFIN.out _ _ _ (by repeat (first | exact Below.refl _ _ | refine Below.drew ?_ | refine Below.alloc ?_ (by simp) _)) p2 p3 p1
      · have hml : 0 < (cutL rev ms).length := List.length_pos_iff.2 hm
        have HM := Hid.mk'' hm
        clear hm
        generalize (cutL rev ms).length = m at *
        gi_wp2
        exact HOK.out _ (HMid.out.full HM.out)
    gi_region_with_o (refine ⟨trivial, ?_⟩; gi_at_call 74; refine (CallsIn.inRound l (callsIn_wide.2 hneed)).mono ?_; rintro e V ⟨g', c', rfl, v1, v2, HMid⟩)
    all_goals exact KEY V g' c' v1 v2 HMid
  case done =>
    rintro D ys W hD hS ⟨R', v, gone, J⟩ hK
    rw [filt_all (fun x _ => klt_nil x.key)] at hS
    have hkeys : (ys.map fun a => a.it.key) = keysR R := by
      have := congrArg (List.map Itm.key) hS
      simpa [keysR, List.map_map, Function.comp_def] using this
    rw [hkeys] at J
    obtain ⟨gi1, gi2, gi3, gi4⟩ := gone_iff hasc J.st
    have hgl : gone.length ≤ 1000000 := by have h1 := J.len; simp at h1; omega
    have k2 : W.cell? ⟨w.heap.size + 1, 0, none⟩ = some v := by simp [World.cell?, J.bx]
    have hlenR : R'.length = R.length := by have := congrArg List.length J.ti.keys; simpa using this
    have HT0 : Hid (TL w W x F (fun k => k ∈ R'.flatMap ownM ∨ v.ownBlock = some k ∨ k = D) (R'.filter fun r => !hasKN (gone.take 0) r.it.key) W) := by
      have e0 : (R'.filter fun r => !hasKN (gone.take 0) r.it.key) = R' := by rw [List.filter_eq_self]; intro r _; rfl
      rw [e0]
      refine ⟨⟨rp, Ft, by rw [hlenR]; exact J.ti.xr, ?_, List.nodup_cons.2 ⟨hxFt, hndF⟩, fun k hk => .inl (hFF k hk), fun k hk hm => ?_⟩, by rw [J.ti.keys]; exact hasc, fun k hk => ⟨?_, rfl⟩, J.ti.upd⟩
      · by_cases hne : R' = []
        · have hRn : R = [] := List.eq_nil_of_length_eq_zero (by rw [← hlenR, hne]; rfl)
          subst hne
          subst hRn
          rcases hRt with h | ⟨h, b, its, h1, h2, h3, h4⟩
          · exact .inl h
          · have := h2.its_sub.length_le
            rw [List.map_nil, List.length_nil] at this
            omega
        · obtain ⟨its', e1, e2⟩ := J.ti.t hne
          obtain ⟨its, e3, e4, e5, e6, e7⟩ := hTree (fun e => hne (by
            have : R.length = 0 := by have := congrArg List.length e; simpa using this
            exact List.eq_nil_of_length_eq_zero (by rw [hlenR]; exact this)))
          exact .inr ⟨hT, bT, its', e3, e2, by omega, by omega⟩
      · rcases hk with hk | hk | rfl
        · rcases J.ti.own k hk with ⟨_, h⟩ | h
          · exact h hm
          · have := hFtl k hm; omega
        · have h1 := (ownBlock_ge J.row hk).1
          have := hFtl k hm; omega
        · have := hFtl k hm
          have h2 := hbL.size
          omega
      · rcases hk with hk | hk | rfl
        · obtain ⟨r, hr, hk⟩ := List.mem_flatMap.1 hk
          simp only [ownM, Option.mem_toList] at hk
          obtain ⟨_, _, _, hM⟩ := J.ti.mks r hr
          exact owns_lt hM hk
        · obtain ⟨_, c, f, hh⟩ := ownBlock_ge J.row hk
          exact (Array.getElem?_eq_some_iff.1 hh).1
        · exact (Array.getElem?_eq_some_iff.1 hK).1
    have HROW : Hid (∀ W2 Ri, TL w W x F (fun k => k ∈ R'.flatMap ownM ∨ v.ownBlock = some k ∨ k = D) Ri W2 → W2.ownsRow (w.heap.size + 4) 9 1 v gone.length (strs gone)) := fun W2 Ri hT => ownsRow_agree J.row (fun k hk => (hT.keep k (.inr (.inl hk))).2)
    have HEND : Hid (∀ W2, TL w W x F (fun k => k ∈ R'.flatMap ownM ∨ v.ownBlock = some k ∨ k = D) (R'.filter fun r => !hasKN (gone.take gone.length) r.it.key) W2 → W2.heap[D]? = some (.deferred (some [])) ∧ TrimP w x R F rev (W2.putObj D (.deferred none))) := fun W2 hT => by
      rw [gone_end gi1] at hT
      exact ⟨(hT.keep D (.inr (.inr rfl))).2.trans hK, hT.ix J.ti (fun k hk => .inl hk) (.inr (.inr rfl)) hK hasc J.st (grownBy_putObj' W2 D (.deferred none)) (by have := hbL.size; omega)⟩
    obtain ⟨vp, vc, hv⟩ := owns_formB0 J.row
    have hvp : 0 < gone.length → ∃ g, vp = some ⟨g, 0, none⟩ := fun h => by
      obtain ⟨g, c, e, _⟩ := owns_formB J.row h
      rw [hv] at e
      cases e
      exact ⟨g, rfl⟩
    subst hv
    have HN := Hid.mk'' gi2
    have HS := Hid.mk'' gi3
    have HLR : Hid (R'.length ≤ 1000000) := (show R'.length ≤ 1000000 by omega)
    clear hJ0 hseq hTree hMA hRt H hnd0 hndF hFF hFl hFtl hasc hai hx r0 r1 r2 r3 hb0 hxFt hF gi1 gi2 gi3 gi4 J hS hkeys hlenR ca c0 hR
    gi_wp2
    gi_loopw [38] (fun i wr => ∃ j : Nat, j ≤ gone.length ∧ i = .int .i64 j ∧ Hid (TL w W x F (fun k => k ∈ R'.flatMap ownM ∨ (Value.slice vp gone.length vc).ownBlock = some k ∨ k = D) (R'.filter fun r => !hasKN (gone.take j) r.it.key) wr)) (fun i _ => gone.length - (intOf i).toNat)
    case atStart => exact ⟨0, Nat.zero_le _, rfl, HT0⟩
    case round =>
      clear HT0
      obtain ⟨j, hj, rfl, HT⟩ := hrel
      by_cases hlt : j < gone.length
      · obtain ⟨g, rfl⟩ := hvp (by omega)
        obtain ⟨key, hkey⟩ : ∃ key, gone[j]? = some key := ⟨_, List.getElem?_eq_getElem hlt⟩
        have hcell : wr.cell? ⟨g, j, none⟩ = some (.string key) := by
          have := (HROW.out _ _ HT.out).cells (g := g) rfl j (.string key) (by simp [hkey])
          simpa only [Addr.add_lit, Nat.zero_add] using this
        have hdrop := HT.out.drop key (gone_in HN.out HS.out hkey) (Nat.le_trans (List.length_filter_le _ _) HLR.out)
        rw [gone_step hkey] at hdrop
        clear HT
        gi_wp2_with (refine ⟨trivial, ?_⟩; gi_at_call 75; refine (callsIn_wide.2 hdrop).mono ?_; rintro e W2 ⟨rfl, HT2⟩)
        go_roundw
        case rel => exact ⟨j + 1, by omega, by congr 1, HT2⟩
        case measure => simp [intOf]; omega
      · obtain rfl : j = gone.length := by omega
        obtain ⟨hK2, hP⟩ := HEND.out _ HT.out
        have HP := Hid.mk'' hP
        clear hP HT
        gi_wp2
        refine ⟨by simp, .inl ⟨_, _, rfl, run_takeDeferred hK2, ?_⟩⟩
        exact ⟨_, by simp [results, go_sem], rfl, HP.out⟩
  case stop =>
    rintro D c pre W hD hS h
    cases h
end Go.Proofs.YtjdmgmnndfhmgaaGreat
