/- The changes from a revision on. -/
import Derived.Test.YtjdmgmnndfhmgaaGreatGRM
import Derived.Deep.LoopGhost
import Derived.Deep.QuietTactic
import Derived.BigQuiet
import Derived.Deep.CutRange
import Derived.Deep.RegionHeldLaw
import Derived.Test.YtjdmgmnndfhmgaaGreatGRB
namespace Go.Proofs.YtjdmgmnndfhmgaaGreat
open Go Go.RowKit

/-- A change that is told: its revision, its key, what was done. -/
abbrev Evd := Int × ByteArray × Option KVd
def evL (e : Evd) : List Value := (evC e.1 e.2.2.isNone (evKV e.1 e.2.1 e.2.2)).toList
def evsC (l : List Evd) : List Value := l.flatMap evL
theorem evsC_len (l : List Evd) : (evsC l).length = l.length * 8 := by
  unfold evsC
  rw [List.length_flatMap]
  induction l with
  | nil => rfl
  | cons a l ih => simp only [List.map_cons, List.sum_cons, List.length_cons, ih]; simp [evL, evC]; omega
/-- What was done to a key at a revision. -/
def chgAt (h : Hs) (r : Int) : Option KVd := ((h.find? fun q => decide (q.1 = r)).map (·.2)).getD none
theorem chgAt_mem {h : Hs} {r : Int} {c : Option KVd} (ha : h.Pairwise (fun p q => p.1 < q.1)) (hc : (r, c) ∈ h) : chgAt h r = c := by
  unfold chgAt
  rw [find_mem ha hc]
  rfl
def evAt (S : Sto) (r : Int) : List Evd := (S.lg r).map fun k => (r, k, chgAt (S.kh k) r)
def evN (S : Sto) (rev : Int) (j : Nat) : List Evd := (List.range j).flatMap fun (i : Nat) => evAt S (rev + i)
theorem evN_succ (S : Sto) (rev : Int) (j : Nat) : evN S rev (j + 1) = evN S rev j ++ evAt S (rev + j) := by
  unfold evN
  rw [List.range_succ, List.flatMap_append]
  simp
theorem evN_le (S : Sto) (rev : Int) {i j : Nat} (h : i ≤ j) : (evN S rev i).length ≤ (evN S rev j).length := by
  induction j with
  | zero => obtain rfl : i = 0 := by omega
            exact Nat.le_refl _
  | succ j ih =>
    rcases Nat.lt_or_ge i (j + 1) with hlt | hge
    · rw [evN_succ, List.length_append]
      have := ih (by omega)
      omega
    · obtain rfl : i = j + 1 := by omega
      exact Nat.le_refl _
theorem info85 : (Tryz.prog.info? 63).map (fun i => (i.zero, i.size, i.bytes)) = some (some (.agg #[.int .i64 0, .bool false, .string ⟨#[]⟩, .string ⟨#[]⟩, .int .i64 0, .int .i64 0, .int .i64 0, .int .i64 0]), 8, 80) := by kernel_rfl
/-- A row of changes that was told. -/
def ER (w wr : World) (v : Value) (l : List Evd) : Prop := wr.ownsRow w.heap.size 63 8 v l.length (evsC l) ∧ Below w.heap.size w wr
/-- The log has each revision that is not compacted. -/
def LgOk (S : Sto) (g : Sg) : Prop := ∀ r : Int, (S.past : Int) < r → r ≤ S.rev → (∃ v, g.lv r = some v) ∧ ∀ k ∈ S.lg r, ∃ c, (r, c) ∈ S.kh k
set_option maxRecDepth 100000 in
theorem since_arg (w : World) (s : Nat) (rev : Int) (hr : rev < 1) : Calls Tryz.prog 32 #[ptr s, .int .i64 rev] w fun e w' => e = .returned (.tuple #[.slice none 0 0, .int .i64 1]) ∧ w' = w := by
  go_enter Tryz.func32, Tryz.ntmps32
  go_wp2
  refine bodyPost_ret (results_tmp2 rfl _ _ _) rfl ?_
  exact ⟨rfl, rfl⟩
section
variable {n : Nat} {w : World} {s : Nat} {S : Sto} {g : Sg} {o : Value} (h : St n w s S g o)
include h
set_option maxRecDepth 100000 in
theorem since_past (rev : Int) (hr : ¬ rev < 1) (hp : rev ≤ S.past) : Calls Tryz.prog 32 #[ptr s, .int .i64 rev] w fun e w' => e = .returned (.tuple #[.slice none 0 0, .int .i64 16]) ∧ w' = w := by
  obtain ⟨-, c1, -⟩ := h.cells
  clear h
  go_enter Tryz.func32, Tryz.ntmps32
  go_wp2
  refine bodyPost_ret (results_tmp2 rfl _ _ _) rfl ?_
  exact ⟨rfl, rfl⟩
set_option maxRecDepth 100000 in
set_option maxHeartbeats 2000000 in
theorem since_any (rev : Int) (hr : ¬ rev < 1) (hp : ¬ rev ≤ S.past) (hrm : rev ≤ 1000000000) (hS : S.rev ≤ 1000000000) (hl : LgOk S g) (hlen : (evN S rev ((S.rev : Int) + 1 - rev).toNat).length ≤ 1000000) :
    Calls Tryz.prog 32 #[ptr s, .int .i64 rev] w fun e w' => ∃ p c, e = .returned (.tuple #[.slice p (evN S rev ((S.rev : Int) + 1 - rev).toNat).length c, .int .i64 0]) ∧ ER w w' (.slice p (evN S rev ((S.rev : Int) + 1 - rev).toNat).length c) (evN S rev ((S.rev : Int) + 1 - rev).toNat) := by
  obtain ⟨m, hm⟩ : ∃ m, m = ((S.rev : Int) + 1 - rev).toNat := ⟨_, rfl⟩
  rw [← hm] at hlen ⊢
  have hml : ∀ j : Nat, j < m ↔ rev + j ≤ S.rev := fun j => by omega
  have hmb : (m : Int) ≤ 1000000001 := by omega
  obtain ⟨-, c1, -⟩ := h.cells
  have H := Hid.mk'' h
  have HL := Hid.mk'' hl
  have HML := Hid.mk'' hml
  have HSL : Hid (s < w.heap.size) := (Array.getElem?_eq_some_iff.1 h.blk).1
  clear h hl hml hm
  obtain ⟨t9, hti, hz0, hz1, hz2⟩ := info_parts info85
  go_enter Tryz.func32, Tryz.ntmps32
  go_wp2
  go_loopg [6, 7] (m + 1) (fun kx s6 s7 wr => ∃ (j : Nat) (p : Option Addr) (c : Nat), s6 = .slice p (evN S rev j).length c ∧ s7 = .int .i64 (rev + j) ∧ kx + j = m + 1 ∧ j ≤ m ∧ Hid (ER w wr (.slice p (evN S rev j).length c) (evN S rev j)))
  case atStart => exact ⟨0, none, 0, rfl, by simp, rfl, Nat.zero_le _, World.ownsRow_nil _ _ _ _, Below.refl _ _⟩
  case round =>
    obtain ⟨j, p, c, rfl, rfl, hkx, hj, HM⟩ := hrel
    have d0 := (HM.out.2.cell (p := ⟨s, 0, none⟩) HSL.out).trans H.out.cells.1
    by_cases hlt : j < m
    · have hle := (HML.out j).1 hlt
      have hpr : (S.past : Int) < rev + j := by omega
      obtain ⟨⟨v, hv⟩, hks⟩ := HL.out (rev + j) hpr hle
      have hst := H.out.below (HM.out.2.mono (Nat.le_refl _))
      obtain ⟨-, hrow⟩ := H.out.rows _ v hv
      obtain ⟨vp, vc, rfl⟩ := owns_formB0 hrow
      have hlk : (Instr.lookup 71 (.map (some g.bl)) (.int .i64 (rev + j)) false).run Tryz.prog wr = .ok (.slice vp (S.lg (rev + j)).length vc) wr := by
        have := hst.lg.look law61 Tryz.underlying71 (zero66 _) (rev + j) false
        rw [hv] at this
        exact this
      obtain ⟨-, -, -, -, d4, -⟩ := hst.cells
      have hsu := evN_succ S rev j
      have hle2 := evN_le S rev (show j + 1 ≤ m by omega)
      rw [hsu, List.length_append] at hle2
      have hal : (evAt S (rev + j)).length = (S.lg (rev + j)).length := by unfold evAt; rw [List.length_map]
      obtain ⟨K, hK⟩ : ∃ K, K = S.lg (rev + j) := ⟨_, rfl⟩
      obtain ⟨A, hA⟩ : ∃ A, A = evAt S (rev + j) := ⟨_, rfl⟩
      obtain ⟨E, hE⟩ : ∃ E, E = evN S rev j := ⟨_, rfl⟩
      obtain ⟨r, hrr⟩ : ∃ r, r = rev + (j : Int) := ⟨_, rfl⟩
      have HAk : Hid (∀ i k, K[i]? = some k → ∃ c, (r, c) ∈ S.kh k ∧ A[i]? = some (r, k, c)) := fun i k hi => by
        rw [hK] at hi
        rw [hrr]
        obtain ⟨c, hc⟩ := hks k (List.mem_of_getElem? hi)
        refine ⟨c, hc, ?_⟩
        rw [hA]
        unfold evAt
        rw [List.getElem?_map, hi, Option.map_some, chgAt_mem (H.out.hok k).asc hc]
      rw [← hK] at hlk hrow hal
      rw [← hA, ← hE] at hsu hle2
      rw [← hA] at hal
      rw [← hE] at HM ⊢
      rw [← hrr] at hlk hle ⊢
      have HROW := Hid.mk'' hrow
      have HSU := Hid.mk'' hsu
      have HRR := Hid.mk'' hrr
      have hrb : 1 ≤ r ∧ r ≤ 2000000000 := by omega
      clear hks hst hrow hv hK hA hE hsu hrr hpr
      have hAm : A.length ≤ 1000000 := by omega
      go_upto_region 10 with fail
      go_loopg [6, 36] (K.length + 1) (fun kx s6 s36 wq => ∃ (i : Nat) (p : Option Addr) (c : Nat), s6 = .slice p (E ++ A.take i).length c ∧ s36 = .int .i64 i ∧ kx + i = K.length + 1 ∧ i ≤ K.length ∧ Hid (ER w wq (.slice p (E ++ A.take i).length c) (E ++ A.take i)))
      case atStart => exact ⟨0, p, c, by simp, rfl, rfl, Nat.zero_le _, by rw [List.take_zero, List.append_nil]; exact HM.out⟩
      case round =>
        obtain ⟨i, p', c', rfl, rfl, hkx2, hi, HM2⟩ := hrel
        by_cases hlt2 : i < K.length
        · obtain ⟨k, hkk⟩ : ∃ k, K[i]? = some k := ⟨_, List.getElem?_eq_getElem hlt2⟩
          obtain ⟨cc, hmem, hAi⟩ := HAk.out i k hkk
          obtain ⟨gg, cg, hvv, hcell⟩ := row_cell HROW.out hkk
          have hgl : gg < w.heap.size := (HROW.out.lt gg (by rw [hvv]; rfl)).2
          have kcell := (HM2.out.2.cell (p := ⟨gg, i, none⟩) hgl).trans hcell
          have hvp : vp = some ⟨gg, 0, none⟩ := by cases hvv; rfl
          subst hvp
          have hcall := event_any (H.out.below HM2.out.2) k r cc hmem
          have htk : A.take (i + 1) = A.take i ++ [(r, k, cc)] := by rw [List.take_add_one, hAi]; rfl
          have hlt3 : (A.take i).length = i := by rw [List.length_take]; omega
          obtain ⟨B, hB⟩ : ∃ B, B = E ++ A.take i := ⟨_, rfl⟩
          have hBl : B.length = E.length + i := by rw [hB, List.length_append, hlt3]
          have hBs : E ++ A.take (i + 1) = B ++ [(r, k, cc)] := by rw [htk, hB, List.append_assoc]
          obtain ⟨x, hx⟩ : ∃ x, x = evKV r k cc := ⟨_, rfl⟩
          obtain ⟨dl, hdl⟩ : ∃ dl, dl = cc.isNone := ⟨_, rfl⟩
          have hel : evL (r, k, cc) = (evC r dl x).toList := by rw [hx, hdl]; rfl
          unfold encEv at hcall
          rw [← hx, ← hdl] at hcall
          rw [← hB] at HM2 ⊢
          obtain ⟨kk, kvv, kcr, kmo, kve, kle⟩ := x
          dsimp only [evC] at hcall hel
          have HX : Hid (∀ w3, Below wr.heap.size wr w3 → Src Tryz.prog 8 28 (.slice (some ⟨w3.heap.size, 0, none⟩) 1 1) 1 (evL (r, k, cc)) (w3.alloc (.cells #[.int .i64 r, .bool dl, .string kk, .string kvv, .int .i64 kcr, .int .i64 kmo, .int .i64 kve, .int .i64 kle] 63)) ∧ (w3.alloc (.cells #[.int .i64 r, .bool dl, .string kk, .string kvv, .int .i64 kcr, .int .i64 kmo, .int .i64 kve, .int .i64 kle] 63)).ownsRow w.heap.size 63 8 (.slice p' B.length c') B.length (evsC B) ∧ w.heap.size ≤ w3.heap.size ∧ Hid (∀ w', Upd (w3.alloc (.cells #[.int .i64 r, .bool dl, .string kk, .string kvv, .int .i64 kcr, .int .i64 kmo, .int .i64 kve, .int .i64 kle] 63)) w' (fun k => some k = (Value.slice p' B.length c').ownBlock) → Below w.heap.size w w')) := fun w3 hb3 => by
            have hba : Below w3.heap.size w3 (w3.alloc (.cells #[.int .i64 r, .bool dl, .string kk, .string kvv, .int .i64 kcr, .int .i64 kmo, .int .i64 kve, .int .i64 kle] 63)) := (Below.refl _ w3).alloc (Nat.le_refl _) _
            have hwz : w.heap.size ≤ wr.heap.size := HM2.out.2.size
            have hb4 : Below wr.heap.size wr (w3.alloc (.cells #[.int .i64 r, .bool dl, .string kk, .string kvv, .int .i64 kcr, .int .i64 kmo, .int .i64 kve, .int .i64 kle] 63)) := hb3.trans (hba.mono hb3.size)
            have hbw := HM2.out.2.trans (hb4.mono hwz)
            refine ⟨Src.ofSlice _ Tryz.underlying28 ⟨w3.heap.size, 0, none⟩ 1 1 _ (by rw [hel]; rfl) (fun j u hj => ?_) (fun u hu => ?_), ownsRow_upd HM2.out.1 (Upd.ofBelow (S := fun _ => False) hb4) (fun _ _ h => h), Nat.le_trans hwz hb3.size, fun w' hu => hbw.trans (hu.below hbw.size (fun k hk e => by have := (HM2.out.1.lt k e.symm).1; omega))⟩
            · rw [hel] at hj
              rw [Addr.add_lit, Nat.zero_add, cell_of_row _ _ _ _ _ _ (row_alloc w3 _ 63)]
              simpa using hj
            · rw [hel] at hu
              simp at hu
              rcases hu with rfl | rfl | rfl | rfl | rfl | rfl | rfl | rfl <;> rfl
          have HBS := Hid.mk'' hBs
          have hB3 : B.length ≤ 1000000 := by omega
          clear hBs htk hel hx hdl hB hAi hmem hcell hvv hkk hgl hBl hlt3
          go_wp2_with (first | (go_at_call 58; refine hcall.mono ?_; rintro e w3 ⟨rfl, hb3⟩; obtain ⟨hsrc, hown, hwz, HFIN⟩ := HX.out w3 hb3) | (at_builtin; refine wpList_appS _ rfl (.tmp 40) (.tmp 46) 28 28 rfl w.heap.size 63 t9 _ 8 Tryz.underlying28 hti hz0 hz1 rfl (by rw [hz2]; decide) _ B.length (evsC B) rfl hown _ rfl 1 (evL (r, k, cc)) hsrc (by omega) (by simp; omega) ?_; intro v' w' q1 q2 q3 q4; obtain ⟨np, nc, hnv⟩ := owns_formB0 q1; subst hnv; clear q3 q4))
          go_roundg (K.length - i)
          case measure => omega
          case rel => exact ⟨i + 1, np, nc, by rw [HBS.out]; simp, by congr 1, by omega, by omega, by rw [HBS.out]; exact ⟨by simpa [evsC] using q1, HFIN.out _ q2⟩⟩
        · obtain rfl : i = K.length := by omega
          have htl : A.take K.length = A := by rw [← hal, List.take_length]
          rw [htl] at HM2 ⊢
          go_wp2
          go_roundg (m - j)
          case measure => omega
          case rel => exact ⟨j + 1, p', c', by rw [HSU.out], by have := HRR.out; congr 1; omega, by omega, by omega, by rw [HSU.out]; exact HM2.out⟩
    · have hle : ¬ rev + j ≤ S.rev := fun e => hlt ((HML.out j).2 e)
      obtain rfl : j = m := by omega
      go_wp2
      refine bodyPost_ret (results_tmp2 rfl _ _ _) rfl ?_
      exact ⟨p, c, rfl, HM.out⟩
end
end Go.Proofs.YtjdmgmnndfhmgaaGreat
/- Who hears of a key: an ear's methods, asked of a watcher. -/
namespace Go.Proofs.YtjdmgmnndfhmgaaGreat
open Go Go.RowKit

theorem Hid.mkW {p : Prop} (h : p) : Hid p := h
theorem list_beq (a b : ByteArray) : (a.toList == b.toList) = decide (a = b) := by
  rw [toList_data, toList_data]
  by_cases h : a = b
  · subst h; simp
  · have : a.data.toList ≠ b.data.toList := fun e => h (bytes_ext e)
    rw [decide_eq_false h]
    exact beq_eq_false_iff_ne.2 this
theorem isEmpty_list (a : ByteArray) : a.toList.isEmpty = decide (a = ByteArray.empty) := by
  rw [toList_data]
  by_cases h : a = ByteArray.empty
  · subst h; rfl
  · rw [decide_eq_false h]
    cases e : a.data.toList with
    | nil => exact absurd (bytes_ext (b := ByteArray.empty) (by rw [e]; rfl)) h
    | cons x r => rfl
theorem leq_klt (a b : ByteArray) : (Op.bytesLess a.toList b.toList || a.toList == b.toList) = !klt b a := by
  rw [bl_data, list_beq]
  by_cases e : a = b
  · subst e; simp [klt_irrefl]
  · rw [decide_eq_false e, Bool.or_false]
    cases h1 : klt a b <;> cases h2 : klt b a
    · exact absurd (klt_tri h1 h2) e
    · rfl
    · rfl
    · have := klt_trans h1 h2; rw [klt_irrefl] at this; cases this
set_option maxRecDepth 100000 in
set_option maxHeartbeats 1000000 in
theorem hears_any (b : Nat) (lo hi key : ByteArray) (w : World) (h0 : w.cell? ⟨b, 0, none⟩ = some (.string lo)) (h1 : w.cell? ⟨b, 1, none⟩ = some (.string hi)) : Calls Tryz.prog 164 #[ptr b, .string key] w fun e w' => e = .returned (.bool (inR lo hi key)) ∧ w' = w := by
  by_cases hh : hi = ByteArray.empty
  · have e : inR lo hi key = decide (key = lo) := by simp [inR, hh]
    rw [e]
    subst hh
    go_enter Tryz.func164, Tryz.ntmps164
    go_wp2
    go_ret
    refine ⟨?_, rfl⟩
    show Ending.returned (Value.bool (key.toList == lo.toList)) = _
    rw [list_beq]
  · have e : inR lo hi key = (!klt key lo && klt key hi) := by simp [inR, hh]
    have he : hi.toList.isEmpty = false := by rw [isEmpty_list]; simp [hh]
    have hge := leq_klt lo key
    have HE := Hid.mkW e
    clear e hh
    cases hk : klt key lo with
    | true =>
      rw [hk] at hge
      go_enter Tryz.func164, Tryz.ntmps164
      go_wp2
      go_ret
      refine ⟨?_, rfl⟩
      rw [HE.out, hk]
      rfl
    | false =>
      rw [hk] at hge
      go_enter Tryz.func164, Tryz.ntmps164
      go_wp2
      go_ret
      refine ⟨?_, rfl⟩
      rw [HE.out, hk]
      rw [← bl_data key hi]
      rfl
theorem from_any (b : Nat) (p : Int) (w : World) (h : w.cell? ⟨b, 2, none⟩ = some (.int .i64 p)) : Calls Tryz.prog 163 #[ptr b] w fun e w' => e = .returned (.int .i64 p) ∧ w' = w := by
  go_enter Tryz.func163, Tryz.ntmps163
  go_wp2
  go_ret
  exact ⟨rfl, rfl⟩
/-- An ear in memory, behind a watcher of one of both kinds. -/
structure Ear (w : World) (t b : Nat) (lo hi : ByteArray) (place : Int) : Prop where
  ty : t = 108 ∨ t = 101
  lo : w.cell? ⟨b, 0, none⟩ = some (.string lo)
  hi : w.cell? ⟨b, 1, none⟩ = some (.string hi)
  place : w.cell? ⟨b, 2, none⟩ = some (.int .i64 place)
theorem Ear.upd {w w' : World} {T : Nat → Prop} {t b : Nat} {lo hi : ByteArray} {p : Int} (h : Ear w t b lo hi p) (hu : Upd w w' T) (hb : ¬ T b) : Ear w' t b lo hi p :=
  ⟨h.ty, (hu.cell (p := ⟨b, 0, none⟩) (World.block_lt_of_cell? _ _ h.lo) hb).trans h.lo, (hu.cell (p := ⟨b, 1, none⟩) (World.block_lt_of_cell? _ _ h.hi) hb).trans h.hi, (hu.cell (p := ⟨b, 2, none⟩) (World.block_lt_of_cell? _ _ h.place) hb).trans h.place⟩
theorem Ear.below {w w' : World} {t b : Nat} {lo hi : ByteArray} {p : Int} (h : Ear w t b lo hi p) (hb : Below w.heap.size w w') : Ear w' t b lo hi p := h.upd (T := fun _ => False) (Upd.ofBelow hb) (fun e => e)
set_option maxRecDepth 100000 in
set_option maxHeartbeats 1000000 in
theorem deaf_any (w : World) (t b q : Nat) (lo hi : ByteArray) (p : Int) (E : Ear w t b lo hi p) (hq : w.cell? ⟨q, 0, none⟩ = some (.iface t (ptr b))) (rev : Int) (d : Bool) (k : KVd) :
    Calls Tryz.prog 78 #[.agg (evC rev d k), ptr q] w fun e w' => e = .returned (.bool (!inR lo hi k.key)) ∧ Below w.heap.size w w' := by
  obtain ⟨w1, hw1⟩ : ∃ w1, w1 = w.alloc (.cells (evC rev d k) 63) := ⟨_, rfl⟩
  have hb1 : Below w.heap.size w w1 := by rw [hw1]; exact (Below.refl _ w).alloc (Nat.le_refl _) _
  have r1 : w1.heap[w.heap.size]? = some (.cells (evC rev d k) 63 (0, 0)) := by rw [hw1]; exact row_alloc w _ _
  have E1 := E.below hb1
  have q1 := (hb1.cell (p := ⟨q, 0, none⟩) (World.block_lt_of_cell? _ _ hq)).trans hq
  have hcall := hears_any b lo hi k.key w1 E1.lo E1.hi
  have c2 := (box8 r1).1.2.2.1
  rcases E.ty with rfl | rfl
  all_goals
    unfold evC at hw1 ⊢
    have HB := Hid.mkW hb1
    clear E E1 hb1 r1 hq
    go_enter Tryz.func78, Tryz.ntmps78
    go_upto_region 1 with fail
    rw [← hw1]
    obtain ⟨g, hg⟩ : ∃ g, g = w.heap.size := ⟨_, rfl⟩
    rw [← hg] at c2 ⊢
    clear hw1 hg
    go_wp2_with (go_at_call 164; refine hcall.mono ?_; rintro e w' ⟨rfl, hw'⟩; obtain rfl := hw'.symm)
    go_ret
    exact ⟨rfl, HB.out⟩
end Go.Proofs.YtjdmgmnndfhmgaaGreat
/- slices.IndexFunc and slices.DeleteFunc of a row of changes. -/
namespace Go.Proofs.YtjdmgmnndfhmgaaGreat
open Go Go.RowKit

theorem evsC_at : ∀ {l : List Evd} {i : Nat} {e : Evd} (_ : l[i]? = some e) (t : Nat), t < 8 → (evsC l)[i * 8 + t]? = (evL e)[t]?
  | [], i, e, h, t, ht => by simp at h
  | x :: l, 0, e, h, t, ht => by
    have e' : x = e := by simpa using h
    subst e'
    show (evL x ++ evsC l)[0 * 8 + t]? = _
    rw [Nat.zero_mul, Nat.zero_add, List.getElem?_append_left (by simpa [evL, evC] using ht)]
  | x :: l, i + 1, e, h, t, ht => by
    show (evL x ++ evsC l)[(i + 1) * 8 + t]? = _
    have hl : (evL x).length = 8 := by simp [evL, evC]
    rw [List.getElem?_append_right (by omega), hl, ← evsC_at (l := l) (i := i) (by simpa using h) t ht]
    congr 1
    omega
/-- A row of changes that is read. -/
def EVs (w : World) (v : Value) (l : List Evd) : Prop := ∃ p c, v = .slice p l.length c ∧ l.length ≤ c ∧ ∀ i e, l[i]? = some e → ∃ g, p = some ⟨g, 0, none⟩ ∧ g < w.heap.size ∧ ∀ t u, t < 8 → (evL e)[t]? = some u → w.cell? ⟨g, i * 8 + t, none⟩ = some u
theorem EVs.of {w : World} {B : Nat} {v : Value} {l : List Evd} (h : w.ownsRow B 63 8 v l.length (evsC l)) : EVs w v l := by
  rcases h.2 with ⟨rfl, h0⟩ | ⟨g, cap, cur, rfl, hg, hh, h1, h2, h3, h4⟩
  · refine ⟨none, 0, by rw [h0], by omega, fun i e hi => ?_⟩
    have := (List.getElem?_eq_some_iff.1 hi).1
    omega
  · refine ⟨_, cap, rfl, h1, fun i e hi => ⟨g, rfl, (Array.getElem?_eq_some_iff.1 hh).1, fun t u ht hu => ?_⟩⟩
    have := h.cells (g := g) rfl (i * 8 + t) u (by rw [evsC_at hi t ht]; exact hu)
    rwa [Addr.add_lit, Nat.zero_add] at this
theorem EVs.below {w w' : World} {v : Value} {l : List Evd} (h : EVs w v l) {B : Nat} (hb : Below B w w') (hB : w.heap.size ≤ B) : EVs w' v l := by
  obtain ⟨p, c, e, h1, h2⟩ := h
  refine ⟨p, c, e, h1, fun i x hi => ?_⟩
  obtain ⟨g, h3, h4, h5⟩ := h2 i x hi
  exact ⟨g, h3, Nat.lt_of_lt_of_le h4 hb.size, fun t u ht hu => (hb.cell (p := ⟨g, i * 8 + t, none⟩) (by show g < B; omega)).trans (h5 t u ht hu)⟩
/-- A predicate of changes, as it is asked while blocks of T are written. -/
def Asks (w : World) (T : Nat → Prop) (q : Nat) (p : Evd → Bool) : Prop := ∀ W e, Upd w W T → Calls Tryz.prog 78 #[.agg (evC e.1 e.2.2.isNone (evKV e.1 e.2.1 e.2.2)), ptr q] W fun r w' => r = .returned (.bool (!p e)) ∧ Below W.heap.size W w'
set_option maxRecDepth 100000 in
set_option maxHeartbeats 1000000 in
/-- Where the first one stands that is not of p. -/
theorem indexFunc_any (w : World) (T : Nat → Prop) (q : Nat) (p : Evd → Bool) (v : Value) (l : List Evd) (hE : EVs w v l) (hA : Asks w T q p) (hl : l.length ≤ 1000000) :
    Calls Tryz.prog 106 #[v, .func (.func 78) #[] #[ptr q]] w fun r w' => ∃ x : Int, r = .returned (.int .i64 x) ∧ ((x = -1 ∧ l.filter p = l) ∨ ∃ i : Nat, x = i ∧ i < l.length ∧ (∀ j e, j < i → l[j]? = some e → p e = true) ∧ ∀ e, l[i]? = some e → p e = false) ∧ Below w.heap.size w w' := by
  have HE := Hid.mkW hE
  obtain ⟨ap, c, rfl, hc, hh⟩ := hE
  have HH := Hid.mkW hh
  have HA := Hid.mkW hA
  clear hh hA
  go_enter Tryz.func106, Tryz.ntmps106
  go_wp2
  go_loopg [5, 8] (l.length + 1) (fun kx s5 s8 wq => ∃ i : Nat, s8 = .int .i64 i ∧ kx + i = l.length + 1 ∧ i ≤ l.length ∧ Hid (Below w.heap.size w wq) ∧ Hid (∀ j e, j < i → l[j]? = some e → p e = true))
  case atStart => exact ⟨0, rfl, rfl, Nat.zero_le _, Below.refl _ _, fun j e h => by omega⟩
  case round =>
    obtain ⟨i, rfl, hk, hi, HB, HP⟩ := hrel
    by_cases hlt : i < l.length
    · obtain ⟨ev, hev⟩ : ∃ ev, l[i]? = some ev := ⟨_, List.getElem?_eq_getElem hlt⟩
      obtain ⟨g, hg, hgl, hcell⟩ := HH.out i ev hev
      subst hg
      have hcall := HA.out wr ev (Upd.ofBelow HB.out)
      have hc' : ∀ t u, t < 8 → (evL ev)[t]? = some u → wr.cell? ⟨g, i * 8 + t, none⟩ = some u := fun t u ht hu => (HB.out.cell (p := ⟨g, i * 8 + t, none⟩) hgl).trans (hcell t u ht hu)
      have e0 := hc' 0 _ (by omega) rfl
      have e1 := hc' 1 _ (by omega) rfl
      have e2 := hc' 2 _ (by omega) rfl
      have e3 := hc' 3 _ (by omega) rfl
      have e4 := hc' 4 _ (by omega) rfl
      have e5 := hc' 5 _ (by omega) rfl
      have e6 := hc' 6 _ (by omega) rfl
      have e7 := hc' 7 _ (by omega) rfl
      obtain ⟨pe, hpe⟩ : ∃ pe, pe = p ev := ⟨_, rfl⟩
      rw [← hpe] at hcall
      have HPE := Hid.mkW hpe
      have HEV := Hid.mkW hev
      generalize evKV ev.1 ev.2.1 ev.2.2 = kv at *
      generalize ev.2.2.isNone = dl at *
      generalize ev.1 = r at *
      obtain ⟨xk, xv, xc, xm, xe, xl⟩ := kv
      simp only [Nat.add_zero] at e0
      dsimp only [evC] at hcall
      dsimp only at e2 e3 e4 e5 e6 e7
      clear hc' hcell hev hpe
      cases pe with
      | true =>
        go_wp2_with (go_at_call 78; refine hcall.mono ?_; rintro e w3 ⟨rfl, hb3⟩)
        go_roundg (l.length - i)
        case measure => omega
        case rel =>
          refine ⟨i + 1, by congr 1, by omega, by omega, HB.out.trans (hb3.mono HB.out.size), fun j e hj he => ?_⟩
          rcases Nat.lt_or_ge j i with h1 | h1
          · exact HP.out j e h1 he
          · obtain rfl : j = i := by omega
            rw [HEV.out] at he
            cases he
            exact HPE.out.symm
      | false =>
        go_wp2_with (go_at_call 78; refine hcall.mono ?_; rintro e w3 ⟨rfl, hb3⟩)
        go_ret
        exact ⟨i, rfl, .inr ⟨i, rfl, hlt, HP.out, fun e he => by rw [HEV.out] at he; cases he; exact HPE.out.symm⟩, HB.out.trans (hb3.mono HB.out.size)⟩
    · obtain rfl : i = l.length := by omega
      go_wp2
      go_ret
      refine ⟨-1, rfl, .inl ⟨rfl, List.filter_eq_self.2 fun x hx => ?_⟩, HB.out⟩
      obtain ⟨j, hj, hj'⟩ := List.getElem_of_mem hx
      exact HP.out j x hj (by rw [List.getElem?_eq_getElem hj, hj'])
end Go.Proofs.YtjdmgmnndfhmgaaGreat
/- slices.Delete and slices.Clone of a row of changes. -/
namespace Go.Proofs.YtjdmgmnndfhmgaaGreat
open Go Go.RowKit

theorem row_cellsE {w : World} {g : Nat} {cur : Array Value} (hg : w.heap[g]? = some (.cells cur 63 (0, 0))) (j : Nat) (v : Value) (h : cur.toList[j]? = some v) : w.cell? ⟨g, j, none⟩ = some v := by
  rw [cell_of_row w g j cur 63 _ hg]
  simpa using h
set_option maxRecDepth 20000 in
set_option maxHeartbeats 1000000 in
theorem delE_row (g n c i j : Nat) (cur : Array Value) (w : World) (hg : w.heap[g]? = some (.cells cur 63 (0, 0))) (hij : i < j) (hj : j ≤ n) (hnc : n ≤ c) (hcm : c ≤ maxLen) (hcs : cur.size = c * 8) (hn : n ≤ 1000) (h1 : ∀ u ∈ cur.toList.take (n * 8), u.oneCell' = true) :
    Calls Tryz.prog 80 #[.slice (some ⟨g, 0, none⟩) n c, .int .i64 i, .int .i64 j] w fun e w' => e = .returned (.slice (some ⟨g, 0, none⟩) (i + (n - j)) c) ∧
      w'.ownsRow 0 63 8 (.slice (some ⟨g, 0, none⟩) (i + (n - j)) c) (i + (n - j)) ((cur.toList.take (n * 8)).take (i * 8) ++ (cur.toList.take (n * 8)).drop (j * 8)) ∧ Upd w w' (fun k => k = g) ∧ w'.heap.size = w.heap.size := by
  obtain ⟨ti, hti, hz0, hz1, hz2⟩ := info_parts info85
  have hc63 : c ≤ 9223372036854775807 := by unfold maxLen at hcm; omega
  obtain ⟨L, hL⟩ : ∃ L, L = cur.toList := ⟨_, rfl⟩
  rw [← hL] at h1 ⊢
  have hLl : L.length = c * 8 := by rw [hL]; simpa using hcs
  have hdl : ((L.take (n * 8)).drop (j * 8)).length = (n - j) * 8 := by rw [List.length_drop, List.length_take, hLl]; omega
  obtain ⟨c1, hc1⟩ : ∃ c1, c1 = L.take (i * 8) ++ (L.take (n * 8)).drop (j * 8) ++ L.drop (i * 8 + ((L.take (n * 8)).drop (j * 8)).length) := ⟨_, rfl⟩
  have hc1l : c1.length = L.length := by rw [hc1, List.length_append, List.length_append, hdl, List.length_take, List.length_drop, hLl]; omega
  have hsrc : ∀ (a : Addr) (sc : Nat), (a = ⟨g, j * 8, none⟩ ∨ n - j = 0) → Src Tryz.prog 8 28 (.slice (some a) (n - j) sc) (n - j) ((L.take (n * 8)).drop (j * 8)) w.drew := fun a sc ha => Src.ofSlice w.drew Tryz.underlying28 a (n - j) sc _ hdl (fun k u hk => by
    rcases ha with rfl | ha
    · rw [Addr.add_lit]
      refine row_cellsE (w := w.drew) hg _ u ?_
      rw [List.getElem?_drop, List.getElem?_take] at hk
      split at hk
      · rw [← hL]; simpa using hk
      · cases hk
    · rw [ha] at hdl
      have hnil := List.eq_nil_of_length_eq_zero (show ((L.take (n * 8)).drop (j * 8)).length = 0 by omega)
      rw [hnil] at hk
      simp at hk) (fun v hv => h1 v (List.mem_of_mem_drop hv))
  have hap : ∀ ty (a : Addr) (sc : Nat), (a = ⟨g, j * 8, none⟩ ∨ n - j = 0) → (Builtin.append_ #[28, 28] ty #[.slice (some ⟨g, 0, none⟩) i c, .slice (some a) (n - j) sc]).run Tryz.prog w.drew = .ok (.slice (some ⟨g, 0, none⟩) (i + (n - j)) c) (w.drew.setRow g c1.toArray) := fun ty a sc ha => by
    have := run_appS_room (P := Tryz.prog) w.drew 28 28 ty 63 ti Tryz.underlying28 hti g i c cur hg _ (n - j) _ (by rw [hz1]; exact hsrc a sc ha) (by omega) (by rw [hz1, hcs]; omega)
    rw [hz1, ← hL] at this
    rw [this, hc1, hdl]
  obtain ⟨W1, hW1⟩ : ∃ W1, W1 = w.drew.setRow g c1.toArray := ⟨_, rfl⟩
  have hg1 : W1.heap[g]? = some (.cells c1.toArray 63 (0, 0)) := by rw [hW1]; exact setRow_heap w.drew g cur _ 63 _ hg
  obtain ⟨zs, hzl, hcl⟩ := run_clearS (P := Tryz.prog) W1 28 0 63 63 ti _ Tryz.underlying28 hti hz0 g ((i + (n - j)) * 8) (j - i) (c - (i + (n - j))) c1.toArray hg1 (by show _ + (j - i) * 8 ≤ _; simp [hc1l, hLl]; omega) (fun v hv => by
    simp only [Builtin.zeroCells, Array.toList_map, List.mem_map] at hv
    obtain ⟨k, _, rfl⟩ := hv
    have hk : k % 8 < 8 := Nat.mod_lt _ (by decide)
    show ((Value.cells (.agg #[.int .i64 0, .bool false, .string ⟨#[]⟩, .string ⟨#[]⟩, .int .i64 0, .int .i64 0, .int .i64 0, .int .i64 0]))[k % 8]!).oneCell' = true
    rcases (show k % 8 = 0 ∨ k % 8 = 1 ∨ k % 8 = 2 ∨ k % 8 = 3 ∨ k % 8 = 4 ∨ k % 8 = 5 ∨ k % 8 = 6 ∨ k % 8 = 7 by omega) with h | h | h | h | h | h | h | h <;> rw [h] <;> rfl)
  have hzl' : zs.length = (j - i) * 8 := hzl
  rw [if_neg (by omega)] at hcl
  obtain ⟨r1, r2⟩ := row_del L zs (i * 8) (j * 8) (n * 8) ((i + (n - j)) * 8) (by omega) (by omega) (by omega) c1 hc1 (by omega) (by omega)
  have hcl' : ∀ ty k, k = c - (i + (n - j)) → (Builtin.clear_ #[28] ty #[.slice (some ⟨g, (i + (n - j)) * 8, none⟩) (j - i) k]).run Tryz.prog W1 = .ok (.tuple #[]) (W1.setRow g (c1.take ((i + (n - j)) * 8) ++ zs ++ c1.drop ((i + (n - j)) * 8 + zs.length)).toArray) := fun ty k hk => by
    subst hk
    rw [hzl']
    exact hcl
  have HF : Hid (∀ w' : World, w' = W1.setRow g (c1.take ((i + (n - j)) * 8) ++ zs ++ c1.drop ((i + (n - j)) * 8 + zs.length)).toArray →
      w'.ownsRow 0 63 8 (.slice (some ⟨g, 0, none⟩) (i + (n - j)) c) (i + (n - j)) ((L.take (n * 8)).take (i * 8) ++ (L.take (n * 8)).drop (j * 8)) ∧ Upd w w' (fun k => k = g) ∧ w'.heap.size = w.heap.size) := fun w' hw' => by
    subst hw'
    refine ⟨owns_of_row (setRow_heap W1 g _ _ 63 _ hg1) (by omega) hcm ?_ r1 ?_, ?_, ?_⟩
    · rw [List.size_toArray, r2, hLl]
    · rw [List.length_append, hdl, List.length_take, List.length_take, hLl]; omega
    · have u1 : Upd w W1 (fun k => k = g) := by rw [hW1]; exact (Upd.refl w _).drew.trans (upd_setRow w.drew g _ (fun k => k = g) rfl) (fun _ _ h => h)
      exact u1.trans (upd_setRow W1 g _ (fun k => k = g) rfl) (fun _ _ h => h)
    · rw [hW1]; simp
  rw [← hW1] at hap
  have hq1 : IntKind.i64.wrap ((i : Int) - (j : Int)) = (i : Int) - (j : Int) := by rw [IntKind.wrap_i64]; omega
  have hq2 : ¬ ((i : Int) = (j : Int)) := by omega
  have hq3 : (j : Int) ≤ (n : Int) := by omega
  have hq4 : (i : Int) ≤ (j : Int) := by omega
  have hq5 : (i : Int) ≤ (n : Int) := by omega
  have hq6 : (j : Int) ≤ (c : Int) := by omega
  have hq7 : (n : Int) ≤ (c : Int) := by omega
  have hq8 : (i : Int) ≤ (c : Int) := by omega
  have hq9 : n - (i + (n - j)) = j - i := by omega
  clear hL hLl hdl hc1 r1 r2 hc1l hg1 hW1 h1 hcl hzl hzl' hsrc
  have hqa : ¬ (c = i) := by omega
  have hqb : ¬ (c = i + (n - j)) := by omega
  have hqc : ¬ (n = i) := by omega
  have hqd : (0 : Int) ≤ (i : Int) + ((n - j : Nat) : Int) := by omega
  have hqe : i + (n - j) ≤ n := by omega
  by_cases hcj : c = j
  · have hjn : n - j = 0 := by omega
    have hap' := fun ty => hap ty ⟨g, 0, none⟩ 0 (.inr hjn)
    rw [hjn] at hap' hcl' HF hqb hqd hqe hq9 ⊢
    simp only [Nat.add_zero] at hap' hcl' HF hqb hqe hq9 ⊢
    subst hcj
    clear hap
    go_enter Tryz.func80, Tryz.ntmps80
    go_wp2
    go_region_law (refine step_append_run rfl _ _ 28 28 rfl _ _ (by simp [Act.eval, Act.put]; first | done | rfl) (by simp [Act.eval, Act.put]; first | done | rfl) (hap' _) ?_)
    go_wp2_with (at_builtin; refine wpList_clear_run _ rfl _ 28 rfl _ rfl (hcl' _ _ (by omega)) ?_)
    go_ret
    exact ⟨rfl, HF.out _ (by simp)⟩
  · have hap' := fun ty => hap ty ⟨g, j * 8, none⟩ (c - j) (.inl rfl)
    clear hap
    go_enter Tryz.func80, Tryz.ntmps80
    go_wp2
    go_region_law (refine step_append_run rfl _ _ 28 28 rfl _ _ (by simp [Act.eval, Act.put]; first | done | rfl) (by simp [Act.eval, Act.put]; first | done | rfl) (hap' _) ?_)
    go_wp2_with (at_builtin; refine wpList_clear_run _ rfl _ 28 rfl _ rfl (hcl' _ _ (by omega)) ?_)
    go_ret
    exact ⟨rfl, HF.out _ (by simp)⟩
/-- Delete, of a row that is owned. -/
theorem delE_any (v : Value) (n i j : Nat) (xs : List Value) (w : World) (hown : w.ownsRow 0 63 8 v n xs) (hij : i < j) (hj : j ≤ n) (hn : n ≤ 1000) (h1 : ∀ u ∈ xs, u.oneCell' = true) :
    Calls Tryz.prog 80 #[v, .int .i64 i, .int .i64 j] w fun e w' => ∃ v', e = .returned v' ∧ w'.ownsRow 0 63 8 v' (i + (n - j)) (xs.take (i * 8) ++ xs.drop (j * 8)) ∧ Upd w w' (fun k => some k = v.ownBlock) ∧ v'.ownBlock = v.ownBlock ∧ w'.heap.size = w.heap.size := by
  rcases hown.2 with ⟨rfl, rfl⟩ | ⟨g, cap, cur, rfl, _, hg, hnc, hcm, hcs, htake⟩
  · omega
  · refine (delE_row g n cap i j cur w hg hij hj hnc hcm hcs hn (by rw [htake]; exact h1)).mono ?_
    rintro e w' ⟨rfl, ho, hu, hz⟩
    rw [htake] at ho
    exact ⟨_, rfl, ho, hu.mono (fun k _ e => by rw [e]; rfl), rfl, hz⟩
end Go.Proofs.YtjdmgmnndfhmgaaGreat
