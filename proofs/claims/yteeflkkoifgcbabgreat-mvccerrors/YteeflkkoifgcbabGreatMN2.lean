/- The changes from a revision on. -/
import Derived.Test.YteeflkkoifgcbabGreatMN1
namespace Go.Proofs.YteeflkkoifgcbabGreat
open Go Go.RowKit

/-- A change that is told: its revision, its key, what was done. -/
abbrev Evd := Int × ByteArray × Option KVd
def evL (e : Evd) : List Value := (evC e.1 e.2.2.isNone (evKV e.1 e.2.1 e.2.2)).toList
def evsC (l : List Evd) : List Value := l.flatMap evL
theorem evsC_len (l : List Evd) : (evsC l).length = l.length * 8 := by
  unfold evsC
  rw [List.length_flatMap]
  induction l with
  | nil => rfl
  | cons a l ih => simp only [List.map_cons, List.sum_cons, List.length_cons, ih]; simp [evL, evC]; omega
/-- What was done to a key at a revision. -/
def chgAt (h : Hs) (r : Int) : Option KVd := ((h.find? fun q => decide (q.1 = r)).map (·.2)).getD none
theorem chgAt_mem {h : Hs} {r : Int} {c : Option KVd} (ha : h.Pairwise (fun p q => p.1 < q.1)) (hc : (r, c) ∈ h) : chgAt h r = c := by
  unfold chgAt
  rw [find_mem ha hc]
  rfl
def evAt (S : Sto) (r : Int) : List Evd := (S.lg r).map fun k => (r, k, chgAt (S.kh k) r)
def evN (S : Sto) (rev : Int) (j : Nat) : List Evd := (List.range j).flatMap fun (i : Nat) => evAt S (rev + i)
theorem evN_succ (S : Sto) (rev : Int) (j : Nat) : evN S rev (j + 1) = evN S rev j ++ evAt S (rev + j) := by
  unfold evN
  rw [List.range_succ, List.flatMap_append]
  simp
theorem evN_le (S : Sto) (rev : Int) {i j : Nat} (h : i ≤ j) : (evN S rev i).length ≤ (evN S rev j).length := by
  induction j with
  | zero => obtain rfl : i = 0 := by omega
            exact Nat.le_refl _
  | succ j ih =>
    rcases Nat.lt_or_ge i (j + 1) with hlt | hge
    · rw [evN_succ, List.length_append]
      have := ih (by omega)
      omega
    · obtain rfl : i = j + 1 := by omega
      exact Nat.le_refl _
theorem info85 : (Tryz.prog.info? 72).map (fun i => (i.zero, i.size, i.bytes)) = some (some (.agg #[.int .i64 0, .bool false, .string ⟨#[]⟩, .string ⟨#[]⟩, .int .i64 0, .int .i64 0, .int .i64 0, .int .i64 0]), 8, 80) := by kernel_rfl
/-- A row of changes that was told. -/
def ER (w wr : World) (v : Value) (l : List Evd) : Prop := wr.ownsRow w.heap.size 72 8 v l.length (evsC l) ∧ Below w.heap.size w wr
/-- The log has each revision that is not compacted. -/
def LgOk (S : Sto) (g : Sg) : Prop := ∀ r : Int, (S.past : Int) < r → r ≤ S.rev → (∃ v, g.lv r = some v) ∧ ∀ k ∈ S.lg r, ∃ c, (r, c) ∈ S.kh k
set_option maxRecDepth 100000 in
theorem since_arg (w : World) (s : Nat) (rev : Int) (hr : rev < 1) : Calls Tryz.prog 12 #[ptr s, .int .i64 rev] w fun e w' => e = .returned (.tuple #[.slice none 0 0, .int .i64 1]) ∧ w' = w := by
  go_enter Tryz.func12, Tryz.ntmps12
  go_wp2
  refine bodyPost_ret (results_tmp2 rfl _ _ _) rfl ?_
  exact ⟨rfl, rfl⟩
section
variable {n : Nat} {w : World} {s : Nat} {S : Sto} {g : Sg} {o : Value} (h : St n w s S g o)
include h
set_option maxRecDepth 100000 in
theorem since_past (rev : Int) (hr : ¬ rev < 1) (hp : rev ≤ S.past) : Calls Tryz.prog 12 #[ptr s, .int .i64 rev] w fun e w' => e = .returned (.tuple #[.slice none 0 0, .int .i64 16]) ∧ w' = w := by
  obtain ⟨-, c1, -⟩ := h.cells
  clear h
  go_enter Tryz.func12, Tryz.ntmps12
  go_wp2
  refine bodyPost_ret (results_tmp2 rfl _ _ _) rfl ?_
  exact ⟨rfl, rfl⟩
set_option maxRecDepth 100000 in
set_option maxHeartbeats 2000000 in
theorem since_any (rev : Int) (hr : ¬ rev < 1) (hp : ¬ rev ≤ S.past) (hrm : rev ≤ 1000000000) (hS : S.rev ≤ 1000000000) (hl : LgOk S g) (hlen : (evN S rev ((S.rev : Int) + 1 - rev).toNat).length ≤ 1000000) :
    Calls Tryz.prog 12 #[ptr s, .int .i64 rev] w fun e w' => ∃ p c, e = .returned (.tuple #[.slice p (evN S rev ((S.rev : Int) + 1 - rev).toNat).length c, .int .i64 0]) ∧ ER w w' (.slice p (evN S rev ((S.rev : Int) + 1 - rev).toNat).length c) (evN S rev ((S.rev : Int) + 1 - rev).toNat) := by
  obtain ⟨m, hm⟩ : ∃ m, m = ((S.rev : Int) + 1 - rev).toNat := ⟨_, rfl⟩
  rw [← hm] at hlen ⊢
  have hml : ∀ j : Nat, j < m ↔ rev + j ≤ S.rev := fun j => by omega
  have hmb : (m : Int) ≤ 1000000001 := by omega
  obtain ⟨-, c1, -⟩ := h.cells
  have H := Hid.mk'' h
  have HL := Hid.mk'' hl
  have HML := Hid.mk'' hml
  have HSL : Hid (s < w.heap.size) := (Array.getElem?_eq_some_iff.1 h.blk).1
  clear h hl hml hm
  obtain ⟨t9, hti, hz0, hz1, hz2⟩ := info_parts info85
  go_enter Tryz.func12, Tryz.ntmps12
  go_wp2
  go_loopg [6, 7] (m + 1) (fun kx s6 s7 wr => ∃ (j : Nat) (p : Option Addr) (c : Nat), s6 = .slice p (evN S rev j).length c ∧ s7 = .int .i64 (rev + j) ∧ kx + j = m + 1 ∧ j ≤ m ∧ Hid (ER w wr (.slice p (evN S rev j).length c) (evN S rev j)))
  case atStart => exact ⟨0, none, 0, rfl, by simp, rfl, Nat.zero_le _, World.ownsRow_nil _ _ _ _, Below.refl _ _⟩
  case round =>
    obtain ⟨j, p, c, rfl, rfl, hkx, hj, HM⟩ := hrel
    have d0 := (HM.out.2.cell (p := ⟨s, 0, none⟩) HSL.out).trans H.out.cells.1
    by_cases hlt : j < m
    · have hle := (HML.out j).1 hlt
      have hpr : (S.past : Int) < rev + j := by omega
      obtain ⟨⟨v, hv⟩, hks⟩ := HL.out (rev + j) hpr hle
      have hst := H.out.below (HM.out.2.mono (Nat.le_refl _))
      obtain ⟨-, hrow⟩ := H.out.rows _ v hv
      obtain ⟨vp, vc, rfl⟩ := owns_formB0 hrow
      have hlk : (Instr.lookup 46 (.map (some g.bl)) (.int .i64 (rev + j)) false).run Tryz.prog wr = .ok (.slice vp (S.lg (rev + j)).length vc) wr := by
        have := hst.lg.look law61 Tryz.underlying46 (zero66 _) (rev + j) false
        rw [hv] at this
        exact this
      obtain ⟨-, -, -, -, d4, -⟩ := hst.cells
      have hsu := evN_succ S rev j
      have hle2 := evN_le S rev (show j + 1 ≤ m by omega)
      rw [hsu, List.length_append] at hle2
      have hal : (evAt S (rev + j)).length = (S.lg (rev + j)).length := by unfold evAt; rw [List.length_map]
      obtain ⟨K, hK⟩ : ∃ K, K = S.lg (rev + j) := ⟨_, rfl⟩
      obtain ⟨A, hA⟩ : ∃ A, A = evAt S (rev + j) := ⟨_, rfl⟩
      obtain ⟨E, hE⟩ : ∃ E, E = evN S rev j := ⟨_, rfl⟩
      obtain ⟨r, hrr⟩ : ∃ r, r = rev + (j : Int) := ⟨_, rfl⟩
      have HAk : Hid (∀ i k, K[i]? = some k → ∃ c, (r, c) ∈ S.kh k ∧ A[i]? = some (r, k, c)) := fun i k hi => by
        rw [hK] at hi
        rw [hrr]
        obtain ⟨c, hc⟩ := hks k (List.mem_of_getElem? hi)
        refine ⟨c, hc, ?_⟩
        rw [hA]
        unfold evAt
        rw [List.getElem?_map, hi, Option.map_some, chgAt_mem (H.out.hok k).asc hc]
      rw [← hK] at hlk hrow hal
      rw [← hA, ← hE] at hsu hle2
      rw [← hA] at hal
      rw [← hE] at HM ⊢
      rw [← hrr] at hlk hle ⊢
      have HROW := Hid.mk'' hrow
      have HSU := Hid.mk'' hsu
      have HRR := Hid.mk'' hrr
      have hrb : 1 ≤ r ∧ r ≤ 2000000000 := by omega
      clear hks hst hrow hv hK hA hE hsu hrr hpr
      have hAm : A.length ≤ 1000000 := by omega
      go_upto_region 10 with fail
      go_loopg [6, 36] (K.length + 1) (fun kx s6 s36 wq => ∃ (i : Nat) (p : Option Addr) (c : Nat), s6 = .slice p (E ++ A.take i).length c ∧ s36 = .int .i64 i ∧ kx + i = K.length + 1 ∧ i ≤ K.length ∧ Hid (ER w wq (.slice p (E ++ A.take i).length c) (E ++ A.take i)))
      case atStart => exact ⟨0, p, c, by simp, rfl, rfl, Nat.zero_le _, by rw [List.take_zero, List.append_nil]; exact HM.out⟩
      case round =>
        obtain ⟨i, p', c', rfl, rfl, hkx2, hi, HM2⟩ := hrel
        by_cases hlt2 : i < K.length
        · obtain ⟨k, hkk⟩ : ∃ k, K[i]? = some k := ⟨_, List.getElem?_eq_getElem hlt2⟩
          obtain ⟨cc, hmem, hAi⟩ := HAk.out i k hkk
          obtain ⟨gg, cg, hvv, hcell⟩ := row_cell HROW.out hkk
          have hgl : gg < w.heap.size := (HROW.out.lt gg (by rw [hvv]; rfl)).2
          have kcell := (HM2.out.2.cell (p := ⟨gg, i, none⟩) hgl).trans hcell
          have hvp : vp = some ⟨gg, 0, none⟩ := by cases hvv; rfl
          subst hvp
          have hcall := event_any (H.out.below HM2.out.2) k r cc hmem
          have htk : A.take (i + 1) = A.take i ++ [(r, k, cc)] := by rw [List.take_add_one, hAi]; rfl
          have hlt3 : (A.take i).length = i := by rw [List.length_take]; omega
          obtain ⟨B, hB⟩ : ∃ B, B = E ++ A.take i := ⟨_, rfl⟩
          have hBl : B.length = E.length + i := by rw [hB, List.length_append, hlt3]
          have hBs : E ++ A.take (i + 1) = B ++ [(r, k, cc)] := by rw [htk, hB, List.append_assoc]
          obtain ⟨x, hx⟩ : ∃ x, x = evKV r k cc := ⟨_, rfl⟩
          obtain ⟨dl, hdl⟩ : ∃ dl, dl = cc.isNone := ⟨_, rfl⟩
          have hel : evL (r, k, cc) = (evC r dl x).toList := by rw [hx, hdl]; rfl
          unfold encEv at hcall
          rw [← hx, ← hdl] at hcall
          rw [← hB] at HM2 ⊢
          obtain ⟨kk, kvv, kcr, kmo, kve, kle⟩ := x
          dsimp only [evC] at hcall hel
          have HX : Hid (∀ w3, Below wr.heap.size wr w3 → Src Tryz.prog 8 36 (.slice (some ⟨w3.heap.size, 0, none⟩) 1 1) 1 (evL (r, k, cc)) (w3.alloc (.cells #[.int .i64 r, .bool dl, .string kk, .string kvv, .int .i64 kcr, .int .i64 kmo, .int .i64 kve, .int .i64 kle] 72)) ∧ (w3.alloc (.cells #[.int .i64 r, .bool dl, .string kk, .string kvv, .int .i64 kcr, .int .i64 kmo, .int .i64 kve, .int .i64 kle] 72)).ownsRow w.heap.size 72 8 (.slice p' B.length c') B.length (evsC B) ∧ w.heap.size ≤ w3.heap.size ∧ Hid (∀ w', Upd (w3.alloc (.cells #[.int .i64 r, .bool dl, .string kk, .string kvv, .int .i64 kcr, .int .i64 kmo, .int .i64 kve, .int .i64 kle] 72)) w' (fun k => some k = (Value.slice p' B.length c').ownBlock) → Below w.heap.size w w')) := fun w3 hb3 => by
            have hba : Below w3.heap.size w3 (w3.alloc (.cells #[.int .i64 r, .bool dl, .string kk, .string kvv, .int .i64 kcr, .int .i64 kmo, .int .i64 kve, .int .i64 kle] 72)) := (Below.refl _ w3).alloc (Nat.le_refl _) _
            have hwz : w.heap.size ≤ wr.heap.size := HM2.out.2.size
            have hb4 : Below wr.heap.size wr (w3.alloc (.cells #[.int .i64 r, .bool dl, .string kk, .string kvv, .int .i64 kcr, .int .i64 kmo, .int .i64 kve, .int .i64 kle] 72)) := hb3.trans (hba.mono hb3.size)
            have hbw := HM2.out.2.trans (hb4.mono hwz)
            refine ⟨Src.ofSlice _ Tryz.underlying36 ⟨w3.heap.size, 0, none⟩ 1 1 _ (by rw [hel]; rfl) (fun j u hj => ?_) (fun u hu => ?_), ownsRow_upd HM2.out.1 (Upd.ofBelow (S := fun _ => False) hb4) (fun _ _ h => h), Nat.le_trans hwz hb3.size, fun w' hu => hbw.trans (hu.below hbw.size (fun k hk e => by have := (HM2.out.1.lt k e.symm).1; omega))⟩
            · rw [hel] at hj
              rw [Addr.add_lit, Nat.zero_add, cell_of_row _ _ _ _ _ _ (row_alloc w3 _ 72)]
              simpa using hj
            · rw [hel] at hu
              simp at hu
              rcases hu with rfl | rfl | rfl | rfl | rfl | rfl | rfl | rfl <;> rfl
          have HBS := Hid.mk'' hBs
          have hB3 : B.length ≤ 1000000 := by omega
          clear hBs htk hel hx hdl hB hAi hmem hcell hvv hkk hgl hBl hlt3
          go_wp2_with (first | (go_at_call 31; refine hcall.mono ?_; rintro e w3 ⟨rfl, hb3⟩; obtain ⟨hsrc, hown, hwz, HFIN⟩ := HX.out w3 hb3) | (at_builtin; refine wpList_appS _ rfl (.tmp 40) (.tmp 46) 36 36 rfl w.heap.size 72 t9 _ 8 Tryz.underlying36 hti hz0 hz1 rfl (by rw [hz2]; decide) _ B.length (evsC B) rfl hown _ rfl 1 (evL (r, k, cc)) hsrc (by omega) (by simp; omega) ?_; intro v' w' q1 q2 q3 q4; obtain ⟨np, nc, hnv⟩ := owns_formB0 q1; subst hnv; clear q3 q4))
          go_roundg (K.length - i)
          case measure => omega
          case rel => exact ⟨i + 1, np, nc, by rw [HBS.out]; simp, by congr 1, by omega, by omega, by rw [HBS.out]; exact ⟨by simpa [evsC] using q1, HFIN.out _ q2⟩⟩
        · obtain rfl : i = K.length := by omega
          have htl : A.take K.length = A := by rw [← hal, List.take_length]
          rw [htl] at HM2 ⊢
          go_wp2
          go_roundg (m - j)
          case measure => omega
          case rel => exact ⟨j + 1, p', c', by rw [HSU.out], by have := HRR.out; congr 1; omega, by omega, by omega, by rw [HSU.out]; exact HM2.out⟩
    · have hle : ¬ rev + j ≤ S.rev := fun e => hlt ((HML.out j).2 e)
      obtain rfl : j = m := by omega
      go_wp2
      refine bodyPost_ret (results_tmp2 rfl _ _ _) rfl ?_
      exact ⟨p, c, rfl, HM.out⟩
end
end Go.Proofs.YteeflkkoifgcbabGreat
