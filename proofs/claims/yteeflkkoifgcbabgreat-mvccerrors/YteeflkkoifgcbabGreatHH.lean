/- Where a revision stands among marks. -/
import Derived.Test.YteeflkkoifgcbabGreatEA
import Derived.Test.YteeflkkoifgcbabGreatG4
namespace Go.Proofs.YteeflkkoifgcbabGreat
open Go Go.RowKit

abbrev MAscH (ms : List Mk) : Prop := ms.Pairwise fun a b => a.1 < b.1
def plm (ms : List Mk) (r : Int) : Nat := (ms.takeWhile fun m => decide (m.1 < r)).length
def hrm (ms : List Mk) (r : Int) : Bool := match ms[plm ms r]? with | some m => decide (m.1 = r) | none => false
theorem plm_le (ms : List Mk) (r : Int) : plm ms r ≤ ms.length := by
  unfold plm
  exact (List.takeWhile_sublist _).length_le
theorem plm_lt {r : Int} : ∀ {ms : List Mk} {j : Nat} {m : Mk}, j < plm ms r → ms[j]? = some m → m.1 < r
  | [], j, m, h, hj => by simp at hj
  | a :: ms, 0, m, h, hj => by
    simp only [List.getElem?_cons_zero, Option.some.injEq] at hj
    subst hj
    unfold plm at h
    rw [List.takeWhile_cons] at h
    split at h
    · rename_i hd; simpa using hd
    · simp at h
  | a :: ms, j + 1, m, h, hj => by
    unfold plm at h
    rw [List.takeWhile_cons] at h
    split at h
    · exact plm_lt (ms := ms) (j := j) (by unfold plm; simpa using h) (by simpa using hj)
    · simp at h
theorem plm_not {r : Int} : ∀ {ms : List Mk} {m : Mk}, ms[plm ms r]? = some m → r ≤ m.1
  | [], m, h => by simp at h
  | a :: ms, m, h => by
    by_cases hk : a.1 < r
    · have e : plm (a :: ms) r = plm ms r + 1 := by simp [plm, hk]
      rw [e, List.getElem?_cons_succ] at h
      exact plm_not h
    · have e : plm (a :: ms) r = 0 := by simp [plm, hk]
      rw [e] at h
      simp at h
      subst h
      omega
theorem masc_get {ms : List Mk} (h : MAscH ms) {i j : Nat} {a b : Mk} (hij : i < j) (ha : ms[i]? = some a) (hb : ms[j]? = some b) : a.1 < b.1 := by
  obtain ⟨hi, rfl⟩ := List.getElem?_eq_some_iff.1 ha
  obtain ⟨hj, rfl⟩ := List.getElem?_eq_some_iff.1 hb
  exact List.pairwise_iff_getElem.1 h i j hi hj hij
theorem plm_ge {ms : List Mk} {r : Int} (hs : MAscH ms) {j : Nat} {m : Mk} (h : plm ms r ≤ j) (hj : ms[j]? = some m) : r ≤ m.1 := by
  rcases Nat.eq_or_lt_of_le h with h | h
  · subst h; exact plm_not hj
  · have hl := (List.getElem?_eq_some_iff.1 hj).1
    have hp : plm ms r < ms.length := by omega
    have h1 := plm_not (r := r) (List.getElem?_eq_getElem hp)
    have h2 := masc_get hs h (List.getElem?_eq_getElem hp) hj
    omega
def cmpN (a b : Int) : Int := if a < b then -1 else if a > b then 1 else 0
set_option maxRecDepth 100000 in
set_option maxHeartbeats 400000 in
theorem nan_any (a : Int) (w : World) : Calls Tryz.prog 74 #[.int .i64 a] w fun e w' => e = .returned (.bool false) ∧ w' = w := by
  go_enter Tryz.func74, Tryz.ntmps74
  go_wp2
  go_ret
  exact ⟨ret_bool (by simp), rfl⟩
set_option maxRecDepth 100000 in
set_option maxHeartbeats 400000 in
theorem cmpN_any (a b : Int) (w : World) : Calls Tryz.prog 62 #[.int .i64 a, .int .i64 b] w fun e w' => e = .returned (.int .i64 (cmpN a b)) ∧ w' = w := by
  have HC : Hid (cmpN a b = if a < b then -1 else if a > b then 1 else 0) := rfl
  go_enter Tryz.func62, Tryz.ntmps62
  by_cases h1 : a < b
  · go_wp2_with (go_at_call 74; refine (nan_any _ _).mono ?_; rintro e w' ⟨rfl, rfl⟩)
    go_ret
    exact ⟨by rw [HC.out, if_pos (by omega)]; rfl, rfl⟩
  · by_cases h2 : a > b
    · go_wp2_with (go_at_call 74; refine (nan_any _ _).mono ?_; rintro e w' ⟨rfl, rfl⟩)
      go_ret
      exact ⟨by rw [HC.out, if_neg (by omega), if_pos (by omega)]; rfl, rfl⟩
    · go_wp2_with (go_at_call 74; refine (nan_any _ _).mono ?_; rintro e w' ⟨rfl, rfl⟩)
      go_ret
      exact ⟨by rw [HC.out, if_neg (by omega), if_neg (by omega)]; rfl, rfl⟩
set_option maxRecDepth 100000 in
set_option maxHeartbeats 400000 in
theorem cmpM (a b : Int) (d : Bool) (w : World) : Calls Tryz.prog 61 #[.agg #[.int .i64 a, .bool d], .int .i64 b] w fun e w' => e = .returned (.int .i64 (cmpN a b)) ∧ Below w.heap.size w w' := by
  go_enter Tryz.func61, Tryz.ntmps61
  go_wp2_with (go_at_call 62; refine (cmpN_any _ _ _).mono ?_; rintro e w' ⟨rfl, rfl⟩)
  go_ret
  exact ⟨rfl, (Below.refl _ _).alloc (Nat.le_refl _) _⟩
theorem cmpN_neg (a b : Int) : decide (cmpN a b < 0) = decide (a < b) := by
  unfold cmpN
  by_cases h : a < b
  · simp [h]
  · rw [if_neg h]; split <;> simp [h]
theorem cmpN_zero (a b : Int) (h : b ≤ a) : (cmpN a b == 0) = decide (a = b) := by
  unfold cmpN
  rw [if_neg (by omega)]
  by_cases e : a = b
  · subst e; simp
  · rw [if_pos (by omega)]; simp [e]
/-- Marks in a row of cells. -/
def MksAtH (w : World) (g : Nat) (ms : List Mk) : Prop := ∀ j m, ms[j]? = some m → w.cell? ⟨g, j * 2, none⟩ = some (.int .i64 m.1) ∧ w.cell? ⟨g, j * 2 + 1, none⟩ = some (.bool m.2)
theorem MksAtH.below {w w' : World} {g : Nat} {ms : List Mk} (h : MksAtH w g ms) (hb : Below w.heap.size w w') : MksAtH w' g ms := fun j it hj => by
  obtain ⟨h1, h2⟩ := h j it hj
  exact ⟨(hb.cell (p := ⟨g, j * 2, none⟩) (World.block_lt_of_cell? _ _ h1)).trans h1, (hb.cell (p := ⟨g, j * 2 + 1, none⟩) (World.block_lt_of_cell? _ _ h2)).trans h2⟩
set_option maxRecDepth 100000 in
set_option maxHeartbeats 1000000 in
theorem searchM (g c : Nat) (ms : List Mk) (r : Int) (w : World) (hc : MksAtH w g ms) (hs : MAscH ms) (hn : ms.length ≤ 1000000) :
    Calls Tryz.prog 60 #[.slice (some ⟨g, 0, none⟩) ms.length c, .int .i64 r, .func (.func 61) #[] #[]] w fun e w' =>
      e = .returned (.tuple #[.int .i64 (plm ms r), .bool (hrm ms r)]) ∧ Below w.heap.size w w' := by
  have HS : Hid (MAscH ms) := hs
  have HC : Hid (MksAtH w g ms) := hc
  have hp := plm_le ms r
  clear hs hc
  go_enter Tryz.func60, Tryz.ntmps60
  go_wp2
  go_loopw [9, 10] (fun a b W => ∃ i j : Nat, a = .int .i64 i ∧ b = .int .i64 j ∧ i ≤ plm ms r ∧ plm ms r ≤ j ∧ j ≤ ms.length ∧ Below w.heap.size w W) (fun a b _ => (intOf b).toNat - (intOf a).toNat)
  case atStart => exact ⟨0, ms.length, rfl, rfl, Nat.zero_le _, hp, Nat.le_refl _, Below.refl _ _⟩
  case round =>
    obtain ⟨i, j, rfl, rfl, h1, h2, h3, hb⟩ := hrel
    by_cases hij : i < j
    · obtain ⟨m, hit⟩ : ∃ m, ms[(i + j) / 2]? = some m := ⟨_, List.getElem?_eq_getElem (by omega)⟩
      have hcc := (HC.out.below hb) _ _ hit
      obtain ⟨c1, c2⟩ := hcc
      have hci := fun W => cmpM m.1 r m.2 W
      have hcn := cmpN_neg m.1 r
      have HI : Hid (ms[(i + j) / 2]? = some m) := hit
      clear hit
      cases hk : decide (m.1 < r)
      rotate_left
      · rw [hk] at hcn
        have hk' : m.1 < r := of_decide_eq_true hk
        have HK : Hid (m.1 < r) := hk'
        clear hk'
        clear hk
        go_wp2_with (go_at_call 61; refine (hci _).mono ?_; rintro e w' ⟨rfl, hb'⟩)
        go_roundw
        case rel =>
          refine ⟨(i + j) / 2 + 1, j, by go_num, rfl, ?_, h2, h3, hb.trans (hb'.mono hb.size)⟩
          refine Nat.le_of_not_lt fun hlt => ?_
          have := plm_ge (r := r) HS.out (by omega) HI.out
          have := HK.out
          omega
        case measure => simp [intOf]; omega
      · rw [hk] at hcn
        have hk' : ¬ m.1 < r := of_decide_eq_false hk
        have HK : Hid (¬ m.1 < r) := hk'
        clear hk'
        clear hk
        go_wp2_with (go_at_call 61; refine (hci _).mono ?_; rintro e w' ⟨rfl, hb'⟩)
        go_roundw
        case rel =>
          refine ⟨i, (i + j) / 2, rfl, rfl, h1, ?_, by omega, hb.trans (hb'.mono hb.size)⟩
          refine Nat.le_of_not_lt fun hlt => ?_
          have h1 := plm_lt hlt HI.out
          have h2 := HK.out
          omega
        case measure => simp [intOf]; omega
    · obtain rfl : i = plm ms r := by omega
      obtain rfl : j = plm ms r := by omega
      clear hij h1 h2 h3
      have HR : Hid (hrm ms r = match ms[plm ms r]? with | some m => decide (m.1 = r) | none => false) := rfl
      by_cases hlt : plm ms r < ms.length
      · obtain ⟨m, hit⟩ : ∃ m, ms[plm ms r]? = some m := ⟨_, List.getElem?_eq_getElem hlt⟩
        have hcc := (HC.out.below hb) _ _ hit
        obtain ⟨c1, c2⟩ := hcc
        have hci := fun W => cmpM m.1 r m.2 W
        have hcz := cmpN_zero m.1 r (plm_not hit)
        have HE : Hid (hrm ms r = decide (m.1 = r)) := by have := HR.out; rw [hit] at this; exact this
        clear HR hit
        go_wp2_with (go_at_call 61; refine (hci _).mono ?_; rintro e w' ⟨rfl, hb'⟩)
        go_ret2
        exact ⟨by rw [HE.out]; rfl, hb.trans (hb'.mono hb.size)⟩
      · have HE : Hid (hrm ms r = false) := by have := HR.out; rw [List.getElem?_eq_none (by omega)] at this; exact this
        clear HR
        go_wp2
        go_ret2
        exact ⟨by rw [HE.out]; rfl, hb⟩
end Go.Proofs.YteeflkkoifgcbabGreat
/- Which marks are needed. -/
namespace Go.Proofs.YteeflkkoifgcbabGreat
open Go Go.RowKit

set_option maxRecDepth 100000 in
set_option maxHeartbeats 1000000 in
/-- fresh of a piece that is empty. -/
theorem freshM0 (g off c : Nat) (w : World) :
    Calls Tryz.prog 57 #[.slice (some ⟨g, off, none⟩) 0 c] w fun e w' => e = .returned (.slice (some ⟨w.heap.size, 0, none⟩) 0 0) ∧ w'.heap[w.heap.size]? = some (.cells #[] 90 (0, 0)) ∧ Below w.heap.size w w' := by
  obtain ⟨i0, hi, hz0, hz1, hz2⟩ := info_parts info35
  obtain ⟨ROW, hRS, hmk⟩ : ∃ ROW : Array Value, ROW.size = 0 * 2 ∧ (Instr.makeSlice 87 (.int .i64 0) (.int .i64 0)).run Tryz.prog w = .ok (.slice (some ⟨w.heap.size, 0, none⟩) 0 0) (w.alloc (.cells ROW 90)) := by
    have := run_make (P := Tryz.prog) w 87 90 i0 _ Tryz.underlying87 hi hz0 .i64 .i64 (0 : Nat) (0 : Nat) (by omega) (by omega) (by rw [hz2]; omega) (by omega)
    simp only [Int.toNat_natCast] at this
    exact ⟨_, by rw [size_madeCells, hz1], this⟩
  have hgn : (w.alloc (.cells ROW 90)).heap[w.heap.size]? = some (.cells ROW 90 (0, 0)) := heap_alloc_new w _
  have hcp : ∀ ty, (Builtin.copy_ #[87, 87] ty #[.slice (some ⟨w.heap.size, 0, none⟩) 0 0, .slice (some ⟨g, off, none⟩) 0 c]).run Tryz.prog (w.alloc (.cells ROW 90)) = .ok (goInt (Nat.min 0 0 : Nat)) ((w.alloc (.cells ROW 90)).setRow w.heap.size ([] : List Value).toArray) := fun ty => by
    have := run_copyS (P := Tryz.prog) (w.alloc (.cells ROW 90)) 87 87 ty 90 90 i0 Tryz.underlying87 hi w.heap.size 0 0 0 ROW hgn ⟨g, off, none⟩ 0 c [] (by simp) (fun j v hj => by simp at hj) (by simp) (by simp)
    rw [List.take_zero, List.drop_eq_nil_of_le (by simpa using hRS), List.nil_append, List.append_nil] at this
    exact this
  go_enter Tryz.func57, Tryz.ntmps57
  go_wp2_with (at_builtin; refine wpList_copy_run _ rfl _ _ 87 87 rfl _ _ rfl rfl (hcp _) ?_)
  go_ret
  refine ⟨rfl, setRow_heap _ _ _ _ _ _ hgn, ?_⟩
  exact ((Below.refl _ w).alloc (Nat.le_refl _) _).trans (upd_setRow _ _ _ (fun k => k = w.heap.size) rfl |>.below (by simp) (fun k hk => by omega))
/-- The place from which on marks are needed at r. -/
def cutA (ms : List Mk) (a : Nat) : Nat := match ms[a]? with | some m => if m.2 then a + 1 else a | none => a
def cutM (ms : List Mk) (r : Int) : Nat := if hrm ms r then cutA ms (plm ms r) else if plm ms r = 0 then 0 else cutA ms (plm ms r - 1)
/-- What needed tells of marks at v. -/
def NeedPost (w w' : World) (v v' : Value) (ms : List Mk) (k : Nat) : Prop :=
  (k = 0 ∧ v' = v ∨ 0 < k ∧ k < ms.length ∧ (∃ b, w.heap.size ≤ b ∧ v' = .slice (some ⟨b, 0, none⟩) (ms.length - k) (ms.length - k) ∧ w'.heap[b]? = some (.cells (mksC (ms.drop k)).toArray 90 (0, 0))) ∨ k = ms.length ∧ (∃ b, w.heap.size ≤ b ∧ v' = .slice (some ⟨b, 0, none⟩) 0 0 ∧ w'.heap[b]? = some (.cells #[] 90 (0, 0)))) ∧ Below w.heap.size w w'
theorem fresh_cut (g c k : Nat) (ms : List Mk) (w : World) (hM : Mks w (.slice (some ⟨g, 0, none⟩) ms.length c) ms) (hn : ms.length ≤ 1000000) (h0 : 0 < k) (hk : k ≤ ms.length) (v : Value) :
    Calls Tryz.prog 57 #[.slice (some ⟨g, k * 2, none⟩) (ms.length - k) (c - k)] w fun e w' => ∃ v', e = .returned v' ∧ NeedPost w w' v v' ms k := by
  rcases Nat.lt_or_ge k ms.length with h | h
  · refine (freshM g (k * 2) (ms.length - k) (c - k) (mksC (ms.drop k)) w (by omega) (by omega) (by rw [mksC_len]; simp) (fun j u hj => ?_) (mksC_mem _)).mono ?_
    · rw [← mksC_drop, List.getElem?_drop] at hj
      have := hM.cells (g := g) rfl _ _ hj
      simpa only [Addr.add_lit, Nat.zero_add] using this
    · rintro e w' ⟨rfl, h1, h2, h3⟩
      exact ⟨_, rfl, .inr (.inl ⟨h0, h, _, Nat.le_refl _, rfl, h1⟩), h3⟩
  · obtain rfl : k = ms.length := by omega
    rw [Nat.sub_self]
    refine (freshM0 g (ms.length * 2) (c - ms.length) w).mono ?_
    rintro e w' ⟨rfl, h2, h3⟩
    exact ⟨_, rfl, .inr (.inr ⟨rfl, _, Nat.le_refl _, rfl, h2⟩), h3⟩
theorem fresh_cut' (g c k : Nat) (ms : List Mk) (w : World) (hM : Mks w (.slice (some ⟨g, 0, none⟩) ms.length c) ms) (hn : ms.length ≤ 1000000) (h0 : 0 < k) (hk : k ≤ ms.length) (hc : ms.length ≤ c) (v : Value) :
    Calls Tryz.prog 57 #[.slice (if c = k then some ⟨g, 0, none⟩ else some ⟨g, k * 2, none⟩) (ms.length - k) (c - k)] w fun e w' => ∃ v', e = .returned v' ∧ NeedPost w w' v v' ms k := by
  split
  · obtain rfl : k = ms.length := by omega
    rw [Nat.sub_self]
    refine (freshM0 g 0 (c - ms.length) w).mono ?_
    rintro e w' ⟨rfl, h2, h3⟩
    exact ⟨_, rfl, .inr (.inr ⟨rfl, _, Nat.le_refl _, rfl, h2⟩), h3⟩
  · exact fresh_cut g c k ms w hM hn h0 hk v
theorem NeedPost.after {w w1 w' : World} {v v' : Value} {ms : List Mk} {k : Nat} (hb : Below w.heap.size w w1) (h : NeedPost w1 w' v v' ms k) : NeedPost w w' v v' ms k := by
  obtain ⟨h1, h2⟩ := h
  refine ⟨?_, hb.trans (h2.mono hb.size)⟩
  rcases h1 with h1 | ⟨a, b, x, c, d⟩ | ⟨a, x, c, d⟩
  · exact .inl h1
  · exact .inr (.inl ⟨a, b, x, Nat.le_trans hb.size c, d⟩)
  · exact .inr (.inr ⟨a, x, Nat.le_trans hb.size c, d⟩)
theorem hrm_lt {ms : List Mk} {r : Int} (h : hrm ms r = true) : plm ms r < ms.length := by
  refine Nat.lt_of_not_le fun hle => ?_
  rw [hrm, List.getElem?_eq_none hle] at h
  cases h

set_option maxRecDepth 100000 in
set_option maxHeartbeats 2000000 in
theorem needed_any (g c : Nat) (ms : List Mk) (r : Int) (w : World) (hM : Mks w (.slice (some ⟨g, 0, none⟩) ms.length c) ms) (hs : MAscH ms) (hn : ms.length ≤ 1000000) :
    Calls Tryz.prog 39 #[.slice (some ⟨g, 0, none⟩) ms.length c, .int .i64 r] w fun e w' => ∃ v', e = .returned v' ∧ NeedPost w w' (.slice (some ⟨g, 0, none⟩) ms.length c) v' ms (cutM ms r) := by
  have hsr := searchM g c ms r w (fun j m hj => hM.cell hj) hs hn
  have hp := plm_le ms r
  have hcap : ms.length ≤ c := by
    rcases hM.2 with ⟨h, _⟩ | ⟨g', cap, cur, h, _, _, h1, _⟩
    · cases h
    · cases h; exact h1
  have HF : Hid (∀ W, Below w.heap.size w W → ∀ k, 0 < k → k ≤ ms.length → Calls Tryz.prog 57 #[.slice (some ⟨g, k * 2, none⟩) (ms.length - k) (c - k)] W fun e w' => ∃ v', e = .returned v' ∧ NeedPost w w' (.slice (some ⟨g, 0, none⟩) ms.length c) v' ms k) := fun W hb k h0 hk =>
    (fresh_cut g c k ms W (ownsRow_upd hM (Upd.ofBelow (S := fun _ => False) hb) (fun _ _ h => h)) hn h0 hk (.slice (some ⟨g, 0, none⟩) ms.length c)).mono (fun e w' ⟨v', h1, h2⟩ => ⟨v', h1, h2.after hb⟩)
  have HG : Hid (∀ W, Below w.heap.size w W → ∀ k, 0 < k → k ≤ ms.length → Calls Tryz.prog 57 #[.slice (if c = k then some ⟨g, 0, none⟩ else some ⟨g, k * 2, none⟩) (ms.length - k) (c - k)] W fun e w' => ∃ v', e = .returned v' ∧ NeedPost w w' (.slice (some ⟨g, 0, none⟩) ms.length c) v' ms k) := fun W hb k h0 hk =>
    (fresh_cut' g c k ms W (ownsRow_upd hM (Upd.ofBelow (S := fun _ => False) hb) (fun _ _ h => h)) hn h0 hk hcap (.slice (some ⟨g, 0, none⟩) ms.length c)).mono (fun e w' ⟨v', h1, h2⟩ => ⟨v', h1, h2.after hb⟩)
  have HM : Hid (∀ W, Below w.heap.size w W → ∀ j m, ms[j]? = some m → W.cell? ⟨g, j * 2, none⟩ = some (.int .i64 m.1) ∧ W.cell? ⟨g, j * 2 + 1, none⟩ = some (.bool m.2)) := fun W hb j m hj => MksAtH.below (fun j m hj => hM.cell hj) hb j m hj
  have HC : Hid (cutM ms r = if hrm ms r then cutA ms (plm ms r) else if plm ms r = 0 then 0 else cutA ms (plm ms r - 1)) := rfl
  have HL : hrm ms r = true → plm ms r < ms.length := hrm_lt
  clear hM hs
  generalize cutM ms r = k at *
  cases hh : hrm ms r
  · rw [hh] at hsr
    rw [hh] at HC
    clear HL
    obtain hp0 | ⟨a, ha⟩ : plm ms r = 0 ∨ ∃ a, plm ms r = a + 1 := by cases plm ms r <;> simp
    · rw [hp0] at hsr
      have hk0 : k = 0 := by have := HC.out; simpa [hp0] using this
      subst hk0
      go_enter Tryz.func39, Tryz.ntmps39
      go_wp2_with (go_at_call 60; refine hsr.mono ?_; rintro e w' ⟨rfl, hb⟩)
      go_ret
      exact ⟨_, rfl, .inl ⟨rfl, rfl⟩, hb⟩
    · rw [ha] at hsr hp
      obtain ⟨m, hm⟩ : ∃ m, ms[a]? = some m := ⟨_, List.getElem?_eq_getElem (by omega)⟩
      have hka : k = if m.2 then a + 1 else a := by have := HC.out; simpa [ha, cutA, hm] using this
      have HX : Hid (∀ W, Below w.heap.size w W → W.cell? ⟨g, a * 2 + 1, none⟩ = some (.bool m.2)) := fun W hb => (HM.out W hb a m hm).2
      clear HM hm HC ha
      cases hd : m.2
      · rw [hd] at hka HX
        obtain rfl : k = a := by simpa using hka
        clear hka
        by_cases hk0 : k = 0
        · subst hk0
          go_enter Tryz.func39, Tryz.ntmps39
          go_wp2_with (go_at_call 60; refine hsr.mono ?_; rintro e w' ⟨rfl, hb⟩; have hx := HX.out _ hb)
          go_ret
          exact ⟨_, rfl, .inl ⟨rfl, rfl⟩, hb⟩
        · go_enter Tryz.func39, Tryz.ntmps39
          go_wp2_with (first | (go_at_call 60; refine hsr.mono ?_; rintro e w' ⟨rfl, hb⟩; have hx := HX.out _ hb) | (go_at_call 57; refine (HF.out _ hb k (by omega) (by omega)).mono ?_; rintro e w1 ⟨v', rfl, hN⟩))
          go_ret
          exact ⟨_, rfl, hN⟩
      · rw [hd] at hka HX
        obtain rfl : k = a + 1 := by simpa using hka
        clear hka
        go_enter Tryz.func39, Tryz.ntmps39
        go_wp2_with (first | (go_at_call 60; refine hsr.mono ?_; rintro e w' ⟨rfl, hb⟩; have hx := HX.out _ hb) | (go_at_call 57; refine (HG.out _ hb (a + 1) (by omega) (by omega)).mono ?_; rintro e w1 ⟨v', rfl, hN⟩))
        all_goals
          go_ret
          first | exact ⟨_, rfl, hN⟩ | exact ⟨_, rfl, by rw [h] at hN; exact hN⟩
  · rw [hh] at hsr
    rw [hh] at HC
    have hp := HL hh
    clear HL hh
    obtain ⟨a, ha⟩ : ∃ a, plm ms r = a := ⟨_, rfl⟩
    rw [ha] at hsr hp
    obtain ⟨m, hm⟩ : ∃ m, ms[a]? = some m := ⟨_, List.getElem?_eq_getElem (by omega)⟩
    have hka : k = if m.2 then a + 1 else a := by have := HC.out; simpa [ha, cutA, hm] using this
    have HX : Hid (∀ W, Below w.heap.size w W → W.cell? ⟨g, a * 2 + 1, none⟩ = some (.bool m.2)) := fun W hb => (HM.out W hb a m hm).2
    clear HM hm HC ha
    cases hd : m.2
    · rw [hd] at hka HX
      obtain rfl : k = a := by simpa using hka
      clear hka
      by_cases hk0 : k = 0
      · subst hk0
        go_enter Tryz.func39, Tryz.ntmps39
        go_wp2_with (go_at_call 60; refine hsr.mono ?_; rintro e w' ⟨rfl, hb⟩; have hx := HX.out _ hb)
        go_ret
        exact ⟨_, rfl, .inl ⟨rfl, rfl⟩, hb⟩
      · go_enter Tryz.func39, Tryz.ntmps39
        go_wp2_with (first | (go_at_call 60; refine hsr.mono ?_; rintro e w' ⟨rfl, hb⟩; have hx := HX.out _ hb) | (go_at_call 57; refine (HF.out _ hb k (by omega) (by omega)).mono ?_; rintro e w1 ⟨v', rfl, hN⟩))
        go_ret
        exact ⟨_, rfl, hN⟩
    · rw [hd] at hka HX
      obtain rfl : k = a + 1 := by simpa using hka
      clear hka
      go_enter Tryz.func39, Tryz.ntmps39
      go_wp2_with (first | (go_at_call 60; refine hsr.mono ?_; rintro e w' ⟨rfl, hb⟩; have hx := HX.out _ hb) | (go_at_call 57; refine (HG.out _ hb (a + 1) (by omega) (by omega)).mono ?_; rintro e w1 ⟨v', rfl, hN⟩))
      all_goals
        go_ret
        first | exact ⟨_, rfl, hN⟩ | exact ⟨_, rfl, by rw [h] at hN; exact hN⟩
/-- What is told are the marks that are needed, in the row that was there, or in a new one. -/
theorem NeedPost.mks {w w' : World} {v v' : Value} {ms : List Mk} {k : Nat} (hM : Mks w v ms) (h : NeedPost w w' v v' ms k) (hn : ms.length ≤ 1000000) : Mks w' v' (ms.drop k) ∧ (v' = v ∨ ∃ b, v'.ownBlock = some b ∧ w.heap.size ≤ b) := by
  obtain ⟨h1, hb⟩ := h
  rcases h1 with ⟨rfl, rfl⟩ | ⟨h0, hk, b, hlb, rfl, hr⟩ | ⟨rfl, b, hlb, rfl, hr⟩
  · exact ⟨by rw [List.drop_zero]; exact ownsRow_upd hM (Upd.ofBelow (S := fun _ => False) hb) (fun _ _ h => h), .inl rfl⟩
  · refine ⟨?_, .inr ⟨b, rfl, hlb⟩⟩
    have := owns_of_row (s := 2) (n := ms.length - k) (xs := mksC (ms.drop k)) hr (Nat.le_refl _) (by unfold maxLen; omega) (by simp [mksC_len]) (by rw [List.take_of_length_le (by simp [mksC_len])]) (by rw [mksC_len]; simp)
    show World.ownsRow _ _ _ _ _ (ms.drop k).length _
    rw [List.length_drop]
    exact this
  · refine ⟨?_, .inr ⟨b, rfl, hlb⟩⟩
    rw [List.drop_length]
    exact owns_of_row (n := 0) (xs := []) hr (Nat.le_refl _) (by unfold maxLen; omega) (by simp) (by simp) (by simp)
end Go.Proofs.YteeflkkoifgcbabGreat
/- A slot of the tree as it was, in the tree as it is. -/
namespace Go.Proofs.YteeflkkoifgcbabGreat
open Go Go.RowKit

theorem SlotA.now {w W : World} {h b n : Nat} {its its' L L' : List Itm} {F : List Nat} (ht : Tre w h b its L F) (ht' : Tre W h b its' L' F) (hnd : F.Nodup) (hK : KpT w F w W) (a : SlotA w h b n L F) : ∃ it', it'.key = a.it.key ∧ Slot W h b its'.length L' F a.g a.i it' := by
  obtain ⟨it', hs⟩ := Slot.of_loc ht' hnd (a.loc.keep ht (fun _ h => h) hK)
  refine ⟨it', ?_, hs⟩
  have h1 := hs.key
  have h2 := ((hK ⟨a.g, a.i * 2, none⟩ a.ok.mem).1 (fun _ => by show a.i * 2 % 2 = 0; omega)).trans a.ok.key
  rw [h2] at h1
  simpa using h1.symm
/-- Of lists with the same rising keys: the item of a key stands at one place. -/
theorem asc_place {X Z : List Itm} {it : Itm} {L : List Itm} {j : Nat} (ha : Asc (keysI L)) (hk : keysI (X ++ it :: Z) = keysI L) (hj : (keysI L)[j]? = some it.key) : X.length = j := by
  have h1 : (keysI L)[X.length]? = some it.key := by rw [← hk]; simp [keysI]
  rcases Nat.lt_trichotomy X.length j with h | h | h
  · have := asc_get ha h h1 hj
    rw [klt_irrefl] at this; cases this
  · exact h
  · have := asc_get ha h hj h1
    rw [klt_irrefl] at this; cases this
/-- One item's marks are set: the tree as it is then. -/
theorem SlotA.turn {w W : World} {h b n : Nat} {its its' L L' : List Itm} {F : List Nat} (ht : Tre w h b its L F) (ht' : Tre W h b its' L' F) (hnd : F.Nodup) (ha : Asc (keysI L)) (hKL : keysI L' = keysI L) (hK : KpT w F w W) (a : SlotA w h b n L F) {j : Nat} (hj : L[j]? = some a.it) :
    (∃ it', L'[j]? = some it' ∧ it'.key = a.it.key ∧ W.cell? ⟨a.g, a.i * 2 + 1, none⟩ = some it'.mv) ∧ W.frozen? ⟨a.g, a.i * 2 + 1, none⟩ = false ∧
    ∀ W' : World, (∀ k ∈ F, W'.heap[k]? = W.heap[k]?) → ∀ mv', isSl mv' → ∃ its2, its2.length = its'.length ∧ Tre (W'.setCell ⟨a.g, a.i * 2 + 1, none⟩ mv') h b its2 (L'.set j ⟨a.it.key, mv'⟩) F := by
  obtain ⟨it', hke, hs⟩ := a.now ht ht' hnd hK
  obtain ⟨X, Z, rfl, hput⟩ := hs.put
  have hX : X.length = j := asc_place ha hKL (by rw [hke]; simp [keysI, hj])
  subst hX
  refine ⟨⟨it', by simp, hke, hs.mv⟩, hs.free, fun W' hW mv' hm => ?_⟩
  obtain ⟨its2, hl, hT⟩ := hput W' hW mv' hm
  exact ⟨its2, hl, by rw [hke] at hT; simpa using hT⟩
end Go.Proofs.YteeflkkoifgcbabGreat
