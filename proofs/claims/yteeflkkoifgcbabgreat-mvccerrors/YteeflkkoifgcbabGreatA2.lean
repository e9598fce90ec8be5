/- Where a key stands among items: place. -/
import Derived.Test.YteeflkkoifgcbabGreatA1
namespace Go.Proofs.YteeflkkoifgcbabGreat
open Go Go.RowKit

/-- An item as it lies in a node: its key, and the value of its marks' slice. -/
structure Itm where
  key : ByteArray
  mv : Value
def plc (its : List Itm) (key : ByteArray) : Nat := (its.takeWhile fun it => klt it.key key).length
def hre (its : List Itm) (key : ByteArray) : Bool := match its[plc its key]? with | some it => decide (it.key = key) | none => false
abbrev keysI (its : List Itm) : List ByteArray := its.map Itm.key

theorem plc_le (its : List Itm) (key : ByteArray) : plc its key ≤ its.length := by
  unfold plc
  exact (List.takeWhile_sublist _).length_le
theorem plc_lt {key : ByteArray} : ∀ {its : List Itm} {j : Nat} {it : Itm}, j < plc its key → its[j]? = some it → klt it.key key = true
  | [], j, it, h, hj => by simp at hj
  | a :: its, 0, it, h, hj => by
    simp only [List.getElem?_cons_zero, Option.some.injEq] at hj
    subst hj
    unfold plc at h
    rw [List.takeWhile_cons] at h
    split at h
    · assumption
    · simp at h
  | a :: its, j + 1, it, h, hj => by
    unfold plc at h
    rw [List.takeWhile_cons] at h
    split at h
    · exact plc_lt (its := its) (j := j) (by unfold plc; simpa using h) (by simpa using hj)
    · simp at h
theorem plc_not {key : ByteArray} : ∀ {its : List Itm} {it : Itm}, its[plc its key]? = some it → klt it.key key = false
  | [], it, h => by simp at h
  | a :: its, it, h => by
    by_cases hk : klt a.key key = true
    · have e : plc (a :: its) key = plc its key + 1 := by simp [plc, hk]
      rw [e, List.getElem?_cons_succ] at h
      exact plc_not h
    · have e : plc (a :: its) key = 0 := by simp [plc, hk]
      rw [e] at h
      simp at h
      subst h
      simpa using hk
theorem asc_get {l : List ByteArray} (h : Asc l) : ∀ {i j : Nat} {a b : ByteArray}, i < j → l[i]? = some a → l[j]? = some b → klt a b = true := by
  induction l with
  | nil => intro i j a b _ ha; simp at ha
  | cons x l ih =>
    intro i j a b hij ha hb
    cases j with
    | zero => omega
    | succ j =>
      rw [List.getElem?_cons_succ] at hb
      cases i with
      | zero => simp at ha; subst ha; exact h.1 b (List.mem_of_getElem? hb)
      | succ i => exact ih h.2 (Nat.lt_of_succ_lt_succ hij) (by simpa using ha) hb
theorem plc_ge {its : List Itm} {key : ByteArray} (hs : Asc (keysI its)) {j : Nat} {it : Itm} (h : plc its key ≤ j) (hj : its[j]? = some it) : klt it.key key = false := by
  rcases Nat.eq_or_lt_of_le h with h | h
  · subst h; exact plc_not hj
  · have hl := (List.getElem?_eq_some_iff.1 hj).1
    have hp : plc its key < its.length := by omega
    have h1 := plc_not (key := key) (List.getElem?_eq_getElem hp)
    have h2 := asc_get hs h (show (keysI its)[plc its key]? = some (its[plc its key]).key by simp [List.getElem?_eq_getElem hp]) (show (keysI its)[j]? = some it.key by simp [hj])
    cases hk : klt it.key key
    · rfl
    · rw [klt_trans h2 hk] at h1; cases h1

/-- Items in a row of cells. -/
def ItsAt (w : World) (g : Nat) (its : List Itm) : Prop := ∀ j it, its[j]? = some it → w.cell? ⟨g, j * 2, none⟩ = some (.string it.key) ∧ w.cell? ⟨g, j * 2 + 1, none⟩ = some it.mv
theorem ItsAt.below {w w' : World} {g : Nat} {its : List Itm} (h : ItsAt w g its) (hb : Below w.heap.size w w') : ItsAt w' g its := fun j it hj => by
  obtain ⟨h1, h2⟩ := h j it hj
  exact ⟨(hb.cell (p := ⟨g, j * 2, none⟩) (World.block_lt_of_cell? _ _ h1)).trans h1, (hb.cell (p := ⟨g, j * 2 + 1, none⟩) (World.block_lt_of_cell? _ _ h2)).trans h2⟩
theorem cmp_neg (a b : ByteArray) : decide (cmpK a b < 0) = klt a b := by
  rw [cmpK, cmp_klt]; cases klt a b <;> cases klt b a <;> simp
theorem cmp_zero (a b : ByteArray) (h : klt a b = false) : (cmpK a b == 0) = decide (a = b) := by
  rw [cmpK, cmp_klt, h]
  by_cases e : a = b
  · subst e; simp [h]
  · cases hb : klt b a
    · exact absurd (klt_tri h hb) e
    · simp [e]

set_option maxRecDepth 100000 in
set_option maxHeartbeats 1000000 in
theorem search_any (g c : Nat) (its : List Itm) (key : ByteArray) (w : World) (hc : ItsAt w g its) (hs : Asc (keysI its)) (hn : its.length ≤ 1000) :
    Calls Tryz.prog 82 #[.slice (some ⟨g, 0, none⟩) its.length c, .string key, .func (.func 83) #[] #[]] w fun e w' =>
      e = .returned (.tuple #[.int .i64 (plc its key), .bool (hre its key)]) ∧ Below w.heap.size w w' := by
  have HS : Hid (Asc (keysI its)) := hs
  have HC : Hid (ItsAt w g its) := hc
  have hp := plc_le its key
  clear hs hc
  go_enter Tryz.func82, Tryz.ntmps82
  go_wp2
  go_loopw [9, 10] (fun a b W => ∃ i j : Nat, a = .int .i64 i ∧ b = .int .i64 j ∧ i ≤ plc its key ∧ plc its key ≤ j ∧ j ≤ its.length ∧ Below w.heap.size w W) (fun a b _ => (intOf b).toNat - (intOf a).toNat)
  case atStart => exact ⟨0, its.length, rfl, rfl, Nat.zero_le _, hp, Nat.le_refl _, Below.refl _ _⟩
  case round =>
    obtain ⟨i, j, rfl, rfl, h1, h2, h3, hb⟩ := hrel
    by_cases hij : i < j
    · obtain ⟨it, hit⟩ : ∃ it, its[(i + j) / 2]? = some it := ⟨_, List.getElem?_eq_getElem (by omega)⟩
      have hcc := (HC.out.below hb) _ _ hit
      obtain ⟨c1, c2⟩ := hcc
      have hci := fun W => cmpI it.key key it.mv W
      have hcn := cmp_neg it.key key
      cases hk : klt it.key key
      · rw [hk] at hcn
        go_wp2_with (go_at_call 83; refine (hci _).mono ?_; rintro e w' ⟨rfl, hb'⟩)
        go_roundw
        case rel =>
          refine ⟨i, (i + j) / 2, rfl, rfl, h1, ?_, by omega, hb.trans (hb'.mono hb.size)⟩
          refine Nat.le_of_not_lt fun hlt => ?_
          have := plc_lt hlt hit
          rw [hk] at this; cases this
        case measure => simp [intOf]; omega
      · rw [hk] at hcn
        go_wp2_with (go_at_call 83; refine (hci _).mono ?_; rintro e w' ⟨rfl, hb'⟩)
        go_roundw
        case rel =>
          refine ⟨(i + j) / 2 + 1, j, by go_num, rfl, ?_, h2, h3, hb.trans (hb'.mono hb.size)⟩
          refine Nat.le_of_not_lt fun hlt => ?_
          have := plc_ge (key := key) HS.out (by omega) hit
          rw [hk] at this; cases this
        case measure => simp [intOf]; omega
    · obtain rfl : i = plc its key := by omega
      obtain rfl : j = plc its key := by omega
      clear hij h1 h2 h3
      have HR : Hid (hre its key = match its[plc its key]? with | some it => decide (it.key = key) | none => false) := rfl
      by_cases hlt : plc its key < its.length
      · obtain ⟨it, hit⟩ : ∃ it, its[plc its key]? = some it := ⟨_, List.getElem?_eq_getElem hlt⟩
        have hcc := (HC.out.below hb) _ _ hit
        obtain ⟨c1, c2⟩ := hcc
        have hci := fun W => cmpI it.key key it.mv W
        have hcz := cmp_zero it.key key (plc_not hit)
        have HE : Hid (hre its key = decide (it.key = key)) := by have := HR.out; rw [hit] at this; exact this
        clear HR hit
        go_wp2_with (go_at_call 83; refine (hci _).mono ?_; rintro e w' ⟨rfl, hb'⟩)
        go_ret2
        exact ⟨by rw [HE.out]; rfl, hb.trans (hb'.mono hb.size)⟩
      · have HE : Hid (hre its key = false) := by have := HR.out; rw [List.getElem?_eq_none (by omega)] at this; exact this
        clear HR
        go_wp2
        go_ret2
        exact ⟨by rw [HE.out]; rfl, hb⟩
set_option maxRecDepth 100000 in
set_option maxHeartbeats 400000 in
theorem search_nil (c : Nat) (key : ByteArray) (w : World) :
    Calls Tryz.prog 82 #[.slice none 0 c, .string key, .func (.func 83) #[] #[]] w fun e w' => e = .returned (.tuple #[.int .i64 0, .bool false]) ∧ w' = w := by
  go_enter Tryz.func82, Tryz.ntmps82
  go_wp2
  go_loop [9, 10] (fun a b => a = .int .i64 0 ∧ b = .int .i64 0) (fun _ _ => 0)
  case atStart => exact ⟨rfl, rfl⟩
  case round =>
    obtain ⟨rfl, rfl⟩ := hrel
    go_wp2
    go_ret2
    exact ⟨rfl, rfl⟩
set_option maxRecDepth 100000 in
/-- Where a key stands in the node at b. -/
theorem place_nil (b : Nat) (key : ByteArray) (w : World) (hb : w.cell? ⟨b, 0, none⟩ = some (.slice none 0 0)) :
    Calls Tryz.prog 73 #[.pointer (some ⟨b, 0, none⟩), .string key] w fun e w' => e = .returned (.tuple #[.int .i64 0, .bool false]) ∧ w' = w := by
  go_enter Tryz.func73, Tryz.ntmps73
  go_wp2_with (go_at_call 82; refine (search_nil 0 key _).mono ?_; rintro e w' ⟨rfl, rfl⟩)
  go_ret2
  exact ⟨rfl, rfl⟩
set_option maxRecDepth 100000 in
theorem place_any (b g c : Nat) (its : List Itm) (key : ByteArray) (w : World) (hb : w.cell? ⟨b, 0, none⟩ = some (.slice (some ⟨g, 0, none⟩) its.length c)) (hc : ItsAt w g its) (hs : Asc (keysI its)) (hn : its.length ≤ 1000) :
    Calls Tryz.prog 73 #[.pointer (some ⟨b, 0, none⟩), .string key] w fun e w' => e = .returned (.tuple #[.int .i64 (plc its key), .bool (hre its key)]) ∧ Below w.heap.size w w' := by
  have hsr := search_any g c its key w hc hs hn
  clear hc hs
  go_enter Tryz.func73, Tryz.ntmps73
  go_wp2_with (go_at_call 82; refine hsr.mono ?_; rintro e w' ⟨rfl, hb'⟩)
  go_ret2
  exact ⟨rfl, hb'⟩
end Go.Proofs.YteeflkkoifgcbabGreat
