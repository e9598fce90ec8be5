/- The document's Put. -/
import Derived.Test.YtilginghgigiiaaZ2
import Derived.BigQuiet
namespace Go.Proofs.Ytilginghgigiiaa
open Go Go.RowKit

/-- What the document's Put leaves. -/
def RPut (w : World) (B y : Nat) (rv : Value) (D' : Dat) (w' : World) : Prop := ∃ R' rv', Rx w' B y R' rv' ∧ dat R' = D' ∧ Upd w w' (fun k => k = y ∨ some k = rv.ownBlock)
theorem RPut.same {w w' : World} {B y : Nat} {R : List IM} {rv : Value} (h : Rx w B y R rv) (hb : Below w.heap.size w w') : RPut w B y rv (dat R) w' := ⟨R, rv, h.below hb, rfl, Upd.ofBelow hb⟩
theorem last_of {ms : List Mk} (h : 0 < ms.length) : ms[ms.length - 1]? = some (lastM ms) := by
  obtain ⟨ini, l, rfl⟩ : ∃ ini l, ms = ini ++ [l] := ⟨ms.dropLast, ms.getLast (by intro e; rw [e] at h; simp at h), (List.dropLast_concat_getLast _).symm⟩
  simp [lastM]
theorem below_drewN' {B : Nat} {w W : World} (h : Below B w W) : ∀ n, Below B w (W.drewN n)
  | 0 => h
  | n + 1 => (below_drewN' h n).drew
theorem mk_cells {w : World} {B g c : Nat} {ms : List Mk} (h : RMk w B (.slice (some ⟨g, 0, none⟩) ms.length c) ms) {j : Nat} {m : Mk} (hj : ms[j]? = some m) : w.cell? ⟨g, j * 2, none⟩ = some (.int .i64 m.1) ∧ w.cell? ⟨g, j * 2 + 1, none⟩ = some (.bool m.2) := by
  obtain ⟨h1, h2⟩ := mksC_get ms j m hj
  have hc := h.cells (g := g) rfl
  have a1 := hc _ _ h1
  have a2 := hc _ _ h2
  simp only [Addr.add_lit, Nat.zero_add] at a1 a2
  exact ⟨a1, a2⟩
section
variable {w : World} {B y : Nat} {R : List IM} {rv : Value} (h : Rx w B y R rv) (ha : Asc (keysR R)) (hn : R.length ≤ 1000000) (hms : ∀ r ∈ R, r.ms.length ≤ 1000000) (key : ByteArray) (rev : Int) (hks : key.size ≤ 9223372036854775807)
include h hks
set_option maxRecDepth 100000 in
set_option maxHeartbeats 2000000 in
theorem rput_bad (del : Bool) (hbad : key.size = 0 ∨ 100 < key.size ∨ rev < 1) : Calls Try.prog 11 #[ptr y, .string key, .agg #[.int .i64 rev, .bool del]] w fun e w' => e = .returned (.int .i64 1) ∧ RPut w B y rv (dat R) w' := by
  have HP : Hid (∀ w', Below w.heap.size w w' → RPut w B y rv (dat R) w') := fun w' hb => RPut.same h hb
  clear h
  have hb0 : Below w.heap.size w (w.alloc (.cells #[.int .i64 rev, .bool del] 37)) := (Below.refl _ w).alloc (Nat.le_refl _) _
  by_cases h0 : key.size = 0
  · have he : key = ByteArray.empty := bytes_ext (by
      have : key.data.toList.length = 0 := h0
      rw [List.eq_nil_of_length_eq_zero this]; rfl)
    have q : key.toList.isEmpty = true := by rw [he, toList_data]; rfl
    clear hbad
    go_enter Try.func11, Try.ntmps11
    go_wp2
    go_ret
    exact ⟨rfl, HP.out _ hb0⟩
  · have hne : ¬ key = ByteArray.empty := fun e => h0 (by rw [e]; rfl)
    have q := ne_hi hne
    by_cases h1 : 100 < key.size
    · clear hbad
      go_enter Try.func11, Try.ntmps11
      go_wp2
      go_ret
      exact ⟨rfl, HP.out _ hb0⟩
    · have h2 : rev < 1 := by omega
      clear hbad
      go_enter Try.func11, Try.ntmps11
      go_wp2
      go_ret
      exact ⟨rfl, HP.out _ hb0⟩
include h ha hn hms hks
set_option maxRecDepth 100000 in
set_option maxHeartbeats 4000000 in
theorem rput_noneT (hl : lookD (dat R) key = none) (hk0 : ¬ key.size = 0) (hk1 : ¬ 100 < key.size) (hr1 : ¬ rev < 1) : Calls Try.prog 11 #[ptr y, .string key, .agg #[.int .i64 rev, .bool true]] w fun e w' => e = .returned (.int .i64 2) ∧ RPut w B y rv (dat R) w' := by
  have hne : ¬ key = ByteArray.empty := fun e => hk0 (by rw [e]; rfl)
  have q := ne_hi hne
  have hb0 : Below w.heap.size w (w.alloc (.cells #[.int .i64 rev, .bool true] 37)) := (Below.refl _ w).alloc (Nat.le_refl _) _
  obtain ⟨W0, hW0⟩ : ∃ W0, W0 = w.alloc (.cells #[.int .i64 rev, .bool true] 37) := ⟨_, rfl⟩
  have hr0 : W0.heap[w.heap.size]? = some (.cells #[.int .i64 rev, .bool true] 37 (0, 0)) := by rw [hW0]; exact row_alloc w _ _
  rw [← hW0] at hb0
  have hmk := rmarks_any (h.below hb0) ha hn hms key
  rw [hl] at hmk
  have e0 : W0.cell? ⟨w.heap.size, 0, none⟩ = some (.int .i64 rev) := by simp [World.cell?, hr0]
  have HX := Hid.mk'' h
  go_enter Try.func11, Try.ntmps11
  go_upto_region 1 with (fail)
  rw [← hW0]
  clear hW0 h
  go_upto_region 4 with (go_at_call 15; refine hmk.mono ?_; rintro e W1 ⟨v1, rfl, ⟨p1, c1, hv1⟩, hM1, hb1⟩; dsimp only [Option.getD_none, List.length_nil] at hv1 hM1; subst hv1)
  have hbw1 : Below w.heap.size w W1 := hb0.trans (hb1.mono hb0.size)
  have hr1' : W1.heap[w.heap.size]? = some (.cells #[.int .i64 rev, .bool true] 37 (0, 0)) := (hb1.block _ (Array.getElem?_eq_some_iff.1 hr0).1).trans hr0
  have f0 : W1.cell? ⟨w.heap.size, 0, none⟩ = some (.int .i64 rev) := by simp [World.cell?, hr1']
  have f1 : W1.cell? ⟨w.heap.size, 1, none⟩ = some (.bool true) := by simp [World.cell?, hr1']
  clear hmk hb1 hr0 e0 hb0 hM1
  go_upto_region 5 with (fail)
  go_quiet (fail)
  obtain ⟨W2, hW2⟩ : ∃ W2, W2 = W1.drewN nq := ⟨_, rfl⟩
  rw [← hW2]
  have hb2 : Below W1.heap.size W1 W2 := by rw [hW2]; exact below_drewN' (Below.refl _ _) nq
  have hbw2 : Below w.heap.size w W2 := hbw1.trans (hb2.mono hbw1.size)
  have hr2 : W2.heap[w.heap.size]? = some (.cells #[.int .i64 rev, .bool true] 37 (0, 0)) := (hb2.block _ (Array.getElem?_eq_some_iff.1 hr1').1).trans hr1'
  have g0 : W2.cell? ⟨w.heap.size, 0, none⟩ = some (.int .i64 rev) := by simp [World.cell?, hr2]
  have g1 : W2.cell? ⟨w.heap.size, 1, none⟩ = some (.bool true) := by simp [World.cell?, hr2]
  clear hW2 f0 f1 hr1' hb2
  go_wp2
  go_ret
  exact ⟨rfl, RPut.same HX.out hbw2⟩
set_option maxRecDepth 100000 in
set_option maxHeartbeats 4000000 in
theorem rput_gapT {r : IM} (hr : R[plc (R.map IM.it) key]? = some r) (hl : lookD (dat R) key = some r.ms) (hpos : 0 < r.ms.length) (hk0 : ¬ key.size = 0) (hk1 : ¬ 100 < key.size) (hr1 : ¬ rev < 1) (hgap : rev ≤ (lastM r.ms).1) : Calls Try.prog 11 #[ptr y, .string key, .agg #[.int .i64 rev, .bool true]] w fun e w' => e = .returned (.int .i64 15) ∧ RPut w B y rv (dat R) w' := by
  have hne : ¬ key = ByteArray.empty := fun e => hk0 (by rw [e]; rfl)
  have q := ne_hi hne
  have hb0 : Below w.heap.size w (w.alloc (.cells #[.int .i64 rev, .bool true] 37)) := (Below.refl _ w).alloc (Nat.le_refl _) _
  obtain ⟨W0, hW0⟩ : ∃ W0, W0 = w.alloc (.cells #[.int .i64 rev, .bool true] 37) := ⟨_, rfl⟩
  have hr0 : W0.heap[w.heap.size]? = some (.cells #[.int .i64 rev, .bool true] 37 (0, 0)) := by rw [hW0]; exact row_alloc w _ _
  rw [← hW0] at hb0
  have hmk := rmarks_any (h.below hb0) ha hn hms key
  rw [hl] at hmk
  have e0 : W0.cell? ⟨w.heap.size, 0, none⟩ = some (.int .i64 rev) := by simp [World.cell?, hr0]
  have HX := Hid.mk'' h
  have hml := hms r (List.mem_of_getElem? hr)
  have hx1 : IntKind.i64.wrap ((r.ms.length : Int) - 1) = ((r.ms.length - 1 : Nat) : Int) := by rw [IntKind.wrap_i64]; omega
  go_enter Try.func11, Try.ntmps11
  go_upto_region 1 with (fail)
  rw [← hW0]
  clear hW0 h
  go_upto_region 4 with (go_at_call 15; refine hmk.mono ?_; rintro e W1 ⟨v1, rfl, ⟨p1, c1, hv1⟩, hM1, hb1⟩; dsimp only [Option.getD_some] at hv1 hM1; subst hv1)
  have hbw1 : Below w.heap.size w W1 := hb0.trans (hb1.mono hb0.size)
  have hr1' : W1.heap[w.heap.size]? = some (.cells #[.int .i64 rev, .bool true] 37 (0, 0)) := (hb1.block _ (Array.getElem?_eq_some_iff.1 hr0).1).trans hr0
  have f0 : W1.cell? ⟨w.heap.size, 0, none⟩ = some (.int .i64 rev) := by simp [World.cell?, hr1']
  have f1 : W1.cell? ⟨w.heap.size, 1, none⟩ = some (.bool true) := by simp [World.cell?, hr1']
  obtain ⟨lg, lc, hlv, _, _⟩ := owns_formB hM1 hpos
  cases hlv
  obtain ⟨l0, l1⟩ := mk_cells hM1 (last_of hpos)
  have hlgl := World.block_lt_of_cell? _ _ l0
  have hgen : ∃ nl : Nat, nl = r.ms.length := ⟨_, rfl⟩
  obtain ⟨nl, hnl⟩ := hgen
  rw [← hnl] at hx1 l0 l1 hpos hml ⊢
  clear hmk hb1 hr0 e0 hb0 hM1 hnl
  go_upto_region 5 with (fail)
  go_quiet (fail)
  obtain ⟨W2, hW2⟩ : ∃ W2, W2 = W1.drewN nq := ⟨_, rfl⟩
  rw [← hW2]
  have hb2 : Below W1.heap.size W1 W2 := by rw [hW2]; exact below_drewN' (Below.refl _ _) nq
  have hbw2 : Below w.heap.size w W2 := hbw1.trans (hb2.mono hbw1.size)
  have hr2 : W2.heap[w.heap.size]? = some (.cells #[.int .i64 rev, .bool true] 37 (0, 0)) := (hb2.block _ (Array.getElem?_eq_some_iff.1 hr1').1).trans hr1'
  have g0 : W2.cell? ⟨w.heap.size, 0, none⟩ = some (.int .i64 rev) := by simp [World.cell?, hr2]
  have g1 : W2.cell? ⟨w.heap.size, 1, none⟩ = some (.bool true) := by simp [World.cell?, hr2]
  have m0 := (hb2.cell (p := ⟨lg, (nl - 1) * 2, none⟩) hlgl).trans l0
  have m1 := (hb2.cell (p := ⟨lg, (nl - 1) * 2 + 1, none⟩) hlgl).trans l1
  clear l0 l1 hlgl
  clear hW2 f0 f1 hr1' hb2
  go_wp2
  go_ret
  exact ⟨rfl, RPut.same HX.out hbw2⟩
set_option maxRecDepth 100000 in
set_option maxHeartbeats 4000000 in
theorem rput_gapF {r : IM} (hr : R[plc (R.map IM.it) key]? = some r) (hl : lookD (dat R) key = some r.ms) (hpos : 0 < r.ms.length) (hk0 : ¬ key.size = 0) (hk1 : ¬ 100 < key.size) (hr1 : ¬ rev < 1) (hgap : rev ≤ (lastM r.ms).1) : Calls Try.prog 11 #[ptr y, .string key, .agg #[.int .i64 rev, .bool false]] w fun e w' => e = .returned (.int .i64 15) ∧ RPut w B y rv (dat R) w' := by
  have hne : ¬ key = ByteArray.empty := fun e => hk0 (by rw [e]; rfl)
  have q := ne_hi hne
  have hb0 : Below w.heap.size w (w.alloc (.cells #[.int .i64 rev, .bool false] 37)) := (Below.refl _ w).alloc (Nat.le_refl _) _
  obtain ⟨W0, hW0⟩ : ∃ W0, W0 = w.alloc (.cells #[.int .i64 rev, .bool false] 37) := ⟨_, rfl⟩
  have hr0 : W0.heap[w.heap.size]? = some (.cells #[.int .i64 rev, .bool false] 37 (0, 0)) := by rw [hW0]; exact row_alloc w _ _
  rw [← hW0] at hb0
  have hmk := rmarks_any (h.below hb0) ha hn hms key
  rw [hl] at hmk
  have e0 : W0.cell? ⟨w.heap.size, 0, none⟩ = some (.int .i64 rev) := by simp [World.cell?, hr0]
  have HX := Hid.mk'' h
  have hml := hms r (List.mem_of_getElem? hr)
  have hx1 : IntKind.i64.wrap ((r.ms.length : Int) - 1) = ((r.ms.length - 1 : Nat) : Int) := by rw [IntKind.wrap_i64]; omega
  go_enter Try.func11, Try.ntmps11
  go_upto_region 1 with (fail)
  rw [← hW0]
  clear hW0 h
  go_upto_region 4 with (go_at_call 15; refine hmk.mono ?_; rintro e W1 ⟨v1, rfl, ⟨p1, c1, hv1⟩, hM1, hb1⟩; dsimp only [Option.getD_some] at hv1 hM1; subst hv1)
  have hbw1 : Below w.heap.size w W1 := hb0.trans (hb1.mono hb0.size)
  have hr1' : W1.heap[w.heap.size]? = some (.cells #[.int .i64 rev, .bool false] 37 (0, 0)) := (hb1.block _ (Array.getElem?_eq_some_iff.1 hr0).1).trans hr0
  have f0 : W1.cell? ⟨w.heap.size, 0, none⟩ = some (.int .i64 rev) := by simp [World.cell?, hr1']
  have f1 : W1.cell? ⟨w.heap.size, 1, none⟩ = some (.bool false) := by simp [World.cell?, hr1']
  obtain ⟨lg, lc, hlv, _, _⟩ := owns_formB hM1 hpos
  cases hlv
  obtain ⟨l0, l1⟩ := mk_cells hM1 (last_of hpos)
  have hlgl := World.block_lt_of_cell? _ _ l0
  have hgen : ∃ nl : Nat, nl = r.ms.length := ⟨_, rfl⟩
  obtain ⟨nl, hnl⟩ := hgen
  rw [← hnl] at hx1 l0 l1 hpos hml ⊢
  clear hmk hb1 hr0 e0 hb0 hM1 hnl
  go_upto_region 5 with (fail)
  go_quiet (fail)
  obtain ⟨W2, hW2⟩ : ∃ W2, W2 = W1.drewN nq := ⟨_, rfl⟩
  rw [← hW2]
  have hb2 : Below W1.heap.size W1 W2 := by rw [hW2]; exact below_drewN' (Below.refl _ _) nq
  have hbw2 : Below w.heap.size w W2 := hbw1.trans (hb2.mono hbw1.size)
  have hr2 : W2.heap[w.heap.size]? = some (.cells #[.int .i64 rev, .bool false] 37 (0, 0)) := (hb2.block _ (Array.getElem?_eq_some_iff.1 hr1').1).trans hr1'
  have g0 : W2.cell? ⟨w.heap.size, 0, none⟩ = some (.int .i64 rev) := by simp [World.cell?, hr2]
  have g1 : W2.cell? ⟨w.heap.size, 1, none⟩ = some (.bool false) := by simp [World.cell?, hr2]
  have m0 := (hb2.cell (p := ⟨lg, (nl - 1) * 2, none⟩) hlgl).trans l0
  have m1 := (hb2.cell (p := ⟨lg, (nl - 1) * 2 + 1, none⟩) hlgl).trans l1
  clear l0 l1 hlgl
  clear hW2 f0 f1 hr1' hb2
  go_wp2
  go_ret
  exact ⟨rfl, RPut.same HX.out hbw2⟩
set_option maxRecDepth 100000 in
set_option maxHeartbeats 4000000 in
theorem rput_gone {r : IM} (hr : R[plc (R.map IM.it) key]? = some r) (hl : lookD (dat R) key = some r.ms) (hpos : 0 < r.ms.length) (hk0 : ¬ key.size = 0) (hk1 : ¬ 100 < key.size) (hr1 : ¬ rev < 1) (hgap : ¬ rev ≤ (lastM r.ms).1) (hdl : (lastM r.ms).2 = true) : Calls Try.prog 11 #[ptr y, .string key, .agg #[.int .i64 rev, .bool true]] w fun e w' => e = .returned (.int .i64 2) ∧ RPut w B y rv (dat R) w' := by
  have hne : ¬ key = ByteArray.empty := fun e => hk0 (by rw [e]; rfl)
  have q := ne_hi hne
  have hb0 : Below w.heap.size w (w.alloc (.cells #[.int .i64 rev, .bool true] 37)) := (Below.refl _ w).alloc (Nat.le_refl _) _
  obtain ⟨W0, hW0⟩ : ∃ W0, W0 = w.alloc (.cells #[.int .i64 rev, .bool true] 37) := ⟨_, rfl⟩
  have hr0 : W0.heap[w.heap.size]? = some (.cells #[.int .i64 rev, .bool true] 37 (0, 0)) := by rw [hW0]; exact row_alloc w _ _
  rw [← hW0] at hb0
  have hmk := rmarks_any (h.below hb0) ha hn hms key
  rw [hl] at hmk
  have e0 : W0.cell? ⟨w.heap.size, 0, none⟩ = some (.int .i64 rev) := by simp [World.cell?, hr0]
  have HX := Hid.mk'' h
  have hml := hms r (List.mem_of_getElem? hr)
  have hx1 : IntKind.i64.wrap ((r.ms.length : Int) - 1) = ((r.ms.length - 1 : Nat) : Int) := by rw [IntKind.wrap_i64]; omega
  go_enter Try.func11, Try.ntmps11
  go_upto_region 1 with (fail)
  rw [← hW0]
  clear hW0 h
  go_upto_region 4 with (go_at_call 15; refine hmk.mono ?_; rintro e W1 ⟨v1, rfl, ⟨p1, c1, hv1⟩, hM1, hb1⟩; dsimp only [Option.getD_some] at hv1 hM1; subst hv1)
  have hbw1 : Below w.heap.size w W1 := hb0.trans (hb1.mono hb0.size)
  have hr1' : W1.heap[w.heap.size]? = some (.cells #[.int .i64 rev, .bool true] 37 (0, 0)) := (hb1.block _ (Array.getElem?_eq_some_iff.1 hr0).1).trans hr0
  have f0 : W1.cell? ⟨w.heap.size, 0, none⟩ = some (.int .i64 rev) := by simp [World.cell?, hr1']
  have f1 : W1.cell? ⟨w.heap.size, 1, none⟩ = some (.bool true) := by simp [World.cell?, hr1']
  obtain ⟨lg, lc, hlv, _, _⟩ := owns_formB hM1 hpos
  cases hlv
  obtain ⟨l0, l1⟩ := mk_cells hM1 (last_of hpos)
  have hlgl := World.block_lt_of_cell? _ _ l0
  have hgen : ∃ nl : Nat, nl = r.ms.length := ⟨_, rfl⟩
  obtain ⟨nl, hnl⟩ := hgen
  rw [← hnl] at hx1 l0 l1 hpos hml ⊢
  clear hmk hb1 hr0 e0 hb0 hM1 hnl
  go_upto_region 5 with (fail)
  go_quiet (fail)
  obtain ⟨W2, hW2⟩ : ∃ W2, W2 = W1.drewN nq := ⟨_, rfl⟩
  rw [← hW2]
  have hb2 : Below W1.heap.size W1 W2 := by rw [hW2]; exact below_drewN' (Below.refl _ _) nq
  have hbw2 : Below w.heap.size w W2 := hbw1.trans (hb2.mono hbw1.size)
  have hr2 : W2.heap[w.heap.size]? = some (.cells #[.int .i64 rev, .bool true] 37 (0, 0)) := (hb2.block _ (Array.getElem?_eq_some_iff.1 hr1').1).trans hr1'
  have g0 : W2.cell? ⟨w.heap.size, 0, none⟩ = some (.int .i64 rev) := by simp [World.cell?, hr2]
  have g1 : W2.cell? ⟨w.heap.size, 1, none⟩ = some (.bool true) := by simp [World.cell?, hr2]
  have m0 := (hb2.cell (p := ⟨lg, (nl - 1) * 2, none⟩) hlgl).trans l0
  have m1 := (hb2.cell (p := ⟨lg, (nl - 1) * 2 + 1, none⟩) hlgl).trans l1
  clear l0 l1 hlgl
  clear hW2 f0 f1 hr1' hb2
  rw [hdl] at m1
  go_wp2
  go_ret
  exact ⟨rfl, RPut.same HX.out hbw2⟩
end
end Go.Proofs.Ytilginghgigiiaa
