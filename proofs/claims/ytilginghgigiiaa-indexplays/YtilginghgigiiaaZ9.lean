/- The document's Put, whole. · Both indexes side by side. · Both indexes and a call's box; what they tell, side by side. -/
import Derived.Test.YtilginghgigiiaaZ4
import Derived.Test.YtilginghgigiiaaZ5
import Derived.Test.YtilginghgigiiaaZ8
import Derived.Test.YtilginghgigiiaaU2
namespace Go.Proofs.Ytilginghgigiiaa
open Go Go.RowKit

theorem putE_bad {D : Dat} {key : ByteArray} {rev : Int} {del : Bool} (h : key.size = 0 ∨ 100 < key.size ∨ rev < 1) : putE D key rev del = 1 := by unfold putE; rw [if_pos h]
theorem putD_not {D : Dat} {key : ByteArray} {rev : Int} {del : Bool} (h : putE D key rev del ≠ 0) : putD D key rev del = D := by unfold putD; rw [if_neg h]
theorem putE_old {D : Dat} {key : ByteArray} {rev : Int} {del : Bool} {ms : List Mk} (h : ¬ (key.size = 0 ∨ 100 < key.size ∨ rev < 1)) (hl : lookD D key = some ms) : putE D key rev del = if rev ≤ (lastM ms).1 then 15 else if del && (lastM ms).2 then 2 else 0 := by unfold putE; rw [if_neg h, hl]
theorem putE_new {D : Dat} {key : ByteArray} {rev : Int} {del : Bool} (h : ¬ (key.size = 0 ∨ 100 < key.size ∨ rev < 1)) (hl : lookD D key = none) : putE D key rev del = if del then 2 else 0 := by unfold putE; rw [if_neg h, hl]
/-- Put. -/
theorem rput_any {w : World} {B y : Nat} {R : List IM} {rv : Value} (h : Rx w B y R rv) (ha : Asc (keysR R)) (hn : R.length ≤ 1000000) (hms : ∀ r ∈ R, r.ms.length ≤ 1000000) (hpos : ∀ r ∈ R, 0 < r.ms.length) (hB : B ≤ w.heap.size) (key : ByteArray) (rev : Int) (hks : key.size ≤ 9223372036854775807) (del : Bool) :
    Calls Try.prog 11 #[ptr y, .string key, .agg #[.int .i64 rev, .bool del]] w fun e w' => e = .returned (.int .i64 (putE (dat R) key rev del)) ∧ RPut w B y rv (putD (dat R) key rev del) w' := by
  by_cases hbad : key.size = 0 ∨ 100 < key.size ∨ rev < 1
  · have he : putE (dat R) key rev del = 1 := putE_bad hbad
    rw [he, putD_not (by rw [he]; decide)]
    exact rput_bad h key rev hks del hbad
  · have hk0 : ¬ key.size = 0 := fun e => hbad (.inl e)
    have hk1 : ¬ 100 < key.size := fun e => hbad (.inr (.inl e))
    have hr1 : ¬ rev < 1 := fun e => hbad (.inr (.inr e))
    rcases look_plc ha key with ⟨r, hr, hrk, hl⟩ | ⟨_, hl⟩
    · have hp := hpos r (List.mem_of_getElem? hr)
      have he := putE_old (del := del) hbad hl
      by_cases hgap : rev ≤ (lastM r.ms).1
      · rw [if_pos hgap] at he
        rw [he, putD_not (by rw [he]; decide)]
        cases del with
        | true => exact rput_gapT h ha hn hms key rev hks hr hl hp hk0 hk1 hr1 hgap
        | false => exact rput_gapF h ha hn hms key rev hks hr hl hp hk0 hk1 hr1 hgap
      · rw [if_neg hgap] at he
        cases del with
        | true =>
          cases hdl : (lastM r.ms).2 with
          | true =>
            rw [hdl] at he
            have he : putE (dat R) key rev true = 2 := he
            rw [he, putD_not (by rw [he]; decide)]
            exact rput_gone h ha hn hms key rev hks hr hl hp hk0 hk1 hr1 hgap hdl
          | false =>
            rw [hdl] at he
            have he : putE (dat R) key rev true = 0 := he
            rw [he]
            exact rput_oldT h ha hn hms key rev hks hr hrk hl hp hk0 hk1 hr1 hgap hB hdl he
        | false =>
          have he : putE (dat R) key rev false = 0 := he
          rw [he]
          exact rput_oldF h ha hn hms key rev hks hr hrk hl hp hk0 hk1 hr1 hgap hB he
    · have he := putE_new (rev := rev) (del := del) hbad hl
      cases del with
      | true =>
        have he : putE (dat R) key rev true = 2 := he
        rw [he, putD_not (by rw [he]; decide)]
        exact rput_noneT h ha hn hms key rev hks hl hk0 hk1 hr1
      | false =>
        have he : putE (dat R) key rev false = 0 := he
        rw [he]
        obtain ⟨p, c, hv⟩ := h.form
        rcases h.row.2 with ⟨e1, e2⟩ | ⟨g, cap, cur, e1, _⟩
        · have hR0 : R.length = 0 := by rw [hv] at e1; injection e1
          exact rput_new0 h ha hn hms key rev hks hR0 e1 hl hk0 hk1 hr1 hB he
        · by_cases hc : cap = plc (R.map IM.it) key
          · exact rput_new1 h ha hn hms key rev hks e1 hc hl hk0 hk1 hr1 hB he
          · exact rput_new2 h ha hn hms key rev hks e1 hc hl hk0 hk1 hr1 hB he
end Go.Proofs.Ytilginghgigiiaa
namespace Go.Proofs.Ytilginghgigiiaa
open Go Go.RowKit

/-- The program's index at x with Dx, the document's at y with Dy. -/
structure PP (w0 w : World) (x y n : Nat) (Dx Dy : Dat) : Prop where
  ex : ∃ F R rv, Xd w x Dx F ∧ Rx w w0.heap.size y R rv ∧ dat R = Dy ∧ ∀ k ∈ F, w0.heap.size ≤ k
  bx : Bd n Dx
  bd : Bd n Dy
  below : Below w0.heap.size w0 w
/-- Blocks of other kinds stay. -/
def Keep (w w' : World) : Prop := ∀ (b : Nat) (c : Array Value) (t : Nat), w.heap[b]? = some (.cells c t (0, 0)) → t ∉ own7 → t ∉ ref3 → w'.heap[b]? = some (.cells c t (0, 0))
theorem Keep.ofBelow {w w' : World} (hb : Below w.heap.size w w') : Keep w w' := fun b _ _ h _ _ => (hb.block b (Array.getElem?_eq_some_iff.1 h).1).trans h
theorem Keep.ofUpd {w w' : World} {S : Nat → Prop} (hu : Upd w w' S) (hS : ∀ k, S k → Kind w k (own7 ++ ref3)) : Keep w w' := fun b c t h h1 h2 => (hu.block b (Array.getElem?_eq_some_iff.1 h).1 (fun hs => by
  obtain ⟨c', t', f', h3, h4⟩ := hS b hs
  rw [h] at h3
  cases h3
  exact (List.mem_append.1 h4).elim h1 h2)).trans h
theorem Kind.sub {w : World} {k : Nat} {ts us : List Nat} (h : Kind w k ts) (hs : ∀ t ∈ ts, t ∈ us) : Kind w k us := by
  obtain ⟨c, t, f, h1, h2⟩ := h
  exact ⟨c, t, f, h1, hs t h2⟩
theorem PP.later {w0 w W : World} {x y n : Nat} {Dx Dy : Dat} (h : PP w0 w x y n Dx Dy) (hb : Below w.heap.size w W) : PP w0 W x y n Dx Dy := by
  obtain ⟨F, R, rv, h1, h2, h3, h4⟩ := h.ex
  exact ⟨⟨F, R, rv, h1.below hb, h2.below hb, h3, h4⟩, h.bx, h.bd, h.below.trans (hb.mono h.below.size)⟩
theorem PP.mono {w0 w : World} {x y n m : Nat} {Dx Dy : Dat} (h : PP w0 w x y n Dx Dy) (hm : n ≤ m) : PP w0 w x y m Dx Dy := ⟨h.ex, h.bx.mono hm, h.bd.mono hm, h.below⟩
/-- The program's index has changed. -/
theorem PP.stepX {w0 w w' : World} {x y n m : Nat} {Dx Dx' Dy : Dat} {F F' : List Nat} {R : List IM} {rv : Value} (h : PP w0 w x y n Dx Dy) (h1 : Xd w x Dx F) (h2 : Rx w w0.heap.size y R rv) (h3 : dat R = Dy) (h4 : ∀ k ∈ F, w0.heap.size ≤ k) (hx : Xd w' x Dx' F') (hs : Step w w' F F') (hb : Bd m Dx') (hm : n ≤ m) : PP w0 w' x y m Dx' Dy ∧ Keep w w' :=
  ⟨⟨⟨F', R, rv, hx, h2.step h1 hs, h3, fun k hk => (hs.sub k hk).elim (h4 k) (fun hh => Nat.le_trans h.below.size hh)⟩, hb, h.bd.mono hm, h.below.trans (hs.upd.below h.below.size (fun k hk hm => by have := h4 k hm; omega))⟩, Keep.ofUpd hs.upd (fun k hk => (h1.kind k hk).sub (fun t ht => List.mem_append.2 (.inl ht)))⟩
/-- The document's index has changed. -/
theorem PP.stepY {w0 w w' : World} {x y n m : Nat} {Dx Dy Dy' : Dat} {F : List Nat} {R : List IM} {rv : Value} (h : PP w0 w x y n Dx Dy) (h1 : Xd w x Dx F) (h2 : Rx w w0.heap.size y R rv) (h4 : ∀ k ∈ F, w0.heap.size ≤ k) (hp : RPut w w0.heap.size y rv Dy' w') (hb : Bd m Dy') (hm : n ≤ m) : PP w0 w' x y m Dx Dy' ∧ Keep w w' := by
  obtain ⟨R', rv', q1, q2, q3⟩ := hp
  have hk : ∀ k, (k = y ∨ some k = rv.ownBlock) → Kind w k ref3 := fun k hk => by
    rcases hk with rfl | hk
    · exact ⟨_, _, _, h2.blk, by simp⟩
    · exact Kind.of_row h2.row hk.symm (by simp)
  have hge : ∀ k, (k = y ∨ some k = rv.ownBlock) → w0.heap.size ≤ k := fun k hk => by
    rcases hk with rfl | hk
    · exact h2.yB
    · exact (ownBlock_ge h2.row hk.symm).1
  exact ⟨⟨⟨F, R', rv', h1.upd q3 (fun k hF hS => (h1.kind k hF).not (hk k hS) (by simp)), q1, q2, h4⟩, h.bx.mono hm, hb, h.below.trans (q3.below h.below.size (fun k hk' hS => by have := hge k hS; omega))⟩, Keep.ofUpd q3 (fun k hS => (hk k hS).sub (fun t ht => List.mem_append.2 (.inr ht)))⟩
section
variable {w0 w : World} {x y n : Nat} {Dx Dy : Dat} (h : PP w0 w x y n Dx Dy) (hn : n ≤ 1000)
include h hn
theorem PP.putX (key : ByteArray) (rev : Int) (del : Bool) (hk : key.size ≤ 9223372036854775807) (hr : -9223372036854775808 ≤ rev ∧ rev ≤ 9223372036854775807) :
    Calls Try.prog 10 #[ptr x, .string key, .agg #[.int .i64 rev, .bool del]] w fun e w' => e = .returned (.int .i64 (putE Dx key rev del)) ∧ Hid (PP w0 w' x y (n + 1) (putD Dx key rev del) Dy) ∧ Hid (Keep w w') := by
  obtain ⟨F, R, rv, h1, h2, h3, h4⟩ := h.ex
  refine (put_xd h1 h.bx (by omega) key rev del hk hr).mono ?_
  rintro e w' ⟨rfl, F', hx, hs⟩
  obtain ⟨q1, q2⟩ := h.stepX h1 h2 h3 h4 hx hs (h.bx.put key rev del) (Nat.le_succ _)
  exact ⟨rfl, q1, q2⟩
theorem PP.trimX (rev : Int) : Calls Try.prog 12 #[ptr x, .int .i64 rev] w fun e w' => e = .returned (.tuple #[]) ∧ Hid (PP w0 w' x y n (trimD rev Dx) Dy) ∧ Hid (Keep w w') := by
  obtain ⟨F, R, rv, h1, h2, h3, h4⟩ := h.ex
  refine (trim_xd h1 h.bx (by omega) rev).mono ?_
  rintro e w' ⟨rfl, F', hx, hs⟩
  obtain ⟨q1, q2⟩ := h.stepX h1 h2 h3 h4 hx hs (h.bx.trim rev) (Nat.le_refl _)
  exact ⟨rfl, q1, q2⟩
theorem PP.rows {F : List Nat} {R : List IM} {rv : Value} (_h1 : Xd w x Dx F) (_h2 : Rx w w0.heap.size y R rv) (h3 : dat R = Dy) : Asc (keysR R) ∧ R.length ≤ 1000000 ∧ ∀ r ∈ R, MAsc r.ms ∧ r.ms.length ≤ 1000000 ∧ 0 < r.ms.length := by
  have hb := h.bd
  rw [← h3] at hb
  refine ⟨by rw [← dat_keys]; exact hb.asc, by have := hb.len; rw [dat_len] at this; omega, fun r hr => ?_⟩
  obtain ⟨q1, q2, q3⟩ := hb.ms _ (mem_dat hr)
  dsimp only at q1 q2 q3
  exact ⟨q2, by omega, q3⟩
theorem PP.putY (key : ByteArray) (rev : Int) (del : Bool) (hk : key.size ≤ 9223372036854775807) :
    Calls Try.prog 11 #[ptr y, .string key, .agg #[.int .i64 rev, .bool del]] w fun e w' => e = .returned (.int .i64 (putE Dy key rev del)) ∧ Hid (PP w0 w' x y (n + 1) Dx (putD Dy key rev del)) ∧ Hid (Keep w w') := by
  obtain ⟨F, R, rv, h1, h2, h3, h4⟩ := h.ex
  obtain ⟨r1, r2, r3⟩ := h.rows hn h1 h2 h3
  refine (rput_any h2 r1 r2 (fun r hr => (r3 r hr).2.1) (fun r hr => (r3 r hr).2.2) h.below.size key rev hk del).mono ?_
  rintro e w' ⟨rfl, hp⟩
  rw [h3] at hp ⊢
  obtain ⟨q1, q2⟩ := h.stepY h1 h2 h4 hp (h.bd.put key rev del) (Nat.le_succ _)
  exact ⟨rfl, q1, q2⟩
theorem PP.trimY (rev : Int) : Calls Try.prog 13 #[ptr y, .int .i64 rev] w fun e w' => e = .returned (.tuple #[]) ∧ Hid (PP w0 w' x y n Dx (trimD rev Dy)) ∧ Hid (Keep w w') := by
  obtain ⟨F, R, rv, h1, h2, h3, h4⟩ := h.ex
  obtain ⟨_, r2, r3⟩ := h.rows hn h1 h2 h3
  refine (rtrim_any h2 r2 r3 h.below.size rev).mono ?_
  rintro e w' ⟨rfl, hp⟩
  rw [h3] at hp
  obtain ⟨q1, q2⟩ := h.stepY h1 h2 h4 hp (h.bd.trim rev) (Nat.le_refl _)
  exact ⟨rfl, q1, q2⟩
theorem PP.marksX (key : ByteArray) : Calls Try.prog 14 #[ptr x, .string key] w fun e w' => ∃ v, e = .returned v ∧ MarksPost w w' v ((lookD Dx key).getD []) := by
  obtain ⟨F, R, rv, h1, h2, h3, h4⟩ := h.ex
  exact marks_xd h1 h.bx (by omega) key
theorem PP.marksY (key : ByteArray) : Calls Try.prog 15 #[ptr y, .string key] w fun e w' => ∃ v, e = .returned v ∧ RMPost w w' v ((lookD Dy key).getD []) := by
  obtain ⟨F, R, rv, h1, h2, h3, h4⟩ := h.ex
  obtain ⟨r1, r2, r3⟩ := h.rows hn h1 h2 h3
  have := rmarks_any h2 r1 r2 (fun r hr => (r3 r hr).2.1) key
  rw [h3] at this
  exact this
theorem PP.keysX (lo hi : ByteArray) : Calls Try.prog 16 #[ptr x, .string lo, .string hi] w fun e w' => ∃ v, e = .returned v ∧ KeysPost w w' v (keysD lo hi Dx) := by
  obtain ⟨F, R, rv, h1, h2, h3, h4⟩ := h.ex
  exact keys_xd h1 (by have := h.bx.len; omega) lo hi
theorem PP.keysY (lo hi : ByteArray) : Calls Try.prog 17 #[ptr y, .string lo, .string hi] w fun e w' => ∃ v, e = .returned v ∧ KeysPost w w' v (keysD lo hi Dy) := by
  obtain ⟨F, R, rv, h1, h2, h3, h4⟩ := h.ex
  obtain ⟨_, r2, _⟩ := h.rows hn h1 h2 h3
  have := rkeys_any h2 r2 lo hi
  rw [h3] at this
  exact this
omit hn
theorem PP.len : Calls Try.prog 18 #[ptr x] w fun e w' => e = .returned (.int .i64 Dx.length) ∧ w' = w := by
  obtain ⟨F, R, rv, h1, h2, h3, h4⟩ := h.ex
  exact len_xd h1
theorem PP.rowsY : ∃ p c, w.cell? ⟨y, 0, none⟩ = some (.slice p Dy.length c) := by
  obtain ⟨F, R, rv, h1, h2, h3, h4⟩ := h.ex
  obtain ⟨p, c, hv⟩ := h2.form
  exact ⟨p, c, by rw [h2.c0, hv, ← h3, dat_len]⟩
end
/-- A new pair: the document's index in its box behind. -/
theorem PP.start {w0 w w1 : World} {x : Nat} (hb : Below w0.heap.size w0 w) (hx : Xd w1 x [] [x]) (hb1 : Below w.heap.size w w1) (hxx : x = w.heap.size) : PP w0 (w1.alloc (.cells #[.slice none 0 0] 29)) x w1.heap.size 0 [] [] := by
  have h1 : Below w0.heap.size w0 w1 := hb.trans (hb1.mono hb.size)
  refine ⟨⟨[x], [], .slice none 0 0, hx.below ((Below.refl _ w1).alloc (Nat.le_refl _) _), ⟨row_alloc w1 _ 29, World.ownsRow_nil _ _ _ _, fun _ h => (by cases h), h1.size⟩, rfl, fun k hk => ?_⟩, Bd.nil, Bd.nil, h1.alloc h1.size _⟩
  have : k = x := by simpa using hk
  rw [this, hxx]
  exact hb.size
end Go.Proofs.Ytilginghgigiiaa
namespace Go.Proofs.Ytilginghgigiiaa
open Go Go.RowKit

theorem below_drewM {B : Nat} {w W : World} (h : Below B w W) : ∀ n, Below B w (W.drewN n)
  | 0 => h
  | n + 1 => (below_drewM h n).drew
def boxC (c : Cl) : Array Value := #[.int .i64 c.kind, .int .i64 c.rev, .string c.key, .string c.hi, .bool c.del]
structure PB (w0 w : World) (x y bx : Nat) (c : Cl) (n : Nat) (Dx Dy : Dat) : Prop where
  pp : PP w0 w x y n Dx Dy
  box : w.heap[bx]? = some (.cells (boxC c) 31 (0, 0))
/-- The cells of a call's box. -/
abbrev CB (bx : Nat) (c : Cl) (w : World) : Prop := w.cell? ⟨bx, 0, none⟩ = some (.int .i64 c.kind) ∧ w.cell? ⟨bx, 1, none⟩ = some (.int .i64 c.rev) ∧ w.cell? ⟨bx, 2, none⟩ = some (.string c.key) ∧ w.cell? ⟨bx, 3, none⟩ = some (.string c.hi) ∧ w.cell? ⟨bx, 4, none⟩ = some (.bool c.del)
/-- A row of marks that was told. -/
def MR (w : World) (v : Value) (ms : List Mk) : Prop := ∀ j m, ms[j]? = some m → ∃ g c, v = .slice (some ⟨g, 0, none⟩) ms.length c ∧ g < w.heap.size ∧ w.cell? ⟨g, j * 2, none⟩ = some (.int .i64 m.1) ∧ w.cell? ⟨g, j * 2 + 1, none⟩ = some (.bool m.2)
theorem MR.below {w w' : World} (hb : Below w.heap.size w w') {v : Value} {ms : List Mk} (h : MR w v ms) : MR w' v ms := fun j m hj => by
  obtain ⟨g, c, h1, h2, h3, h4⟩ := h j m hj
  exact ⟨g, c, h1, Nat.lt_of_lt_of_le h2 hb.size, (hb.cell (p := ⟨g, j * 2, none⟩) h2).trans h3, (hb.cell (p := ⟨g, j * 2 + 1, none⟩) h2).trans h4⟩
theorem MR.of {w : World} {B t : Nat} {v : Value} {ms : List Mk} (h : w.ownsRow B t 2 v ms.length (mksC ms)) : MR w v ms := fun j m hj => by
  have hl := (List.getElem?_eq_some_iff.1 hj).1
  obtain ⟨g, c, hv, _, _⟩ := owns_formB h (by omega)
  obtain ⟨h1, h2⟩ := mksC_get ms j m hj
  have hc := h.cells (g := g) (by rw [hv]; rfl)
  have a1 := hc _ _ h1
  have a2 := hc _ _ h2
  simp only [Addr.add_lit, Nat.zero_add] at a1 a2
  exact ⟨g, c, hv, World.block_lt_of_cell? _ _ a1, a1, a2⟩
section
variable {w0 w : World} {x y bx n : Nat} {c : Cl} {Dx Dy : Dat} (h : PB w0 w x y bx c n Dx Dy)
include h
theorem PB.cells : CB bx c w := by
  have := h.box
  simp [CB, World.cell?, this, boxC]
theorem PB.later {W : World} (hb : Below w.heap.size w W) : PB w0 W x y bx c n Dx Dy := ⟨h.pp.later hb, (hb.block bx (Array.getElem?_eq_some_iff.1 h.box).1).trans h.box⟩
theorem PB.keep {W : World} {m : Nat} {Dx' Dy' : Dat} (hp : PP w0 W x y m Dx' Dy') (hk : Keep w W) : PB w0 W x y bx c m Dx' Dy' := ⟨hp, hk bx _ 31 h.box (by decide) (by decide)⟩
variable (hn : n ≤ 1000)
include hn
theorem PB.putX (hk : c.key.size ≤ 9223372036854775807) (hr : -9223372036854775808 ≤ c.rev ∧ c.rev ≤ 9223372036854775807) :
    Calls Try.prog 10 #[ptr x, .string c.key, .agg #[.int .i64 c.rev, .bool c.del]] w fun e w' => e = .returned (.int .i64 (putE Dx c.key c.rev c.del)) ∧ Hid (PB w0 w' x y bx c (n + 1) (putD Dx c.key c.rev c.del) Dy) ∧ CB bx c w' := by
  refine (h.pp.putX hn c.key c.rev c.del hk hr).mono ?_
  rintro e w' ⟨rfl, h1, h2⟩
  have := h.keep h1.out h2.out
  exact ⟨rfl, this, this.cells⟩
theorem PB.putY (hk : c.key.size ≤ 9223372036854775807) :
    Calls Try.prog 11 #[ptr y, .string c.key, .agg #[.int .i64 c.rev, .bool c.del]] w fun e w' => e = .returned (.int .i64 (putE Dy c.key c.rev c.del)) ∧ Hid (PB w0 w' x y bx c (n + 1) Dx (putD Dy c.key c.rev c.del)) ∧ CB bx c w' := by
  refine (h.pp.putY hn c.key c.rev c.del hk).mono ?_
  rintro e w' ⟨rfl, h1, h2⟩
  have := h.keep h1.out h2.out
  exact ⟨rfl, this, this.cells⟩
theorem PB.trimX : Calls Try.prog 12 #[ptr x, .int .i64 c.rev] w fun e w' => e = .returned (.tuple #[]) ∧ Hid (PB w0 w' x y bx c n (trimD c.rev Dx) Dy) ∧ CB bx c w' := by
  refine (h.pp.trimX hn c.rev).mono ?_
  rintro e w' ⟨rfl, h1, h2⟩
  have := h.keep h1.out h2.out
  exact ⟨rfl, this, this.cells⟩
theorem PB.trimY : Calls Try.prog 13 #[ptr y, .int .i64 c.rev] w fun e w' => e = .returned (.tuple #[]) ∧ Hid (PB w0 w' x y bx c n Dx (trimD c.rev Dy)) ∧ CB bx c w' := by
  refine (h.pp.trimY hn c.rev).mono ?_
  rintro e w' ⟨rfl, h1, h2⟩
  have := h.keep h1.out h2.out
  exact ⟨rfl, this, this.cells⟩
theorem PB.marksX : Calls Try.prog 14 #[ptr x, .string c.key] w fun e w' => ∃ p q, e = .returned (.slice p ((lookD Dx c.key).getD []).length q) ∧ Hid (PB w0 w' x y bx c n Dx Dy) ∧ Hid (MR w' (.slice p ((lookD Dx c.key).getD []).length q) ((lookD Dx c.key).getD [])) ∧ CB bx c w' := by
  refine (h.pp.marksX hn c.key).mono ?_
  rintro e w' ⟨v, rfl, ⟨p, q, rfl, _⟩, h2, h3⟩
  have := h.later h3
  exact ⟨p, q, rfl, this, MR.of h2, this.cells⟩
theorem PB.marksY {va : Value} {la : List Mk} (ha : MR w va la) : Calls Try.prog 15 #[ptr y, .string c.key] w fun e w' => ∃ p q, e = .returned (.slice p ((lookD Dy c.key).getD []).length q) ∧ Hid (PB w0 w' x y bx c n Dx Dy) ∧ Hid (MR w' va la) ∧ Hid (MR w' (.slice p ((lookD Dy c.key).getD []).length q) ((lookD Dy c.key).getD [])) ∧ CB bx c w' := by
  refine (h.pp.marksY hn c.key).mono ?_
  rintro e w' ⟨v, rfl, ⟨p, q, rfl⟩, h2, h3⟩
  have := h.later h3
  exact ⟨p, q, rfl, this, ha.below h3, MR.of h2, this.cells⟩
theorem PB.keysX {va vb : Value} {la lb : List Mk} (ha : MR w va la) (hb : MR w vb lb) : Calls Try.prog 16 #[ptr x, .string c.key, .string c.hi] w fun e w' => ∃ p q, e = .returned (.slice p (keysD c.key c.hi Dx).length q) ∧ Hid (PB w0 w' x y bx c n Dx Dy) ∧ Hid (MR w' va la) ∧ Hid (MR w' vb lb) ∧ Hid (Row w' (.slice p (keysD c.key c.hi Dx).length q) (keysD c.key c.hi Dx)) ∧ CB bx c w' := by
  refine (h.pp.keysX hn c.key c.hi).mono ?_
  rintro e w' ⟨v, rfl, h2⟩
  obtain ⟨p, q, rfl⟩ := h2.row.form
  have := h.later h2.2
  exact ⟨p, q, rfl, this, ha.below h2.2, hb.below h2.2, h2.row, this.cells⟩
theorem PB.keysY {va vb vp : Value} {la lb : List Mk} {ps : List ByteArray} (ha : MR w va la) (hb : MR w vb lb) (hp : Row w vp ps) : Calls Try.prog 17 #[ptr y, .string c.key, .string c.hi] w fun e w' => ∃ p q, e = .returned (.slice p (keysD c.key c.hi Dy).length q) ∧ Hid (PB w0 w' x y bx c n Dx Dy) ∧ Hid (MR w' va la) ∧ Hid (MR w' vb lb) ∧ Hid (Row w' vp ps) ∧ Hid (Row w' (.slice p (keysD c.key c.hi Dy).length q) (keysD c.key c.hi Dy)) ∧ CB bx c w' := by
  refine (h.pp.keysY hn c.key c.hi).mono ?_
  rintro e w' ⟨v, rfl, h2⟩
  obtain ⟨p, q, rfl⟩ := h2.row.form
  have := h.later h2.2
  exact ⟨p, q, rfl, this, ha.below h2.2, hb.below h2.2, hp.below h2.2, h2.row, this.cells⟩
end
theorem PB.start {w0 w : World} {x y n : Nat} {D : Dat} (h : PP w0 w x y n D D) (c : Cl) : PB w0 (w.alloc (.cells (boxC c) 31)) x y w.heap.size c n D D := ⟨h.later ((Below.refl _ _).alloc (Nat.le_refl _) _), row_alloc w _ _⟩
end Go.Proofs.Ytilginghgigiiaa
