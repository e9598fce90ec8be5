/- The document's own disk in memory: its cells, its row of files, the bytes that they show. -/
import Derived.Test.YtmfhfabfhoiegaaRowS
import Derived.Test.YtmfhfabfhoiegaaMore
import Derived.Deep.LoopGhost
namespace Go.Proofs.Ytmfhfabfhoiegaa
open Go Go.RowKit
/-- A file of the document's disk: what it is, its name's text, its slice of bytes. -/
structure Rl where
  pf : PF
  s : ByteArray
  v : Value
abbrev Rl.nm (f : Rl) : List UInt8 := f.pf.name
def rcells (f : Rl) : List Value := [.string f.s, f.v, .int .i64 f.pf.sy]
def rrow : List Rl → List Value
  | [] => []
  | f :: r => .string f.s :: f.v :: .int .i64 f.pf.sy :: rrow r
theorem rrow_append : ∀ a b : List Rl, rrow (a ++ b) = rrow a ++ rrow b
  | [], _ => rfl
  | f :: r, b => by simp [rrow, rrow_append r b]
theorem rrow_len : ∀ l : List Rl, (rrow l).length = l.length * 3
  | [] => rfl
  | f :: r => by simp only [rrow, List.length_cons, rrow_len r]; omega
theorem rrow_one (f : Rl) : rrow [f] = rcells f := rfl
theorem rrow_at : ∀ {l : List Rl} {i : Nat} (h : i < l.length), (rrow l)[i * 3]? = some (.string l[i].s) ∧ (rrow l)[i * 3 + 1]? = some l[i].v ∧ (rrow l)[i * 3 + 2]? = some (.int .i64 l[i].pf.sy)
  | f :: r, 0, _ => ⟨rfl, rfl, rfl⟩
  | f :: r, i + 1, h => by
    have := rrow_at (l := r) (i := i) (by simpa using h)
    rw [show (i + 1) * 3 = i * 3 + 3 from by omega]
    exact this
theorem rrow_take (l : List Rl) (k : Nat) : rrow (l.take k) = (rrow l).take (k * 3) := by
  rcases Nat.lt_or_ge l.length k with h | h
  · rw [List.take_of_length_le (by omega), List.take_of_length_le (by rw [rrow_len]; omega)]
  · have e := rrow_append (l.take k) (l.drop k)
    rw [List.take_append_drop] at e
    rw [e, show k * 3 = (rrow (l.take k)).length from by rw [rrow_len, List.length_take]; congr 1; omega, List.take_left]
theorem rrow_drop (l : List Rl) (k : Nat) : rrow (l.drop k) = (rrow l).drop (k * 3) := by
  rcases Nat.lt_or_ge l.length k with h | h
  · rw [List.drop_of_length_le (by omega), List.drop_of_length_le (by rw [rrow_len]; omega)]; rfl
  · have e := rrow_append (l.take k) (l.drop k)
    rw [List.take_append_drop] at e
    rw [e, show k * 3 = (rrow (l.take k)).length from by rw [rrow_len, List.length_take]; congr 1; omega, List.drop_left]
theorem rrow_oneCell {w : World} {l : List Rl} (h : ∀ f ∈ l, ∃ zs, Sees w f.v zs) : ∀ u ∈ rrow l, u.oneCell' = true := by
  induction l with
  | nil => intro u hu; cases hu
  | cons f r ih =>
    intro u hu
    simp only [rrow, List.mem_cons] at hu
    rcases hu with rfl | rfl | rfl | hu
    · rfl
    · obtain ⟨zs, hz⟩ := h f (by simp)
      rcases hz with ⟨_, ao, cap, e, _⟩ | ⟨b, off, cap, e, _⟩ <;> rw [e] <;> rfl
    · rfl
    · exact ih (fun g hg => h g (by simp [hg])) u hu
structure OkR (w : World) (f : Rl) : Prop where
  name : f.s.data.toList = f.pf.name
  sees : Sees w f.v f.pf.xs
  bytes : isB f.pf.xs
  le : f.pf.sy ≤ f.pf.xs.length
theorem OkR.upd {w w' : World} {S : Nat → Prop} {f : Rl} (h : OkR w f) (hu : Upd w w' S) (hS : ∀ k, f.v.ownBlock = some k → ¬ S k) : OkR w' f :=
  ⟨h.name, h.sees.upd hu (fun k hk _ => hS k hk), h.bytes, h.le⟩
theorem OkR.below {w w' : World} {f : Rl} (h : OkR w f) (hb : Below w.heap.size w w') : OkR w' f := h.upd (S := fun _ => False) (Upd.ofBelow hb) (fun _ _ h => h)
/-- The insides of the document's disk: its slice of files, the files. -/
structure Ru where
  v : Value
  l : List Rl
structure RCells (w : World) (x : Nat) (v : Value) (room did left : Int) (dead : Bool) : Prop where
  c0 : w.cell? ⟨x, 0, none⟩ = some v
  c1 : w.cell? ⟨x, 1, none⟩ = some (.int .i64 room)
  c2 : w.cell? ⟨x, 2, none⟩ = some (.int .i64 did)
  c3 : w.cell? ⟨x, 3, none⟩ = some (.int .i64 left)
  c4 : w.cell? ⟨x, 4, none⟩ = some (.bool dead)
  f0 : w.frozen? ⟨x, 0, none⟩ = false
  f2 : w.frozen? ⟨x, 2, none⟩ = false
  f3 : w.frozen? ⟨x, 3, none⟩ = false
  f4 : w.frozen? ⟨x, 4, none⟩ = false
section
variable {w w' : World} {x : Nat} {v : Value} {room did left : Int} {dead : Bool}
theorem RCells.lt (h : RCells w x v room did left dead) : x < w.heap.size := World.block_lt_of_cell? _ _ h.c0
theorem RCells.upd {S : Nat → Prop} (h : RCells w x v room did left dead) (hu : Upd w w' S) (hS : ¬ S x) : RCells w' x v room did left dead :=
  have hl := h.lt
  ⟨(hu.cell (p := ⟨x, 0, none⟩) hl hS).trans h.c0, (hu.cell (p := ⟨x, 1, none⟩) hl hS).trans h.c1, (hu.cell (p := ⟨x, 2, none⟩) hl hS).trans h.c2, (hu.cell (p := ⟨x, 3, none⟩) hl hS).trans h.c3,
   (hu.cell (p := ⟨x, 4, none⟩) hl hS).trans h.c4, (hu.frozen (p := ⟨x, 0, none⟩) hl hS).trans h.f0, (hu.frozen (p := ⟨x, 2, none⟩) hl hS).trans h.f2,
   (hu.frozen (p := ⟨x, 3, none⟩) hl hS).trans h.f3, (hu.frozen (p := ⟨x, 4, none⟩) hl hS).trans h.f4⟩
theorem RCells.set0 (h : RCells w x v room did left dead) (u : Value) : RCells (w.setCell ⟨x, 0, none⟩ u) x u room did left dead := by
  constructor <;> first | exact World.cell?_setCell_same _ _ _ h.c0 | (rw [World.cell?_setCell_other _ _ _ _ (by simp)]; first | exact h.c1 | exact h.c2 | exact h.c3 | exact h.c4) | (rw [World.frozen?_setCell]; first | exact h.f0 | exact h.f2 | exact h.f3 | exact h.f4)
theorem RCells.set2 (h : RCells w x v room did left dead) (u : Int) : RCells (w.setCell ⟨x, 2, none⟩ (.int .i64 u)) x v room u left dead := by
  constructor <;> first | exact World.cell?_setCell_same _ _ _ h.c2 | (rw [World.cell?_setCell_other _ _ _ _ (by simp)]; first | exact h.c0 | exact h.c1 | exact h.c3 | exact h.c4) | (rw [World.frozen?_setCell]; first | exact h.f0 | exact h.f2 | exact h.f3 | exact h.f4)
theorem RCells.set3 (h : RCells w x v room did left dead) (u : Int) : RCells (w.setCell ⟨x, 3, none⟩ (.int .i64 u)) x v room did u dead := by
  constructor <;> first | exact World.cell?_setCell_same _ _ _ h.c3 | (rw [World.cell?_setCell_other _ _ _ _ (by simp)]; first | exact h.c0 | exact h.c1 | exact h.c2 | exact h.c4) | (rw [World.frozen?_setCell]; first | exact h.f0 | exact h.f2 | exact h.f3 | exact h.f4)
theorem RCells.set4 (h : RCells w x v room did left dead) (u : Bool) : RCells (w.setCell ⟨x, 4, none⟩ (.bool u)) x v room did left u := by
  constructor <;> first | exact World.cell?_setCell_same _ _ _ h.c4 | (rw [World.cell?_setCell_other _ _ _ _ (by simp)]; first | exact h.c0 | exact h.c1 | exact h.c2 | exact h.c3) | (rw [World.frozen?_setCell]; first | exact h.f0 | exact h.f2 | exact h.f3 | exact h.f4)
end
def FootX (x : Nat) (h : Ru) (k : Nat) : Prop := k = x ∨ h.v.ownBlock = some k ∨ ∃ f ∈ h.l, f.v.ownBlock = some k
/-- The rows of the document's disk. -/
structure RRest (B : Nat) (w : World) (x : Nat) (h : Ru) : Prop where
  row : w.ownsRow B 74 3 h.v h.l.length (rrow h.l)
  ok : ∀ f ∈ h.l, OkR w f
  base : B ≤ x
  vx : h.v.ownBlock ≠ some x
  off : ∀ f ∈ h.l, ∀ k, f.v.ownBlock = some k → B ≤ k ∧ k < w.heap.size ∧ k ≠ x ∧ h.v.ownBlock ≠ some k
theorem RRest.upd {B : Nat} {w w' : World} {S : Nat → Prop} {x : Nat} {h : Ru} (r : RRest B w x h) (hu : Upd w w' S) (hS : ∀ k, FootX x h k → ¬ S k) : RRest B w' x h :=
  ⟨ownsRow_upd r.row hu (fun k hk => hS k (.inr (.inl hk))), fun f hf => (r.ok f hf).upd hu (fun k hk => hS k (.inr (.inr ⟨f, hf, hk⟩))), r.base, r.vx, fun f hf k hk => by
    obtain ⟨h1, h2, h3, h4⟩ := r.off f hf k hk
    exact ⟨h1, Nat.lt_of_lt_of_le h2 hu.size, h3, h4⟩⟩
/-- A change of the disk's own block leaves its rows. -/
theorem RRest.set {B : Nat} {w w' : World} {x : Nat} {h : Ru} (r : RRest B w x h) (hu : Upd w w' (fun k => k = x)) : RRest B w' x h :=
  ⟨ownsRow_upd r.row hu (fun k hk e => r.vx (by rw [hk, e])), fun f hf => (r.ok f hf).upd hu (fun k hk e => (r.off f hf k hk).2.2.1 e), r.base, r.vx, fun f hf k hk => by
    obtain ⟨h1, h2, h3, h4⟩ := r.off f hf k hk
    exact ⟨h1, Nat.lt_of_lt_of_le h2 hu.size, h3, h4⟩⟩
/-- How far the document's disk has yet to go. -/
def leftOk (p : PS) (left : Int) : Prop := (p.dead = false → left = max p.stops 0) ∧ 0 ≤ left ∧ left ≤ 9223372036854775807
/-- The document's disk lies in memory at block x: p is what it is. -/
structure Rk (B : Nat) (w : World) (x : Nat) (h : Ru) (p : PS) (left : Int) : Prop where
  view : p.fs = h.l.map Rl.pf
  cells : RCells w x h.v p.room p.ops left p.dead
  rest : RRest B w x h
  left : leftOk p left
  up : upK Rl.nm h.l
section
variable {B : Nat} {w w' : World} {x : Nat} {h : Ru} {p : PS} {left : Int}
theorem Rk.lt (r : Rk B w x h p left) {k : Nat} (hk : FootX x h k) : k < w.heap.size := by
  rcases hk with rfl | hk | ⟨f, hf, hk⟩
  · exact r.cells.lt
  · exact (r.rest.row.lt k hk).2
  · exact (r.rest.off f hf k hk).2.1
theorem Rk.ge (r : Rk B w x h p left) {k : Nat} (hk : FootX x h k) : B ≤ k := by
  rcases hk with rfl | hk | ⟨f, hf, hk⟩
  · exact r.rest.base
  · exact (r.rest.row.lt k hk).1
  · exact (r.rest.off f hf k hk).1
theorem Rk.upd {S : Nat → Prop} (r : Rk B w x h p left) (hu : Upd w w' S) (hS : ∀ k, FootX x h k → ¬ S k) : Rk B w' x h p left :=
  ⟨r.view, r.cells.upd hu (hS x (.inl rfl)), r.rest.upd hu hS, r.left, r.up⟩
theorem Rk.below (r : Rk B w x h p left) (hb : Below w.heap.size w w') : Rk B w' x h p left := r.upd (S := fun _ => False) (Upd.ofBelow hb) (fun _ _ h => h)
theorem Rk.len (r : Rk B w x h p left) : h.l.length = p.fs.length := by rw [r.view, List.length_map]
theorem Rk.form (r : Rk B w x h p left) : ∃ ao c, h.v = .slice ao h.l.length c := by
  rcases r.rest.row.2 with ⟨e, e0⟩ | ⟨g, cap, cur, e, _⟩
  · exact ⟨_, _, by rw [e, e0]⟩
  · exact ⟨_, _, e⟩
/-- The cells of a file. -/
theorem row_at {v : Value} {l : List Rl} (hr : w.ownsRow B 74 3 v l.length (rrow l)) {i : Nat} (hi : i < l.length) : ∃ g c, v = .slice (some ⟨g, 0, none⟩) l.length c ∧ B ≤ g ∧ g < w.heap.size ∧ w.cell? ⟨g, i * 3, none⟩ = some (.string l[i].s) ∧ w.cell? ⟨g, i * 3 + 1, none⟩ = some l[i].v ∧ w.cell? ⟨g, i * 3 + 2, none⟩ = some (.int .i64 l[i].pf.sy) := by
  obtain ⟨a1, a2, a3⟩ := rrow_at hi
  rcases hr.2 with ⟨_, e0⟩ | ⟨g, cap, cur, e, hbg, hg, _⟩
  · omega
  · subst e
    have hlt := hr.lt g rfl
    have hc := hr.cells (g := g) rfl
    refine ⟨g, cap, rfl, hbg, hlt.2, ?_, ?_, ?_⟩
    · have := hc _ _ a1; rwa [Addr.add_lit, Nat.zero_add] at this
    · have := hc _ _ a2; rwa [Addr.add_lit, Nat.zero_add] at this
    · have := hc _ _ a3; rwa [Addr.add_lit, Nat.zero_add] at this
end
/-- What a call on the document's disk leaves: it is p' now; nothing else has turned. -/
def RkPost (B : Nat) (w w' : World) (x : Nat) (h : Ru) (p' : PS) : Prop :=
  ∃ h' left', Rk B w' x h' p' left' ∧ Upd w w' (FootX x h) ∧ ∀ k, FootX x h' k → FootX x h k ∨ w.heap.size ≤ k
theorem RkPost.next {B : Nat} {w w1 w2 : World} {x : Nat} {h h1 : Ru} {p2 : PS} (hu : Upd w w1 (FootX x h)) (hf : ∀ k, FootX x h1 k → FootX x h k ∨ w.heap.size ≤ k) (q : RkPost B w1 w2 x h1 p2) : RkPost B w w2 x h p2 := by
  obtain ⟨h2, left2, q1, q2, q3⟩ := q
  have hs := hu.size
  refine ⟨h2, left2, q1, hu.trans q2 (fun j hj e => ?_), fun k hk => ?_⟩
  · rcases hf j e with e | e
    · exact e
    · omega
  · rcases q3 k hk with e | e
    · exact hf k e
    · right; omega
theorem RkPost.same {B : Nat} {w w' : World} {x : Nat} {h : Ru} {p' : PS} {left : Int} (r : Rk B w' x h p' left) (hu : Upd w w' (fun k => k = x)) : RkPost B w w' x h p' :=
  ⟨h, left, r, hu.mono (fun _ _ e => .inl e), fun _ e => .inl e⟩
theorem rl_pf (f : Rl) : PF.name (Rl.pf f) = Rl.nm f := rfl
theorem Rk.look {B : Nat} {w : World} {x : Nat} {h : Ru} {p : PS} {left : Int} (r : Rk B w x h p left) (nm : List UInt8) : p.look nm = (lookK Rl.nm nm h.l).map Rl.pf := by
  unfold PS.look
  rw [r.view]
  exact map_look rl_pf nm h.l
theorem upd_of_below {w w' : World} (hb : Below w.heap.size w w') (S : Nat → Prop) : Upd w w' S := Upd.ofBelow hb
/-- The place of a name. -/
def atK (nm : List UInt8) (l : List Rl) : Int := match l.findIdx? (fun f => f.nm == nm) with
  | some i => i
  | none => -1
end Go.Proofs.Ytmfhfabfhoiegaa
