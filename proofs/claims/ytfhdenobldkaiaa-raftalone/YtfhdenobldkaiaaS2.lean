/- The only voter through its calls: it waits, leads, lays entries behind its log, tells them. -/
import Derived.Test.YtfhdenobldkaiaaRY
import Derived.Test.YtfhdenobldkaiaaS1
namespace Go.Proofs.Ytfhdenobldkaiaa
open Go Go.RowKit
/-- A node that waits: j ticks have passed. -/
structure Wai (w0 w : World) (d f : Nat) (id : Int) (j : Nat) : Prop where
  nod : ∃ fv vv dr, Nod w d { newNd id fv vv (.iface 86 (ptr f)) with draw := dr } ∧ w.ownsRow 0 3 1 vv 1 [iv id]
  row : w.heap[f]? = some (.cells #[iv j, iv 10, iv (-1)] 91 (0, 0))
  bel : Below w0.heap.size w0 w
  gd : w0.heap.size ≤ d
  gf : w0.heap.size ≤ f
theorem wai_new {w0 w : World} {v : Value} {id : Int} (hb : Below w0.heap.size w0 w) (hv : One w v id) (hid : 0 ≤ id ∧ id < 1073741824) : Calls Try.prog 5 #[iv id, v, .agg #[iv 0, iv (-1), iv 0], .agg #[iv 0, iv 0, .slice none 0 0], .slice none 0 0, .slice none 0 0] w fun e w' => ∃ d f, e = .returned (.tuple #[ptr d, iv 0]) ∧ Wai w0 w' d f id 0 := by
  refine (new_one hv hid).mono ?_
  rintro e w' ⟨d, f, fv, vv, rfl, h1, h2, h3, h4, h5, h6⟩
  have := hb.size
  exact ⟨d, f, rfl, ⟨fv, vv, 0, h1, h2⟩, h3, hb.trans (h4.mono hb.size), by omega, by omega⟩
theorem wai_tick {w0 w : World} {d f j : Nat} {id x : Int} (h : Wai w0 w d f id j) (hj : j < 9) : Calls Try.prog 7 #[ptr d, iv x] w fun e w' => e = .returned (.tuple #[]) ∧ Wai w0 w' d f id (j + 1) := by
  obtain ⟨fv, vv, dr, h1, h2⟩ := h.nod
  refine (tick_wait (t := (j : Int)) h1 rfl h.row ⟨by omega, by omega⟩).mono ?_
  rintro e w' ⟨rfl, n1, r1, u1⟩
  refine ⟨rfl, ⟨fv, vv, drF x, n1, ownsRow_upd h2 u1 (fun z hz e => ?_)⟩, r1, h.bel.trans (u1.below h.bel.size (fun z hz e => by have := h.gd; have := h.gf; omega)), h.gd, h.gf⟩
  rcases e with e | e
  · exact own_block h2 h1 (by decide) (e ▸ hz)
  · exact own_block h2 h.row (by decide) (e ▸ hz)
theorem wai_role {w0 w : World} {d f j : Nat} {id : Int} (h : Wai w0 w d f id j) : Calls Try.prog 6 #[ptr d] w fun e w' => e = .returned (iv 0) ∧ w' = w := by
  obtain ⟨fv, vv, dr, h1, h2⟩ := h.nod
  exact role_follow h1 rfl
/-- The only voter leads: n entries, m told; the last one is of the kind k, with the bytes bs; rv the reads that wait to be told. -/
structure Al (w0 w : World) (d l n m : Nat) (id k : Int) (bs : List Int) (rv : Value) : Prop where
  ex : ∃ (a : Nd) (xs : List Value) (dv : Value), Ln w d l n a xs ∧ xs.length = n * 4 ∧ a.commit = n ∧ a.term = 1 ∧ a.vote = id ∧ a.old = m ∧ a.applied = m ∧ a.tc = m ∧ Las w n xs 1 k dv bs ∧ dv.ownBlock ≠ some d ∧ a.reads = rv ∧ (∀ z, a.ents.ownBlock = some z → w0.heap.size ≤ z)
  bel : Below w0.heap.size w0 w
  gd : w0.heap.size ≤ d
  gl : w0.heap.size ≤ l
  n1 : 1 ≤ n
  bl : bs.length ≤ 1000
theorem las_app {w : World} {n : Nat} {xs : List Value} {t k : Int} {dv : Value} {bs : List Int} (hx : xs.length = n * 4) (hs : Sees w dv bs) : Las w (n + 1) (xs ++ entC ((n : Int) + 1) t k dv) t k dv bs := by
  have e : (n + 1 - 1) * 4 = xs.length := by rw [hx]; omega
  have g : ∀ j, (xs ++ entC ((n : Int) + 1) t k dv)[(n + 1 - 1) * 4 + j]? = (entC ((n : Int) + 1) t k dv)[j]? := fun j => by
    rw [e, List.getElem?_append_right (by omega), Nat.add_sub_cancel_left]
  exact ⟨(g 0).trans rfl, (g 1).trans rfl, (g 2).trans rfl, (g 3).trans rfl, hs⟩
theorem wai_lead {w0 w : World} {d f : Nat} {id x : Int} (h : Wai w0 w d f id 9) (hid : 0 ≤ id ∧ id < 1073741824) : Calls Try.prog 7 #[ptr d, iv x] w fun e w' => e = .returned (.tuple #[]) ∧ ∃ l pm, Al w0 w' d l 1 0 id 1 [] (.slice none 0 0) ∧ w'.heap[l]? = some (.cells (ldRow pm 0 (.slice none 0 0)) 80 (0, 0)) := by
  obtain ⟨fv, vv, dr, h1, h2⟩ := h.nod
  refine (tick_lead (xs := []) (n := 0) h1 rfl h2 (World.ownsRow_nil _ _ _ _) h.row hid ⟨Int.le_refl _, by show (0 : Int) ≤ 1000; decide⟩ rfl (by omega) rfl (Int.le_refl _)).mono ?_
  rintro e w' ⟨rfl, ⟨l, pm, v', h3, h4, h5, h6⟩, u⟩
  have hg := h.bel.size
  refine ⟨rfl, l, pm, ⟨⟨_, _, _, h3, rfl, rfl, rfl, rfl, rfl, rfl, rfl, las_app rfl (.inl ⟨rfl, none, 0, rfl, fun _ => rfl, by decide⟩), (fun e => by cases e), rfl, fun z hz => ?_⟩, h.bel.trans (u.below h.bel.size (fun z hz e => ?_)), h.gd, by omega, Nat.le_refl _, by decide⟩, h4⟩
  · rcases h6 with h6 | ⟨y, h6, h7⟩
    · rw [show v'.ownBlock = none from h6] at hz; cases hz
    · have : some z = some y := hz.symm.trans h6
      cases this
      omega
  · have := h.gd
    have := h.gf
    rcases e with e | e | e
    · omega
    · omega
    · cases e
theorem al_role {w0 w : World} {d l n m : Nat} {id k : Int} {bs : List Int} {rv : Value} (h : Al w0 w d l n m id k bs rv) : Calls Try.prog 6 #[ptr d] w fun e w' => e = .returned (iv 2) ∧ w' = w := by
  obtain ⟨a, xs, dv, h1, _⟩ := h.ex
  exact role_lead h1.nod h1.role
theorem al_hard {w0 w : World} {d l n m : Nat} {id k : Int} {bs : List Int} {rv : Value} (h : Al w0 w d l n m id k bs rv) : Calls Try.prog 11 #[ptr d] w fun e w' => e = .returned (.agg #[iv 1, iv id, iv n]) ∧ Below w.heap.size w w' := by
  obtain ⟨a, xs, dv, h1, _, h2, h3, h4, _⟩ := h.ex
  have := hard_is h1.nod
  rwa [h2, h3, h4] at this
theorem Al.below {w0 w w' : World} {d l n m : Nat} {id k : Int} {bs : List Int} {rv : Value} (h : Al w0 w d l n m id k bs rv) (hb : Below w.heap.size w w') : Al w0 w' d l n m id k bs rv := by
  obtain ⟨a, xs, dv, h1, h2, h3, h4, h5, h6, h7, h8, h9, h10, h11, h12⟩ := h.ex
  exact ⟨⟨a, xs, dv, h1.below hb, h2, h3, h4, h5, h6, h7, h8, h9.below hb, h10, h11, h12⟩, h.bel.trans (hb.mono h.bel.size), h.gd, h.gl, h.n1, h.bl⟩
/-- Rows of other types stay. -/
def Kept (w w' : World) (bad : List Nat) : Prop := ∀ (q : Nat) (r : Array Value) (t : TypeId), w.heap[q]? = some (.cells r t (0, 0)) → t ∉ bad → w'.heap[q]? = some (.cells r t (0, 0))
theorem nod_ne {w : World} {d q : Nat} {a : Nd} {r : Array Value} {t : TypeId} (h : Nod w d a) (hq : w.heap[q]? = some (.cells r t (0, 0))) (ht : t ≠ 62) : q ≠ d := fun e => by
  subst e
  exact ht (row_types hq h)
theorem al_propose {w0 w : World} {d l n m : Nat} {id k : Int} {bs zs : List Int} {v : Value} (h : Al w0 w d l n m id k bs (.slice none 0 0)) (hm : m ≤ n) (hn : n ≤ 900) (hs : Sees w v zs) (hz : zs.length ≤ 1000) :
    Calls Try.prog 9 #[ptr d, v] w fun e w' => e = .returned (.tuple #[iv ((n : Int) + 1), iv 1, iv 0]) ∧ Al w0 w' d l (n + 1) m id 0 zs (.slice none 0 0) ∧ Kept w w' [62, 43] := by
  obtain ⟨a, xs, dv, h1, h2, h3, h4, h5, h6, h7, h8, h9, h10, h11, h12⟩ := h.ex
  have hp := propose_one h1 hs h2 hz hn h3 (by rw [h6]; omega)
  rw [h4] at hp
  refine hp.mono ?_
  rintro e w' ⟨rfl, ⟨v', dv', g1, g2, g3, g4⟩, u⟩
  have hg := h.bel.size
  rw [h4] at g1
  refine ⟨rfl, ⟨⟨_, _, dv', g1, by simp [entC, h2]; omega, rfl, rfl, h5, h6, h7, h8, las_app h2 g2, g3, h11, fun z hz => ?_⟩, h.bel.trans (u.below hg (fun z hz e => ?_)), h.gd, h.gl, by omega, hz⟩, fun q r t hr ht => (u.block q (heap_lt hr) (fun e => ?_)).trans hr⟩
  · rcases g4 with g4 | ⟨y, g4, g5⟩
    · exact h12 z (g4.symm.trans hz)
    · have : some z = some y := hz.symm.trans g4
      cases this
      omega
  · have := h.gd
    rcases e with e | e
    · omega
    · have := h12 z e
      omega
  · simp at ht
    rcases e with e | e
    · exact nod_ne h1.nod hr ht.1 e
    · exact own_block h1.ents hr (fun e => ht.2 e.symm) e
theorem al_ready {w0 w : World} {d l n m : Nat} {id k : Int} {bs : List Int} {rp : Option Addr} {rn rc : Nat} (h : Al w0 w d l n m id k bs (.slice rp rn rc)) (hm : n = m ∨ n = m + 1) (hn : n ≤ 1000) :
    Calls Try.prog 8 #[ptr d] w fun e w' => ∃ hh v1 v2, e = .returned (.agg #[.bool hh, iv (if hh then 1 else 0), iv (if hh then id else 0), iv (if hh then n else 0), .bool false, iv 0, iv 0, .slice none 0 0, .slice none 0 0, v1, .slice none 0 0, v2, .slice rp rn rc]) ∧ (n = m + 1 → hh = true) ∧ Al w0 w' d l n n id k bs (.slice none 0 0) ∧ (∃ lo hi, Told w' lo hi v1 n m 1 k bs ∧ w.heap.size ≤ lo) ∧ (∃ lo hi, Told w' lo hi v2 n m 1 k bs ∧ w.heap.size ≤ lo) ∧ Upd w w' (fun z => z = d) ∧ Kept w w' [62] := by
  obtain ⟨a, xs, dv, h1, h2, h3, h4, h5, h6, h7, h8, h9, h10, h11, h12⟩ := h.ex
  obtain ⟨hh, hhe⟩ : ∃ hh, (a.term == a.tt && a.vote == a.tv && a.commit == a.tc) = !hh := ⟨!(a.term == a.tt && a.vote == a.tv && a.commit == a.tc), by simp⟩
  refine (ready_one (hh := hh) (⟨h1, h9, h10, hm, h6, h7, h3, ⟨rp, rn, rc, h11⟩, hn, h.bl⟩ : Rd w d l n m a xs 1 k dv bs) hhe).mono ?_
  rintro e w' ⟨v1, v2, rfl, g1, g2, g3, g4⟩
  refine ⟨hh, v1, v2, ?_, fun e => ?_, ⟨⟨_, _, dv, g1, h2, h3, h4, h5, rfl, h3, h3, h9.upd g4 (fun z hz e => h10 (by rw [hz, e])), h10, rfl, h12⟩, h.bel.trans (g4.below h.bel.size (fun z hz e => by have := h.gd; omega)), h.gd, h.gl, h.n1, h.bl⟩, g2, g3, g4, fun q r t hr ht => (g4.block q (heap_lt hr) (nod_ne h1.nod hr (by simpa using ht))).trans hr⟩
  · unfold outA
    rw [h4, h5, h3, h11]
  · cases hh with
    | true => rfl
    | false =>
      have : a.commit = a.tc := by simp at hhe; exact hhe.2
      rw [h3, h8] at this
      omega
theorem sees_ne {w : World} {v : Value} {bs : List Int} {l pm : Nat} (h : Sees w v bs) (h0 : 0 < bs.length) (hr : w.heap[l]? = some (.cells (ldRow pm 0 (.slice none 0 0)) 80 (0, 0))) : v.ownBlock ≠ some l := fun e => by
  rcases h with ⟨rfl, _⟩ | ⟨b, off, cap, rfl, _, _, _, hc⟩
  · cases h0
  · cases e
    have h1 := hc 0 h0
    rw [Nat.add_zero, cell_of_row _ _ _ _ _ _ hr] at h1
    match off, h1 with
    | 0, h1 => cases h1
    | 1, h1 => cases h1
    | 2, h1 => cases h1
    | 3, h1 => cases h1
    | q + 4, h1 => cases h1
theorem told_sees {w : World} {lo hi m : Nat} {v : Value} {t k : Int} {bs : List Int} (h : Told w lo hi v (m + 1) m t k bs) : SeesL w lo hi v ((m + 1 : Nat) : Int) t k bs := by
  obtain ⟨p, c, e, h1⟩ := h
  exact h1 rfl
/-- A row without bytes. -/
def NoB (r : Array Value) : Prop := ∀ (j : Nat) (z : Int), r[j]? ≠ some (.int .u8 z)
theorem noB_out (hh : Bool) (a b c : Int) (p1 p2 p3 : Option Addr) (n1 c1 n2 c2 n3 c3 : Nat) : NoB #[.bool hh, iv a, iv b, iv c, .bool false, iv 0, iv 0, .slice none 0 0, .slice none 0 0, .slice p1 n1 c1, .slice none 0 0, .slice p2 n2 c2, .slice p3 n3 c3] := fun j z h => by
  match j, h with
  | 0, h => cases h
  | 1, h => cases h
  | 2, h => cases h
  | 3, h => cases h
  | 4, h => cases h
  | 5, h => cases h
  | 6, h => cases h
  | 7, h => cases h
  | 8, h => cases h
  | 9, h => cases h
  | 10, h => cases h
  | 11, h => cases h
  | 12, h => cases h
  | q + 13, h => cases h
theorem sees_neB {w : World} {v : Value} {bs : List Int} {X : Nat} {r : Array Value} {t : TypeId} (h : Sees w v bs) (h0 : 0 < bs.length) (hr : w.heap[X]? = some (.cells r t (0, 0))) (hb : NoB r) : v.ownBlock ≠ some X := fun e => by
  rcases h with ⟨rfl, _⟩ | ⟨b, off, cap, rfl, _, _, _, hc⟩
  · cases h0
  · cases e
    have h1 := hc 0 h0
    rw [Nat.add_zero, cell_of_row _ _ _ _ _ _ hr] at h1
    exact hb _ _ h1
/-- The box that holds what Ready told is written. -/
theorem Al.store {w0 w w' : World} {d l n m X : Nat} {id k : Int} {bs : List Int} {rv : Value} {r : Array Value} (h : Al w0 w d l n m id k bs rv) (hX : w.heap[X]? = some (.cells r 40 (0, 0))) (hb : NoB r) (hu : Upd w w' (fun z => z = X)) (hg : w0.heap.size ≤ X) : Al w0 w' d l n m id k bs rv := by
  obtain ⟨a, xs, dv, h1, h2, h3, h4, h5, h6, h7, h8, h9, h10, h11, h12⟩ := h.ex
  have hdX : d ≠ X := fun e => by
    have h0 := h1.nod
    rw [e] at h0
    exact absurd (row_types h0 hX) (by decide)
  refine ⟨⟨a, xs, dv, ⟨h1.nod.upd hu hdX, h1.role, ownsRow_upd h1.vot hu (fun z hz e => own_block h1.vot hX (by decide) (e ▸ hz)), ownsRow_upd h1.ents hu (fun z hz e => own_block h1.ents hX (by decide) (e ▸ hz))⟩, h2, h3, h4, h5, h6, h7, h8, ⟨h9.c0, h9.c1, h9.c2, h9.c3, h9.sees.upd hu (fun z hz h0 e => sees_neB h9.sees h0 hX hb (by rw [hz, e]))⟩, h10, h11, h12⟩, h.bel.trans (hu.below h.bel.size (fun z hz e => ?_)), h.gd, h.gl, h.n1, h.bl⟩
  have e1 : z = X := e
  omega
theorem al_read {w0 w : World} {d l n m pm : Nat} {id k x : Int} {bs : List Int} (h : Al w0 w d l n m id k bs (.slice none 0 0)) (hn : n ≤ 1000) (hr : w.heap[l]? = some (.cells (ldRow pm 0 (.slice none 0 0)) 80 (0, 0))) :
    Calls Try.prog 10 #[ptr d, iv x] w fun e w' => e = .returned (iv 0) ∧ ∃ b cb, Al w0 w' d l n m id k bs (.slice (some ⟨b, 0, none⟩) 1 cb) ∧ w'.ownsRow w.heap.size 48 2 (.slice (some ⟨b, 0, none⟩) 1 cb) 1 [iv x, iv n] ∧ Kept w w' [62, 80] := by
  obtain ⟨a, xs, dv, h1, h2, h3, h4, h5, h6, h7, h8, h9, h10, h11, h12⟩ := h.ex
  refine (read_one (x := x) h1 hr (by rw [h4]; exact h9.c1) h.n1 hn h3 h11).mono ?_
  rintro e w' ⟨rfl, b, cb, g1, g2, g3⟩
  refine ⟨rfl, b, cb, ⟨⟨_, _, dv, g1, h2, h3, h4, h5, h6, h7, h8, ?_, h10, rfl, h12⟩, h.bel.trans (g3.below h.bel.size (fun z hz e => ?_)), h.gd, h.gl, h.n1, h.bl⟩, g2, fun q r t hq ht => (g3.block q (heap_lt hq) (fun e => ?_)).trans hq⟩
  · exact ⟨h9.c0, h9.c1, h9.c2, h9.c3, h9.sees.upd g3 (fun z hz h0 e => by
      rcases e with e | e
      · exact h10 (by rw [hz, e])
      · exact sees_ne h9.sees h0 hr (by rw [hz, e]))⟩
  · have := h.gd
    have := h.gl
    omega
  · simp at ht
    rcases e with e | e
    · exact nod_ne h1.nod hq ht.1 e
    · subst e
      exact ht.2 (row_types hq hr)
theorem seesL_cells {w : World} {lo hi g o n c : Nat} {i t k : Int} {bs : List Int} (h : SeesL w lo hi (.slice (some ⟨g, o, none⟩) n c) i t k bs) : w.cell? ⟨g, o, none⟩ = some (iv i) ∧ w.cell? ⟨g, o + 1, none⟩ = some (iv t) ∧ w.cell? ⟨g, o + 2, none⟩ = some (iv k) ∧ ∃ dv, w.cell? ⟨g, o + 3, none⟩ = some dv ∧ Sees w dv bs := by
  obtain ⟨g', o', c', dv, e, h1, a0, a1, a2, a3, hs, _⟩ := h.ex
  cases e
  exact ⟨a0, a1, a2, dv, a3, hs⟩
/-- What Ready tells where there is one entry more. -/
def outN (id : Int) (n : Nat) (g1 o1 c1 g2 o2 c2 : Nat) : Array Value := #[.bool true, iv 1, iv id, iv n, .bool false, iv 0, iv 0, .slice none 0 0, .slice none 0 0, .slice (some ⟨g1, o1, none⟩) 1 c1, .slice none 0 0, .slice (some ⟨g2, o2, none⟩) 1 c2, .slice none 0 0]
theorem al_ready_new {w0 w : World} {d l m : Nat} {id k : Int} {bs : List Int} (h : Al w0 w d l (m + 1) m id k bs (.slice none 0 0)) (hn : m + 1 ≤ 1000) :
    Calls Try.prog 8 #[ptr d] w fun e w' => ∃ g1 o1 c1 g2 o2 c2, e = .returned (.agg (outN id (m + 1) g1 o1 c1 g2 o2 c2)) ∧ Al w0 w' d l (m + 1) (m + 1) id k bs (.slice none 0 0) ∧ (∃ lo hi, SeesL w' lo hi (.slice (some ⟨g2, o2, none⟩) 1 c2) ((m + 1 : Nat) : Int) 1 k bs ∧ w.heap.size ≤ lo) ∧ Kept w w' [62] ∧ w.heap.size ≤ w'.heap.size := by
  refine (al_ready h (.inr rfl) hn).mono ?_
  rintro e w' ⟨hh, v1, v2, rfl, h1, h2, ⟨lo, hi, t1, _⟩, ⟨lo', hi', t2, h4⟩, h5, h6⟩
  obtain rfl := h1 rfl
  have s1 := told_sees t1
  have s2 := told_sees t2
  obtain ⟨g1, o1, c1, _, rfl, _⟩ := s1.ex
  obtain ⟨g2, o2, c2, _, rfl, _⟩ := s2.ex
  exact ⟨g1, o1, c1, g2, o2, c2, rfl, h2, ⟨lo', hi', s2, h4⟩, h6, h5.size⟩
theorem al_ready_same {w0 w : World} {d l n : Nat} {id k : Int} {bs : List Int} {rp : Option Addr} {rn rc : Nat} (h : Al w0 w d l n n id k bs (.slice rp rn rc)) (hn : n ≤ 1000) :
    Calls Try.prog 8 #[ptr d] w fun e w' => ∃ R : Array Value, e = .returned (.agg R) ∧ R.size = 13 ∧ R.all (·.oneCell') = true ∧ R[12]? = some (.slice rp rn rc) ∧ Al w0 w' d l n n id k bs (.slice none 0 0) ∧ Upd w w' (fun z => z = d) ∧ Kept w w' [62] := by
  refine (al_ready h (.inl rfl) hn).mono ?_
  rintro e w' ⟨hh, v1, v2, rfl, _, h2, ⟨_, _, t1, _⟩, ⟨_, _, t2, _⟩, h5, h6⟩
  obtain ⟨p1, c1, rfl, _⟩ := t1
  obtain ⟨p2, c2, rfl, _⟩ := t2
  exact ⟨_, rfl, rfl, by kernel_rfl, rfl, h2, h5, h6⟩
theorem sees_len {w : World} {v : Value} {bs : List Int} (h : Sees w v bs) : ∃ p c, v = .slice p bs.length c := by
  rcases h with ⟨rfl, ao, cap, rfl, _⟩ | ⟨b, off, cap, rfl, _⟩
  · exact ⟨_, _, rfl⟩
  · exact ⟨_, _, rfl⟩
theorem noB_new (id : Int) (n g1 o1 c1 g2 o2 c2 : Nat) : NoB (outN id n g1 o1 c1 g2 o2 c2) := noB_out _ _ _ _ _ _ _ _ _ _ _ _ _
end Go.Proofs.Ytfhdenobldkaiaa
