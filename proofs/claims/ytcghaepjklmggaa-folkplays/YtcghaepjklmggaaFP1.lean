/- Both tables side by side, and the call's box. -/
import Derived.Test.YtcghaepjklmggaaRR5
import Derived.Test.YtcghaepjklmggaaSM
namespace Go.Proofs.Ytcghaepjklmggaa
open Go Go.RowKit
structure Cd where
  client : Int
  seq : Int
  does : Bool
  rp : Rp
  rs : List Rs
/-- A call that came in, in memory; res its slice of results. -/
structure HasC (Y : Nat → Prop) (w : World) (g o : Nat) (c : Cd) (res : Value) : Prop where
  c0 : w.cell? ⟨g, o, none⟩ = some (.int .i64 c.client)
  c1 : w.cell? ⟨g, o + 1, none⟩ = some (.int .i64 c.seq)
  c2 : w.cell? ⟨g, o + 2, none⟩ = some (.bool c.does)
  c3 : w.cell? ⟨g, o + 3, none⟩ = some (.int .i64 c.rp.err)
  c4 : w.cell? ⟨g, o + 4, none⟩ = some (.int .i64 c.rp.rev)
  c5 : w.cell? ⟨g, o + 5, none⟩ = some (.bool c.rp.thn)
  c6 : w.cell? ⟨g, o + 6, none⟩ = some res
  c7 : w.cell? ⟨g, o + 7, none⟩ = some (.int .i64 c.rp.tim)
  rs : RSs Y w res c.rs
theorem HasC.upd {Y S : Nat → Prop} {w w' : World} {g o : Nat} {c : Cd} {res : Value} (h : HasC Y w g o c res) (hl : g < w.heap.size) (hu : Upd w w' S) (hg : ¬ S g) (hS : ∀ k, Y k → ¬ S k) : HasC Y w' g o c res := by
  have hc := fun j => hu.cell (p := ⟨g, j, none⟩) hl hg
  exact ⟨(hc _).trans h.c0, (hc _).trans h.c1, (hc _).trans h.c2, (hc _).trans h.c3, (hc _).trans h.c4, (hc _).trans h.c5, (hc _).trans h.c6, (hc _).trans h.c7, h.rs.upd hu hS⟩
theorem HasC.below {Y : Nat → Prop} {w w' : World} {g o : Nat} {c : Cd} {res : Value} (h : HasC Y w g o c res) (hl : g < w.heap.size) (hb : Below w.heap.size w w') : HasC Y w' g o c res := h.upd (S := fun _ => False) hl (Upd.ofBelow hb) (fun h => h) (fun _ _ h => h)
/-- Both tables: L1 the program's, L2 the document's. -/
structure PV (w W : World) (B1 d b x : Nat) (L1 L2 : List Ro) (f : Int → Value) (v : Value) (g : Int → Value) : Prop where
  tb : Tb (fun k => B1 ≤ k) w.heap.size W d b L1 f
  rt : Rt (fun k => k < w.heap.size) w.heap.size W x v L2 g
  bel : Below w.heap.size w W
  ld : d < B1
  lb : b < B1
  lx : x < B1
  ls : B1 ≤ W.heap.size
  xd : x ≠ d
  xb : x ≠ b
  vo : ∀ k, v.ownBlock = some k → B1 ≤ k
def PP (w W : World) (B1 d b x : Nat) (L1 L2 : List Ro) : Prop := ∃ f v g, PV w W B1 d b x L1 L2 f v g
section
variable {w W W' : World} {B1 d b x : Nat} {L1 L2 L' : List Ro} {f g : Int → Value} {v : Value}
theorem PV.later (h : PV w W B1 d b x L1 L2 f v g) (hb : Below W.heap.size W W') : PV w W' B1 d b x L1 L2 f v g :=
  ⟨h.tb.below hb, h.rt.below hb, h.bel.trans (hb.mono h.bel.size), h.ld, h.lb, h.lx, Nat.le_trans h.ls hb.size, h.xd, h.xb, h.vo⟩
theorem PV.stepX {f' : Int → Value} (h : PV w W B1 d b x L1 L2 f v g) (ht : Tb (fun k => B1 ≤ k) w.heap.size W' d b L' f') (hu : Upd W W' (fun k => k = b)) : PV w W' B1 d b x L' L2 f' v g :=
  ⟨ht, h.rt.upd hu h.xb (fun k hk e => by have := h.vo k hk; have := h.lb; omega) (fun k hk e => by have := h.tb.lob; have hk' : k < w.heap.size := hk; omega), h.bel.trans (hu.below h.bel.size (fun k hk e => by have := h.tb.lob; omega)), h.ld, h.lb, h.lx, Nat.le_trans h.ls hu.size, h.xd, h.xb, h.vo⟩
theorem PV.stepY (h : PV w W B1 d b x L1 L2 f v g) (hp : RtPost (fun k => k < w.heap.size) w.heap.size W W' x L') : PP w W' B1 d b x L1 L' := by
  obtain ⟨v', g', hr, hu, ho⟩ := hp
  exact ⟨f, v', g', h.tb.upd hu (Ne.symm h.xd) (Ne.symm h.xb) (fun k hk e => by have := h.lx; have hk' : B1 ≤ k := hk; omega), hr, h.bel.trans (hu.below h.bel.size (fun k hk e => by have := h.rt.lo; omega)), h.ld, h.lb, h.lx, Nat.le_trans h.ls hu.size, h.xd, h.xb, fun k hk => Nat.le_trans h.ls (ho k hk)⟩
/-- With the call's box. -/
structure PB (w W : World) (B1 d b x bx : Nat) (c : Cd) (res : Value) (L1 L2 : List Ro) : Prop where
  pp : PP w W B1 d b x L1 L2
  cb : HasC (fun k => k < w.heap.size) W bx 0 c res
  lb : B1 ≤ bx
variable {bx : Nat} {c : Cd} {res : Value}
theorem PB.lt (h : PB w W B1 d b x bx c res L1 L2) : bx < W.heap.size := World.block_lt_of_cell? _ _ h.cb.c0
theorem PB.later (h : PB w W B1 d b x bx c res L1 L2) (hb : Below W.heap.size W W') : PB w W' B1 d b x bx c res L1 L2 := by
  obtain ⟨f, v, g, hv⟩ := h.pp
  exact ⟨⟨f, v, g, hv.later hb⟩, h.cb.below h.lt hb, h.lb⟩
theorem PB.bel (h : PB w W B1 d b x bx c res L1 L2) : Below w.heap.size w W := by
  obtain ⟨f, v, g, hv⟩ := h.pp
  exact hv.bel
theorem PB.askX (h : PB w W B1 d b x bx c res L1 L2) (hc : isI c.client) {ra : Rp} {la : List Rs} {bo : Bool} (he : askA L1 c.client c.seq = (ra, la, bo)) :
    Calls Try.prog 8 #[ptr d, .int .i64 c.client, .int .i64 c.seq] W fun e w' => ∃ p cc, e = .returned (.tuple #[repV ra (.slice p la.length cc), .bool bo]) ∧ RSs (fun _ => True) w' (.slice p la.length cc) la ∧ Below W.heap.size W w' := by
  obtain ⟨f, v, g, hv⟩ := h.pp
  refine (ask_any c.client c.seq W hv.tb hc).mono ?_
  rintro e w' ⟨v, rfl, hr, hb⟩
  rw [he] at hr ⊢
  have hr2 := hr
  obtain ⟨p, cc, rfl, _⟩ := hr
  exact ⟨p, cc, rfl, hr2.mono (fun _ _ => trivial), hb⟩
theorem PB.askY (h : PB w W B1 d b x bx c res L1 L2) (few : L2.length ≤ 64) (up : upL L2) {ra : Rp} {la : List Rs} {bo : Bool} (he : askA L2 c.client c.seq = (ra, la, bo)) :
    Calls Try.prog 9 #[ptr x, .int .i64 c.client, .int .i64 c.seq] W fun e w' => ∃ p cc, e = .returned (.tuple #[repV ra (.slice p la.length cc), .bool bo]) ∧ RSs (fun _ => True) w' (.slice p la.length cc) la ∧ Below W.heap.size W w' := by
  obtain ⟨f, v, g, hv⟩ := h.pp
  refine (rask_any c.client c.seq W hv.rt few up).mono ?_
  rintro e w' ⟨v, rfl, hr, hb⟩
  rw [he] at hr ⊢
  have hr2 := hr
  obtain ⟨p, cc, rfl, _⟩ := hr
  exact ⟨p, cc, rfl, hr2.mono (fun _ _ => trivial), hb⟩
theorem PB.noteX (h : PB w W B1 d b x bx c res L1 L2) (hc : isI c.client) (hl : c.rs.length ≤ 5) :
    Calls Try.prog 11 #[ptr d, .int .i64 c.client, .int .i64 c.seq, repV c.rp res] W fun e w' => e = .returned (.tuple #[]) ∧ PB w w' B1 d b x bx c res (noteA L1 c.client c.seq c.rp c.rs) L2 := by
  obtain ⟨f, v, g, hv⟩ := h.pp
  refine (note_any c.client c.seq c.rp c.rs res W hv.tb hc h.cb.rs hl (fun k hk => Nat.le_trans hv.ls hk)).mono ?_
  rintro e w' ⟨rfl, ⟨f', ht⟩, hu⟩
  exact ⟨rfl, ⟨f', v, g, hv.stepX ht hu⟩, h.cb.upd h.lt hu (fun e => by have := h.lb; have := hv.lb; omega) (fun k hk e => by have := hv.tb.lob; have hk' : k < w.heap.size := hk; omega), h.lb⟩
theorem rnote_any {Y : Nat → Prop} {B : Nat} (c s : Int) (rp : Rp) (rs : List Rs) (u : Value) (w : World) (h : Rt Y B w x v L2 g) (few : L2.length ≤ 64) (hup : upL L2) (hu : RSs Y w u rs) (hYx : ∀ k, Y k → k ≠ x) (hd : (askA L2 c s).2.2 = true) :
    Calls Try.prog 12 #[ptr x, .int .i64 c, .int .i64 s, repV rp u] w fun e w' => e = .returned (.tuple #[]) ∧ ((noteA L2 c s rp rs = L2 ∧ Below w.heap.size w w') ∨ RtPost Y B w w' x (noteA L2 c s rp rs)) := by
  by_cases c0 : c = 0
  · subst c0
    have e : noteA L2 0 s rp rs = L2 := by simp [noteA]
    rw [e]
    obtain ⟨up, uc, rfl, _⟩ := hu
    go_enter Try.func12, Try.ntmps12
    go_wp2
    first | go_end0 | refine bodyPost_ret (results_none rfl _ _ _) rfl ?_
    exact ⟨rfl, .inl ⟨by simp, (Below.refl _ _).alloc (Nat.le_refl _) _⟩⟩
  · have e : noteA L2 c s rp rs = insL ⟨c, s, rp, rs⟩ (delL c L2) := by rw [noteA, if_pos ⟨hd, c0⟩]
    rw [e]
    cases hl : lookL c L2 with
    | none =>
      rw [del_none hl]
      exact (rnote_new c s rp rs u w h few hup hu hYx c0 hl).mono (fun _ _ h => ⟨h.1, .inr h.2⟩)
    | some r =>
      obtain ⟨hri, pre, post, hpp⟩ := look_parts hl
      have hi : L2[pre.length]? = some r := by rw [hpp]; simp
      exact (rnote_there c s rp rs u w h few hup hu hYx c0 hi hri).mono (fun _ _ h => ⟨h.1, .inr h.2⟩)
theorem PB.noteY (h : PB w W B1 d b x bx c res L1 L2) (few : L2.length ≤ 64) (up : upL L2) (hd : (askA L2 c.client c.seq).2.2 = true) :
    Calls Try.prog 12 #[ptr x, .int .i64 c.client, .int .i64 c.seq, repV c.rp res] W fun e w' => e = .returned (.tuple #[]) ∧ PB w w' B1 d b x bx c res L1 (noteA L2 c.client c.seq c.rp c.rs) := by
  obtain ⟨f, v, g, hv⟩ := h.pp
  refine (rnote_any c.client c.seq c.rp c.rs res W hv.rt few up h.cb.rs (fun k hk e => by have := hv.rt.lo; have hk' : k < w.heap.size := hk; omega) hd).mono ?_
  rintro e w' ⟨rfl, ⟨he, hb⟩ | hp⟩
  · rw [he]
    exact ⟨rfl, h.later hb⟩
  · have h2 := hv.stepY hp
    obtain ⟨v', g', hr, hu, ho⟩ := hp
    exact ⟨rfl, h2, h.cb.upd h.lt hu (fun e => by have := h.lb; have := hv.lx; omega) (fun k hk e => by have := hv.rt.lo; have hk' : k < w.heap.size := hk; omega), h.lb⟩
/-- A row of rows that can be read. -/
def RoR (W : World) (v : Value) (l : List Ro) : Prop := ∃ p c, v = .slice p l.length c ∧ ∀ (i : Nat) (r : Ro), l[i]? = some r → ∃ b q n, p = some ⟨b, 0, none⟩ ∧ b < W.heap.size ∧ W.cell? ⟨b, i * 7, none⟩ = some (.int .i64 r.id) ∧ W.cell? ⟨b, i * 7 + 1, none⟩ = some (.int .i64 r.sq) ∧ W.cell? ⟨b, i * 7 + 2, none⟩ = some (.int .i64 r.rp.err) ∧ W.cell? ⟨b, i * 7 + 3, none⟩ = some (.int .i64 r.rp.rev) ∧ W.cell? ⟨b, i * 7 + 4, none⟩ = some (.bool r.rp.thn) ∧ W.cell? ⟨b, i * 7 + 5, none⟩ = some (.slice q r.rs.length n) ∧ W.cell? ⟨b, i * 7 + 6, none⟩ = some (.int .i64 r.rp.tim) ∧ RSs (fun _ => True) W (.slice q r.rs.length n) r.rs
theorem RoR.of {B e : Nat} {Z : Nat → Prop} {p : Option Addr} {cc : Nat} {l : List Ro} (h : W.ownsRow B e 7 (.slice p l.length cc) l.length (roC g l)) (hr : ∀ r ∈ l, RSs Z W (g r.id) r.rs) : RoR W (.slice p l.length cc) l := by
  refine ⟨p, cc, rfl, fun i r hi => ?_⟩
  obtain ⟨bb, rfl, hcells, hbl, _⟩ := row_ro h hi
  have hrs := (hr r (List.mem_of_getElem? hi)).mono (Z' := fun _ => True) (fun _ _ => trivial)
  have hrs2 := hrs
  obtain ⟨q, n, hq, _⟩ := hrs
  rw [hq] at hrs2
  have h0 := hcells 0 _ (by omega) rfl
  rw [Nat.add_zero] at h0
  exact ⟨bb, q, n, rfl, hbl, h0, hcells 1 _ (by omega) rfl, hcells 2 _ (by omega) rfl, hcells 3 _ (by omega) rfl, hcells 4 _ (by omega) rfl, hcells 5 _ (by omega) (congrArg some hq), hcells 6 _ (by omega) rfl, hrs2⟩
theorem RoR.below (h : RoR W v L') (hb : Below W.heap.size W W') : RoR W' v L' := by
  obtain ⟨p, cc, rfl, hh⟩ := h
  refine ⟨p, cc, rfl, fun i r hi => ?_⟩
  obtain ⟨b, q, n, e, hl, h0, h1, h2, h3, h4, h5, h6, h7⟩ := hh i r hi
  have hc := fun j => hb.cell (p := ⟨b, j, none⟩) hl
  exact ⟨b, q, n, e, Nat.lt_of_lt_of_le hl hb.size, (hc _).trans h0, (hc _).trans h1, (hc _).trans h2, (hc _).trans h3, (hc _).trans h4, (hc _).trans h5, (hc _).trans h6, h7.below hb⟩
theorem PB.all (h : PB w W B1 d b x bx c res L1 L2) : Calls Try.prog 13 #[ptr d] W fun e w' => ∃ p cc, e = .returned (.slice p L1.length cc) ∧ RoR w' (.slice p L1.length cc) L1 ∧ Below W.heap.size W w' := by
  obtain ⟨f, v, g, hv⟩ := h.pp
  refine (all_any W hv.tb).mono ?_
  rintro e w' ⟨p, cc, g', rfl, hr, hrs, hb⟩
  exact ⟨p, cc, rfl, RoR.of hr hrs, hb⟩
/-- The document's rows, as they are read. -/
theorem PP.rows (h : PP w W B1 d b x L1 L2) : ∃ p cc, W.cell? ⟨x, 0, none⟩ = some (.slice p L2.length cc) ∧ RoR W (.slice p L2.length cc) L2 ∧ x < W.heap.size := by
  obtain ⟨f, v, g, hv⟩ := h
  obtain ⟨p, cc, rfl, _⟩ := hv.rt.form
  exact ⟨p, cc, hv.rt.c0, RoR.of hv.rt.row hv.rt.res, hv.rt.lt⟩
theorem PP.few (h : PP w W B1 d b x L1 L2) : L1.length ≤ 64 ∧ upL L1 ∧ (∀ r ∈ L1, r.Ok) := by
  obtain ⟨f, v, g, hv⟩ := h
  exact ⟨hv.tb.few, hv.tb.up, hv.tb.ok⟩
end
end Go.Proofs.Ytcghaepjklmggaa
