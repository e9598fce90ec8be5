/- A guarded put, and what follows it; the chapter's example. -/
import Derived.Test.YtgbobegoknmiaaaGreatTJ
namespace Go.Proofs.YtgbobegoknmiaaaGreat
open Go Go.RowKit

/-- What a law's Do leaves: the blocks of a store that goes on. -/
structure Go9 (w0 w w' : World) (s n : Nat) (S : Sto) (g g' : Sg) : Prop where
  q : Q9 w0 w' s n S g'
  up : Upd w w' (ftS s g)
  ft : ∀ k, ftS s g' k → ftS s g k ∨ w.heap.size ≤ k
theorem Q9.first {w0 w : World} {s n q : Nat} {S : Sto} {g : Sg} (H : Q9 w0 w s n S g) (ids : List Int) (Y : Nat → Prop) (hl : ids.length ≤ 1000000) (hLP : LsP q ids Y w) (hq : ∀ k, k = q ∨ Y k → k < w.heap.size ∧ ¬ ftS s g k) (C : List Ifd) (o : Opd) (E : List Opd) (vi vt ve : Value) (hv : HasT (fun k => k < w.heap.size ∧ ¬ ftS s g k) w vi vt ve ⟨C, [o], E⟩)
    (hc0 : C.length ≤ 32 ∧ firstE ifE C = 0) (hc1 : C.all (holdsC S) = true) (ho : opE o = 0) (P : PutOk S (fun id => decide (id ∈ ids)) o) (hE : E.length ≤ 32 ∧ firstE opE E = 0 ∧ twB E = false) (b1 : n ≤ 10000) (b2 : S.ks.length ≤ 5000) (b4 : S.rev ≤ 400000) :
    Calls Tryz.prog 16 #[ptr s, .iface 45 (ptr q), .agg #[vi, vt, ve]] w fun e w' => ∃ (p : Option Addr) (c : Nat), e = .returned (.tuple #[.bool true, .slice p 1 c, .int .i64 0]) ∧ ∃ S' g', Hid (Go9 w0 w w' s (n + 1) S' g g' ∧ thereH (S'.kh o.key) = some (newKV S o) ∧ (∀ k, ¬ k = o.key → S'.kh k = S.kh k) ∧ S'.rev = S.rev + 1 ∧ S'.past = S.past ∧ S'.nth ≤ S.nth + 1 ∧ S'.ks.length ≤ S.ks.length + 1) := by
  have hck : checkE ⟨C, [o], E⟩ = 0 := check_small _ hc0.1 (by simp) hE.1 hc0.2 (first_one ho) hE.2.1 (twB_one o) hE.2.2
  have hops : opsOf S ⟨C, [o], E⟩ = [o] := if_pos hc1
  obtain ⟨r1, r2, r3⟩ := run_one P
  have hz : txE S (fun id => decide (id ∈ ids)) ⟨C, [o], E⟩ = 0 := by unfold txE; rw [if_pos hck, hops]; exact r1
  have hP1 : (txP S (fun id => decide (id ∈ ids)) ⟨C, [o], E⟩).1 = tputK S (noW S.nth) o := by unfold txP; rw [hops]; exact r2
  have hN : txN S (fun id => decide (id ∈ ids)) ⟨C, [o], E⟩ = 1 := by unfold txN; rw [if_pos hz, hP1, (tputK_f S _ o).1]; rfl
  have f := P.fu
  have := H.do ids Y hl hLP hq ⟨C, [o], E⟩ vi vt ve hv (by show C.length ≤ _; have := hc0.1; omega) (by simp) (by show E.length ≤ _; have := hE.1; omega) (by omega) (by omega) (by omega) (by omega)
  rw [hz, hN] at this
  refine this.mono ?_
  rintro e w' ⟨bt, p, m, c, rfl, g', HT⟩
  obtain ⟨hT, hQ, hD⟩ := HT.out
  have D := hD rfl
  rw [hP1] at D
  obtain ⟨y1, y2, -, -⟩ := hT.yes hz
  obtain ⟨t1, t2, t3, t4, t5⟩ := put_there D rfl
  have hm : m = 1 := by
    obtain ⟨p2, c2, e2, -⟩ := y2
    cases e2
    unfold txP
    rw [hops, r3]
    rfl
  subst hm
  have hbt : bt = true := y1.trans hc1
  subst hbt
  obtain ⟨o1, s1⟩ := hQ.st
  obtain ⟨o2, s2⟩ := H.st
  have hks := D.ks s1 s2
  rw [(tputK_f S _ o).1] at hks
  exact ⟨p, c, rfl, _, g', ⟨hQ, hT.up, hT.ft⟩, t1, t2, t3, t4, t5, hks⟩
theorem Q9.second {w0 w : World} {s n q : Nat} {S : Sto} {g : Sg} (H : Q9 w0 w s n S g) (ids : List Int) (Y : Nat → Prop) (hl : ids.length ≤ 1000000) (hLP : LsP q ids Y w) (hq : ∀ k, k = q ∨ Y k → k < w.heap.size ∧ ¬ ftS s g k) (C : List Ifd) (A E : List Opd) (vi vt ve : Value) (hv : HasT (fun k => k < w.heap.size ∧ ¬ ftS s g k) w vi vt ve ⟨C, A, E⟩)
    (hc0 : C.length ≤ 32 ∧ firstE ifE C = 0) (hc1 : C.all (holdsC S) = false) (hA : A.length ≤ 32 ∧ firstE opE A = 0 ∧ twB A = false) (hE : E.length ≤ 32 ∧ firstE opE E = 0 ∧ twB E = false) (hr : allE S (fun id => decide (id ∈ ids)) (noW S.nth) E = 0) (hw : (runP S (fun id => decide (id ∈ ids)) (noW S.nth) E).1 = noW S.nth) (b4 : S.rev ≤ 400000) :
    Calls Tryz.prog 16 #[ptr s, .iface 45 (ptr q), .agg #[vi, vt, ve]] w fun e w' => ∃ (p : Option Addr) (c : Nat), e = .returned (.tuple #[.bool false, .slice p (runP S (fun id => decide (id ∈ ids)) (noW S.nth) E).2.length c, .int .i64 0]) ∧ ∃ g', Hid (Go9 w0 w w' s n S g g' ∧ RSz (fun k => w.heap.size ≤ k ∧ ¬ ftS s g' k) w' (.slice p (runP S (fun id => decide (id ∈ ids)) (noW S.nth) E).2.length c) (runP S (fun id => decide (id ∈ ids)) (noW S.nth) E).2) := by
  have hck : checkE ⟨C, A, E⟩ = 0 := check_small _ hc0.1 hA.1 hE.1 hc0.2 hA.2.1 hE.2.1 hA.2.2 hE.2.2
  have hops : opsOf S ⟨C, A, E⟩ = E := if_neg (by rw [hc1]; decide)
  have hz : txE S (fun id => decide (id ∈ ids)) ⟨C, A, E⟩ = 0 := by unfold txE; rw [if_pos hck, hops]; exact hr
  have hP : txP S (fun id => decide (id ∈ ids)) ⟨C, A, E⟩ = runP S (fun id => decide (id ∈ ids)) (noW S.nth) E := by unfold txP; rw [hops]
  have hN : txN S (fun id => decide (id ∈ ids)) ⟨C, A, E⟩ = 0 := by unfold txN; rw [if_pos hz, hP, hw]; rfl
  have hS : txS S (fun id => decide (id ∈ ids)) ⟨C, A, E⟩ = S := by unfold txS; rw [if_pos hz, hP, hw]; exact if_pos rfl
  have f := H.sf
  have := H.do ids Y hl hLP hq ⟨C, A, E⟩ vi vt ve hv (by show C.length ≤ _; have := hc0.1; omega) (by show A.length ≤ _; have := hA.1; omega) (by show E.length ≤ _; have := hE.1; omega) (by rw [hN]; exact f.n) (by rw [hN]; exact f.ks) (by rw [hN]; exact f.nth) (by omega)
  rw [hz, hN, hS] at this
  refine this.mono ?_
  rintro e w' ⟨bt, p, m, c, rfl, g', HT⟩
  obtain ⟨hT, hQ, -⟩ := HT.out
  obtain ⟨y1, y2, -, -⟩ := hT.yes hz
  have hbt : bt = false := y1.trans hc1
  subst hbt
  rw [hP] at y2
  obtain ⟨p2, c2, e2, y3⟩ := y2
  cases e2
  exact ⟨p, c, rfl, g', ⟨hQ, hT.up, hT.ft⟩, p, c, rfl, y3⟩
theorem Q9.rev {w0 w : World} {s n : Nat} {S : Sto} {g : Sg} (H : Q9 w0 w s n S g) : Calls Tryz.prog 20 #[ptr s] w fun e w' => e = .returned (.int .i64 S.rev) ∧ w' = w := by
  obtain ⟨o, h⟩ := H.st
  exact rev_st h
theorem Q9.s_lt {w0 w : World} {s n : Nat} {S : Sto} {g : Sg} (H : Q9 w0 w s n S g) : s < w.heap.size := H.lt (.inl rfl)
theorem IFs.mono {Z Z' : Nat → Prop} {w : World} {v : Value} {l : List Ifd} (h : IFs Z w v l) (hz : ∀ k, Z k → Z' k) : IFs Z' w v l := by
  obtain ⟨p, c, rfl, hh⟩ := h
  refine ⟨p, c, rfl, fun i kv hi => ?_⟩
  obtain ⟨g, o, e, hz1, hl, hk⟩ := hh i kv hi
  exact ⟨g, o, e, hz g hz1, hl, hk⟩
theorem OPs.mono {Z Z' : Nat → Prop} {w : World} {v : Value} {l : List Opd} (h : OPs Z w v l) (hz : ∀ k, Z k → Z' k) : OPs Z' w v l := by
  obtain ⟨p, c, rfl, hh⟩ := h
  refine ⟨p, c, rfl, fun i kv hi => ?_⟩
  obtain ⟨g, o, e, hz1, hl, hk⟩ := hh i kv hi
  exact ⟨g, o, e, hz g hz1, hl, hk⟩
/-- A law's transaction, in a box, beside the store. -/
structure TBx (w : World) (s : Nat) (g : Sg) (lo hi tb : Nat) (vi vt ve : Value) (t : Txd) : Prop where
  box : w.heap[tb]? = some (.cells #[vi, vt, ve] 36 (0, 0))
  ri : IFs (fun k => lo ≤ k ∧ k < hi) w vi t.ifs
  rt : OPs (fun k => lo ≤ k ∧ k < hi) w vt t.thn
  re : OPs (fun k => lo ≤ k ∧ k < hi) w ve t.els
  tz : lo ≤ tb ∧ tb < hi
  hl : hi ≤ w.heap.size
  fs : ∀ k, ftS s g k → k < lo ∨ hi ≤ k
theorem TBx.upd {w w' : World} {s : Nat} {g g' : Sg} {lo hi tb : Nat} {vi vt ve : Value} {t : Txd} (H : TBx w s g lo hi tb vi vt ve t) (hu : Upd w w' (ftS s g)) (hf : ∀ k, ftS s g' k → ftS s g k ∨ w.heap.size ≤ k) : TBx w' s g' lo hi tb vi vt ve t := by
  have hn : ∀ k, lo ≤ k ∧ k < hi → ¬ ftS s g k := fun k hk e => by have := H.fs k e; omega
  have h1 := H.hl
  exact ⟨(hu.block tb (by have := H.tz; omega) (hn tb H.tz)).trans H.box, H.ri.upd hu hn, H.rt.upd hu hn, H.re.upd hu hn, H.tz, Nat.le_trans h1 hu.size, fun k hk => (hf k hk).elim (H.fs k) (fun e => .inr (by omega))⟩
theorem TBx.below {w w' : World} {s : Nat} {g : Sg} {lo hi tb : Nat} {vi vt ve : Value} {t : Txd} (H : TBx w s g lo hi tb vi vt ve t) (hb : Below w.heap.size w w') : TBx w' s g lo hi tb vi vt ve t := H.upd (Upd.ofBelow hb) (fun _k hk => .inl hk)
theorem TBx.has {w : World} {s : Nat} {g : Sg} {lo hi tb : Nat} {vi vt ve : Value} {t : Txd} (H : TBx w s g lo hi tb vi vt ve t) : HasT (fun k => k < w.heap.size ∧ ¬ ftS s g k) w vi vt ve t := by
  have hz : ∀ k, lo ≤ k ∧ k < hi → k < w.heap.size ∧ ¬ ftS s g k := fun k hk => ⟨by have := H.hl; omega, fun e => by have := H.fs k e; omega⟩
  exact ⟨H.ri.mono hz, H.rt.mono hz, H.re.mono hz⟩
theorem TBx.cells {w : World} {s : Nat} {g : Sg} {lo hi tb : Nat} {vi vt ve : Value} {t : Txd} (H : TBx w s g lo hi tb vi vt ve t) : w.cell? ⟨tb, 0, none⟩ = some vi ∧ w.cell? ⟨tb, 1, none⟩ = some vt ∧ w.cell? ⟨tb, 2, none⟩ = some ve := ⟨cell_of_row _ _ _ _ _ _ H.box, cell_of_row _ _ _ _ _ _ H.box, cell_of_row _ _ _ _ _ _ H.box⟩
/-- No leases, in a box that was just made. -/
theorem ls_new {w0 w : World} {s n : Nat} {S : Sto} {g : Sg} (H : Q9 w0 w s n S g) : LsP w.heap.size [] (fun _ => False) (w.alloc (.cells #[.slice none 0 0] 47)) ∧ (∀ k, k = w.heap.size ∨ False → k < (w.alloc (.cells #[.slice none 0 0] 47)).heap.size ∧ ¬ ftS s g k) ∧ Below w.heap.size w (w.alloc (.cells #[.slice none 0 0] 47)) :=
  ⟨ls_none (row_alloc w _ _), fun k hk => (by rcases hk with rfl | hk; exact ⟨by simp, fun e => (by have := H.lt e; omega)⟩; cases hk), (Below.refl _ _).alloc (Nat.le_refl _) _⟩
def kIf : Ifd := ⟨⟨#[97]⟩, 0, 0, 0, ⟨#[]⟩⟩
def kOp : Opd := ⟨0, ⟨#[97]⟩, ⟨#[]⟩, ⟨#[120]⟩, 0, 0⟩
set_option maxRecDepth 100000 in
set_option maxHeartbeats 400000 in
theorem known_any (w : World) : Calls Tryz.prog 9 #[] w fun e w' => e = .returned (.bool true) ∧ Below w.heap.size w w' := by
  have hnew := new_q9 w w (Below.refl _ _)
  have HP1 : Hid (PutOk noS (fun id => decide (id ∈ ([] : List Int))) kOp) := ⟨rfl, rfl, by decide, by decide, by decide, .inl rfl⟩
  have HCI : Hid (([kIf] : List Ifd).length ≤ 32 ∧ firstE ifE [kIf] = 0) := ⟨by decide, rfl⟩
  have HCO : Hid (([kOp] : List Opd).length ≤ 32 ∧ firstE opE [kOp] = 0 ∧ twB [kOp] = false) := ⟨by decide, rfl, twB_one _⟩
  have HH1 : Hid (([kIf] : List Ifd).all (holdsC noS) = true) := rfl
  have HH2 : Hid (∀ S : Sto, thereH (S.kh kOp.key) = some (newKV noS kOp) → ([kIf] : List Ifd).all (holdsC S) = false) := fun S h => by
    have : holdsC S kIf = false := by
      unfold holdsC
      have h' : thereH (S.kh kIf.key) = some (newKV noS kOp) := h
      rw [h']
      rfl
    simp [this]
  go_enter Tryz.func9, Tryz.ntmps9
  go_upto_region 4 with (go_at_call 10; refine hnew.mono ?_; rintro e w1 ⟨s, g, rfl, HQ⟩)
  go_upto_region 5 with fail
  obtain ⟨w4, hw4⟩ : ∃ w4, w4 = ((w1.alloc (.cells #[.string ⟨#[97]⟩, .int .i64 0, .int .i64 0, .int .i64 0, .string ⟨#[]⟩] 55)).alloc (.cells #[.int .i64 0, .string ⟨#[97]⟩, .string ⟨#[]⟩, .string ⟨#[120]⟩, .int .i64 0, .int .i64 0] 57)).alloc (.cells #[.slice (some ⟨w1.heap.size, 0, none⟩) 1 1, .slice (some ⟨w1.heap.size + 1, 0, none⟩) 1 1, .slice none 0 0] 36) := ⟨_, rfl⟩
  rw [← hw4]
  obtain ⟨lo, hlo⟩ : ∃ lo, lo = w1.heap.size := ⟨_, rfl⟩
  have hs4 : w4.heap.size = lo + 3 := by rw [hw4, hlo]; simp
  have hb4 : Below w1.heap.size w1 w4 := by rw [hw4]; exact (((Below.refl _ w1).alloc (Nat.le_refl _) _).alloc (by simp) _).alloc (by simp; omega) _
  have r1 : w4.heap[lo]? = some (.cells #[.string ⟨#[97]⟩, .int .i64 0, .int .i64 0, .int .i64 0, .string ⟨#[]⟩] 55 (0, 0)) := by rw [hw4, hlo]; exact (heap_alloc_old _ _ (by simp; omega)).trans ((heap_alloc_old _ _ (by simp)).trans (row_alloc w1 _ _))
  have r2 : w4.heap[lo + 1]? = some (.cells #[.int .i64 0, .string ⟨#[97]⟩, .string ⟨#[]⟩, .string ⟨#[120]⟩, .int .i64 0, .int .i64 0] 57 (0, 0)) := by rw [hw4, hlo]; refine (heap_alloc_old _ _ (by simp)).trans ?_; have := row_alloc (w1.alloc (.cells #[.string ⟨#[97]⟩, .int .i64 0, .int .i64 0, .int .i64 0, .string ⟨#[]⟩] 55)) #[.int .i64 0, .string ⟨#[97]⟩, .string ⟨#[]⟩, .string ⟨#[120]⟩, .int .i64 0, .int .i64 0] 57; simpa using this
  have r3 : w4.heap[lo + 1 + 1]? = some (.cells #[.slice (some ⟨lo, 0, none⟩) 1 1, .slice (some ⟨lo + 1, 0, none⟩) 1 1, .slice none 0 0] 36 (0, 0)) := by rw [hw4, hlo]; have := row_alloc ((w1.alloc (.cells #[.string ⟨#[97]⟩, .int .i64 0, .int .i64 0, .int .i64 0, .string ⟨#[]⟩] 55)).alloc (.cells #[.int .i64 0, .string ⟨#[97]⟩, .string ⟨#[]⟩, .string ⟨#[120]⟩, .int .i64 0, .int .i64 0] 57)) #[.slice (some ⟨w1.heap.size, 0, none⟩) 1 1, .slice (some ⟨w1.heap.size + 1, 0, none⟩) 1 1, .slice none 0 0] 36; simpa using this
  have HTB : Hid (TBx w4 s g lo (lo + 3) (lo + 1 + 1) (.slice (some ⟨lo, 0, none⟩) 1 1) (.slice (some ⟨lo + 1, 0, none⟩) 1 1) (.slice none 0 0) ⟨[kIf], [kOp], []⟩) := ⟨r3, ifs_one r1 (by omega) (by decide) (by decide), ops_one r2 (by omega) (by decide) (by decide) (by decide), OPs.nil _ _, by omega, by omega, fun k hk => .inl (by have := HQ.out.1.lt hk; omega)⟩
  have HQ4 : Hid (Q9 w w4 s 0 noS g) := HQ.out.1.below hb4
  rw [← hlo]
  clear hw4 hlo r1 r2 r3 hb4 hnew hs4
  obtain ⟨tb, htb⟩ : ∃ tb, tb = lo + 1 + 1 := ⟨_, rfl⟩
  rw [← htb] at HTB ⊢
  clear htb
  obtain ⟨hL, hLq, hb5⟩ := ls_new HQ4.out
  have hdo1 := (HQ4.out.below hb5).first [] (fun _ => False) (by simp) hL hLq [kIf] kOp [] _ _ _ (HTB.out.below hb5).has HCI.out HH1.out rfl HP1.out ⟨by simp, rfl, rfl⟩ (by omega) (by show 0 ≤ _; omega) (by show 0 ≤ _; omega)
  obtain ⟨x0, x1, x2⟩ := (HTB.out.below hb5).cells
  have HTB5 := Hid.mk'' (HTB.out.below hb5)
  clear hL hLq hb5 HTB HQ4 HQ
  go_upto_region 6 with (go_at_call 16; refine hdo1.mono ?_; rintro e w6 ⟨p, c, rfl, S1, g1, HG⟩)
  obtain ⟨G1, t1, t2, t3, t4, t5, t6⟩ := HG.out
  have HTB6 := Hid.mk'' (HTB5.out.upd G1.up G1.ft)
  obtain ⟨hL, hLq, hb7⟩ := ls_new G1.q
  have hdo2 := (G1.q.below hb7).second [] (fun _ => False) (by simp) hL hLq [kIf] [kOp] [] _ _ _ (HTB6.out.below hb7).has HCI.out (HH2.out S1 t1) HCO.out ⟨by simp, rfl, rfl⟩ (run_nil _ _).1 (by rw [(run_nil _ _).2]) (by rw [t3]; show 0 + 1 ≤ _; omega)
  rw [(run_nil S1 (fun id => decide (id ∈ ([] : List Int)))).2] at hdo2
  obtain ⟨y0, y1, y2⟩ := (HTB6.out.below hb7).cells
  have HR1 : Hid (S1.rev = 1) := t3
  clear hdo1 x0 x1 x2 HTB5 HTB6 hL hLq hb7 t1 t2 t3 t4 t5 t6 G1 HG
  go_upto_region 7 with (go_at_call 16; refine hdo2.mono ?_; rintro e w8 ⟨p2, c2, rfl, g2, HG2⟩)
  have hrev := HG2.out.1.q.rev
  rw [HR1.out] at hrev
  go_wp2_with (go_at_call 20; refine hrev.mono ?_; rintro e w9 ⟨rfl, hw9⟩; obtain rfl := hw9.symm)
  go_ret
  exact ⟨rfl, HG2.out.1.q.bel⟩
end Go.Proofs.YtgbobegoknmiaaaGreat
