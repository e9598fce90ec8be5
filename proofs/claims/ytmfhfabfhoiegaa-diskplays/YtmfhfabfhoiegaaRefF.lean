/- The document's disk: one, Remove, Sync, Read. -/
import Derived.Test.YtmfhfabfhoiegaaRefE
namespace Go.Proofs.Ytmfhfabfhoiegaa
open Go Go.RowKit
theorem look_at {nm : List UInt8} {l : List Rl} {f : Rl} (h : lookK Rl.nm nm l = some f) : f.nm = nm ∧ ∃ pre post, l = pre ++ f :: post ∧ atK nm l = pre.length := by
  obtain ⟨h1, la, lb, h2, h3⟩ := List.find?_eq_some_iff_append.1 h
  have h1 : f.nm = nm := by simpa using h1
  refine ⟨h1, la, lb, h2, ?_⟩
  subst h2
  refine atK_some (by simp) (by simpa using h1) (fun j hj hjk => ?_)
  rw [List.getElem_append_left hjk]
  have := h3 la[j] (List.getElem_mem hjk)
  simpa using this
theorem Rk.fault {B : Nat} {w : World} {x : Nat} {h : Ru} {p : PS} {left : Int} (r : Rk B w x h p left) {nm : List UInt8} (hf : p.fault nm = 0) : okName nm = true ∧ ∃ f pre post, lookK Rl.nm nm h.l = some f ∧ oldF p nm = f.pf ∧ f.nm = nm ∧ h.l = pre ++ f :: post ∧ atK nm h.l = pre.length := by
  have hv := r.look nm
  cases hok : okName nm with
  | false => unfold PS.fault at hf; rw [hok] at hf; cases hf
  | true =>
    cases hl : lookK Rl.nm nm h.l with
    | none => unfold PS.fault at hf; rw [hok, hv, hl] at hf; cases hf
    | some f =>
      obtain ⟨h1, pre, post, h2, h3⟩ := look_at hl
      exact ⟨rfl, f, pre, post, rfl, by unfold oldF; rw [hv, hl]; rfl, h1, h2, h3⟩
theorem Rk.fault1 {p : PS} {nm : List UInt8} (hok : okName nm = false) : p.fault nm = 1 := by unfold PS.fault; rw [hok]; rfl
theorem Rk.fault2 {B : Nat} {w : World} {x : Nat} {h : Ru} {p : PS} {left : Int} (r : Rk B w x h p left) {nm : List UInt8} (hok : okName nm = true) (hf : p.fault nm ≠ 0) : p.fault nm = 2 ∧ atK nm h.l = -1 := by
  have hv := r.look nm
  cases hl : lookK Rl.nm nm h.l with
  | none => exact ⟨by unfold PS.fault; rw [hok, hv, hl]; rfl, atK_none hl⟩
  | some f => exact absurd (by unfold PS.fault; rw [hok, hv, hl]; rfl) hf
theorem begun_sane {p : PS} (hs : p.sane) : p.begun.fs.length < 1000000 ∧ total p.begun.fs ≤ 1000000 := by rw [begun_fs]; exact ⟨hs.len, hs.tot⟩
def oneI (p : PS) (l : List Rl) (nm : List UInt8) : Int := if opE p nm = 0 then atK nm l else 0
set_option maxRecDepth 100000 in
set_option maxHeartbeats 1000000 in
theorem one_any (B x : Nat) (h : Ru) (p : PS) (left : Int) (s : ByteArray) (w : World) (hd : Rk B w x h p left) (hs : p.sane) (hl : s.size ≤ 1000000) :
    Calls Try.prog 40 #[ptr x, .string s] w fun e w' => e = .returned (.tuple #[.int .i64 (oneI p h.l s.data.toList), .int .i64 (opE p s.data.toList)]) ∧ ∃ left', Rk B w' x h p.begun left' ∧ Upd w w' (fun k => k = x) := by
  have hbeg := rbegin_any B x h p left w hd hs
  have hname := fun w' => rname_any s w' hl
  have hat := fun w1 l1 (r : Rk B w1 x h p.begun l1) => rat_any B x h p.begun l1 s w1 r (begun_sane hs).1
  cases hst : p.stopped with
  | true =>
    have hE := opE_stop (nm := s.data.toList) hst
    have hI : oneI p h.l s.data.toList = 0 := by unfold oneI; rw [if_neg (by rw [hE]; decide)]
    rw [hE, hI]
    rw [hst] at hbeg
    clear hd hs hat
    go_enter Try.func40, Try.ntmps40
    go_wp2_with (go_at_call 36; refine hbeg.mono ?_; rintro e w1 ⟨rfl, hq⟩)
    go_ret2
    exact ⟨rfl, hq⟩
  | false =>
    have hE := opE_go (nm := s.data.toList) hst
    rw [hst] at hbeg
    cases hok : okName s.data.toList with
    | false =>
      rw [Rk.fault1 hok] at hE
      have hI : oneI p h.l s.data.toList = 0 := by unfold oneI; rw [if_neg (by rw [hE]; decide)]
      rw [hE, hI]
      rw [hok] at hname
      clear hd hs hat
      go_enter Try.func40, Try.ntmps40
      go_wp2_with (first | (go_at_call 36; refine hbeg.mono ?_; rintro e w1 ⟨rfl, hq⟩) | (go_at_call 32; refine (hname _).mono ?_; rintro e w1 ⟨rfl, rfl⟩))
      go_ret2
      exact ⟨rfl, hq⟩
    | true =>
      rw [hok] at hname
      by_cases hf : p.fault s.data.toList = 0
      · rw [hf] at hE
        obtain ⟨_, f, pre, post, _, _, _, _, hk⟩ := hd.fault hf
        have hI : oneI p h.l s.data.toList = pre.length := by unfold oneI; rw [if_pos hE, hk]
        rw [hE, hI]
        rw [hk] at hat
        clear hd hs
        go_enter Try.func40, Try.ntmps40
        go_wp2_with (first | (go_at_call 36; refine hbeg.mono ?_; rintro e w1 ⟨rfl, l1, hq, hu⟩) | (go_at_call 32; refine (hname _).mono ?_; rintro e w1 ⟨rfl, rfl⟩) | (go_at_call 37; refine (hat _ _ hq).mono ?_; rintro e w1 ⟨rfl, rfl⟩))
        go_ret2
        exact ⟨rfl, l1, hq, hu⟩
      · obtain ⟨hf2, hk⟩ := hd.fault2 hok hf
        rw [hf2] at hE
        have hI : oneI p h.l s.data.toList = 0 := by unfold oneI; rw [if_neg (by rw [hE]; decide)]
        rw [hE, hI]
        rw [hk] at hat
        clear hd hs
        go_enter Try.func40, Try.ntmps40
        go_wp2_with (first | (go_at_call 36; refine hbeg.mono ?_; rintro e w1 ⟨rfl, l1, hq, hu⟩) | (go_at_call 32; refine (hname _).mono ?_; rintro e w1 ⟨rfl, rfl⟩) | (go_at_call 37; refine (hat _ _ hq).mono ?_; rintro e w1 ⟨rfl, rfl⟩))
        go_ret2
        exact ⟨rfl, l1, hq, hu⟩
theorem own_form3 {w : World} {B : Nat} {v : Value} {n : Nat} {xs : List Value} (h : w.ownsRow B 74 3 v n xs) : ∃ ao c, v = .slice ao n c := by
  rcases h.2 with ⟨rfl, rfl⟩ | ⟨g, cap, cur, rfl, _⟩ <;> exact ⟨_, _, rfl⟩
/-- A new row of files is laid. -/
theorem RkPost.row {B : Nat} {w w1 w2 : World} {x : Nat} {h : Ru} {p p' : PS} {left : Int} {v' : Value} {l' : List Rl} (r : Rk B w1 x h p left) (hu : Upd w w1 (fun k => k = x)) (hb : Below w1.heap.size w1 w2) (hrow : w2.ownsRow w1.heap.size 74 3 v' l'.length (rrow l')) (hB : B ≤ w1.heap.size)
    (hok : ∀ f ∈ l', OkR w2 f) (hoff : ∀ f ∈ l', ∀ k, f.v.ownBlock = some k → (FootX x h k ∧ k ≠ x) ∨ (w1.heap.size ≤ k ∧ k < w2.heap.size ∧ v'.ownBlock ≠ some k)) (hv : p'.fs = l'.map Rl.pf) (hup : upK Rl.nm l') (h1 : p'.room = p.room) (h2 : p'.ops = p.ops) (h3 : p'.stops = p.stops) (h4 : p'.dead = p.dead) :
    RkPost B w (w2.setCell ⟨x, 0, none⟩ v') x h p' := by
  have hs := hb.size
  have hsu := hu.size
  have hset := upd_cell w2 x 0 v'
  have hxl := r.cells.lt
  have hvx : v'.ownBlock ≠ some x := fun e => by have := (hrow.lt x e).1; omega
  have hc := (r.cells.upd (Upd.ofBelow hb (S := fun _ => False)) (fun h => h)).set0 v'
  have hoff2 : ∀ f ∈ l', ∀ k, f.v.ownBlock = some k → B ≤ k ∧ k < w2.heap.size ∧ k ≠ x ∧ v'.ownBlock ≠ some k := fun f hf k hk => by
    rcases hoff f hf k hk with ⟨e, e'⟩ | ⟨e1, e2, e3⟩
    · have a1 := r.ge e; have a2 := r.lt e
      exact ⟨a1, by omega, e', fun e => by have := (hrow.lt k e).1; omega⟩
    · exact ⟨by omega, e2, by omega, e3⟩
  have hl : leftOk p' left := by obtain ⟨a, b, c⟩ := r.left; exact ⟨fun e => by rw [h3]; exact a (by rw [← h4]; exact e), b, c⟩
  refine ⟨⟨v', l'⟩, left, ⟨hv, ?_, ⟨own_low (ownsRow_upd hrow hset (fun k hk e => hvx (by rw [hk, e]))) hB, fun f hf => (hok f hf).upd hset (fun k hk e => (hoff2 f hf k hk).2.2.1 e), r.rest.base, hvx, fun f hf k hk => ?_⟩, hl, hup⟩, ?_, fun k hk => ?_⟩
  · rw [h1, h2, h4]; exact hc
  · obtain ⟨a1, a2, a3, a4⟩ := hoff2 f hf k hk
    exact ⟨a1, Nat.lt_of_lt_of_le a2 hset.size, a3, a4⟩
  · exact ((hu.trans (Upd.ofBelow hb) (fun _ _ e => e)).trans hset (fun _ _ e => e)).mono (fun _ _ e => .inl e)
  · rcases hk with e | e | ⟨f, hf, e⟩
    · exact .inl (.inl e)
    · right; have := (hrow.lt k e).1; omega
    · rcases hoff f hf k e with ⟨e, _⟩ | ⟨e, _⟩
      · exact .inl e
      · right; omega
set_option maxRecDepth 100000 in
set_option maxHeartbeats 1000000 in
theorem rremove_any (B x : Nat) (h : Ru) (p : PS) (left : Int) (s : ByteArray) (w : World) (hd : Rk B w x h p left) (hs : p.sane) (hl : s.size ≤ 1000000) (hB : B ≤ w.heap.size) :
    Calls Try.prog 19 #[ptr x, .string s] w fun e w' => e = .returned (.int .i64 (opE p s.data.toList)) ∧ RkPost B w w' x h (remP p s.data.toList) := by
  have hone := one_any B x h p left s w hd hs hl
  by_cases hE : opE p s.data.toList = 0
  · have hP : remP p s.data.toList = { p.begun with fs := delK PF.name s.data.toList p.fs } := by unfold remP; rw [if_pos hE]
    have hlen := hd.len
    have hln := hs.len
    have hwo := fun w1 l1 (r : Rk B w1 x h p.begun l1) => without_any B h.v h.l s w1 r.rest.row r.rest.ok (by omega)
    rw [hE] at hone ⊢
    rw [hP]
    clear hd hs
    go_enter Try.func19, Try.ntmps19
    go_wp2_with (first
      | (go_at_call 40; refine hone.mono ?_; rintro e w1 ⟨rfl, l1, hq, hu⟩; have c0 := hq.cells.c0; have HQ := Hid.mk' hq; have HU := Hid.mk' hu; have hwo1 := hwo _ _ hq; clear hq hu hone hwo)
      | (go_at_call 42; refine hwo1.mono ?_; rintro e w2 ⟨v', rfl, hrow, hb⟩; obtain ⟨vo, vc, rfl⟩ := own_form3 hrow; have c0' := (HQ.out.cells.upd (Upd.ofBelow hb (S := fun _ => False)) (fun h => h)).c0; have f0' := (HQ.out.cells.upd (Upd.ofBelow hb (S := fun _ => False)) (fun h => h)).f0; have HROW := Hid.mk' hrow; have HBB := Hid.mk' hb; clear hrow hb hwo1))
    go_ret
    have hsu := HU.out.size
    refine ⟨rfl, RkPost.row HQ.out HU.out HBB.out HROW.out (by omega) (fun f hf => (HQ.out.rest.ok f (mem_del hf).1).below HBB.out) (fun f hf k hk => .inl ⟨.inr (.inr ⟨f, (mem_del hf).1, hk⟩), (HQ.out.rest.off f (mem_del hf).1 k hk).2.2.1⟩) ?_ (up_del HQ.out.up) rfl rfl rfl rfl⟩
    have hv := HQ.out.view
    rw [begun_fs] at hv
    show delK PF.name s.data.toList p.fs = _
    rw [hv, map_del rl_pf]
  · have hP : remP p s.data.toList = p.begun := remP_no hE
    have hEb : (opE p s.data.toList == 0) = false := beq_eq_false_iff_ne.2 hE
    rw [hP]
    clear hd hs
    go_enter Try.func19, Try.ntmps19
    go_wp2_with (go_at_call 40; refine hone.mono ?_; rintro e w1 ⟨rfl, l1, hq, hu⟩)
    go_ret
    exact ⟨rfl, RkPost.same hq hu⟩
end Go.Proofs.Ytmfhfabfhoiegaa
