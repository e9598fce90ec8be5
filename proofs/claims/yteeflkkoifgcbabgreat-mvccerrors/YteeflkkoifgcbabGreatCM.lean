/- A store while it is compacted. -/
import Derived.Test.YteeflkkoifgcbabGreatCD
import Derived.Test.YteeflkkoifgcbabGreatGRG
namespace Go.Proofs.YteeflkkoifgcbabGreat
open Go Go.RowKit

/-- A store whose changes and whose log are being cut. -/
structure Cm (n : Nat) (w : World) (s : Nat) (S : Sto) (g : Sg) (o : Value) (fc : Int × ByteArray → Option Value) (nc : Nat) (fl : Int → Option Value) (nl : Nat) : Prop where
  blk : w.heap[s]? = some (.cells #[.int .i64 S.rev, .int .i64 S.past, ptr g.x, .map (some g.bc), .map (some g.bl), .map (some g.bt), o] 49 (0, 0))
  ix : Xd w g.x (datS S) g.Fi
  bd : Bd n (datS S)
  ch : MapF w encP g.bc fc nc
  lg : MapF w encI g.bl fl nl
  th : MapF w encB g.bt (thF S) S.nth
  ne : g.bc ≠ g.bl ∧ g.bc ≠ g.bt ∧ g.bl ≠ g.bt
  sub : ∀ r v, fl r = some v → g.lv r = some v
  rows : ∀ r v, fl r = some v → r ≤ S.rev ∧ w.ownsRow 0 9 1 v (S.lg r).length (strs (S.lg r))
  hok : ∀ k, HOk k S.rev (S.kh k)
  mem : ∀ k, k ∈ S.ks ↔ S.kh k ≠ []
  sz : ∀ k ∈ S.ks, 0 < k.size ∧ k.size ≤ 100
  past : S.past ≤ S.rev
theorem St.cm {n : Nat} {w : World} {s : Nat} {S : Sto} {g : Sg} {o : Value} (h : St n w s S g o) : Cm n w s S g o (chF S) g.nc g.lv g.nl :=
  ⟨h.blk, h.ix, h.bd, h.ch, h.lg, h.th, h.ne, fun _ _ e => e, h.rows, h.hok, h.mem, h.sz, h.past⟩
section
variable {n : Nat} {w : World} {s : Nat} {S : Sto} {g : Sg} {o : Value} {fc : Int × ByteArray → Option Value} {nc : Nat} {fl : Int → Option Value} {nl : Nat} (h : Cm n w s S g o fc nc fl nl)
include h
theorem Cm.upd {w' : World} {T : Nat → Prop} (hu : Upd w w' T) (hT : ∀ k, ftS s g k → ¬ T k) : Cm n w' s S g o fc nc fl nl :=
  ⟨(hu.block s (Array.getElem?_eq_some_iff.1 h.blk).1 (hT s (.inl rfl))).trans h.blk, h.ix.upd hu (fun k hk => hT k (.inr (.inr (.inr (.inr (.inl hk)))))), h.bd,
   h.ch.upd hu (hT _ (.inr (.inl rfl))), h.lg.upd hu (hT _ (.inr (.inr (.inl rfl)))), h.th.upd hu (hT _ (.inr (.inr (.inr (.inl rfl))))), h.ne, h.sub,
   fun r v hv => ⟨(h.rows r v hv).1, ownsRow_upd (h.rows r v hv).2 hu (fun k hk => hT k (.inr (.inr (.inr (.inr (.inr ⟨r, v, h.sub r v hv, hk⟩))))))⟩, h.hok, h.mem, h.sz, h.past⟩
theorem Cm.below {w' : World} (hb : Below w.heap.size w w') : Cm n w' s S g o fc nc fl nl := by
  refine ⟨(hb.block s (Array.getElem?_eq_some_iff.1 h.blk).1).trans h.blk, h.ix.below hb, h.bd, h.ch.below hb, h.lg.below hb, h.th.below hb, h.ne, h.sub, fun r v hv => ⟨(h.rows r v hv).1, ?_⟩, h.hok, h.mem, h.sz, h.past⟩
  exact ownsRow_upd (S := fun _ => False) (h.rows r v hv).2 (Upd.ofBelow hb) (fun _ _ e => e)
theorem Cm.cells : w.cell? ⟨s, 0, none⟩ = some (.int .i64 S.rev) ∧ w.cell? ⟨s, 1, none⟩ = some (.int .i64 S.past) ∧ w.cell? ⟨s, 2, none⟩ = some (ptr g.x) ∧ w.cell? ⟨s, 3, none⟩ = some (.map (some g.bc)) ∧ w.cell? ⟨s, 4, none⟩ = some (.map (some g.bl)) ∧ w.cell? ⟨s, 5, none⟩ = some (.map (some g.bt)) ∧ w.cell? ⟨s, 6, none⟩ = some o :=
  ⟨cell_of_row _ _ _ _ _ _ h.blk, cell_of_row _ _ _ _ _ _ h.blk, cell_of_row _ _ _ _ _ _ h.blk, cell_of_row _ _ _ _ _ _ h.blk, cell_of_row _ _ _ _ _ _ h.blk, cell_of_row _ _ _ _ _ _ h.blk, cell_of_row _ _ _ _ _ _ h.blk⟩
/-- The maps' blocks are none of the cells. -/
theorem Cm.offm {b : Nat} (hb : b = g.bc ∨ b = g.bl ∨ b = g.bt) : s ≠ b ∧ (∀ k ∈ g.Fi, k ≠ b) ∧ ∀ r v k, fl r = some v → v.ownBlock = some k → k ≠ b := by
  obtain ⟨e1, c1, L1, hc, _⟩ := h.ch
  obtain ⟨e2, c2, L2, hl, _⟩ := h.lg
  obtain ⟨e3, c3, L3, ht, _⟩ := h.th
  obtain ⟨es, cl, hm⟩ : ∃ es cl, w.heap[b]? = some (.map es cl) := by
    rcases hb with rfl | rfl | rfl
    · exact ⟨_, _, hc⟩
    · exact ⟨_, _, hl⟩
    · exact ⟨_, _, ht⟩
  refine ⟨fun e => ?_, fun k hk => (h.ix.kind k hk).ne_map hm, fun r v k hv hk e => ?_⟩
  · have := h.blk; rw [e, hm] at this; cases this
  · obtain ⟨_, cc, f, hh⟩ := ownBlock_ge (h.rows r v hv).2 hk
    rw [e, hm] at hh
    cases hh
/-- The changes are cut. -/
theorem Cm.setc {w' : World} {fc' : Int × ByteArray → Option Value} {nc' : Nat} (hm : MapF w' encP g.bc fc' nc') (hu : Upd w w' (fun k => k = g.bc)) : Cm n w' s S g o fc' nc' fl nl := by
  obtain ⟨a1, a2, a3⟩ := h.offm (b := g.bc) (.inl rfl)
  obtain ⟨n1, n2, n3⟩ := h.ne
  exact ⟨(hu.block s (Array.getElem?_eq_some_iff.1 h.blk).1 a1).trans h.blk, h.ix.upd hu a2, h.bd, hm, h.lg.upd hu n1.symm, h.th.upd hu n2.symm, h.ne, h.sub,
    fun r v hv => ⟨(h.rows r v hv).1, ownsRow_upd (h.rows r v hv).2 hu (fun k hk => a3 r v k hv hk)⟩, h.hok, h.mem, h.sz, h.past⟩
/-- The log is cut. -/
theorem Cm.setl {w' : World} {fl' : Int → Option Value} {nl' : Nat} (hm : MapF w' encI g.bl fl' nl') (hs : ∀ r v, fl' r = some v → fl r = some v) (hu : Upd w w' (fun k => k = g.bl)) : Cm n w' s S g o fc nc fl' nl' := by
  obtain ⟨a1, a2, a3⟩ := h.offm (b := g.bl) (.inr (.inl rfl))
  obtain ⟨n1, n2, n3⟩ := h.ne
  exact ⟨(hu.block s (Array.getElem?_eq_some_iff.1 h.blk).1 a1).trans h.blk, h.ix.upd hu a2, h.bd, h.ch.upd hu n1, hm, h.th.upd hu n3.symm, h.ne, fun r v hv => h.sub r v (hs r v hv),
    fun r v hv => ⟨(h.rows r v (hs r v hv)).1, ownsRow_upd (h.rows r v (hs r v hv)).2 hu (fun k hk => a3 r v k (hs r v hv) hk)⟩, h.hok, h.mem, h.sz, h.past⟩
end
theorem clookD {n : Nat} {w : World} {s : Nat} {S : Sto} {g : Sg} {o : Value} {fc : Int × ByteArray → Option Value} {nc : Nat} {fl : Int → Option Value} {nl : Nat} (h : Cm n w s S g o fc nc fl nl) (key : ByteArray) : (lookD (datS S) key).getD [] = (S.kh key).map markOf ∧ ((lookD (datS S) key) = none ↔ S.kh key = []) := by
  unfold datS
  rw [look_ks (fun k => (S.kh k).map markOf)]
  by_cases hm : key ∈ S.ks
  · rw [if_pos (hasK_iff.2 hm)]
    have := (h.mem key).1 hm
    simp [this]
  · have h0 : S.kh key = [] := Classical.byContradiction fun hn => hm ((h.mem key).2 hn)
    have : ¬ hasK S.ks key = true := fun e => hm (hasK_iff.1 e)
    rw [if_neg this, h0]
    simp
theorem chlen_le {n : Nat} {w : World} {s : Nat} {S : Sto} {g : Sg} {o : Value} {fc : Int × ByteArray → Option Value} {nc : Nat} {fl : Int → Option Value} {nl : Nat} (h : Cm n w s S g o fc nc fl nl) (key : ByteArray) : (S.kh key).length ≤ n := by
  by_cases hm : key ∈ S.ks
  · have := (h.bd.ms (key, (S.kh key).map markOf) (List.mem_map.2 ⟨key, hm, rfl⟩)).1
    simpa using this
  · have h0 : S.kh key = [] := Classical.byContradiction fun hn => hm ((h.mem key).2 hn)
    rw [h0]; simp
set_option maxRecDepth 100000 in
set_option maxHeartbeats 400000 in
/-- lastPut at the present. -/
theorem clast_now {n : Nat} {w : World} {s : Nat} {S : Sto} {g : Sg} {o : Value} {fc : Int × ByteArray → Option Value} {nc : Nat} {fl : Int → Option Value} {nl : Nat} (h : Cm n w s S g o fc nc fl nl) (key : ByteArray) : Calls Tryz.prog 36 #[ptr s, .string key, .int .i64 S.rev] w fun e w' => e = .returned (.int .i64 (modOf (thereH (S.kh key)))) ∧ Below w.heap.size w w' := by
  have hb : Below w.heap.size w (w.alloc (.cells #[.int .i64 S.rev] 3)) := (Below.refl _ w).alloc (Nat.le_refl _) _
  have h1 := h.below hb
  have hbd : ∀ q, Below w.heap.size w ((w.alloc (.cells #[.int .i64 S.rev] 3)).drewN q) := fun q => by
    induction q with
    | zero => exact hb
    | succ q ih => exact ih.drew
  obtain ⟨c0, -, -, -, -, c5, -⟩ := h1.cells
  have hl : ∀ q, (Instr.lookup 47 (.map (some g.bt)) (.string key) false).run Tryz.prog ((w.alloc (.cells #[.int .i64 S.rev] 3)).drewN q) = .ok (.int .i64 (modOf (thereH (S.kh key)))) ((w.alloc (.cells #[.int .i64 S.rev] 3)).drewN q) := fun q => by
    rw [← thF_get]
    exact (h.below (hbd q)).th.look law65 Tryz.underlying47 (zero3 _) key false
  have HBD : ∀ q, Hid (Below w.heap.size w ((w.alloc (.cells #[.int .i64 S.rev] 3)).drewN q)) := fun q => hbd q
  clear h h1 hb hbd
  go_enter Tryz.func36, Tryz.ntmps36
  go_wp2
  go_quiet (fail)
  go_wp2
  go_ret
  exact ⟨rfl, (HBD _).out⟩
set_option maxRecDepth 100000 in
set_option maxHeartbeats 1000000 in
theorem clast_past {n : Nat} {w : World} {s : Nat} {S : Sto} {g : Sg} {o : Value} {fc : Int × ByteArray → Option Value} {nc : Nat} {fl : Int → Option Value} {nl : Nat} (h : Cm n w s S g o fc nc fl nl) (hn : n ≤ 1000000) (key : ByteArray) (rev : Int) (hne : rev ≠ S.rev) : Calls Tryz.prog 36 #[ptr s, .string key, .int .i64 rev] w fun e w' => e = .returned (.int .i64 (modOf (atH (S.kh key) rev))) ∧ Below w.heap.size w w' := by
  have hb0 : Below w.heap.size w (w.alloc (.cells #[.int .i64 rev] 3)) := (Below.refl _ w).alloc (Nat.le_refl _) _
  have r0 := row_alloc w #[.int .i64 rev] 3
  generalize hV : w.alloc (.cells #[.int .i64 rev] 3) = V at *
  have hVs : V.heap.size = w.heap.size + 1 := by rw [← hV]; simp
  have hbd : ∀ q, Below w.heap.size w (V.drewN q) := fun q => below_drewQ hb0 q
  have hhl := chlen_le h key
  have HMK : Hid (∀ W, Below w.heap.size w W → Calls Tryz.prog 37 #[ptr g.x, .string key] W fun e w' => ∃ v, e = .returned v ∧ MarksPost W w' v ((S.kh key).map markOf)) := fun W hb => by
    have := marks_xd (h.below hb).ix (h.below hb).bd hn key
    rw [(clookD h key).1] at this
    exact this
  have HC : Hid (∀ W, Below w.heap.size w W → W.cell? ⟨s, 0, none⟩ = some (.int .i64 S.rev) ∧ W.cell? ⟨s, 2, none⟩ = some (ptr g.x)) := fun W hb => ⟨(h.below hb).cells.1, (h.below hb).cells.2.2.1⟩
  have hasc := (h.hok key).asc
  have HKV : Hid (∀ r v, (r, some v) ∈ S.kh key → v.mod = r) := fun r v hm => ((h.hok key).kv r v hm).2.1
  obtain ⟨c0, c2⟩ := HC.out V hb0
  have k0 : V.cell? ⟨w.heap.size, 0, none⟩ = some (.int .i64 rev) := cell_of_row _ _ _ _ _ _ r0
  have hneb : (rev == (S.rev : Int)) = false := by rw [beq_eq_false_iff_ne]; exact hne
  generalize S.kh key = hs at *
  have HA := Hid.mk'' hasc
  have HBD := Hid.mk'' hbd
  have HR0 := Hid.mk'' r0
  clear h hasc hne hbd r0
  go_enter Tryz.func36, Tryz.ntmps36
  go_wp2
  go_quiet (fail)
  have hmk := HMK.out _ (HBD.out nq)
  have c2q := (HC.out _ (HBD.out nq)).2
  go_upto_region 4 with (go_at_call 37; refine hmk.mono ?_; rintro e w3 ⟨v, rfl, hP⟩; obtain ⟨⟨p, c, rfl, -⟩, hM, hb3⟩ := hP)
  obtain ⟨w4, hw4⟩ : ∃ w4, w4 = w3.alloc (.cells #[.slice p hs.length c] 87) := ⟨_, rfl⟩
  rw [← hw4]
  obtain ⟨a, ha⟩ : ∃ a, a = w3.heap.size := ⟨_, rfl⟩
  rw [← ha]
  obtain ⟨q, hq⟩ : ∃ q, q = w.heap.size := ⟨_, rfl⟩
  rw [← hq]
  have hB3 : Below w.heap.size w w3 := (HBD.out nq).trans (hb3.mono (HBD.out nq).size)
  have b34 : Below w3.heap.size w3 w4 := by rw [hw4]; exact (Below.refl _ _).alloc (Nat.le_refl _) _
  have hB4 : Below w.heap.size w w4 := hB3.trans (b34.mono hB3.size)
  have ka : w4.cell? ⟨a, 0, none⟩ = some (.slice p hs.length c) := by rw [hw4, ha]; exact cell_of_row _ _ _ _ _ _ (row_alloc w3 _ _)
  have kq : w4.cell? ⟨q, 0, none⟩ = some (.int .i64 rev) := by
    have h1 : (V.drewN nq).heap[w.heap.size]? = V.heap[w.heap.size]? := (below_drewQ (Below.refl V.heap.size V) nq).block w.heap.size (by omega)
    have h2 := (hb3.block w.heap.size (by have := (below_drewQ (Below.refl V.heap.size V) nq).size; omega)).trans (h1.trans HR0.out)
    have h3 := (b34.block w.heap.size (Array.getElem?_eq_some_iff.1 h2).1).trans h2
    rw [hq]
    exact cell_of_row _ _ _ _ _ _ h3
  have HB4 := Hid.mk'' hB4
  have HQL : Hid (q = w.heap.size) := hq
  have hlen2 : (hs.map markOf).length = hs.length := List.length_map _
  have HMS : Hid (Mks w4 (.slice p (hs.map markOf).length c) (hs.map markOf)) := ownsRow_upd hM (Upd.ofBelow (S := fun _ => False) b34) (fun _ _ h => h)
  clear hw4 ha hq hM hb3 hB3 b34 hB4 hmk c2q HMK HC c0 c2 k0 hneb HR0 hV hb0 hVs
  by_cases hnil : hs = []
  · subst hnil
    have hsr := ssearch_zero (.func (.func 55) #[] #[.pointer (some ⟨a, 0, none⟩), .pointer (some ⟨q, 0, none⟩)]) w4
    go_wp2_with (go_at_call 54; refine hsr.mono ?_; rintro e w' ⟨rfl, hw'⟩; obtain rfl := hw'.symm)
    go_ret
    exact ⟨rfl, HB4.out⟩
  · obtain ⟨gk, ck, hv, -, -⟩ := owns_form1 HMS.out (by rw [hlen2]; exact List.length_pos_iff.2 hnil)
    have hpk : p = some ⟨gk, 0, none⟩ := by cases hv; rfl
    subst hpk
    have hat : MksAt w4 gk (hs.map markOf) := fun j m hj => HMS.out.cell hj
    have hsr := ssearch_any a q gk c (hs.map markOf) rev w4 (by rw [hlen2]; exact ka) kq hat (marks_asc HA.out) (by omega)
    rw [hlen2] at hsr
    have HAT := Hid.mk'' hat
    clear hat hv
    cases hc : tlen (hs.map markOf) rev with
    | zero =>
      have HE := Hid.mk'' (atH_zero HA.out hc)
      rw [hc] at hsr
      clear hc
      go_wp2_with (go_at_call 54; refine hsr.mono ?_; rintro e w5 ⟨rfl, hb5⟩)
      go_ret
      exact ⟨by rw [HE.out]; rfl, HB4.out.trans (hb5.mono HB4.out.size)⟩
    | succ cn =>
      obtain ⟨pe, hpe, hme, hate⟩ := atH_pos HA.out hc
      have hcl := tlen_le (hs.map markOf) rev
      rw [hc] at hsr hcl
      rw [hlen2] at hcl
      have HPE : Hid (pe ∈ hs) := List.mem_of_getElem? hpe
      have HE := Hid.mk'' hate
      have HME := Hid.mk'' hme
      have hx : IntKind.i64.wrap (((cn + 1 : Nat) : Int) - 1) = (cn : Int) := by rw [IntKind.wrap_i64]; omega
      clear hc hpe hme hate
      go_upto_region 5 with (go_at_call 54; refine hsr.mono ?_; rintro e w5 ⟨rfl, hb5⟩)
      obtain ⟨x1, x2⟩ := (HAT.out.below hb5) cn (markOf pe) HME.out
      have ka5 := (hb5.cell (p := ⟨a, 0, none⟩) (World.block_lt_of_cell? _ _ ka)).trans ka
      have HB5 : Hid (Below w.heap.size w w5) := HB4.out.trans (hb5.mono HB4.out.size)
      obtain ⟨pr, po⟩ := pe
      dsimp only [markOf] at x1 x2
      clear hsr hb5 ka kq HMS HAT HME
      cases po with
      | none =>
        dsimp only [Option.isNone_none] at x2
        go_wp2
        go_ret
        exact ⟨by rw [HE.out]; rfl, HB5.out⟩
      | some v =>
        dsimp only [Option.isNone_some] at x2
        go_wp2
        go_ret
        refine ⟨?_, HB5.out⟩
        rw [HE.out]
        show Ending.returned (.int .i64 pr) = .returned (.int .i64 v.mod)
        rw [HKV.out pr v HPE.out]
/-- lastPut at any revision that is not ahead. -/
theorem clast {n : Nat} {w : World} {s : Nat} {S : Sto} {g : Sg} {o : Value} {fc : Int × ByteArray → Option Value} {nc : Nat} {fl : Int → Option Value} {nl : Nat} (h : Cm n w s S g o fc nc fl nl) (hn : n ≤ 1000000) (key : ByteArray) (rev : Int) : Calls Tryz.prog 36 #[ptr s, .string key, .int .i64 rev] w fun e w' => e = .returned (.int .i64 (modOf (atH (S.kh key) rev))) ∧ Below w.heap.size w w' := by
  by_cases hr : rev = S.rev
  · subst hr
    rw [atH_all (fun p hp => ((h.hok key).pos p hp).2)]
    exact clast_now h key
  · exact clast_past h hn key rev hr
end Go.Proofs.YteeflkkoifgcbabGreat
