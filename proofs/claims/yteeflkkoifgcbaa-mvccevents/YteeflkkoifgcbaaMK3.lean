/- Done; Write; New. -/
import Derived.Test.YteeflkkoifgcbaaMK2
namespace Go.Proofs.Yteeflkkoifgcbaa
open Go Go.RowKit

/-- Another open write, or none. -/
theorem St.setOpen {n : Nat} {w : World} {s : Nat} {S : Sto} {g : Sg} {o : Value} (h : St n w s S g o) (o' : Value) : St n (w.setCell ⟨s, 6, none⟩ o') s S g o' ∧ Upd w (w.setCell ⟨s, 6, none⟩ o') (fun k => k = s) := by
  have hu : Upd w (w.setCell ⟨s, 6, none⟩ o') (fun k => k = s) := (Upd.refl w (fun k => k = s)).setCell (p := ⟨s, 6, none⟩) (.inr rfl) _
  have hrs : ∀ r v k, g.lv r = some v → v.ownBlock = some k → k ≠ s := fun r v k hv hk e => by
    obtain ⟨_, cc, f, hh⟩ := ownBlock_ge (h.rows r v hv).2 hk
    have := h.blk
    rw [← e, hh] at this
    cases this
  refine ⟨⟨heap_setCell_row h.blk _, h.ix.upd hu (fun k hk e => h.off.1 (e ▸ hk)), h.bd, h.ch.upd hu (h.offm (b := g.bc) (.inl rfl)).1.symm, h.lg.upd hu (h.offm (b := g.bl) (.inr (.inl rfl))).1.symm, h.th.upd hu (h.offm (b := g.bt) (.inr (.inr rfl))).1.symm, h.ne, fun r v hv => ⟨(h.rows r v hv).1, ownsRow_upd (h.rows r v hv).2 hu (fun k hk => hrs r v k hv hk)⟩, h.hok, h.mem, h.sz, h.past⟩, hu⟩
/-- What Done leaves. -/
def DoneP (w w' : World) (s b : Nat) (g : Sg) (h : Wg) (g' : Sg) : Prop := Upd w w' (fun k => ftS s g k ∨ ftW b h k) ∧ ∀ k, ftS s g' k → (ftS s g k ∨ ftW b h k) ∨ w.heap.size ≤ k
/-- The log's rows behind a Done. -/
def doneLv (S : Sto) (W : Wri) (g : Sg) (h : Wg) : Int → Option Value := if W.keys = [] then g.lv else setF g.lv ((S.rev : Int) + 1) h.v
set_option maxRecDepth 100000 in
set_option maxHeartbeats 2000000 in
theorem done_lg {n : Nat} {w : World} {s b : Nat} {S : Sto} {W : Wri} {g : Sg} {h : Wg} (H : Ow n w s b S W g h) (hw : Wok S W) (hn : n + W.keys.length ≤ 900000) (hr : S.rev ≤ 999998) :
    Calls Try.prog 12 #[ptr b] w fun e w' => e = .returned (.int .i64 (doneS S W).rev) ∧ ∃ g', St (n + W.keys.length) w' s (doneS S W) g' (.pointer none) ∧ DoneP w w' s b g h g' ∧ g'.lv = doneLv S W g h := by
  have hopen := open_st H
  obtain ⟨c0, -⟩ := H.wr.cells
  have hbs : b ≠ s := fun e => H.ap s (.inl rfl) (.inl e.symm)
  have HT : Hid (∃ Q : World → Prop, Calls Try.prog 28 #[ptr s, ptr b] w (fun e w' => e = .returned (.tuple #[]) ∧ Q w') ∧ ∀ w', Q w' → ∃ g', St (n + W.keys.length) w' s (doneS S W) g' (ptr b) ∧ DoneP w w' s b g h g' ∧ w'.cell? ⟨b, 0, none⟩ = some (ptr s) ∧ g'.lv = doneLv S W g h) := by
    by_cases hk : W.keys = []
    · refine ⟨fun w' => w' = w, take_none H hk, fun w' e => ?_⟩
      subst e
      have e1 : doneS S W = S := if_pos hk
      rw [e1, hk]
      exact ⟨g, H.st, ⟨Upd.refl _ _, fun k hf => .inl (.inl hf)⟩, c0, (if_pos hk).symm⟩
    · refine ⟨_, take_st H hw hk hn hr, ?_⟩
      rintro w' ⟨g', q1, q2, q3, q4⟩
      have e1 : doneS S W = takeS S W W.keys.length := if_neg hk
      rw [e1]
      refine ⟨g', q1, ⟨q2.mono (fun k _ hf => hf.imp id (fun h1 => .inr (.inr h1))), fun k hf => (q3 k hf).imp (fun h1 => h1.imp id (fun h2 => .inr (.inr h2))) id⟩, ?_, q4.trans (if_neg hk).symm⟩
      have hb := q2.block b (H.wr.lt (.inl rfl)) (fun hf => hf.elim (fun h1 => H.ap b h1 (.inl rfl)) (fun h1 => (H.wr.apart.1 b h1).1 rfl))
      exact cell_of_row _ _ _ _ _ _ (hb.trans H.wr.blk)
  obtain ⟨Q, hcall, hQ⟩ := HT.out
  have HQ := Hid.mk'' hQ
  have hsl := H.st.lt (.inl rfl)
  clear H hw HT hQ
  go_enter Try.func12, Try.ntmps12
  go_upto_region 5 with (first | (go_at_call 21; refine hopen.mono ?_; rintro e w' ⟨rfl, hw'⟩; obtain rfl := hw'.symm) | (go_at_call 28; refine hcall.mono ?_; rintro e w3 ⟨rfl, HN⟩))
  obtain ⟨g', q1, q2, k0, k9⟩ := HQ.out _ HN
  have HLV := Hid.mk'' k9
  have hso := q1.setOpen (.pointer none)
  obtain ⟨d0, -, -, -, -, -, d6⟩ := q1.cells
  have f6 := frozen_of_row w3 s 6 _ _ q1.blk
  have HFIN : Hid (St (n + W.keys.length) (w3.setCell ⟨s, 6, none⟩ (.pointer none)) s (doneS S W) g' (.pointer none) ∧ DoneP w (w3.setCell ⟨s, 6, none⟩ (.pointer none)) s b g h g') := ⟨hso.1, q2.1.trans (hso.2.mono (T := fun k => ftS s g k ∨ ftW b h k) (fun k _ hk => .inl (.inl hk))) (fun j _ hg => hg), q2.2⟩
  have e0 : (w3.setCell ⟨s, 6, none⟩ (.pointer none)).cell? ⟨s, 0, none⟩ = some (.int .i64 (doneS S W).rev) := hso.1.cells.1
  clear q1 q2 hso HQ HN hcall hopen k9
  go_wp2
  go_ret
  exact ⟨rfl, g', HFIN.out.1, HFIN.out.2, HLV.out⟩
theorem done_st {n : Nat} {w : World} {s b : Nat} {S : Sto} {W : Wri} {g : Sg} {h : Wg} (H : Ow n w s b S W g h) (hw : Wok S W) (hn : n + W.keys.length ≤ 900000) (hr : S.rev ≤ 999998) :
    Calls Try.prog 12 #[ptr b] w fun e w' => e = .returned (.int .i64 (doneS S W).rev) ∧ ∃ g', St (n + W.keys.length) w' s (doneS S W) g' (.pointer none) ∧ DoneP w w' s b g h g' :=
  (done_lg H hw hn hr).mono fun _ _ ⟨he, g', h1, h2, _⟩ => ⟨he, g', h1, h2⟩
def noW (n : Int) : Wri := ⟨[], fun _ => none, n⟩
set_option maxRecDepth 100000 in
set_option maxHeartbeats 2000000 in
theorem write_st {n : Nat} {w : World} {s : Nat} {S : Sto} {g : Sg} {o : Value} (h : St n w s S g o) : Calls Try.prog 9 #[ptr s] w fun e w' => e = .returned (ptr (w.heap.size + 1)) ∧ Ow n w' s (w.heap.size + 1) S (noW S.nth) g ⟨w.heap.size, .slice none 0 0, 0⟩ ∧ Upd w w' (fun k => k = s) := by
  have hmm := @run_makeMap Try.prog
  have hb1 : Below w.heap.size w (w.alloc (.map #[] 0)) := (Below.refl _ w).alloc (Nat.le_refl _) _
  have hlen : ∀ ty, (Builtin.len_ #[62] ty #[.map (some g.bt)]).run Try.prog (w.alloc (.map #[] 0)) = .ok (.int .i64 S.nth) (w.alloc (.map #[] 0)) := fun ty => (h.below hb1).th.len Try.underlying62 ty
  obtain ⟨-, -, c2, -, -, c5, c6⟩ := h.cells
  obtain ⟨-, -, -, -, -, d5, -⟩ := (h.below hb1).cells
  have hsl := h.lt (.inl rfl)
  obtain ⟨w1, hw1⟩ : ∃ w1, w1 = w.setCell ⟨s, 6, none⟩ (ptr (w.heap.size + 1)) := ⟨_, rfl⟩
  have hso := h.setOpen (ptr (w.heap.size + 1))
  rw [← hw1] at hso
  have hz1 : w1.heap.size = w.heap.size := by rw [hw1]; simp
  obtain ⟨w2, hw2⟩ : ∃ w2, w2 = (w1.alloc (.map #[] 0)).alloc (.cells #[ptr s, .slice none 0 0, .map (some w.heap.size), .int .i64 S.nth] 68) := ⟨_, rfl⟩
  have hb2 : Below w1.heap.size w1 w2 := by rw [hw2]; exact ((Below.refl _ w1).alloc (Nat.le_refl _) _).alloc (by simp) _
  have h2 := hso.1.below hb2
  have rb : w2.heap[w.heap.size + 1]? = some (.cells #[ptr s, .slice none 0 0, .map (some w.heap.size), .int .i64 S.nth] 68 (0, 0)) := by
    rw [hw2, ← hz1]
    have := row_alloc (w1.alloc (.map #[] 0)) #[ptr s, .slice none 0 0, .map (some w1.heap.size), .int .i64 S.nth] 68
    simpa using this
  have hm : MapF w2 encB w.heap.size (fun _ => none) 0 := by rw [hw2, ← hz1]; exact (MapF.made w1 encB).below ((Below.refl _ _).alloc (Nat.le_refl _) _)
  have HFIN : Hid (Ow n w2 s (w.heap.size + 1) S (noW S.nth) g ⟨w.heap.size, .slice none 0 0, 0⟩ ∧ Upd w w2 (fun k => k = s)) := by
    refine ⟨⟨h2, ⟨rb, hm.congr (fun k => rfl), World.ownsRow_nil _ _ _ _, fun k => by simp [noW], List.nodup_nil⟩, ?_⟩, hso.2.trans (Upd.ofBelow hb2) (fun j _ hg => hg)⟩
    rintro k hf (e | e | e)
    · have := h.lt hf; omega
    · have := h.lt hf; dsimp only at e; omega
    · cases e
  obtain ⟨-, -, -, -, -, -, k6⟩ := h2.cells
  have f6 := frozen_of_row w s 6 _ _ h.blk
  clear h hso h2 hm rb hb2
  go_enter Try.func9, Try.ntmps9
  go_upto_region 4 with fail
  have hpp : Value.pointer (some ⟨w.heap.size + 1, 0, none⟩) = ptr (w.heap.size + 1) := rfl
  rw [hpp, ← hw1, ← hw2]
  clear hpp hw1 hw2 hz1 hb1 hlen c2 c5 c6 d5 f6 hmm
  go_wp2
  go_ret
  exact ⟨rfl, HFIN.out⟩
def noS : Sto := ⟨0, 0, [], fun _ => [], fun _ => [], 0⟩
set_option maxRecDepth 100000 in
set_option maxHeartbeats 2000000 in
theorem new_st (w : World) : Calls Try.prog 7 #[] w fun e w' => ∃ s g, e = .returned (ptr s) ∧ St 0 w' s noS g (.pointer none) ∧ Below w.heap.size w w' ∧ ∀ k, ftS s g k → w.heap.size ≤ k := by
  have hmm := @run_makeMap Try.prog
  have hx := new_xd w
  go_enter Try.func7, Try.ntmps7
  go_wp2_with (go_at_call 20; refine hx.mono ?_; rintro e w1 ⟨rfl, hx1, hb1, hs1⟩)
  go_ret
  obtain ⟨m1, hm1⟩ : ∃ m1, m1 = w1.alloc (.map #[] 0) := ⟨_, rfl⟩
  obtain ⟨m2, hm2⟩ : ∃ m2, m2 = m1.alloc (.map #[] 0) := ⟨_, rfl⟩
  obtain ⟨m3, hm3⟩ : ∃ m3, m3 = m2.alloc (.map #[] 0) := ⟨_, rfl⟩
  obtain ⟨m4, hm4⟩ : ∃ m4, m4 = m3.alloc (.cells #[.int .i64 0, .int .i64 0, ptr w.heap.size, .map (some (w.heap.size + 1)), .map (some (w.heap.size + 1 + 1)), .map (some (w.heap.size + 1 + 1 + 1)), .pointer none] 64) := ⟨_, rfl⟩
  rw [← hm1, ← hm2, ← hm3, ← hm4]
  have z1 : m1.heap.size = w.heap.size + 2 := by rw [hm1]; simp; omega
  have z2 : m2.heap.size = w.heap.size + 3 := by rw [hm2]; simp; omega
  have z3 : m3.heap.size = w.heap.size + 4 := by rw [hm3]; simp; omega
  have b1 : Below w1.heap.size w1 m1 := by rw [hm1]; exact (Below.refl _ _).alloc (Nat.le_refl _) _
  have b2 : Below m1.heap.size m1 m2 := by rw [hm2]; exact (Below.refl _ _).alloc (Nat.le_refl _) _
  have b3 : Below m2.heap.size m2 m3 := by rw [hm3]; exact (Below.refl _ _).alloc (Nat.le_refl _) _
  have b4 : Below m3.heap.size m3 m4 := by rw [hm4]; exact (Below.refl _ _).alloc (Nat.le_refl _) _
  have b34 := b3.trans (b4.mono b3.size)
  have b24 := b2.trans (b34.mono b2.size)
  have b14 := b1.trans (b24.mono b1.size)
  have f1 : MapF m1 encP w1.heap.size (fun _ => none) 0 := by rw [hm1]; exact MapF.made w1 encP
  have f2 : MapF m2 encI m1.heap.size (fun _ => none) 0 := by rw [hm2]; exact MapF.made m1 encI
  have f3 : MapF m3 encB m2.heap.size (fun _ => none) 0 := by rw [hm3]; exact MapF.made m2 encB
  have r4 : m4.heap[m3.heap.size]? = some (.cells #[.int .i64 0, .int .i64 0, ptr w.heap.size, .map (some (w.heap.size + 1)), .map (some (w.heap.size + 1 + 1)), .map (some (w.heap.size + 1 + 1 + 1)), .pointer none] 64 (0, 0)) := by rw [hm4]; exact row_alloc m3 _ _
  rw [hs1] at f1
  rw [z1] at f2
  rw [z2] at f3
  rw [z3] at r4
  refine ⟨w.heap.size + 4, ⟨w.heap.size, w.heap.size + 1, w.heap.size + 2, w.heap.size + 3, [w.heap.size], fun _ => none, 0, 0⟩, rfl, ⟨r4, hx1.below b14, Bd.nil, (f1.below b24).congr (fun _ => rfl), (f2.below b34).congr (fun _ => rfl), (f3.below b4).congr (fun _ => rfl), by dsimp only; omega, fun r v hv => (by cases hv), fun k => HOk.nil k _, fun k => (by simp [noS]), fun k hk => (by cases hk), Nat.le_refl _⟩, hb1.trans (b14.mono (by omega)), ?_⟩
  rintro k (rfl | rfl | rfl | rfl | hk | ⟨r, v, hv, _⟩)
  · omega
  · dsimp only; omega
  · dsimp only; omega
  · dsimp only; omega
  · have : k = w.heap.size := by simpa using hk
    omega
  · cases hv
end Go.Proofs.Yteeflkkoifgcbaa
