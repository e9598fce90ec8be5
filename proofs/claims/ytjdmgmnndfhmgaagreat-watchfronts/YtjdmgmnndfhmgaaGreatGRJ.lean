/- Put of a write, where it is done. -/
import Derived.Test.YtjdmgmnndfhmgaaGreatGRI
import Derived.Test.YtjdmgmnndfhmgaaGreatGRG
import Derived.Test.YtjdmgmnndfhmgaaGreatGRF
namespace Go.Proofs.YtjdmgmnndfhmgaaGreat
open Go Go.RowKit

theorem Ow.step {n : Nat} {w w' : World} {s b : Nat} {S : Sto} {W W' : Wri} {g : Sg} {h h' : Wg} (H : Ow n w s b S W g h) (H' : Wm w' b s W' h') (K : KpW w w' b h h') : Ow n w' s b S W' g h' :=
  ⟨H.st.upd K.1 H.ap, H', fun k hk hw => (K.2 k hw).elim (H.ap k hk) (fun hge => absurd (H.st.lt hk) (by omega))⟩
theorem KpW.trans {w w1 w2 : World} {b : Nat} {h h1 h2 : Wg} (K : KpW w w1 b h h1) (K' : KpW w1 w2 b h1 h2) : KpW w w2 b h h2 :=
  ⟨K.1.trans K'.1 (fun j hj hg => (K.2 j hg).resolve_right (by omega)), fun k hk => (K'.2 k hk).elim (K.2 k) (fun hge => .inr (Nat.le_trans K.1.size hge))⟩
/-- The count of a write is turned. -/
theorem Wm.setCount {w : World} {s b : Nat} {W : Wri} {h : Wg} (H : Wm w b s W h) (c : Int) : Wm (w.setCell ⟨b, 3, none⟩ (.int .i64 c)) b s { W with count := c } h ∧ KpW w (w.setCell ⟨b, 3, none⟩ (.int .i64 c)) b h h := by
  have hu : Upd w (w.setCell ⟨b, 3, none⟩ (.int .i64 c)) (fun k => k = b) := (Upd.refl w (fun k => k = b)).setCell (p := ⟨b, 3, none⟩) (.inr rfl) _
  exact ⟨⟨heap_setCell_row H.blk _, H.mp.upd hu (fun e => H.apart.2 e.symm), ownsRow_upd H.row hu (fun k hk => (H.apart.1 k hk).1), H.cov, H.nd⟩, hu.mono (fun k _ hk => .inl hk), fun _ hk => .inl hk⟩
section
variable {n : Nat} {w : World} {s b : Nat} {S : Sto} {W : Wri} {g : Sg} {h : Wg} (H : Ow n w s b S W g h) (key value : ByteArray) (lease : Int) (hk : 0 < key.size ∧ key.size ≤ 100) (hv : ¬ 4096 < value.size) (hl : ¬ lease < 0) (hc : W.ch key = none) (hn : W.keys.length ≤ 100000) (hr : S.rev ≤ 1000000)
include H hk hv hl hc hn hr
set_option maxRecDepth 100000 in
set_option maxHeartbeats 1000000 in
theorem wput_there {kv : KVd} (ht : thereH (S.kh key) = some kv) (hve : 0 ≤ kv.version ∧ kv.version ≤ 1000000) : Calls Tryz.prog 15 #[ptr b, .string key, .string value, .int .i64 lease] w fun e w' => e = .returned (.int .i64 0) ∧ ∃ h', Ow n w' s b S (W.note key (some ⟨key, value, kv.create, (S.rev : Int) + 1, kv.version + 1, lease⟩)) g h' ∧ KpW w w' b h h' := by
  obtain ⟨kk, kvv, kcr, kmo, kve, kle⟩ := kv
  dsimp only at hve ⊢
  have ho := open_st H
  have hi := iskey_any key w (by omega)
  obtain ⟨-, -, c2, -⟩ := H.wr.cells
  have hlk : (Instr.lookup 78 (.map (some h.bw)) (.string key) false).run Tryz.prog w = .ok ((wcF W key).getD .nilIface) w := H.wr.mp.look law65 Tryz.underlying78 (zero71 _) key false
  have e2 : wcF W key = none := by unfold wcF; rw [hc]; rfl
  rw [e2] at hlk
  dsimp only [Option.getD_none] at hlk
  have hlo := look_st H key
  have e3 : lookW S W key = some ⟨kk, kvv, kcr, kmo, kve, kle⟩ := by unfold lookW; rw [hc]; exact ht
  rw [e3] at hlo
  dsimp only [Option.getD_some, Option.getD_none, noKV, encKV, Option.isSome_some, Option.isSome_none] at hlo
  have HH := Hid.mk'' H
  clear e2 e3 H
  rw [decide_eq_true hk] at hi
  go_enter Tryz.func15, Tryz.ntmps15
  go_upto_region 15 with (first | (go_at_call 36; refine ho.mono ?_; rintro e w' ⟨rfl, hw'⟩; obtain rfl := hw'.symm) | (go_at_call 42; refine hi.mono ?_; rintro e w' ⟨rfl, hw'⟩; obtain rfl := hw'.symm) | (go_at_call 43; refine hlo.mono ?_; rintro e w3 ⟨rfl, hb3⟩))
  clear hlk c2 hi ho hlo ht
  obtain ⟨wa, hwa⟩ : ∃ wa, wa = w3.alloc (.cells #[.string kk, .string kvv, .int .i64 kcr, .int .i64 kmo, .int .i64 kve, .int .i64 kle] 61) := ⟨_, rfl⟩
  rw [← hwa]
  have hba : Below w.heap.size w wa := by rw [hwa]; exact hb3.alloc hb3.size _
  obtain ⟨bx, hbx⟩ : ∃ bx, bx = w3.heap.size := ⟨_, rfl⟩
  rw [← hbx]
  have HBX : Hid (wa.heap[bx]? = some (.cells #[.string kk, .string kvv, .int .i64 kcr, .int .i64 kmo, .int .i64 kve, .int .i64 kle] 61 (0, 0))) := by rw [hwa, hbx]; exact row_alloc w3 _ _
  have HO : Hid ((w.heap.size ≤ bx ∧ ∀ k, ftW b h k → k < w.heap.size) ∧ KpW w wa b h h ∧ Ow n wa s b S W g h) := ⟨⟨by rw [hbx]; exact hb3.size, fun k hk => HH.out.wr.lt hk⟩, KpW.same hba, HH.out.below hba⟩
  clear hwa hbx hba hb3 HH
  have hlt : ∀ k, ftW b h k → k < w.heap.size := fun k hk => HO.out.1.2 k hk
  have hc1 := clone_all key (by omega)
  have hc2 := clone_all value (by omega)
  go_upto_region 16 with (first | (go_at_call 45; refine (hc1 wa).mono ?_; rintro e w7 ⟨rfl, hb7⟩) | (go_at_call 45; refine (hc2 w7).mono ?_; rintro e w8 ⟨rfl, hb8⟩))
  have hb9 : Below wa.heap.size wa w8.drew := (hb7.trans (hb8.mono hb7.size)).drew
  have HO8 := Hid.mk'' (HO.out.2.2.below hb9)
  have hrev := wrev_st HO8.out hr
  have hnote := note_st HO8.out.wr key (some ⟨key, value, kcr, (S.rev : Int) + 1, kve + 1, lease⟩) (fun hm => by have := (HO8.out.wr.cov key).2 hm; exact this hc) hn
  dsimp only [encC, encKV] at hnote
  have r8 := (hb9.block bx (by have := (Array.getElem?_eq_some_iff.1 HBX.out).1; omega)).trans HBX.out
  obtain ⟨⟨-, -, x2, -, x4, -⟩, -⟩ := box6 r8
  have hS8 : w8.drew.cell? ⟨bx, 2, none⟩ = some (.int .i64 (kcr)) ∧ w8.drew.cell? ⟨bx, 4, none⟩ = some (.int .i64 (kve)) := ⟨x2, x4⟩
  have HS9 : Hid (∀ w9, Upd w8.drew w9 (ftW b h) → w9.cell? ⟨bx, 2, none⟩ = some (.int .i64 (kcr)) ∧ w9.cell? ⟨bx, 4, none⟩ = some (.int .i64 (kve))) := fun w9 hu => by
    have hbl : bx < w8.drew.heap.size := (Array.getElem?_eq_some_iff.1 r8).1
    have hno : ¬ ftW b h bx := fun hf => by have := hlt bx hf; have := HO.out.1.1; omega
    exact ⟨(hu.cell (p := ⟨bx, 2, none⟩) hbl hno).trans x2, (hu.cell (p := ⟨bx, 4, none⟩) hbl hno).trans x4⟩
  have HFIN : Hid (∀ w9, (∃ h', Wm w9 b s (W.note key (some ⟨key, value, kcr, (S.rev : Int) + 1, kve + 1, lease⟩)) h' ∧ KpW w8.drew w9 b h h') → ∃ h', Ow n w9 s b S (W.note key (some ⟨key, value, kcr, (S.rev : Int) + 1, kve + 1, lease⟩)) g h' ∧ KpW w w9 b h h') := fun w9 ⟨h', q1, q2⟩ => ⟨h', HO8.out.step q1 q2, HO.out.2.1.trans ((KpW.same hb9).trans q2)⟩
  have hwr : IntKind.i64.wrap (kve + 1) = kve + 1 := by rw [IntKind.wrap_i64]; omega
  clear hc1 hc2 hb7 hb8 hb9 HO8 x2 x4 r8 HBX HO hlt hc hn
  go_region_held_law (fun V => V.cell? ⟨bx, 2, none⟩ = some (.int .i64 (kcr)) ∧ V.cell? ⟨bx, 4, none⟩ = some (.int .i64 (kve))) (first | with_reducible assumption | (show _ ∧ _; with_reducible assumption)) (first | (go_at_call 44; refine hrev.mono ?_; rintro e w' ⟨rfl, rfl⟩) | (go_at_call 38; refine hnote.mono ?_; rintro e w9 ⟨rfl, HN⟩; have HN := Hid.mk'' HN; have hS9 := (by obtain ⟨h', -, q2⟩ := HN.out; exact HS9.out w9 q2.1 : w9.cell? ⟨bx, 2, none⟩ = some (.int .i64 (kcr)) ∧ w9.cell? ⟨bx, 4, none⟩ = some (.int .i64 (kve)))))
  all_goals
    go_wp2
    go_ret
    exact ⟨rfl, HFIN.out _ HN.out⟩
set_option maxRecDepth 100000 in
set_option maxHeartbeats 1000000 in
theorem wput_new (ht : thereH (S.kh key) = none) (hct : W.count < 4096 ∧ -9223372036854775808 ≤ W.count) : Calls Tryz.prog 15 #[ptr b, .string key, .string value, .int .i64 lease] w fun e w' => e = .returned (.int .i64 0) ∧ ∃ h', Ow n w' s b S (({ W with count := W.count + 1 } : Wri).note key (some ⟨key, value, (S.rev : Int) + 1, (S.rev : Int) + 1, 0 + 1, lease⟩)) g h' ∧ KpW w w' b h h' := by
  have ho := open_st H
  have hi := iskey_any key w (by omega)
  obtain ⟨-, -, c2, -⟩ := H.wr.cells
  have hlk : (Instr.lookup 78 (.map (some h.bw)) (.string key) false).run Tryz.prog w = .ok ((wcF W key).getD .nilIface) w := H.wr.mp.look law65 Tryz.underlying78 (zero71 _) key false
  have e2 : wcF W key = none := by unfold wcF; rw [hc]; rfl
  rw [e2] at hlk
  dsimp only [Option.getD_none] at hlk
  have hlo := look_st H key
  have e3 : lookW S W key = none := by unfold lookW; rw [hc]; exact ht
  rw [e3] at hlo
  dsimp only [Option.getD_some, Option.getD_none, noKV, encKV, Option.isSome_some, Option.isSome_none] at hlo
  have HH := Hid.mk'' H
  clear e2 e3 H
  rw [decide_eq_true hk] at hi
  go_enter Tryz.func15, Tryz.ntmps15
  go_upto_region 10 with (first | (go_at_call 36; refine ho.mono ?_; rintro e w' ⟨rfl, hw'⟩; obtain rfl := hw'.symm) | (go_at_call 42; refine hi.mono ?_; rintro e w' ⟨rfl, hw'⟩; obtain rfl := hw'.symm) | (go_at_call 43; refine hlo.mono ?_; rintro e w3 ⟨rfl, hb3⟩))
  clear hlk c2 hi ho hlo ht
  obtain ⟨wb, hwb⟩ : ∃ wb, wb = w3.alloc (.cells #[.string ByteArray.empty, .string ByteArray.empty, .int .i64 0, .int .i64 0, .int .i64 0, .int .i64 0] 61) := ⟨_, rfl⟩
  rw [← hwb]
  have hbb : Below w.heap.size w wb := by rw [hwb]; exact hb3.alloc hb3.size _
  obtain ⟨bx, hbx⟩ : ∃ bx, bx = w3.heap.size := ⟨_, rfl⟩
  rw [← hbx]
  have HBB : Hid (wb.heap[bx]? = some (.cells #[.string ByteArray.empty, .string ByteArray.empty, .int .i64 0, .int .i64 0, .int .i64 0, .int .i64 0] 61 (0, 0))) := by rw [hwb, hbx]; exact row_alloc w3 _ _
  have hle : w.heap.size ≤ bx := by rw [hbx]; exact hb3.size
  have HOb := Hid.mk'' (HH.out.below hbb)
  have hrv := wrev_st HOb.out hr
  obtain ⟨-, -, -, k3⟩ := HOb.out.wr.cells
  have f3 := frozen_of_row wb b 3 _ _ HOb.out.wr.blk
  obtain ⟨⟨-, -, x2, -, -, -⟩, -, -, fx2, -⟩ := box6 HBB.out
  have hblt := HH.out.wr.lt (.inl rfl)
  have hne : ¬ b = bx := by omega
  have hne' : ¬ bx = b := by omega
  clear hwb hbx hb3
  go_upto_region 15 with (go_at_call 44; refine hrv.mono ?_; rintro e w' ⟨rfl, hw'⟩; obtain rfl := hw'.symm)
  obtain ⟨wc, hwc⟩ : ∃ wc, wc = wb.setCell ⟨bx, 2, none⟩ (.int .i64 ((S.rev : Int) + 1)) := ⟨_, rfl⟩
  rw [← hwc]
  have hbc : Below w.heap.size w wc := by rw [hwc]; exact hbb.setCell hle _
  have rc : wc.heap[bx]? = some (.cells #[.string ByteArray.empty, .string ByteArray.empty, .int .i64 ((S.rev : Int) + 1), .int .i64 0, .int .i64 0, .int .i64 0] 61 (0, 0)) := by rw [hwc]; exact heap_setCell_row HBB.out _
  have hOc := HH.out.below hbc
  obtain ⟨wa, hwa⟩ : ∃ wa, wa = wc.setCell ⟨b, 3, none⟩ (.int .i64 (W.count + 1)) := ⟨_, rfl⟩
  rw [← hwa]
  have hst := hOc.wr.setCount (W.count + 1)
  rw [← hwa] at hst
  have HBX : Hid (wa.heap[bx]? = some (.cells #[.string ByteArray.empty, .string ByteArray.empty, .int .i64 ((S.rev : Int) + 1), .int .i64 0, .int .i64 0, .int .i64 0] 61 (0, 0))) := by
    have hu : Upd wc wa (fun k => k = b) := by rw [hwa]; exact (Upd.refl wc (fun k => k = b)).setCell (p := ⟨b, 3, none⟩) (.inr rfl) _
    exact (hu.block bx (Array.getElem?_eq_some_iff.1 rc).1 hne').trans rc
  have HO : Hid ((w.heap.size ≤ bx ∧ ∀ k, ftW b h k → k < w.heap.size) ∧ KpW w wa b h h ∧ Ow n wa s b S { W with count := W.count + 1 } g h) := ⟨⟨hle, fun k hk => HH.out.wr.lt hk⟩, (KpW.same hbc).trans hst.2, hOc.step hst.1 hst.2⟩
  clear hwc hbc rc hOc hwa hst HH HOb hrv k3 f3 x2 fx2 HBB hbb hblt hne hne'
  have hlt : ∀ k, ftW b h k → k < w.heap.size := fun k hk => HO.out.1.2 k hk
  have hc1 := clone_all key (by omega)
  have hc2 := clone_all value (by omega)
  go_upto_region 16 with (first | (go_at_call 45; refine (hc1 wa).mono ?_; rintro e w7 ⟨rfl, hb7⟩) | (go_at_call 45; refine (hc2 w7).mono ?_; rintro e w8 ⟨rfl, hb8⟩))
  have hb9 : Below wa.heap.size wa w8.drew := (hb7.trans (hb8.mono hb7.size)).drew
  have HO8 := Hid.mk'' (HO.out.2.2.below hb9)
  have hrev := wrev_st HO8.out hr
  have hnote := note_st HO8.out.wr key (some ⟨key, value, (S.rev : Int) + 1, (S.rev : Int) + 1, (0 : Int) + 1, lease⟩) (fun hm => by have := (HO8.out.wr.cov key).2 hm; exact this hc) hn
  dsimp only [encC, encKV] at hnote
  have r8 := (hb9.block bx (by have := (Array.getElem?_eq_some_iff.1 HBX.out).1; omega)).trans HBX.out
  obtain ⟨⟨-, -, x2, -, x4, -⟩, -⟩ := box6 r8
  have hS8 : w8.drew.cell? ⟨bx, 2, none⟩ = some (.int .i64 ((S.rev : Int) + 1)) ∧ w8.drew.cell? ⟨bx, 4, none⟩ = some (.int .i64 ((0 : Int))) := ⟨x2, x4⟩
  have HS9 : Hid (∀ w9, Upd w8.drew w9 (ftW b h) → w9.cell? ⟨bx, 2, none⟩ = some (.int .i64 ((S.rev : Int) + 1)) ∧ w9.cell? ⟨bx, 4, none⟩ = some (.int .i64 ((0 : Int)))) := fun w9 hu => by
    have hbl : bx < w8.drew.heap.size := (Array.getElem?_eq_some_iff.1 r8).1
    have hno : ¬ ftW b h bx := fun hf => by have := hlt bx hf; have := HO.out.1.1; omega
    exact ⟨(hu.cell (p := ⟨bx, 2, none⟩) hbl hno).trans x2, (hu.cell (p := ⟨bx, 4, none⟩) hbl hno).trans x4⟩
  have HFIN : Hid (∀ w9, (∃ h', Wm w9 b s (({ W with count := W.count + 1 } : Wri).note key (some ⟨key, value, (S.rev : Int) + 1, (S.rev : Int) + 1, (0 : Int) + 1, lease⟩)) h' ∧ KpW w8.drew w9 b h h') → ∃ h', Ow n w9 s b S (({ W with count := W.count + 1 } : Wri).note key (some ⟨key, value, (S.rev : Int) + 1, (S.rev : Int) + 1, (0 : Int) + 1, lease⟩)) g h' ∧ KpW w w9 b h h') := fun w9 ⟨h', q1, q2⟩ => ⟨h', HO8.out.step q1 q2, HO.out.2.1.trans ((KpW.same hb9).trans q2)⟩
  have hwr : IntKind.i64.wrap ((0 : Int) + 1) = (0 : Int) + 1 := by rw [IntKind.wrap_i64]; omega
  clear hc1 hc2 hb7 hb8 hb9 HO8 x2 x4 r8 HBX HO hlt hc hn
  go_region_held_law (fun V => V.cell? ⟨bx, 2, none⟩ = some (.int .i64 ((S.rev : Int) + 1)) ∧ V.cell? ⟨bx, 4, none⟩ = some (.int .i64 ((0 : Int)))) (first | with_reducible assumption | (show _ ∧ _; with_reducible assumption)) (first | (go_at_call 44; refine hrev.mono ?_; rintro e w' ⟨rfl, rfl⟩) | (go_at_call 38; refine hnote.mono ?_; rintro e w9 ⟨rfl, HN⟩; have HN := Hid.mk'' HN; have hS9 := (by obtain ⟨h', -, q2⟩ := HN.out; exact HS9.out w9 q2.1 : w9.cell? ⟨bx, 2, none⟩ = some (.int .i64 ((S.rev : Int) + 1)) ∧ w9.cell? ⟨bx, 4, none⟩ = some (.int .i64 ((0 : Int))))))
  all_goals
    go_wp2
    go_ret
    exact ⟨rfl, HFIN.out _ HN.out⟩
end
end Go.Proofs.YtjdmgmnndfhmgaaGreat
/- Keys. -/
namespace Go.Proofs.YtjdmgmnndfhmgaaGreat
open Go Go.RowKit Go.Shelf
attribute [local go_sem] Oper.semAt_some

def inHi (hi key : ByteArray) : Bool := decide (hi = ByteArray.empty) || klt key hi
def keysL (lo hi : ByteArray) (L : List Itm) : List ByteArray := ((filt lo L).filter fun it => inHi hi it.key).map Itm.key
def KeysPost (w w' : World) (v : Value) (ks : List ByteArray) : Prop := w'.ownsRow w.heap.size 9 1 v ks.length (strs ks) ∧ Below w.heap.size w w'

theorem asc_filt (p : Itm → Bool) : ∀ {L : List Itm}, Asc (keysI L) → Asc (keysI (L.filter p))
  | [], _ => trivial
  | a :: l, h => by
    obtain ⟨h1, h2⟩ : (∀ j ∈ keysI l, klt a.key j = true) ∧ Asc (keysI l) := h
    have ih := asc_filt p h2
    rw [List.filter_cons]
    split
    · refine ⟨fun j hj => h1 j ?_, ih⟩
      obtain ⟨x, hx, rfl⟩ := List.mem_map.1 hj
      exact List.mem_map.2 ⟨x, (List.mem_filter.1 hx).1, rfl⟩
    · exact ih
theorem keysL_stop (lo hi : ByteArray) {L : List Itm} (ha : Asc (keysI L)) {q : List Itm} {a : Itm} (hS : q ++ [a] <+: filt lo L) (hq : ∀ x ∈ q, inHi hi x.key = true) (hna : inHi hi a.key = false) : keysL lo hi L = q.map Itm.key := by
  obtain ⟨t, ht⟩ := hS
  have h := asc_filt (fun it => !klt it.key lo) ha
  change Asc (keysI (filt lo L)) at h
  rw [← ht] at h
  have h' : Asc ((q ++ [a]).map Itm.key ++ t.map Itm.key) := by rw [← List.map_append]; exact h
  have h3 := ((asc_append _ _).1 h').2.2
  unfold keysL
  rw [← ht, List.filter_append, List.filter_append, List.filter_eq_self.2 hq, (List.filter_eq_nil_iff (l := t)).2 (fun x hx hin => ?_)]
  · simp [hna]
  · have hlt := h3 a.key (List.mem_map.2 ⟨a, by simp, rfl⟩) x.key (List.mem_map.2 ⟨x, hx, rfl⟩)
    unfold inHi at hna hin
    have e1 : ¬ hi = ByteArray.empty := fun e => by rw [e] at hna; simp at hna
    have e2 : klt a.key hi = false := by simpa [e1] using hna
    have e3 : klt x.key hi = true := by simpa [e1] using hin
    rw [klt_trans hlt e3] at e2
    cases e2

set_option maxRecDepth 100000 in
set_option maxHeartbeats 4000000 in
theorem keys_any {w : World} {x : Nat} {R : List IM} {F : List Nat} (H : Ix w x R F) (lo hi : ByteArray) (hR : R.length ≤ 1000000) :
    Calls Tryz.prog 59 #[ptr x, .string lo, .string hi] w fun e w' => ∃ v, e = .returned v ∧ KeysPost w w' v (keysL lo hi (R.map IM.it)) := by
  obtain ⟨rp, Ft, hx, hRt, hF⟩ := H.ex
  have hndF : Ft.Nodup := by have := H.nd; rw [hF] at this; exact (List.nodup_append.1 (List.nodup_cons.1 this).2).1
  have hFl : ∀ k ∈ Ft, k < w.heap.size := hRt.lt
  have hai : Asc (keysI (R.map IM.it)) := by rw [keysI_map]; exact H.asc
  have c0 := hx.c0
  have hdd : ∀ k : Nat, (Fence.wide.depth.isSome = true → 1 ≤ k) := fun k h => by cases h
  refine (callsIn_wide (n := 3)).1 ?_
  refine callsIn_of_wp_marks Tryz.func59 rfl trivial ?_ rfl
  simp only [Tryz.ntmps59, List.size_toArray, List.length_cons, List.length_nil, Nat.reduceAdd, Nat.reduceSub, Array.replicate_succ, Array.replicate_zero, List.push_toArray, List.append_toArray, List.nil_append, List.cons_append]
  have hb0 : Below w.heap.size w (w.alloc (.cells #[.string hi] 9)) := (Below.refl _ w).alloc (Nat.le_refl _) _
  have ca : ∀ o o', ((w.alloc o).alloc o').cell? ⟨x, 0, none⟩ = some (.pointer rp) := fun o o' => (hx.below (((Below.refl _ w).alloc (Nat.le_refl _) o).alloc (by simp) o')).c0
  gi_wp2_with (refine ⟨trivial, ?_⟩; gi_at_call 73; refine (from_in _ _ _ _).mono ?_; rintro e w' ⟨rfl, rfl⟩)
  try simp only [World.size_alloc]
  obtain ⟨WL, hWL⟩ : ∃ WL, WL = (((w.alloc (.cells #[.string hi] 9)).alloc (.cells #[.slice none 0 0] 37)).alloc (.cells #[.pointer rp] 123)).alloc (.cells #[.string lo] 9) := ⟨_, rfl⟩
  have hbL : Below w.heap.size w WL := by rw [hWL]; exact ((((Below.refl _ w).alloc (Nat.le_refl _) _).alloc (by simp) _).alloc (by simp; omega) _).alloc (by simp; omega) _
  have hzL : WL.heap.size = w.heap.size + 4 := by rw [hWL]; simp
  have r0 : WL.heap[w.heap.size]? = some (.cells #[.string hi] 9 (0, 0)) := by
    rw [hWL, Below.heap_alloc _ _ _ (by simp; omega), Below.heap_alloc _ _ _ (by simp; omega), Below.heap_alloc _ _ _ (by simp)]; exact row_alloc w _ _
  have r1 : WL.heap[w.heap.size + 1]? = some (.cells #[.slice none 0 0] 37 (0, 0)) := by
    rw [hWL, Below.heap_alloc _ _ _ (by simp), Below.heap_alloc _ _ _ (by simp)]
    have := row_alloc (w.alloc (.cells #[.string hi] 9)) #[.slice none 0 0] 37
    rwa [World.size_alloc] at this
  have r2 : WL.heap[w.heap.size + 1 + 1]? = some (.cells #[.pointer rp] 123 (0, 0)) := by
    rw [hWL, Below.heap_alloc _ _ _ (by simp)]
    have := row_alloc ((w.alloc (.cells #[.string hi] 9)).alloc (.cells #[.slice none 0 0] 37)) #[.pointer rp] 123
    rwa [World.size_alloc, World.size_alloc] at this
  have r3 : WL.heap[w.heap.size + 1 + 1 + 1]? = some (.cells #[.string lo] 9 (0, 0)) := by
    rw [hWL]
    have := row_alloc (((w.alloc (.cells #[.string hi] 9)).alloc (.cells #[.slice none 0 0] 37)).alloc (.cells #[.pointer rp] 123)) #[.string lo] 9
    rwa [World.size_alloc, World.size_alloc, World.size_alloc] at this
  rw [← hWL]
  clear hWL
  obtain ⟨hT, bT, nT, _, hseq⟩ := seq_root hRt hndF hai lo 2 (w.heap.size + 1 + 1) (w.heap.size + 1 + 1 + 1) WL hbL (by simp [World.cell?, r2]) (by simp [World.cell?, r3])
  refine wpIn_rangeFunc_ownG (w0 := WL) rfl (by decide) (gf := 97) (lb := #[.pointer (some ⟨w.heap.size + 1 + 1, 0, none⟩), .pointer (some ⟨w.heap.size + 1 + 1 + 1, 0, none⟩)]) rfl trivial (enters_of Tryz.func97 (by kernel_rfl) rfl)
    hseq KpS.t (fun W l o o' hl _ _ _ => KpS.b (fun k hk => Nat.lt_of_lt_of_le (hFl k hk) hbL.size) W l o' hl) (Below.refl _ _) (fun _ => rfl)
    (fun pre W => (∃ v, W.heap[w.heap.size + 1]? = some (.cells #[v] 37 (0, 0)) ∧ W.ownsRow (w.heap.size + 4) 9 1 v pre.length (strs (pre.map fun a => a.it.key))) ∧ W.heap[w.heap.size]? = some (.cells #[.string hi] 9 (0, 0)) ∧ Below w.heap.size w W ∧ (∀ a ∈ pre, inHi hi a.it.key = true) ∧ w.heap.size + 4 ≤ W.heap.size)
    (fun c pre W => ∃ q a, pre = q ++ [a] ∧ inHi hi a.it.key = false ∧ c = .exit 0 ∧ (∃ v, W.heap[w.heap.size + 1]? = some (.cells #[v] 37 (0, 0)) ∧ W.ownsRow (w.heap.size + 4) 9 1 v q.length (strs (q.map fun a => a.it.key))) ∧ Below w.heap.size w W ∧ (∀ a ∈ q, inHi hi a.it.key = true))
    ?hI ?hIx ?h0
    (fun a => { tmps := #[ptr x, .string lo, .string hi, undef, undef, .pointer (some ⟨w.heap.size, 0, none⟩), .slice none 0 0, .pointer (some ⟨w.heap.size + 1, 0, none⟩), .pointer (some (encA a)), ptr x, .pointer (some ⟨x, 0, none⟩), .pointer (some ⟨x, 0, none⟩), .pointer rp, .string lo, .func (.func 97) #[] #[.pointer (some ⟨w.heap.size + 1 + 1, 0, none⟩), .pointer (some ⟨w.heap.size + 1 + 1 + 1, 0, none⟩)], .pointer (some (encA a)), undef, undef, undef, undef, undef, undef, undef, undef, undef, undef, undef, undef, undef, undef, undef, undef, undef, undef], defers := [] }) ?assign ?body ?done ?stop
  case hI =>
    rintro s W W' row ⟨⟨v, q1, q2⟩, q3, q4, q5, q6⟩ hg hr
    exact ⟨⟨v, grown_cells hg hr q1, ownsRow_grown hg hr q2⟩, grown_cells hg hr q3, ownFrom_below (β := Unit) (Nat.le_refl _) (by omega) () W W' row q4 hg hr, q5, Nat.le_trans q6 hg.size⟩
  case hIx =>
    rintro c s W W' row ⟨q, a, e, h1, h2, ⟨v, q1, q2⟩, q4, q5⟩ hg hr
    exact ⟨q, a, e, h1, h2, ⟨v, grown_cells hg hr q1, ownsRow_grown hg hr q2⟩, ownFrom_below (β := Unit) (Nat.le_refl _) (by omega) () W W' row q4 hg hr, q5⟩
  case h0 => exact ⟨⟨_, r1, World.ownsRow_nil _ _ _ _⟩, r0, hbL, by simp, by omega⟩
  case assign =>
    intro l a W K hK
    gi_wp2
    exact hK
  case body =>
    rintro l pre a W ⟨⟨v, q1, q2⟩, q3, q4, q5, q6⟩ hlt
    have k0 : W.cell? ⟨a.g, a.i * 2, none⟩ = some (.string a.it.key) := (q4.cell (p := ⟨a.g, a.i * 2, none⟩) (hFl _ a.ok.mem)).trans a.ok.key
    have k1 : W.cell? ⟨w.heap.size, 0, none⟩ = some (.string hi) := by simp [World.cell?, q3]
    have k2 : W.cell? ⟨w.heap.size + 1, 0, none⟩ = some v := by simp [World.cell?, q1]
    have e1 := bl_data a.it.key hi
    have hmix : Tryz.prog.follows .mixedOrders = true := by kernel_rfl
    have hin : inHi hi a.it.key = (decide (hi = ByteArray.empty) || klt a.it.key hi) := rfl
    obtain ⟨ti, hti, hz0, hz1, hz2⟩ := info_parts info9
    have hlen : pre.length ≤ 1000000 := by
      have : (filt lo (R.map IM.it)).length ≤ (R.map IM.it).length := List.length_filter_le _ _
      simp at this; omega
    have HRW : Hid (∀ V, Below W.heap.size W V → V.ownsRow (w.heap.size + 4) 9 1 v pre.length (strs (pre.map fun a => a.it.key))) := fun V hb => ownsRow_upd q2 (Upd.ofBelow (S := fun _ => False) hb) (fun _ _ h => h)
    have HSR : Hid (∀ V, V.heap[W.heap.size]? = some (.cells #[.string a.it.key] 9 (0, 0)) → Src Tryz.prog 1 37 (.slice (some ⟨W.heap.size, 0, none⟩) 1 1) 1 (strs [a.it.key]) V) := fun V hr => Src.ofSlice V Tryz.underlying37 ⟨W.heap.size, 0, none⟩ 1 1 _ rfl (fun j u hj => by
      rw [Addr.add_lit, Nat.zero_add, cell_of_row _ _ _ _ _ _ hr]; simpa using hj) (fun u hu => by simp at hu; subst hu; rfl)
    have HCL : Hid (∀ V w', Below W.heap.size W V → Upd V w' (fun k => some k = v.ownBlock) → w'.cell? ⟨w.heap.size + 1, 0, none⟩ = some v ∧ w'.frozen? ⟨w.heap.size + 1, 0, none⟩ = false) := fun V w' hb hu => by
      have hl : w.heap.size + 1 < W.heap.size := by omega
      have h1 := (hu.block _ (Nat.lt_of_lt_of_le hl hb.size) (fun e => by have := (ownBlock_ge q2 e.symm).1; omega)).trans ((hb.block _ hl).trans q1)
      exact ⟨by simp [World.cell?, h1], by simp [World.frozen?, h1]⟩
    have HFIN : inHi hi a.it.key = true → Hid (∀ V w' nv, Below W.heap.size W V → Upd V w' (fun k => some k = v.ownBlock) → w'.ownsRow (w.heap.size + 4) 9 1 nv (pre.length + 1) (strs (pre.map fun a => a.it.key) ++ strs [a.it.key]) →
        KeepsFrom WL.heap.size W (w'.setCell ⟨w.heap.size + 1, 0, none⟩ nv) ∧ KpS w Ft W (w'.setCell ⟨w.heap.size + 1, 0, none⟩ nv) ∧
        ((∃ v, (w'.setCell ⟨w.heap.size + 1, 0, none⟩ nv).heap[w.heap.size + 1]? = some (.cells #[v] 37 (0, 0)) ∧ (w'.setCell ⟨w.heap.size + 1, 0, none⟩ nv).ownsRow (w.heap.size + 4) 9 1 v (pre ++ [a]).length (strs ((pre ++ [a]).map fun a => a.it.key))) ∧ (w'.setCell ⟨w.heap.size + 1, 0, none⟩ nv).heap[w.heap.size]? = some (.cells #[.string hi] 9 (0, 0)) ∧ Below w.heap.size w (w'.setCell ⟨w.heap.size + 1, 0, none⟩ nv) ∧ (∀ b ∈ pre ++ [a], inHi hi b.it.key = true) ∧ w.heap.size + 4 ≤ (w'.setCell ⟨w.heap.size + 1, 0, none⟩ nv).heap.size)) := fun hin' V w' nv hV p2 p1 => by
      obtain ⟨f1, f2, f3, f4, f5⟩ := app_fin q1 q2 (by omega) q6 hV p2 p1 WL.heap.size
      refine ⟨f1, ⟨KpT.of_block fun k hk => f2.block k (by have := hFl k hk; omega), f2.size⟩, ⟨_, f3, by simpa [strs] using f4⟩, (f5 _ (by omega) (by omega)).trans q3, q4.trans (f2.mono (by omega)), ?_, Nat.le_trans q6 f2.size⟩
      intro b hb
      rcases List.mem_append.1 hb with h | h
      · exact q5 b h
      · rw [List.mem_singleton.1 h]; exact hin'
    have ca1 : ∀ o, (W.alloc o).cell? ⟨w.heap.size + 1, 0, none⟩ = some v := fun o => (((Below.refl _ W).alloc (Nat.le_refl _) o).cell (p := ⟨w.heap.size + 1, 0, none⟩) (by show w.heap.size + 1 < W.heap.size; omega)).trans k2
    by_cases hhi : hi = ByteArray.empty
    · have e2 : hi.toList.isEmpty = true := by rw [hhi]; simp
      have hin' : inHi hi a.it.key = true := by rw [hin]; simp [hhi]
      have HFIN := HFIN hin'
      clear e1 hin hhi
      gi_wp2
      gi_region_with_o (fail)
      all_goals
        gi_wp2
        refine wpIn_region_any (by kernel_rfl) ?_
        change wpAnyIn _ _ _ _ _ _ _ _ _ (World.drew _)
        refine wpAnyIn_ready (rs := [0, 1]) (by kernel_rfl) (by simp) ?_
        refine AllReadyIn.cons rfl (fun K hK => ?_) ?_
        · go_simp
          refine hK _ _ ?_
          clear hK K
          refine wpAnyIn_ready (rs := [1]) (by kernel_rfl) (by simp) ?_
          refine AllReadyIn.cons rfl (fun K hK => ?_) AllReadyIn.nil
          go_simp
          refine hK _ _ ?_
          clear hK K
          refine wpAnyIn_ready (rs := [2]) (by kernel_rfl) (by simp) ?_
          refine AllReadyIn.cons rfl (fun K hK => ?_) AllReadyIn.nil
          go_simp
          refine hK _ _ ?_
          clear hK K
          refine wpAnyIn_ready (rs := [3]) (by kernel_rfl) (by simp) ?_
          refine AllReadyIn.cons rfl (fun K hK => ?_) AllReadyIn.nil
          go_simp
          refine hK _ _ ?_
          clear hK K
          refine wpAnyIn_ready (rs := [4]) (by kernel_rfl) (by simp) ?_
          refine AllReadyIn.cons rfl (fun K hK => ?_) AllReadyIn.nil
          go_simp
          refine hK _ _ ?_
          clear hK K
          refine wpAnyIn_ready (rs := [5]) (by kernel_rfl) (by simp) ?_
          refine AllReadyIn.cons rfl (fun K hK => ?_) AllReadyIn.nil
          go_simp
          refine hK _ _ ?_
          clear hK K
          refine wpAnyIn_ready (rs := [6]) (by kernel_rfl) (by simp) ?_
          refine AllReadyIn.cons rfl (fun K hK => ?_) AllReadyIn.nil
          refine stepIn_appS _ rfl _ _ 37 37 rfl (w.heap.size + 4) 9 _ _ 1 Tryz.underlying37 hti hz0 hz1 rfl (by rw [hz2]; decide) v pre.length _ rfl (HRW.out _ (by repeat (first | exact Below.refl _ _ | refine Below.drew ?_ | refine Below.alloc ?_ (by simp) _))) (.slice (some ⟨W.heap.size, 0, none⟩) 1 1) rfl 1 (strs [a.it.key]) (HSR.out _ (by first | exact row_alloc (World.drew (World.drew _)) _ _ | exact row_alloc (World.drew _) _ _)) (by omega) (by simp; omega) ?_
          intro v' w' p1 p2 p3 p4
          obtain ⟨p5, p6⟩ := HCL.out _ w' (by repeat (first | exact Below.refl _ _ | refine Below.drew ?_ | refine Below.alloc ?_ (by simp) _)) p2
          obtain ⟨g', c', rfl, _, _⟩ := owns_formB p1 (by omega)
          show K _ _
          refine hK _ _ ?_
          clear hK K
          refine wpAnyIn_ready (rs := [7]) (by kernel_rfl) (by simp) ?_
          refine AllReadyIn.cons rfl (fun K hK => ?_) AllReadyIn.nil
          go_simp
          refine hK _ _ ?_
          clear hK K
          refine wpAnyIn_done (by kernel_rfl) ?_ _
          gi_wp2; exact HFIN.out _ _ _ (by repeat (first | exact Below.refl _ _ | refine Below.drew ?_ | refine Below.alloc ?_ (by simp) _)) p2 p1
        refine AllReadyIn.cons rfl (fun K hK => ?_) AllReadyIn.nil
        go_simp
        refine hK _ _ ?_
        clear hK K
        refine wpAnyIn_ready (rs := [0, 2]) (by kernel_rfl) (by simp) ?_
        refine AllReadyIn.cons rfl (fun K hK => ?_) ?_
        · go_simp
          refine hK _ _ ?_
          clear hK K
          refine wpAnyIn_ready (rs := [2]) (by kernel_rfl) (by simp) ?_
          refine AllReadyIn.cons rfl (fun K hK => ?_) AllReadyIn.nil
          go_simp
          refine hK _ _ ?_
          clear hK K
          refine wpAnyIn_ready (rs := [3]) (by kernel_rfl) (by simp) ?_
          refine AllReadyIn.cons rfl (fun K hK => ?_) AllReadyIn.nil
          go_simp
          refine hK _ _ ?_
          clear hK K
          refine wpAnyIn_ready (rs := [4]) (by kernel_rfl) (by simp) ?_
          refine AllReadyIn.cons rfl (fun K hK => ?_) AllReadyIn.nil
          go_simp
          refine hK _ _ ?_
          clear hK K
          refine wpAnyIn_ready (rs := [5]) (by kernel_rfl) (by simp) ?_
          refine AllReadyIn.cons rfl (fun K hK => ?_) AllReadyIn.nil
          go_simp
          refine hK _ _ ?_
          clear hK K
          refine wpAnyIn_ready (rs := [6]) (by kernel_rfl) (by simp) ?_
          refine AllReadyIn.cons rfl (fun K hK => ?_) AllReadyIn.nil
          refine stepIn_appS _ rfl _ _ 37 37 rfl (w.heap.size + 4) 9 _ _ 1 Tryz.underlying37 hti hz0 hz1 rfl (by rw [hz2]; decide) v pre.length _ rfl (HRW.out _ (by repeat (first | exact Below.refl _ _ | refine Below.drew ?_ | refine Below.alloc ?_ (by simp) _))) (.slice (some ⟨W.heap.size, 0, none⟩) 1 1) rfl 1 (strs [a.it.key]) (HSR.out _ (by first | exact row_alloc (World.drew (World.drew _)) _ _ | exact row_alloc (World.drew _) _ _)) (by omega) (by simp; omega) ?_
          intro v' w' p1 p2 p3 p4
          obtain ⟨p5, p6⟩ := HCL.out _ w' (by repeat (first | exact Below.refl _ _ | refine Below.drew ?_ | refine Below.alloc ?_ (by simp) _)) p2
          obtain ⟨g', c', rfl, _, _⟩ := owns_formB p1 (by omega)
          show K _ _
          refine hK _ _ ?_
          clear hK K
          refine wpAnyIn_ready (rs := [7]) (by kernel_rfl) (by simp) ?_
          refine AllReadyIn.cons rfl (fun K hK => ?_) AllReadyIn.nil
          go_simp
          refine hK _ _ ?_
          clear hK K
          refine wpAnyIn_done (by kernel_rfl) ?_ _
          gi_wp2; exact HFIN.out _ _ _ (by repeat (first | exact Below.refl _ _ | refine Below.drew ?_ | refine Below.alloc ?_ (by simp) _)) p2 p1
        refine AllReadyIn.cons rfl (fun K hK => ?_) AllReadyIn.nil
        go_simp
        refine hK _ _ ?_
        clear hK K
        refine wpAnyIn_ready (rs := [0, 3]) (by kernel_rfl) (by simp) ?_
        refine AllReadyIn.cons rfl (fun K hK => ?_) ?_
        · go_simp
          refine hK _ _ ?_
          clear hK K
          refine wpAnyIn_ready (rs := [3]) (by kernel_rfl) (by simp) ?_
          refine AllReadyIn.cons rfl (fun K hK => ?_) AllReadyIn.nil
          go_simp
          refine hK _ _ ?_
          clear hK K
          refine wpAnyIn_ready (rs := [4]) (by kernel_rfl) (by simp) ?_
          refine AllReadyIn.cons rfl (fun K hK => ?_) AllReadyIn.nil
          go_simp
          refine hK _ _ ?_
          clear hK K
          refine wpAnyIn_ready (rs := [5]) (by kernel_rfl) (by simp) ?_
          refine AllReadyIn.cons rfl (fun K hK => ?_) AllReadyIn.nil
          go_simp
          refine hK _ _ ?_
          clear hK K
          refine wpAnyIn_ready (rs := [6]) (by kernel_rfl) (by simp) ?_
          refine AllReadyIn.cons rfl (fun K hK => ?_) AllReadyIn.nil
          refine stepIn_appS _ rfl _ _ 37 37 rfl (w.heap.size + 4) 9 _ _ 1 Tryz.underlying37 hti hz0 hz1 rfl (by rw [hz2]; decide) v pre.length _ rfl (HRW.out _ (by repeat (first | exact Below.refl _ _ | refine Below.drew ?_ | refine Below.alloc ?_ (by simp) _))) (.slice (some ⟨W.heap.size, 0, none⟩) 1 1) rfl 1 (strs [a.it.key]) (HSR.out _ (by first | exact row_alloc (World.drew (World.drew _)) _ _ | exact row_alloc (World.drew _) _ _)) (by omega) (by simp; omega) ?_
          intro v' w' p1 p2 p3 p4
          obtain ⟨p5, p6⟩ := HCL.out _ w' (by repeat (first | exact Below.refl _ _ | refine Below.drew ?_ | refine Below.alloc ?_ (by simp) _)) p2
          obtain ⟨g', c', rfl, _, _⟩ := owns_formB p1 (by omega)
          show K _ _
          refine hK _ _ ?_
          clear hK K
          refine wpAnyIn_ready (rs := [7]) (by kernel_rfl) (by simp) ?_
          refine AllReadyIn.cons rfl (fun K hK => ?_) AllReadyIn.nil
          go_simp
          refine hK _ _ ?_
          clear hK K
          refine wpAnyIn_done (by kernel_rfl) ?_ _
          gi_wp2; exact HFIN.out _ _ _ (by repeat (first | exact Below.refl _ _ | refine Below.drew ?_ | refine Below.alloc ?_ (by simp) _)) p2 p1
        refine AllReadyIn.cons rfl (fun K hK => ?_) AllReadyIn.nil
        go_simp
        refine hK _ _ ?_
        clear hK K
        refine wpAnyIn_ready (rs := [0, 4]) (by kernel_rfl) (by simp) ?_
        refine AllReadyIn.cons rfl (fun K hK => ?_) ?_
        · go_simp
          refine hK _ _ ?_
          clear hK K
          refine wpAnyIn_ready (rs := [4]) (by kernel_rfl) (by simp) ?_
          refine AllReadyIn.cons rfl (fun K hK => ?_) AllReadyIn.nil
          go_simp
          refine hK _ _ ?_
          clear hK K
          refine wpAnyIn_ready (rs := [5]) (by kernel_rfl) (by simp) ?_
          refine AllReadyIn.cons rfl (fun K hK => ?_) AllReadyIn.nil
          go_simp
          refine hK _ _ ?_
          clear hK K
          refine wpAnyIn_ready (rs := [6]) (by kernel_rfl) (by simp) ?_
          refine AllReadyIn.cons rfl (fun K hK => ?_) AllReadyIn.nil
          refine stepIn_appS _ rfl _ _ 37 37 rfl (w.heap.size + 4) 9 _ _ 1 Tryz.underlying37 hti hz0 hz1 rfl (by rw [hz2]; decide) v pre.length _ rfl (HRW.out _ (by repeat (first | exact Below.refl _ _ | refine Below.drew ?_ | refine Below.alloc ?_ (by simp) _))) (.slice (some ⟨W.heap.size, 0, none⟩) 1 1) rfl 1 (strs [a.it.key]) (HSR.out _ (by first | exact row_alloc (World.drew (World.drew _)) _ _ | exact row_alloc (World.drew _) _ _)) (by omega) (by simp; omega) ?_
          intro v' w' p1 p2 p3 p4
          obtain ⟨p5, p6⟩ := HCL.out _ w' (by repeat (first | exact Below.refl _ _ | refine Below.drew ?_ | refine Below.alloc ?_ (by simp) _)) p2
          obtain ⟨g', c', rfl, _, _⟩ := owns_formB p1 (by omega)
          show K _ _
          refine hK _ _ ?_
          clear hK K
          refine wpAnyIn_ready (rs := [7]) (by kernel_rfl) (by simp) ?_
          refine AllReadyIn.cons rfl (fun K hK => ?_) AllReadyIn.nil
          go_simp
          refine hK _ _ ?_
          clear hK K
          refine wpAnyIn_done (by kernel_rfl) ?_ _
          gi_wp2; exact HFIN.out _ _ _ (by repeat (first | exact Below.refl _ _ | refine Below.drew ?_ | refine Below.alloc ?_ (by simp) _)) p2 p1
        refine AllReadyIn.cons rfl (fun K hK => ?_) AllReadyIn.nil
        go_simp
        refine hK _ _ ?_
        clear hK K
        refine wpAnyIn_ready (rs := [0, 5]) (by kernel_rfl) (by simp) ?_
        refine AllReadyIn.cons rfl (fun K hK => ?_) ?_
        · go_simp
          refine hK _ _ ?_
          clear hK K
          refine wpAnyIn_ready (rs := [5]) (by kernel_rfl) (by simp) ?_
          refine AllReadyIn.cons rfl (fun K hK => ?_) AllReadyIn.nil
          go_simp
          refine hK _ _ ?_
          clear hK K
          refine wpAnyIn_ready (rs := [6]) (by kernel_rfl) (by simp) ?_
          refine AllReadyIn.cons rfl (fun K hK => ?_) AllReadyIn.nil
          refine stepIn_appS _ rfl _ _ 37 37 rfl (w.heap.size + 4) 9 _ _ 1 Tryz.underlying37 hti hz0 hz1 rfl (by rw [hz2]; decide) v pre.length _ rfl (HRW.out _ (by repeat (first | exact Below.refl _ _ | refine Below.drew ?_ | refine Below.alloc ?_ (by simp) _))) (.slice (some ⟨W.heap.size, 0, none⟩) 1 1) rfl 1 (strs [a.it.key]) (HSR.out _ (by first | exact row_alloc (World.drew (World.drew _)) _ _ | exact row_alloc (World.drew _) _ _)) (by omega) (by simp; omega) ?_
          intro v' w' p1 p2 p3 p4
          obtain ⟨p5, p6⟩ := HCL.out _ w' (by repeat (first | exact Below.refl _ _ | refine Below.drew ?_ | refine Below.alloc ?_ (by simp) _)) p2
          obtain ⟨g', c', rfl, _, _⟩ := owns_formB p1 (by omega)
          show K _ _
          refine hK _ _ ?_
          clear hK K
          refine wpAnyIn_ready (rs := [7]) (by kernel_rfl) (by simp) ?_
          refine AllReadyIn.cons rfl (fun K hK => ?_) AllReadyIn.nil
          go_simp
          refine hK _ _ ?_
          clear hK K
          refine wpAnyIn_done (by kernel_rfl) ?_ _
          gi_wp2; exact HFIN.out _ _ _ (by repeat (first | exact Below.refl _ _ | refine Below.drew ?_ | refine Below.alloc ?_ (by simp) _)) p2 p1
        refine AllReadyIn.cons rfl (fun K hK => ?_) AllReadyIn.nil
        go_simp
        refine hK _ _ ?_
        clear hK K
        refine wpAnyIn_ready (rs := [0]) (by kernel_rfl) (by simp) ?_
        refine AllReadyIn.cons rfl (fun K hK => ?_) AllReadyIn.nil
        go_simp
        refine hK _ _ ?_
        clear hK K
        refine wpAnyIn_ready (rs := [6]) (by kernel_rfl) (by simp) ?_
        refine AllReadyIn.cons rfl (fun K hK => ?_) AllReadyIn.nil
        refine stepIn_appS _ rfl _ _ 37 37 rfl (w.heap.size + 4) 9 _ _ 1 Tryz.underlying37 hti hz0 hz1 rfl (by rw [hz2]; decide) v pre.length _ rfl (HRW.out _ (by repeat (first | exact Below.refl _ _ | refine Below.drew ?_ | refine Below.alloc ?_ (by simp) _))) (.slice (some ⟨W.heap.size, 0, none⟩) 1 1) rfl 1 (strs [a.it.key]) (HSR.out _ (by first | exact row_alloc (World.drew (World.drew _)) _ _ | exact row_alloc (World.drew _) _ _)) (by omega) (by simp; omega) ?_
        intro v' w' p1 p2 p3 p4
        obtain ⟨p5, p6⟩ := HCL.out _ w' (by repeat (first | exact Below.refl _ _ | refine Below.drew ?_ | refine Below.alloc ?_ (by simp) _)) p2
        obtain ⟨g', c', rfl, _, _⟩ := owns_formB p1 (by omega)
        show K _ _
        refine hK _ _ ?_
        clear hK K
        refine wpAnyIn_ready (rs := [7]) (by kernel_rfl) (by simp) ?_
        refine AllReadyIn.cons rfl (fun K hK => ?_) AllReadyIn.nil
        go_simp
        refine hK _ _ ?_
        clear hK K
        refine wpAnyIn_done (by kernel_rfl) ?_ _
        gi_wp2; exact HFIN.out _ _ _ (by repeat (first | exact Below.refl _ _ | refine Below.drew ?_ | refine Below.alloc ?_ (by simp) _)) p2 p1
    · have e2 : hi.toList.isEmpty = false := by
        cases h : hi.toList.isEmpty
        · rfl
        · exfalso; apply hhi
          rw [List.isEmpty_iff, toList_data] at h
          exact bytes_ext (by rw [h]; rfl)
      cases hk : klt a.it.key hi
      · rw [hk] at e1
        have hin' : inHi hi a.it.key = false := by rw [hin, hk]; simp [hhi]
        clear HFIN
        have HQ : Hid (∃ v, W.heap[w.heap.size + 1]? = some (.cells #[v] 37 (0, 0)) ∧ W.ownsRow (w.heap.size + 4) 9 1 v pre.length (strs (pre.map fun a => a.it.key))) := ⟨v, q1, q2⟩
        clear hin hk HRW HSR HCL ca1
        gi_wp2
        gi_region_with_o (fail)
        all_goals
          gi_wp2
          exact ⟨(KeepsOthers.drew W).from _, pre, a, rfl, hin', rfl, by obtain ⟨v, h1, h2⟩ := HQ.out; exact ⟨v, h1, ownsRow_upd h2 (Upd.ofBelow (S := fun _ => False) (Below.refl _ W).drew) (fun _ _ h => h)⟩, q4.drew, q5⟩
      · rw [hk] at e1
        have hin' : inHi hi a.it.key = true := by rw [hin, hk]; simp
        have HFIN := HFIN hin'
        clear hin hk
        gi_wp2
        gi_region_with_o (fail)
        all_goals
          gi_wp2
          refine wpIn_region_any (by kernel_rfl) ?_
          change wpAnyIn _ _ _ _ _ _ _ _ _ (World.drew _)
          refine wpAnyIn_ready (rs := [0, 1]) (by kernel_rfl) (by simp) ?_
          refine AllReadyIn.cons rfl (fun K hK => ?_) ?_
          · go_simp
            refine hK _ _ ?_
            clear hK K
            refine wpAnyIn_ready (rs := [1]) (by kernel_rfl) (by simp) ?_
            refine AllReadyIn.cons rfl (fun K hK => ?_) AllReadyIn.nil
            go_simp
            refine hK _ _ ?_
            clear hK K
            refine wpAnyIn_ready (rs := [2]) (by kernel_rfl) (by simp) ?_
            refine AllReadyIn.cons rfl (fun K hK => ?_) AllReadyIn.nil
            go_simp
            refine hK _ _ ?_
            clear hK K
            refine wpAnyIn_ready (rs := [3]) (by kernel_rfl) (by simp) ?_
            refine AllReadyIn.cons rfl (fun K hK => ?_) AllReadyIn.nil
            go_simp
            refine hK _ _ ?_
            clear hK K
            refine wpAnyIn_ready (rs := [4]) (by kernel_rfl) (by simp) ?_
            refine AllReadyIn.cons rfl (fun K hK => ?_) AllReadyIn.nil
            go_simp
            refine hK _ _ ?_
            clear hK K
            refine wpAnyIn_ready (rs := [5]) (by kernel_rfl) (by simp) ?_
            refine AllReadyIn.cons rfl (fun K hK => ?_) AllReadyIn.nil
            go_simp
            refine hK _ _ ?_
            clear hK K
            refine wpAnyIn_ready (rs := [6]) (by kernel_rfl) (by simp) ?_
            refine AllReadyIn.cons rfl (fun K hK => ?_) AllReadyIn.nil
            refine stepIn_appS _ rfl _ _ 37 37 rfl (w.heap.size + 4) 9 _ _ 1 Tryz.underlying37 hti hz0 hz1 rfl (by rw [hz2]; decide) v pre.length _ rfl (HRW.out _ (by repeat (first | exact Below.refl _ _ | refine Below.drew ?_ | refine Below.alloc ?_ (by simp) _))) (.slice (some ⟨W.heap.size, 0, none⟩) 1 1) rfl 1 (strs [a.it.key]) (HSR.out _ (by first | exact row_alloc (World.drew (World.drew _)) _ _ | exact row_alloc (World.drew _) _ _)) (by omega) (by simp; omega) ?_
            intro v' w' p1 p2 p3 p4
            obtain ⟨p5, p6⟩ := HCL.out _ w' (by repeat (first | exact Below.refl _ _ | refine Below.drew ?_ | refine Below.alloc ?_ (by simp) _)) p2
            obtain ⟨g', c', rfl, _, _⟩ := owns_formB p1 (by omega)
            show K _ _
            refine hK _ _ ?_
            clear hK K
            refine wpAnyIn_ready (rs := [7]) (by kernel_rfl) (by simp) ?_
            refine AllReadyIn.cons rfl (fun K hK => ?_) AllReadyIn.nil
            go_simp
            refine hK _ _ ?_
            clear hK K
            refine wpAnyIn_done (by kernel_rfl) ?_ _
            gi_wp2; exact HFIN.out _ _ _ (by repeat (first | exact Below.refl _ _ | refine Below.drew ?_ | refine Below.alloc ?_ (by simp) _)) p2 p1
          refine AllReadyIn.cons rfl (fun K hK => ?_) AllReadyIn.nil
          go_simp
          refine hK _ _ ?_
          clear hK K
          refine wpAnyIn_ready (rs := [0, 2]) (by kernel_rfl) (by simp) ?_
          refine AllReadyIn.cons rfl (fun K hK => ?_) ?_
          · go_simp
            refine hK _ _ ?_
            clear hK K
            refine wpAnyIn_ready (rs := [2]) (by kernel_rfl) (by simp) ?_
            refine AllReadyIn.cons rfl (fun K hK => ?_) AllReadyIn.nil
            go_simp
            refine hK _ _ ?_
            clear hK K
            refine wpAnyIn_ready (rs := [3]) (by kernel_rfl) (by simp) ?_
            refine AllReadyIn.cons rfl (fun K hK => ?_) AllReadyIn.nil
            go_simp
            refine hK _ _ ?_
            clear hK K
            refine wpAnyIn_ready (rs := [4]) (by kernel_rfl) (by simp) ?_
            refine AllReadyIn.cons rfl (fun K hK => ?_) AllReadyIn.nil
            go_simp
            refine hK _ _ ?_
            clear hK K
            refine wpAnyIn_ready (rs := [5]) (by kernel_rfl) (by simp) ?_
            refine AllReadyIn.cons rfl (fun K hK => ?_) AllReadyIn.nil
            go_simp
            refine hK _ _ ?_
            clear hK K
            refine wpAnyIn_ready (rs := [6]) (by kernel_rfl) (by simp) ?_
            refine AllReadyIn.cons rfl (fun K hK => ?_) AllReadyIn.nil
            refine stepIn_appS _ rfl _ _ 37 37 rfl (w.heap.size + 4) 9 _ _ 1 Tryz.underlying37 hti hz0 hz1 rfl (by rw [hz2]; decide) v pre.length _ rfl (HRW.out _ (by repeat (first | exact Below.refl _ _ | refine Below.drew ?_ | refine Below.alloc ?_ (by simp) _))) (.slice (some ⟨W.heap.size, 0, none⟩) 1 1) rfl 1 (strs [a.it.key]) (HSR.out _ (by first | exact row_alloc (World.drew (World.drew _)) _ _ | exact row_alloc (World.drew _) _ _)) (by omega) (by simp; omega) ?_
            intro v' w' p1 p2 p3 p4
            obtain ⟨p5, p6⟩ := HCL.out _ w' (by repeat (first | exact Below.refl _ _ | refine Below.drew ?_ | refine Below.alloc ?_ (by simp) _)) p2
            obtain ⟨g', c', rfl, _, _⟩ := owns_formB p1 (by omega)
            show K _ _
            refine hK _ _ ?_
            clear hK K
            refine wpAnyIn_ready (rs := [7]) (by kernel_rfl) (by simp) ?_
            refine AllReadyIn.cons rfl (fun K hK => ?_) AllReadyIn.nil
            go_simp
            refine hK _ _ ?_
            clear hK K
            refine wpAnyIn_done (by kernel_rfl) ?_ _
            gi_wp2; exact HFIN.out _ _ _ (by repeat (first | exact Below.refl _ _ | refine Below.drew ?_ | refine Below.alloc ?_ (by simp) _)) p2 p1
          refine AllReadyIn.cons rfl (fun K hK => ?_) AllReadyIn.nil
          go_simp
          refine hK _ _ ?_
          clear hK K
          refine wpAnyIn_ready (rs := [0, 3]) (by kernel_rfl) (by simp) ?_
          refine AllReadyIn.cons rfl (fun K hK => ?_) ?_
          · go_simp
            refine hK _ _ ?_
            clear hK K
            refine wpAnyIn_ready (rs := [3]) (by kernel_rfl) (by simp) ?_
            refine AllReadyIn.cons rfl (fun K hK => ?_) AllReadyIn.nil
            go_simp
            refine hK _ _ ?_
            clear hK K
            refine wpAnyIn_ready (rs := [4]) (by kernel_rfl) (by simp) ?_
            refine AllReadyIn.cons rfl (fun K hK => ?_) AllReadyIn.nil
            go_simp
            refine hK _ _ ?_
            clear hK K
            refine wpAnyIn_ready (rs := [5]) (by kernel_rfl) (by simp) ?_
            refine AllReadyIn.cons rfl (fun K hK => ?_) AllReadyIn.nil
            go_simp
            refine hK _ _ ?_
            clear hK K
            refine wpAnyIn_ready (rs := [6]) (by kernel_rfl) (by simp) ?_
            refine AllReadyIn.cons rfl (fun K hK => ?_) AllReadyIn.nil
            refine stepIn_appS _ rfl _ _ 37 37 rfl (w.heap.size + 4) 9 _ _ 1 Tryz.underlying37 hti hz0 hz1 rfl (by rw [hz2]; decide) v pre.length _ rfl (HRW.out _ (by repeat (first | exact Below.refl _ _ | refine Below.drew ?_ | refine Below.alloc ?_ (by simp) _))) (.slice (some ⟨W.heap.size, 0, none⟩) 1 1) rfl 1 (strs [a.it.key]) (HSR.out _ (by first | exact row_alloc (World.drew (World.drew _)) _ _ | exact row_alloc (World.drew _) _ _)) (by omega) (by simp; omega) ?_
            intro v' w' p1 p2 p3 p4
            obtain ⟨p5, p6⟩ := HCL.out _ w' (by repeat (first | exact Below.refl _ _ | refine Below.drew ?_ | refine Below.alloc ?_ (by simp) _)) p2
            obtain ⟨g', c', rfl, _, _⟩ := owns_formB p1 (by omega)
            show K _ _
            refine hK _ _ ?_
            clear hK K
            refine wpAnyIn_ready (rs := [7]) (by kernel_rfl) (by simp) ?_
            refine AllReadyIn.cons rfl (fun K hK => ?_) AllReadyIn.nil
            go_simp
            refine hK _ _ ?_
            clear hK K
            refine wpAnyIn_done (by kernel_rfl) ?_ _
            gi_wp2; exact HFIN.out _ _ _ (by repeat (first | exact Below.refl _ _ | refine Below.drew ?_ | refine Below.alloc ?_ (by simp) _)) p2 p1
          refine AllReadyIn.cons rfl (fun K hK => ?_) AllReadyIn.nil
          go_simp
          refine hK _ _ ?_
          clear hK K
          refine wpAnyIn_ready (rs := [0, 4]) (by kernel_rfl) (by simp) ?_
          refine AllReadyIn.cons rfl (fun K hK => ?_) ?_
          · go_simp
            refine hK _ _ ?_
            clear hK K
            refine wpAnyIn_ready (rs := [4]) (by kernel_rfl) (by simp) ?_
            refine AllReadyIn.cons rfl (fun K hK => ?_) AllReadyIn.nil
            go_simp
            refine hK _ _ ?_
            clear hK K
            refine wpAnyIn_ready (rs := [5]) (by kernel_rfl) (by simp) ?_
            refine AllReadyIn.cons rfl (fun K hK => ?_) AllReadyIn.nil
            go_simp
            refine hK _ _ ?_
            clear hK K
            refine wpAnyIn_ready (rs := [6]) (by kernel_rfl) (by simp) ?_
            refine AllReadyIn.cons rfl (fun K hK => ?_) AllReadyIn.nil
            refine stepIn_appS _ rfl _ _ 37 37 rfl (w.heap.size + 4) 9 _ _ 1 Tryz.underlying37 hti hz0 hz1 rfl (by rw [hz2]; decide) v pre.length _ rfl (HRW.out _ (by repeat (first | exact Below.refl _ _ | refine Below.drew ?_ | refine Below.alloc ?_ (by simp) _))) (.slice (some ⟨W.heap.size, 0, none⟩) 1 1) rfl 1 (strs [a.it.key]) (HSR.out _ (by first | exact row_alloc (World.drew (World.drew _)) _ _ | exact row_alloc (World.drew _) _ _)) (by omega) (by simp; omega) ?_
            intro v' w' p1 p2 p3 p4
            obtain ⟨p5, p6⟩ := HCL.out _ w' (by repeat (first | exact Below.refl _ _ | refine Below.drew ?_ | refine Below.alloc ?_ (by simp) _)) p2
            obtain ⟨g', c', rfl, _, _⟩ := owns_formB p1 (by omega)
            show K _ _
            refine hK _ _ ?_
            clear hK K
            refine wpAnyIn_ready (rs := [7]) (by kernel_rfl) (by simp) ?_
            refine AllReadyIn.cons rfl (fun K hK => ?_) AllReadyIn.nil
            go_simp
            refine hK _ _ ?_
            clear hK K
            refine wpAnyIn_done (by kernel_rfl) ?_ _
            gi_wp2; exact HFIN.out _ _ _ (by repeat (first | exact Below.refl _ _ | refine Below.drew ?_ | refine Below.alloc ?_ (by simp) _)) p2 p1
          refine AllReadyIn.cons rfl (fun K hK => ?_) AllReadyIn.nil
          go_simp
          refine hK _ _ ?_
          clear hK K
          refine wpAnyIn_ready (rs := [0, 5]) (by kernel_rfl) (by simp) ?_
          refine AllReadyIn.cons rfl (fun K hK => ?_) ?_
          · go_simp
            refine hK _ _ ?_
            clear hK K
            refine wpAnyIn_ready (rs := [5]) (by kernel_rfl) (by simp) ?_
            refine AllReadyIn.cons rfl (fun K hK => ?_) AllReadyIn.nil
            go_simp
            refine hK _ _ ?_
            clear hK K
            refine wpAnyIn_ready (rs := [6]) (by kernel_rfl) (by simp) ?_
            refine AllReadyIn.cons rfl (fun K hK => ?_) AllReadyIn.nil
            refine stepIn_appS _ rfl _ _ 37 37 rfl (w.heap.size + 4) 9 _ _ 1 Tryz.underlying37 hti hz0 hz1 rfl (by rw [hz2]; decide) v pre.length _ rfl (HRW.out _ (by repeat (first | exact Below.refl _ _ | refine Below.drew ?_ | refine Below.alloc ?_ (by simp) _))) (.slice (some ⟨W.heap.size, 0, none⟩) 1 1) rfl 1 (strs [a.it.key]) (HSR.out _ (by first | exact row_alloc (World.drew (World.drew _)) _ _ | exact row_alloc (World.drew _) _ _)) (by omega) (by simp; omega) ?_
            intro v' w' p1 p2 p3 p4
            obtain ⟨p5, p6⟩ := HCL.out _ w' (by repeat (first | exact Below.refl _ _ | refine Below.drew ?_ | refine Below.alloc ?_ (by simp) _)) p2
            obtain ⟨g', c', rfl, _, _⟩ := owns_formB p1 (by omega)
            show K _ _
            refine hK _ _ ?_
            clear hK K
            refine wpAnyIn_ready (rs := [7]) (by kernel_rfl) (by simp) ?_
            refine AllReadyIn.cons rfl (fun K hK => ?_) AllReadyIn.nil
            go_simp
            refine hK _ _ ?_
            clear hK K
            refine wpAnyIn_done (by kernel_rfl) ?_ _
            gi_wp2; exact HFIN.out _ _ _ (by repeat (first | exact Below.refl _ _ | refine Below.drew ?_ | refine Below.alloc ?_ (by simp) _)) p2 p1
          refine AllReadyIn.cons rfl (fun K hK => ?_) AllReadyIn.nil
          go_simp
          refine hK _ _ ?_
          clear hK K
          refine wpAnyIn_ready (rs := [0]) (by kernel_rfl) (by simp) ?_
          refine AllReadyIn.cons rfl (fun K hK => ?_) AllReadyIn.nil
          go_simp
          refine hK _ _ ?_
          clear hK K
          refine wpAnyIn_ready (rs := [6]) (by kernel_rfl) (by simp) ?_
          refine AllReadyIn.cons rfl (fun K hK => ?_) AllReadyIn.nil
          refine stepIn_appS _ rfl _ _ 37 37 rfl (w.heap.size + 4) 9 _ _ 1 Tryz.underlying37 hti hz0 hz1 rfl (by rw [hz2]; decide) v pre.length _ rfl (HRW.out _ (by repeat (first | exact Below.refl _ _ | refine Below.drew ?_ | refine Below.alloc ?_ (by simp) _))) (.slice (some ⟨W.heap.size, 0, none⟩) 1 1) rfl 1 (strs [a.it.key]) (HSR.out _ (by first | exact row_alloc (World.drew (World.drew _)) _ _ | exact row_alloc (World.drew _) _ _)) (by omega) (by simp; omega) ?_
          intro v' w' p1 p2 p3 p4
          obtain ⟨p5, p6⟩ := HCL.out _ w' (by repeat (first | exact Below.refl _ _ | refine Below.drew ?_ | refine Below.alloc ?_ (by simp) _)) p2
          obtain ⟨g', c', rfl, _, _⟩ := owns_formB p1 (by omega)
          show K _ _
          refine hK _ _ ?_
          clear hK K
          refine wpAnyIn_ready (rs := [7]) (by kernel_rfl) (by simp) ?_
          refine AllReadyIn.cons rfl (fun K hK => ?_) AllReadyIn.nil
          go_simp
          refine hK _ _ ?_
          clear hK K
          refine wpAnyIn_done (by kernel_rfl) ?_ _
          gi_wp2; exact HFIN.out _ _ _ (by repeat (first | exact Below.refl _ _ | refine Below.drew ?_ | refine Below.alloc ?_ (by simp) _)) p2 p1
  case done =>
    rintro D ys W hD hS ⟨⟨v, q1, q2⟩, q3, q4, q5, q6⟩ hK
    have k2 : W.cell? ⟨w.heap.size + 1, 0, none⟩ = some v := by simp [World.cell?, q1]
    have hk : keysL lo hi (R.map IM.it) = ys.map (fun a => a.it.key) := by
      show ((filt lo (R.map IM.it)).filter fun it => inHi hi it.key).map Itm.key = _
      rw [← hS, List.filter_eq_self.2 (fun it hit => by obtain ⟨b, hb, rfl⟩ := List.mem_map.1 hit; exact q5 b hb), List.map_map]; rfl
    gi_wp2
    refine ⟨by simp, .inl ⟨_, _, rfl, run_takeDeferred hK, ?_⟩⟩
    have hb := q4.trans (belowK_b (w := w) (Nat.le_refl _) W D _ (.deferred none) (by omega) hK rfl rfl)
    have hgr := grownBy_putObj' W D (.deferred none)
    have hrr : ∀ r, some D = some r → 0 ≤ r ∧ ∃ o : Obj, W.heap[r]? = some o ∧ o.isCells = false := fun r e => by cases e; exact ⟨Nat.zero_le _, _, hK, rfl⟩
    refine ⟨v, ?_, v, rfl, ?_⟩
    · simp [results, Tryz.results59, go_sem]
    · rw [hk]; exact ⟨by simpa using ownsRow_base (ownsRow_grown hgr hrr q2) (by omega), hb⟩
  case stop =>
    rintro D c pre W hD hS ⟨q, a, rfl, hna, rfl, ⟨v, q1, q2⟩, q4, q5⟩ hK
    have k2 : W.cell? ⟨w.heap.size + 1, 0, none⟩ = some v := by simp [World.cell?, q1]
    have hk : keysL lo hi (R.map IM.it) = q.map (fun a => a.it.key) := by
      rw [List.map_append] at hS
      have := keysL_stop lo hi hai hS (fun it hit => by obtain ⟨b, hb, rfl⟩ := List.mem_map.1 hit; exact q5 b hb) hna
      rw [this, List.map_map]; rfl
    gi_wp2
    refine ⟨by simp, .inl ⟨_, _, rfl, run_takeDeferred hK, ?_⟩⟩
    have hb := q4.trans (belowK_b (w := w) (Nat.le_refl _) W D _ (.deferred none) (by omega) hK rfl rfl)
    have hgr := grownBy_putObj' W D (.deferred none)
    have hrr : ∀ r, some D = some r → 0 ≤ r ∧ ∃ o : Obj, W.heap[r]? = some o ∧ o.isCells = false := fun r e => by cases e; exact ⟨Nat.zero_le _, _, hK, rfl⟩
    refine ⟨v, ?_, v, rfl, ?_⟩
    · simp [results, Tryz.results59, go_sem]
    · rw [hk]; exact ⟨by simpa using ownsRow_base (ownsRow_grown hgr hrr q2) (by omega), hb⟩
end Go.Proofs.YtjdmgmnndfhmgaaGreat
/- An index by what it says: its calls. -/
namespace Go.Proofs.YtjdmgmnndfhmgaaGreat
open Go Go.RowKit

theorem new_xd (w : World) : Calls Tryz.prog 35 #[] w fun e w' => e = .returned (ptr w.heap.size) ∧ Xd w' w.heap.size [] [w.heap.size] ∧ Below w.heap.size w w' ∧ w'.heap.size = w.heap.size + 1 :=
  (new_any w).mono fun _ _ ⟨h1, h2, h3, h4⟩ => ⟨h1, ⟨[], h2, rfl⟩, h3, h4⟩
section
variable {w : World} {x : Nat} {D : Dat} {F : List Nat} {n : Nat} (H : Xd w x D F) (hB : Bd n D) (hn : n ≤ 1000000)
include H
include hB hn
theorem put_xd (key : ByteArray) (rev : Int) (del : Bool) (hk : key.size ≤ 9223372036854775807) (hrv : -9223372036854775808 ≤ rev ∧ rev ≤ 9223372036854775807) :
    Calls Tryz.prog 76 #[ptr x, .string key, .agg #[.int .i64 rev, .bool del]] w fun e w' => e = .returned (.int .i64 (putE D key rev del)) ∧ ∃ F', Xd w' x (putD D key rev del) F' ∧ Step w w' F F' := by
  obtain ⟨R, h1, rfl⟩ := H
  refine (put_any h1 key rev del hk hrv (by have := hB.len; rw [dat_len] at this; omega) (fun r hr => by have := (hB.ms _ (mem_dat hr)).1; dsimp only at this; omega)).mono ?_
  rintro e w' ⟨rfl, R', F', q1, q2, q3⟩
  exact ⟨rfl, F', ⟨R', q1, q2⟩, q3⟩
theorem marks_xd (key : ByteArray) : Calls Tryz.prog 72 #[ptr x, .string key] w fun e w' => ∃ v, e = .returned v ∧ MarksPost w w' v ((lookD D key).getD []) := by
  obtain ⟨R, h1, rfl⟩ := H
  cases hl : lookD (dat R) key with
  | none =>
    have hno : key ∉ keysR R := fun hm => by
      rw [← dat_keys] at hm
      obtain ⟨p, hp, rfl⟩ := List.mem_map.1 hm
      obtain ⟨A, B, hAB⟩ := List.append_of_mem hp
      have := hB.asc
      rw [hAB] at this hl
      rw [lookD_at (X := A) (Z := B) (key := p.1) (ms := p.2) this] at hl
      cases hl
    refine (marks_no h1 key hno).mono ?_
    rintro e w' ⟨rfl, hb⟩
    exact ⟨_, rfl, ⟨none, 0, rfl, fun g hg => by cases hg⟩, World.ownsRow_nil _ _ _ _, hb⟩
  | some ms => exact marks_yes h1 key ms hl (by have := (hB.ms _ (lookD_mem hl)).1; dsimp only at this; omega)
end
/-- The keys of a range. -/
def keysD (lo hi : ByteArray) (D : Dat) : List ByteArray := (D.map Prod.fst).filter fun k => !klt k lo && inHi hi k
theorem keysD_dat (lo hi : ByteArray) (R : List IM) : keysL lo hi (R.map IM.it) = keysD lo hi (dat R) := by
  unfold keysL keysD filt
  rw [List.filter_filter, dat_keys]
  induction R with
  | nil => rfl
  | cons r R ih =>
    simp only [keysR, List.map_cons, List.filter_cons]
    rw [Bool.and_comm]
    by_cases hq : (!klt r.it.key lo && inHi hi r.it.key) = true
    · rw [if_pos hq, if_pos hq, List.map_cons, ih]
    · rw [if_neg hq, if_neg hq, ih]
theorem keys_xd {w : World} {x : Nat} {D : Dat} {F : List Nat} (H : Xd w x D F) (hD : D.length ≤ 1000000) (lo hi : ByteArray) : Calls Tryz.prog 59 #[ptr x, .string lo, .string hi] w fun e w' => ∃ v, e = .returned v ∧ KeysPost w w' v (keysD lo hi D) := by
  obtain ⟨R, h1, rfl⟩ := H
  have := keys_any h1 lo hi (by rw [dat_len] at hD; exact hD)
  rw [keysD_dat] at this
  exact this
theorem KeysPost.row {w w' : World} {v : Value} {ks : List ByteArray} (h : KeysPost w w' v ks) : Row w' v ks := by
  refine ⟨owns_formB0 h.1, fun j k hj => ?_⟩
  have hl := (List.getElem?_eq_some_iff.1 hj).1
  obtain ⟨g, c, hv, _, _⟩ := owns_formB h.1 (by omega)
  have hc := h.1.cells (g := g) (by rw [hv]; rfl) j (.string k) (by simp [hj])
  simp only [Addr.add_lit, Nat.zero_add] at hc
  exact ⟨g, c, hv, World.block_lt_of_cell? _ _ hc, hc⟩
theorem keysD_asc {lo hi : ByteArray} {D : Dat} (h : Asc (D.map Prod.fst)) : Asc (keysD lo hi D) := asc_sublist List.filter_sublist h
end Go.Proofs.YtjdmgmnndfhmgaaGreat
/- The keys of a range that a store knows. -/
namespace Go.Proofs.YtjdmgmnndfhmgaaGreat
open Go Go.RowKit

theorem bl_nil : ∀ a : List UInt8, Op.bytesLess a [] = false
  | [] => rfl
  | _ :: _ => rfl
theorem bl_zero : ∀ a b : List UInt8, Op.bytesLess a b = false → Op.bytesLess a (b ++ [0]) = true → a = b
  | [], [], _, _ => rfl
  | [], _ :: _, h, _ => by simp [Op.bytesLess] at h
  | x :: a, [], _, h => by
    simp only [List.nil_append, Op.bytesLess, bl_nil, Bool.and_false, Bool.or_false, decide_eq_true_eq] at h
    exact absurd h (UInt8.not_lt.2 (UInt8.zero_le))
  | x :: a, y :: b, h1, h2 => by
    simp only [List.cons_append, Op.bytesLess, Bool.or_eq_false_iff, Bool.or_eq_true, decide_eq_false_iff_not, decide_eq_true_eq, Bool.and_eq_false_iff, Bool.and_eq_true, beq_eq_false_iff_ne, beq_iff_eq] at h1 h2
    rcases h2 with h2 | ⟨rfl, h2⟩
    · exact absurd h2 h1.1
    · rw [bl_zero a b (h1.2.resolve_left (fun h => h rfl)) h2]
theorem bl_snoc : ∀ a : List UInt8, Op.bytesLess a (a ++ [0]) = true
  | [] => rfl
  | x :: a => by simp [Op.bytesLess, bl_snoc a]
/-- A key is one of the range from lo to hi. -/
def inR (lo hi k : ByteArray) : Bool := if hi = ByteArray.empty then decide (k = lo) else !klt k lo && klt k hi
def rangeK (S : Sto) (lo hi : ByteArray) : List ByteArray := S.ks.filter (inR lo hi)
theorem datS_keys (S : Sto) : (datS S).map Prod.fst = S.ks := by
  unfold datS
  rw [List.map_map]
  exact List.map_id _
theorem rangeK_hi {S : Sto} {lo hi : ByteArray} (h : ¬ hi = ByteArray.empty) : keysD lo hi (datS S) = rangeK S lo hi := by
  unfold keysD rangeK
  rw [datS_keys]
  apply List.filter_congr
  intro k _
  unfold inR inHi
  rw [if_neg h]
  simp [h]
theorem rangeK_one {S : Sto} {lo : ByteArray} : keysD lo (lo ++ ⟨#[0]⟩) (datS S) = rangeK S lo ByteArray.empty := by
  unfold keysD rangeK
  rw [datS_keys]
  apply List.filter_congr
  intro k _
  unfold inR inHi
  have hd : (lo ++ (⟨#[0]⟩ : ByteArray)).data.toList = lo.data.toList ++ [0] := by simp
  have hne : ¬ (lo ++ (⟨#[0]⟩ : ByteArray)) = ByteArray.empty := fun e => by
    rw [e] at hd
    simp at hd
  rw [if_pos rfl]
  simp only [hne, decide_false, Bool.false_or]
  by_cases e : k = lo
  · subst e
    rw [klt_irrefl]
    unfold klt
    rw [hd, bl_snoc]
    simp
  · simp only [e, decide_false]
    cases h1 : klt k lo
    · cases h2 : klt k (lo ++ ⟨#[0]⟩)
      · rfl
      · exfalso
        unfold klt at h1 h2
        rw [hd] at h2
        exact e (bytes_ext (bl_zero _ _ h1 h2))
    · rfl
set_option maxRecDepth 100000 in
set_option maxHeartbeats 1000000 in
theorem keys_st {n : Nat} {w : World} {s : Nat} {S : Sto} {g : Sg} {o : Value} (h : St n w s S g o) (hn : n ≤ 1000000) (lo hi : ByteArray) (hl : lo.size ≤ 140737488355328) (hh : hi.size ≤ 140737488355328) :
    Calls Tryz.prog 37 #[ptr s, .string lo, .string hi] w fun e w' => ∃ p c, e = .returned (.slice p (rangeK S lo hi).length c) ∧ KeysPost w w' (.slice p (rangeK S lo hi).length c) (rangeK S lo hi) := by
  obtain ⟨-, -, c2, -⟩ := h.cells
  have hlen : (datS S).length ≤ 1000000 := Nat.le_trans h.bd.len hn
  by_cases e : hi = ByteArray.empty
  · subst e
    have hk := keys_xd h.ix hlen lo (lo ++ ⟨#[0]⟩)
    rw [rangeK_one] at hk
    clear h hlen
    have hs : lo.size + 1 ≤ 9223372036854775807 := by omega
    go_enter Tryz.func37, Tryz.ntmps37
    go_wp2_with (go_at_call 59; refine hk.mono ?_; rintro e w1 ⟨v, rfl, hP⟩)
    obtain ⟨p, c, rfl⟩ := hP.row.form
    go_ret
    exact ⟨p, c, rfl, hP⟩
  · have hk := keys_xd h.ix hlen lo hi
    rw [rangeK_hi e] at hk
    clear h hlen
    have he : hi.toList.isEmpty = false := by
      cases hq : hi.toList.isEmpty
      · rfl
      · exfalso
        apply e
        apply bytes_ext
        rw [← toList_data]
        simpa using hq
    go_enter Tryz.func37, Tryz.ntmps37
    go_wp2_with (go_at_call 59; refine hk.mono ?_; rintro e w1 ⟨v, rfl, hP⟩)
    obtain ⟨p, c, rfl⟩ := hP.row.form
    go_ret
    exact ⟨p, c, rfl, hP⟩
end Go.Proofs.YtjdmgmnndfhmgaaGreat
