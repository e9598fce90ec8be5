/- A write notes a change. -/
import Derived.Test.YtjdmgmnndfhmgaaGRI
import Derived.Test.YtjdmgmnndfhmgaaGRE
namespace Go.Proofs.Ytjdmgmnndfhmgaa
open Go Go.RowKit

def Wri.note (W : Wri) (key : ByteArray) (c : Option KVd) : Wri := { W with keys := W.keys ++ [key], ch := fun k => if k = key then some c else W.ch k }
theorem wcF_note (W : Wri) (key : ByteArray) (c : Option KVd) (k : ByteArray) : wcF (W.note key c) k = setF (wcF W) key (encC key c) k := by
  unfold wcF Wri.note setF
  by_cases hk : k = key
  · subst hk; simp
  · simp [hk]
theorem Wm.apart {w : World} {s b : Nat} {W : Wri} {h : Wg} (H : Wm w b s W h) : (∀ k, h.v.ownBlock = some k → k ≠ b ∧ k ≠ h.bw) ∧ b ≠ h.bw := by
  obtain ⟨es, cl, L, hm, -⟩ := H.mp
  refine ⟨fun k hk => ?_, fun e => ?_⟩
  · obtain ⟨_, cc, f, hh⟩ := ownBlock_ge H.row hk
    refine ⟨fun e => ?_, fun e => ?_⟩
    · have := H.blk; rw [← e, hh] at this; cases this
    · rw [← e, hh] at hm; cases hm
  · have := H.blk; rw [e, hm] at this; cases this
/-- What a write's call leaves of its blocks. -/
def KpW (w w' : World) (b : Nat) (h h' : Wg) : Prop := Upd w w' (ftW b h) ∧ ∀ k, ftW b h' k → ftW b h k ∨ w.heap.size ≤ k
set_option maxRecDepth 100000 in
set_option maxHeartbeats 1000000 in
theorem note_st {w : World} {s b : Nat} {W : Wri} {h : Wg} (H : Wm w b s W h) (key : ByteArray) (c : Option KVd) (hk : key ∉ W.keys) (hn : W.keys.length ≤ 100000) :
    Calls Try.prog 27 #[ptr b, .string key, encC key c] w fun e w' => e = .returned (.tuple #[]) ∧ ∃ h', Wm w' b s (W.note key c) h' ∧ KpW w w' b h h' := by
  obtain ⟨t9, hti9, hz09, hz19, hz29⟩ := info_parts info9
  obtain ⟨c0, c1, c2, -⟩ := H.cells
  have hbl : b < w.heap.size := H.lt (.inl rfl)
  have hba : Below w.heap.size w (w.alloc (.cells #[.string key] 9)) := (Below.refl _ w).alloc (Nat.le_refl _) _
  have H1 := H.below hba
  have hsrc : Src Try.prog 1 71 (.slice (some ⟨w.heap.size, 0, none⟩) 1 1) 1 (strs [key]) (w.alloc (.cells #[.string key] 9)) := Src.ofSlice _ Try.underlying71 ⟨w.heap.size, 0, none⟩ 1 1 _ rfl (fun j u hj => by
    rw [Addr.add_lit, Nat.zero_add, cell_of_row _ _ _ _ _ _ (row_alloc w #[.string key] 9)]; simpa using hj) (fun u hu => by simp at hu; subst hu; rfl)
  have hown := H1.row
  have HH := Hid.mk'' H
  have HH1 := Hid.mk'' H1
  generalize hV : w.alloc (.cells #[.string key] 9) = V at *
  have hVs : V.heap.size = w.heap.size + 1 := by rw [← hV]; simp
  clear H H1
  go_enter Try.func27, Try.ntmps27
  go_upto_region 1 with (at_builtin; refine wpList_appS _ rfl (.tmp 10) (.tmp 12) 71 71 rfl 0 9 t9 _ 1 Try.underlying71 hti9 hz09 hz19 rfl (by rw [hz29]; decide) _ W.keys.length (strs W.keys) rfl hown _ rfl 1 (strs [key]) hsrc (by omega) (Nat.zero_le _) ?_; intro v' w2 p1 p2 p3 p4; clear p4; have p2' : Upd V w2 (fun k => some k = h.v.ownBlock) := p2; have p3' : v'.ownBlock = h.v.ownBlock ∨ v'.ownBlock = some V.heap.size := p3; clear p2 p3; obtain ⟨np, nc, hnv⟩ := owns_formB0 p1; subst hnv; have q0 := (p2'.block b (HH1.out.lt (.inl rfl)) (fun e => (HH1.out.apart.1 b e.symm).1 rfl)).trans HH1.out.blk; have k1 : w2.cell? ⟨b, 1, none⟩ = some h.v := cell_of_row _ _ _ _ _ _ q0; have k2 : w2.cell? ⟨b, 2, none⟩ = some (.map (some h.bw)) := cell_of_row _ _ _ _ _ _ q0; have f1 := frozen_of_row w2 b 1 _ _ q0)
  obtain ⟨w3, hw3⟩ : ∃ w3, w3 = w2.setCell ⟨b, 1, none⟩ (.slice np (W.keys.length + 1) nc) := ⟨_, rfl⟩
  rw [← hw3]
  have hu3 : Upd w2 w3 (fun k => k = b) := by rw [hw3]; exact (Upd.refl w2 (fun k => k = b)).setCell (p := ⟨b, 1, none⟩) (.inr rfl) _
  have q3 : w3.heap[b]? = some (.cells #[ptr s, .slice np (W.keys.length + 1) nc, .map (some h.bw), .int .i64 W.count] 73 (0, 0)) := by rw [hw3]; exact heap_setCell_row q0 _
  have k3 : w3.cell? ⟨b, 2, none⟩ = some (.map (some h.bw)) := cell_of_row _ _ _ _ _ _ q3
  have hap := HH1.out.apart
  have hm2 : MapF w2 encB h.bw (wcF W) h.nw := HH1.out.mp.upd p2' (fun e => (hap.1 h.bw e.symm).2 rfl)
  have hm3 : MapF w3 encB h.bw (wcF W) h.nw := hm2.upd hu3 (fun e => hap.2 e.symm)
  obtain ⟨w4, hup, hm4, hu4⟩ := hm3.set law65 Try.underlying70 key (encC key c)
  have hup' : (Instr.mapUpdate 70 (.map (some h.bw)) (.string key) (encC key c)).run Try.prog w3 = .ok () w4 := hup
  have HF : Hid (∃ h', Wm w4 b s (W.note key c) h' ∧ KpW w w4 b h h') := by
    have hnb : ∀ k, (Value.slice np (W.keys.length + 1) nc).ownBlock = some k → k ≠ b ∧ k ≠ h.bw := fun k hk => by
      rcases p3' with e | e
      · exact hap.1 k (by rw [← e]; exact hk)
      · rw [e] at hk
        cases hk
        have h1 := HH1.out.lt (.inl rfl)
        have h2 := HH1.out.lt (.inr (.inl rfl))
        omega
    refine ⟨⟨h.bw, .slice np (W.keys.length + 1) nc, _⟩, ⟨?_, hm4.congr (wcF_note W key c), ?_, ?_, ?_⟩, ?_, ?_⟩
    · exact (hu4.block b (Nat.lt_of_lt_of_le (HH1.out.lt (.inl rfl)) (Nat.le_trans p2'.size hu3.size)) hap.2).trans q3
    · have r3 := ownsRow_upd p1 hu3 (fun k hk => (hnb k hk).1)
      have r4 := ownsRow_upd r3 hu4 (fun k hk => (hnb k hk).2)
      simpa [Wri.note] using r4
    · intro k
      have := HH.out.cov k
      unfold Wri.note
      by_cases e : k = key
      · subst e; simp
      · simp [e, this]
    · unfold Wri.note
      rw [List.nodup_append]
      exact ⟨HH.out.nd, by simp, fun x hx y hy => by
        obtain rfl : y = key := by simpa using hy
        exact fun e => hk (e ▸ hx)⟩
    · have hwV : Upd w V (ftW b h) := Upd.ofBelow hba
      have a1 := hwV.trans (p2'.mono (T := ftW b h) (fun k _ hk => .inr (.inr hk.symm))) (fun j _ hg => hg)
      have a2 := a1.trans (hu3.mono (T := ftW b h) (fun k _ hk => .inl hk)) (fun j _ hg => hg)
      exact a2.trans (hu4.mono (T := ftW b h) (fun k _ hk => .inr (.inl hk))) (fun j _ hg => hg)
    · rintro k (rfl | rfl | hk2)
      · exact .inl (.inl rfl)
      · exact .inl (.inr (.inl rfl))
      · rcases p3' with e | e
        · exact .inl (.inr (.inr (by rw [← e]; exact hk2)))
        · rw [e] at hk2
          cases hk2
          exact .inr (by omega)
  clear hup hm4 hu4 hm3 hm2 hap p1 p2' p3' q0 q3 hw3 hu3 HH HH1 hown hsrc hba hV hVs
  go_wp2
  first | go_end0 | refine bodyPost_ret (results_none rfl _ _ _) rfl ?_
  exact ⟨rfl, HF.out⟩
end Go.Proofs.Ytjdmgmnndfhmgaa
/- Put of a write. -/
namespace Go.Proofs.Ytjdmgmnndfhmgaa
open Go Go.RowKit

theorem sz0 {k : ByteArray} (h : ¬ 1 ≤ k.size) : k = ByteArray.empty := by
  apply bytes_ext
  have : k.data.size = 0 := by
    have : k.size = 0 := by omega
    exact this
  have e : k.data = #[] := Array.eq_empty_of_size_eq_zero this
  rw [e]; rfl
set_option maxHeartbeats 400000 in
theorem slite_clone0 (w : World) : Calls Try.prog 29 #[.string ByteArray.empty] w fun e w' => e = .returned (.string ByteArray.empty) ∧ Below w.heap.size w w' := by
  have h0 : ByteArray.empty.size = 0 := rfl
  go_enter Try.func29, Try.ntmps29
  go_wp2
  go_ret
  exact ⟨rfl, Below.refl _ _⟩
set_option maxHeartbeats 400000 in
theorem clone_all (s : ByteArray) (h1 : s.size ≤ 1000000) (w : World) : Calls Try.prog 20 #[.string s] w fun e w' => e = .returned (.string s) ∧ Below w.heap.size w w' := by
  by_cases h0 : 1 ≤ s.size
  · exact sclone s w h0 h1
  · have := sz0 h0
    subst this
    have hs := slite_clone0 w
    go_enter Try.func20, Try.ntmps20
    go_wp2_with (go_at_call 29; refine hs.mono ?_; rintro e w1 ⟨rfl, hb⟩)
    go_ret
    exact ⟨rfl, hb⟩
end Go.Proofs.Ytjdmgmnndfhmgaa
/- Put of a write, where it is refused. -/
namespace Go.Proofs.Ytjdmgmnndfhmgaa
open Go Go.RowKit

theorem KpW.same {w w' : World} {b : Nat} {h : Wg} (hb : Below w.heap.size w w') : KpW w w' b h h := ⟨Upd.ofBelow hb, fun _ hk => .inl hk⟩
section
variable {n : Nat} {w : World} {s b : Nat} {S : Sto} {W : Wri} {g : Sg} {h : Wg} (H : Ow n w s b S W g h) (key value : ByteArray) (lease : Int) (hk : key.size ≤ 9223372036854775807) (hv : value.size ≤ 9223372036854775807)
include H hk
set_option maxRecDepth 100000 in
set_option maxHeartbeats 1000000 in
theorem wput_arg (hc : ¬ (0 < key.size ∧ key.size ≤ 100) ∨ lease < 0) : Calls Try.prog 16 #[ptr b, .string key, .string value, .int .i64 lease] w fun e w' => e = .returned (.int .i64 1) ∧ w' = w := by
  have ho := open_st H
  have hi := iskey_any key w hk
  clear H
  by_cases h0 : 0 < key.size ∧ key.size ≤ 100
  · have h1 : lease < 0 := hc.resolve_left (fun h => h h0)
    rw [decide_eq_true h0] at hi
    go_enter Try.func16, Try.ntmps16
    go_wp2_with (first | (go_at_call 23; refine ho.mono ?_; rintro e w' ⟨rfl, rfl⟩) | (go_at_call 24; refine hi.mono ?_; rintro e w' ⟨rfl, rfl⟩))
    go_ret
    exact ⟨rfl, rfl⟩
  · rw [decide_eq_false h0] at hi
    go_enter Try.func16, Try.ntmps16
    go_wp2_with (first | (go_at_call 23; refine ho.mono ?_; rintro e w' ⟨rfl, rfl⟩) | (go_at_call 24; refine hi.mono ?_; rintro e w' ⟨rfl, rfl⟩))
    go_ret
    exact ⟨rfl, rfl⟩
include hv
set_option maxRecDepth 100000 in
set_option maxHeartbeats 1000000 in
theorem wput_long (h0 : 0 < key.size ∧ key.size ≤ 100) (h1 : ¬ lease < 0) (h2 : 4096 < value.size) : Calls Try.prog 16 #[ptr b, .string key, .string value, .int .i64 lease] w fun e w' => e = .returned (.int .i64 5) ∧ w' = w := by
  have ho := open_st H
  have hi := iskey_any key w hk
  clear H
  rw [decide_eq_true h0] at hi
  go_enter Try.func16, Try.ntmps16
  go_wp2_with (first | (go_at_call 23; refine ho.mono ?_; rintro e w' ⟨rfl, rfl⟩) | (go_at_call 24; refine hi.mono ?_; rintro e w' ⟨rfl, rfl⟩))
  go_ret
  exact ⟨rfl, rfl⟩
set_option maxRecDepth 100000 in
set_option maxHeartbeats 1000000 in
theorem wput_twice (h0 : 0 < key.size ∧ key.size ≤ 100) (h1 : ¬ lease < 0) (h2 : ¬ 4096 < value.size) {o : Option KVd} (h3 : W.ch key = some o) : Calls Try.prog 16 #[ptr b, .string key, .string value, .int .i64 lease] w fun e w' => e = .returned (.int .i64 18) ∧ w' = w := by
  have ho := open_st H
  have hi := iskey_any key w hk
  obtain ⟨-, -, c2, -⟩ := H.wr.cells
  have hlk : (Instr.lookup 70 (.map (some h.bw)) (.string key) false).run Try.prog w = .ok ((wcF W key).getD .nilIface) w := H.wr.mp.look law65 Try.underlying70 (zero71 _) key false
  have e2 : wcF W key = some (encC key o) := by unfold wcF; rw [h3]; rfl
  rw [e2] at hlk
  dsimp only [Option.getD_some] at hlk
  obtain ⟨ti, xi, hni⟩ : ∃ ti xi, encC key o = .iface ti xi := by cases o <;> exact ⟨_, _, rfl⟩
  rw [hni] at hlk
  clear H e2 hni
  rw [decide_eq_true h0] at hi
  go_enter Try.func16, Try.ntmps16
  go_wp2_with (first | (go_at_call 23; refine ho.mono ?_; rintro e w' ⟨rfl, rfl⟩) | (go_at_call 24; refine hi.mono ?_; rintro e w' ⟨rfl, rfl⟩))
  go_ret
  exact ⟨rfl, rfl⟩
set_option maxRecDepth 100000 in
set_option maxHeartbeats 1000000 in
theorem wput_full (h0 : 0 < key.size ∧ key.size ≤ 100) (h1 : ¬ lease < 0) (h2 : ¬ 4096 < value.size) (h3 : W.ch key = none) (h4 : thereH (S.kh key) = none) (h5 : 4096 ≤ W.count) : Calls Try.prog 16 #[ptr b, .string key, .string value, .int .i64 lease] w fun e w' => e = .returned (.int .i64 14) ∧ Below w.heap.size w w' := by
  have ho := open_st H
  have hi := iskey_any key w hk
  obtain ⟨-, -, c2, -⟩ := H.wr.cells
  have hlk : (Instr.lookup 70 (.map (some h.bw)) (.string key) false).run Try.prog w = .ok ((wcF W key).getD .nilIface) w := H.wr.mp.look law65 Try.underlying70 (zero71 _) key false
  have e2 : wcF W key = none := by unfold wcF; rw [h3]; rfl
  rw [e2] at hlk
  dsimp only [Option.getD_none] at hlk
  have hlo := look_st H key
  have e3 : lookW S W key = none := by unfold lookW; rw [h3]; exact h4
  rw [e3] at hlo
  dsimp only [Option.getD_none, encKV, noKV, Option.isSome_none] at hlo
  have HC : Hid (∀ W', Below w.heap.size w W' → W'.cell? ⟨b, 3, none⟩ = some (.int .i64 W.count)) := fun W' hb => (H.below hb).wr.cells.2.2.2
  clear H e2 e3 h3 h4
  rw [decide_eq_true h0] at hi
  go_enter Try.func16, Try.ntmps16
  go_upto_region 10 with (first | (go_at_call 23; refine ho.mono ?_; rintro e w' ⟨rfl, rfl⟩) | (go_at_call 24; refine hi.mono ?_; rintro e w' ⟨rfl, rfl⟩) | (go_at_call 25; refine hlo.mono ?_; rintro e w3 ⟨rfl, hb3⟩))
  have hb4 := hb3.alloc hb3.size (.cells #[.string ByteArray.empty, .string ByteArray.empty, .int .i64 0, .int .i64 0, .int .i64 0, .int .i64 0] 35)
  have c3 := HC.out _ hb4
  have HB := Hid.mk'' hb4
  clear hb3 hb4 HC
  go_wp2
  go_ret
  exact ⟨rfl, HB.out⟩
end
end Go.Proofs.Ytjdmgmnndfhmgaa
/- Put of a write, where it is done. -/
namespace Go.Proofs.Ytjdmgmnndfhmgaa
open Go Go.RowKit

theorem Ow.step {n : Nat} {w w' : World} {s b : Nat} {S : Sto} {W W' : Wri} {g : Sg} {h h' : Wg} (H : Ow n w s b S W g h) (H' : Wm w' b s W' h') (K : KpW w w' b h h') : Ow n w' s b S W' g h' :=
  ⟨H.st.upd K.1 H.ap, H', fun k hk hw => (K.2 k hw).elim (H.ap k hk) (fun hge => absurd (H.st.lt hk) (by omega))⟩
theorem KpW.trans {w w1 w2 : World} {b : Nat} {h h1 h2 : Wg} (K : KpW w w1 b h h1) (K' : KpW w1 w2 b h1 h2) : KpW w w2 b h h2 :=
  ⟨K.1.trans K'.1 (fun j hj hg => (K.2 j hg).resolve_right (by omega)), fun k hk => (K'.2 k hk).elim (K.2 k) (fun hge => .inr (Nat.le_trans K.1.size hge))⟩
/-- The count of a write is turned. -/
theorem Wm.setCount {w : World} {s b : Nat} {W : Wri} {h : Wg} (H : Wm w b s W h) (c : Int) : Wm (w.setCell ⟨b, 3, none⟩ (.int .i64 c)) b s { W with count := c } h ∧ KpW w (w.setCell ⟨b, 3, none⟩ (.int .i64 c)) b h h := by
  have hu : Upd w (w.setCell ⟨b, 3, none⟩ (.int .i64 c)) (fun k => k = b) := (Upd.refl w (fun k => k = b)).setCell (p := ⟨b, 3, none⟩) (.inr rfl) _
  exact ⟨⟨heap_setCell_row H.blk _, H.mp.upd hu (fun e => H.apart.2 e.symm), ownsRow_upd H.row hu (fun k hk => (H.apart.1 k hk).1), H.cov, H.nd⟩, hu.mono (fun k _ hk => .inl hk), fun _ hk => .inl hk⟩
section
variable {n : Nat} {w : World} {s b : Nat} {S : Sto} {W : Wri} {g : Sg} {h : Wg} (H : Ow n w s b S W g h) (key value : ByteArray) (lease : Int) (hk : 0 < key.size ∧ key.size ≤ 100) (hv : ¬ 4096 < value.size) (hl : ¬ lease < 0) (hc : W.ch key = none) (hn : W.keys.length ≤ 100000) (hr : S.rev ≤ 1000000)
include H hk hv hl hc hn hr
set_option maxRecDepth 100000 in
set_option maxHeartbeats 1000000 in
theorem wput_there {kv : KVd} (ht : thereH (S.kh key) = some kv) (hve : 0 ≤ kv.version ∧ kv.version ≤ 1000000) : Calls Try.prog 16 #[ptr b, .string key, .string value, .int .i64 lease] w fun e w' => e = .returned (.int .i64 0) ∧ ∃ h', Ow n w' s b S (W.note key (some ⟨key, value, kv.create, (S.rev : Int) + 1, kv.version + 1, lease⟩)) g h' ∧ KpW w w' b h h' := by
  obtain ⟨kk, kvv, kcr, kmo, kve, kle⟩ := kv
  dsimp only at hve ⊢
  have ho := open_st H
  have hi := iskey_any key w (by omega)
  obtain ⟨-, -, c2, -⟩ := H.wr.cells
  have hlk : (Instr.lookup 70 (.map (some h.bw)) (.string key) false).run Try.prog w = .ok ((wcF W key).getD .nilIface) w := H.wr.mp.look law65 Try.underlying70 (zero71 _) key false
  have e2 : wcF W key = none := by unfold wcF; rw [hc]; rfl
  rw [e2] at hlk
  dsimp only [Option.getD_none] at hlk
  have hlo := look_st H key
  have e3 : lookW S W key = some ⟨kk, kvv, kcr, kmo, kve, kle⟩ := by unfold lookW; rw [hc]; exact ht
  rw [e3] at hlo
  dsimp only [Option.getD_some, Option.getD_none, noKV, encKV, Option.isSome_some, Option.isSome_none] at hlo
  have HH := Hid.mk'' H
  clear e2 e3 H
  rw [decide_eq_true hk] at hi
  go_enter Try.func16, Try.ntmps16
  go_upto_region 15 with (first | (go_at_call 23; refine ho.mono ?_; rintro e w' ⟨rfl, hw'⟩; obtain rfl := hw'.symm) | (go_at_call 24; refine hi.mono ?_; rintro e w' ⟨rfl, hw'⟩; obtain rfl := hw'.symm) | (go_at_call 25; refine hlo.mono ?_; rintro e w3 ⟨rfl, hb3⟩))
  clear hlk c2 hi ho hlo ht
  obtain ⟨wa, hwa⟩ : ∃ wa, wa = w3.alloc (.cells #[.string kk, .string kvv, .int .i64 kcr, .int .i64 kmo, .int .i64 kve, .int .i64 kle] 35) := ⟨_, rfl⟩
  rw [← hwa]
  have hba : Below w.heap.size w wa := by rw [hwa]; exact hb3.alloc hb3.size _
  obtain ⟨bx, hbx⟩ : ∃ bx, bx = w3.heap.size := ⟨_, rfl⟩
  rw [← hbx]
  have HBX : Hid (wa.heap[bx]? = some (.cells #[.string kk, .string kvv, .int .i64 kcr, .int .i64 kmo, .int .i64 kve, .int .i64 kle] 35 (0, 0))) := by rw [hwa, hbx]; exact row_alloc w3 _ _
  have HO : Hid ((w.heap.size ≤ bx ∧ ∀ k, ftW b h k → k < w.heap.size) ∧ KpW w wa b h h ∧ Ow n wa s b S W g h) := ⟨⟨by rw [hbx]; exact hb3.size, fun k hk => HH.out.wr.lt hk⟩, KpW.same hba, HH.out.below hba⟩
  clear hwa hbx hba hb3 HH
  have hlt : ∀ k, ftW b h k → k < w.heap.size := fun k hk => HO.out.1.2 k hk
  have hc1 := clone_all key (by omega)
  have hc2 := clone_all value (by omega)
  go_upto_region 16 with (first | (go_at_call 20; refine (hc1 wa).mono ?_; rintro e w7 ⟨rfl, hb7⟩) | (go_at_call 20; refine (hc2 w7).mono ?_; rintro e w8 ⟨rfl, hb8⟩))
  have hb9 : Below wa.heap.size wa w8.drew := (hb7.trans (hb8.mono hb7.size)).drew
  have HO8 := Hid.mk'' (HO.out.2.2.below hb9)
  have hrev := wrev_st HO8.out hr
  have hnote := note_st HO8.out.wr key (some ⟨key, value, kcr, (S.rev : Int) + 1, kve + 1, lease⟩) (fun hm => by have := (HO8.out.wr.cov key).2 hm; exact this hc) hn
  dsimp only [encC, encKV] at hnote
  have r8 := (hb9.block bx (by have := (Array.getElem?_eq_some_iff.1 HBX.out).1; omega)).trans HBX.out
  obtain ⟨⟨-, -, x2, -, x4, -⟩, -⟩ := box6 r8
  have hS8 : w8.drew.cell? ⟨bx, 2, none⟩ = some (.int .i64 (kcr)) ∧ w8.drew.cell? ⟨bx, 4, none⟩ = some (.int .i64 (kve)) := ⟨x2, x4⟩
  have HS9 : Hid (∀ w9, Upd w8.drew w9 (ftW b h) → w9.cell? ⟨bx, 2, none⟩ = some (.int .i64 (kcr)) ∧ w9.cell? ⟨bx, 4, none⟩ = some (.int .i64 (kve))) := fun w9 hu => by
    have hbl : bx < w8.drew.heap.size := (Array.getElem?_eq_some_iff.1 r8).1
    have hno : ¬ ftW b h bx := fun hf => by have := hlt bx hf; have := HO.out.1.1; omega
    exact ⟨(hu.cell (p := ⟨bx, 2, none⟩) hbl hno).trans x2, (hu.cell (p := ⟨bx, 4, none⟩) hbl hno).trans x4⟩
  have HFIN : Hid (∀ w9, (∃ h', Wm w9 b s (W.note key (some ⟨key, value, kcr, (S.rev : Int) + 1, kve + 1, lease⟩)) h' ∧ KpW w8.drew w9 b h h') → ∃ h', Ow n w9 s b S (W.note key (some ⟨key, value, kcr, (S.rev : Int) + 1, kve + 1, lease⟩)) g h' ∧ KpW w w9 b h h') := fun w9 ⟨h', q1, q2⟩ => ⟨h', HO8.out.step q1 q2, HO.out.2.1.trans ((KpW.same hb9).trans q2)⟩
  have hwr : IntKind.i64.wrap (kve + 1) = kve + 1 := by rw [IntKind.wrap_i64]; omega
  clear hc1 hc2 hb7 hb8 hb9 HO8 x2 x4 r8 HBX HO hlt hc hn
  go_region_held_law (fun V => V.cell? ⟨bx, 2, none⟩ = some (.int .i64 (kcr)) ∧ V.cell? ⟨bx, 4, none⟩ = some (.int .i64 (kve))) (first | with_reducible assumption | (show _ ∧ _; with_reducible assumption)) (first | (go_at_call 26; refine hrev.mono ?_; rintro e w' ⟨rfl, rfl⟩) | (go_at_call 27; refine hnote.mono ?_; rintro e w9 ⟨rfl, HN⟩; have HN := Hid.mk'' HN; have hS9 := (by obtain ⟨h', -, q2⟩ := HN.out; exact HS9.out w9 q2.1 : w9.cell? ⟨bx, 2, none⟩ = some (.int .i64 (kcr)) ∧ w9.cell? ⟨bx, 4, none⟩ = some (.int .i64 (kve)))))
  all_goals
    go_wp2
    go_ret
    exact ⟨rfl, HFIN.out _ HN.out⟩
set_option maxRecDepth 100000 in
set_option maxHeartbeats 1000000 in
theorem wput_new (ht : thereH (S.kh key) = none) (hct : W.count < 4096 ∧ -9223372036854775808 ≤ W.count) : Calls Try.prog 16 #[ptr b, .string key, .string value, .int .i64 lease] w fun e w' => e = .returned (.int .i64 0) ∧ ∃ h', Ow n w' s b S (({ W with count := W.count + 1 } : Wri).note key (some ⟨key, value, (S.rev : Int) + 1, (S.rev : Int) + 1, 0 + 1, lease⟩)) g h' ∧ KpW w w' b h h' := by
  have ho := open_st H
  have hi := iskey_any key w (by omega)
  obtain ⟨-, -, c2, -⟩ := H.wr.cells
  have hlk : (Instr.lookup 70 (.map (some h.bw)) (.string key) false).run Try.prog w = .ok ((wcF W key).getD .nilIface) w := H.wr.mp.look law65 Try.underlying70 (zero71 _) key false
  have e2 : wcF W key = none := by unfold wcF; rw [hc]; rfl
  rw [e2] at hlk
  dsimp only [Option.getD_none] at hlk
  have hlo := look_st H key
  have e3 : lookW S W key = none := by unfold lookW; rw [hc]; exact ht
  rw [e3] at hlo
  dsimp only [Option.getD_some, Option.getD_none, noKV, encKV, Option.isSome_some, Option.isSome_none] at hlo
  have HH := Hid.mk'' H
  clear e2 e3 H
  rw [decide_eq_true hk] at hi
  go_enter Try.func16, Try.ntmps16
  go_upto_region 10 with (first | (go_at_call 23; refine ho.mono ?_; rintro e w' ⟨rfl, hw'⟩; obtain rfl := hw'.symm) | (go_at_call 24; refine hi.mono ?_; rintro e w' ⟨rfl, hw'⟩; obtain rfl := hw'.symm) | (go_at_call 25; refine hlo.mono ?_; rintro e w3 ⟨rfl, hb3⟩))
  clear hlk c2 hi ho hlo ht
  obtain ⟨wb, hwb⟩ : ∃ wb, wb = w3.alloc (.cells #[.string ByteArray.empty, .string ByteArray.empty, .int .i64 0, .int .i64 0, .int .i64 0, .int .i64 0] 35) := ⟨_, rfl⟩
  rw [← hwb]
  have hbb : Below w.heap.size w wb := by rw [hwb]; exact hb3.alloc hb3.size _
  obtain ⟨bx, hbx⟩ : ∃ bx, bx = w3.heap.size := ⟨_, rfl⟩
  rw [← hbx]
  have HBB : Hid (wb.heap[bx]? = some (.cells #[.string ByteArray.empty, .string ByteArray.empty, .int .i64 0, .int .i64 0, .int .i64 0, .int .i64 0] 35 (0, 0))) := by rw [hwb, hbx]; exact row_alloc w3 _ _
  have hle : w.heap.size ≤ bx := by rw [hbx]; exact hb3.size
  have HOb := Hid.mk'' (HH.out.below hbb)
  have hrv := wrev_st HOb.out hr
  obtain ⟨-, -, -, k3⟩ := HOb.out.wr.cells
  have f3 := frozen_of_row wb b 3 _ _ HOb.out.wr.blk
  obtain ⟨⟨-, -, x2, -, -, -⟩, -, -, fx2, -⟩ := box6 HBB.out
  have hblt := HH.out.wr.lt (.inl rfl)
  have hne : ¬ b = bx := by omega
  have hne' : ¬ bx = b := by omega
  clear hwb hbx hb3
  go_upto_region 15 with (go_at_call 26; refine hrv.mono ?_; rintro e w' ⟨rfl, hw'⟩; obtain rfl := hw'.symm)
  obtain ⟨wc, hwc⟩ : ∃ wc, wc = wb.setCell ⟨bx, 2, none⟩ (.int .i64 ((S.rev : Int) + 1)) := ⟨_, rfl⟩
  rw [← hwc]
  have hbc : Below w.heap.size w wc := by rw [hwc]; exact hbb.setCell hle _
  have rc : wc.heap[bx]? = some (.cells #[.string ByteArray.empty, .string ByteArray.empty, .int .i64 ((S.rev : Int) + 1), .int .i64 0, .int .i64 0, .int .i64 0] 35 (0, 0)) := by rw [hwc]; exact heap_setCell_row HBB.out _
  have hOc := HH.out.below hbc
  obtain ⟨wa, hwa⟩ : ∃ wa, wa = wc.setCell ⟨b, 3, none⟩ (.int .i64 (W.count + 1)) := ⟨_, rfl⟩
  rw [← hwa]
  have hst := hOc.wr.setCount (W.count + 1)
  rw [← hwa] at hst
  have HBX : Hid (wa.heap[bx]? = some (.cells #[.string ByteArray.empty, .string ByteArray.empty, .int .i64 ((S.rev : Int) + 1), .int .i64 0, .int .i64 0, .int .i64 0] 35 (0, 0))) := by
    have hu : Upd wc wa (fun k => k = b) := by rw [hwa]; exact (Upd.refl wc (fun k => k = b)).setCell (p := ⟨b, 3, none⟩) (.inr rfl) _
    exact (hu.block bx (Array.getElem?_eq_some_iff.1 rc).1 hne').trans rc
  have HO : Hid ((w.heap.size ≤ bx ∧ ∀ k, ftW b h k → k < w.heap.size) ∧ KpW w wa b h h ∧ Ow n wa s b S { W with count := W.count + 1 } g h) := ⟨⟨hle, fun k hk => HH.out.wr.lt hk⟩, (KpW.same hbc).trans hst.2, hOc.step hst.1 hst.2⟩
  clear hwc hbc rc hOc hwa hst HH HOb hrv k3 f3 x2 fx2 HBB hbb hblt hne hne'
  have hlt : ∀ k, ftW b h k → k < w.heap.size := fun k hk => HO.out.1.2 k hk
  have hc1 := clone_all key (by omega)
  have hc2 := clone_all value (by omega)
  go_upto_region 16 with (first | (go_at_call 20; refine (hc1 wa).mono ?_; rintro e w7 ⟨rfl, hb7⟩) | (go_at_call 20; refine (hc2 w7).mono ?_; rintro e w8 ⟨rfl, hb8⟩))
  have hb9 : Below wa.heap.size wa w8.drew := (hb7.trans (hb8.mono hb7.size)).drew
  have HO8 := Hid.mk'' (HO.out.2.2.below hb9)
  have hrev := wrev_st HO8.out hr
  have hnote := note_st HO8.out.wr key (some ⟨key, value, (S.rev : Int) + 1, (S.rev : Int) + 1, (0 : Int) + 1, lease⟩) (fun hm => by have := (HO8.out.wr.cov key).2 hm; exact this hc) hn
  dsimp only [encC, encKV] at hnote
  have r8 := (hb9.block bx (by have := (Array.getElem?_eq_some_iff.1 HBX.out).1; omega)).trans HBX.out
  obtain ⟨⟨-, -, x2, -, x4, -⟩, -⟩ := box6 r8
  have hS8 : w8.drew.cell? ⟨bx, 2, none⟩ = some (.int .i64 ((S.rev : Int) + 1)) ∧ w8.drew.cell? ⟨bx, 4, none⟩ = some (.int .i64 ((0 : Int))) := ⟨x2, x4⟩
  have HS9 : Hid (∀ w9, Upd w8.drew w9 (ftW b h) → w9.cell? ⟨bx, 2, none⟩ = some (.int .i64 ((S.rev : Int) + 1)) ∧ w9.cell? ⟨bx, 4, none⟩ = some (.int .i64 ((0 : Int)))) := fun w9 hu => by
    have hbl : bx < w8.drew.heap.size := (Array.getElem?_eq_some_iff.1 r8).1
    have hno : ¬ ftW b h bx := fun hf => by have := hlt bx hf; have := HO.out.1.1; omega
    exact ⟨(hu.cell (p := ⟨bx, 2, none⟩) hbl hno).trans x2, (hu.cell (p := ⟨bx, 4, none⟩) hbl hno).trans x4⟩
  have HFIN : Hid (∀ w9, (∃ h', Wm w9 b s (({ W with count := W.count + 1 } : Wri).note key (some ⟨key, value, (S.rev : Int) + 1, (S.rev : Int) + 1, (0 : Int) + 1, lease⟩)) h' ∧ KpW w8.drew w9 b h h') → ∃ h', Ow n w9 s b S (({ W with count := W.count + 1 } : Wri).note key (some ⟨key, value, (S.rev : Int) + 1, (S.rev : Int) + 1, (0 : Int) + 1, lease⟩)) g h' ∧ KpW w w9 b h h') := fun w9 ⟨h', q1, q2⟩ => ⟨h', HO8.out.step q1 q2, HO.out.2.1.trans ((KpW.same hb9).trans q2)⟩
  have hwr : IntKind.i64.wrap ((0 : Int) + 1) = (0 : Int) + 1 := by rw [IntKind.wrap_i64]; omega
  clear hc1 hc2 hb7 hb8 hb9 HO8 x2 x4 r8 HBX HO hlt hc hn
  go_region_held_law (fun V => V.cell? ⟨bx, 2, none⟩ = some (.int .i64 ((S.rev : Int) + 1)) ∧ V.cell? ⟨bx, 4, none⟩ = some (.int .i64 ((0 : Int)))) (first | with_reducible assumption | (show _ ∧ _; with_reducible assumption)) (first | (go_at_call 26; refine hrev.mono ?_; rintro e w' ⟨rfl, rfl⟩) | (go_at_call 27; refine hnote.mono ?_; rintro e w9 ⟨rfl, HN⟩; have HN := Hid.mk'' HN; have hS9 := (by obtain ⟨h', -, q2⟩ := HN.out; exact HS9.out w9 q2.1 : w9.cell? ⟨bx, 2, none⟩ = some (.int .i64 ((S.rev : Int) + 1)) ∧ w9.cell? ⟨bx, 4, none⟩ = some (.int .i64 ((0 : Int))))))
  all_goals
    go_wp2
    go_ret
    exact ⟨rfl, HFIN.out _ HN.out⟩
end
end Go.Proofs.Ytjdmgmnndfhmgaa
