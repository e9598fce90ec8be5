/- A key as a write sees it. -/
import Derived.Test.YtjdmgmnndfhmgaaGreatGRH
import Derived.Deep.RegionHeldLaw
import Derived.Test.YtjdmgmnndfhmgaaGreatGRE
namespace Go.Proofs.YtjdmgmnndfhmgaaGreat
open Go Go.RowKit

theorem at_now {n : Nat} {w : World} {s : Nat} {S : Sto} {g : Sg} {o : Value} (h : St n w s S g o) (key : ByteArray) :
    Calls Tryz.prog 61 #[ptr s, .string key, .int .i64 S.rev] w fun e w' => e = .returned (.tuple #[encKV ((thereH (S.kh key)).getD noKV), .bool (thereH (S.kh key)).isSome]) ∧ Below w.heap.size w w' := by
  have ha : atH (S.kh key) S.rev = thereH (S.kh key) := atH_all (fun p hp => ((h.hok key).pos p hp).2)
  have := at_any h key S.rev (fun W hb => by rw [ha]; exact last_now (h.below hb) key)
  rw [ha] at this
  exact this
/-- A key behind what a write has done. -/
def lookW (S : Sto) (W : Wri) (key : ByteArray) : Option KVd := (W.ch key).getD (thereH (S.kh key))
set_option maxRecDepth 100000 in
set_option maxHeartbeats 400000 in
theorem look_st {n : Nat} {w : World} {s b : Nat} {S : Sto} {W : Wri} {g : Sg} {h : Wg} (H : Ow n w s b S W g h) (key : ByteArray) :
    Calls Tryz.prog 43 #[ptr b, .string key] w fun e w' => e = .returned (.tuple #[encKV ((lookW S W key).getD noKV), .bool (lookW S W key).isSome]) ∧ Below w.heap.size w w' := by
  have hb0 : Below w.heap.size w (w.alloc (.cells #[.string ⟨#[]⟩, .string ⟨#[]⟩, .int .i64 0, .int .i64 0, .int .i64 0, .int .i64 0] 61)) := (Below.refl _ w).alloc (Nat.le_refl _) _
  have r0 := row_alloc w #[.string ⟨#[]⟩, .string ⟨#[]⟩, .int .i64 0, .int .i64 0, .int .i64 0, .int .i64 0] 61
  generalize hV : w.alloc (.cells #[.string ⟨#[]⟩, .string ⟨#[]⟩, .int .i64 0, .int .i64 0, .int .i64 0, .int .i64 0] 61) = V at *
  have hVs : V.heap.size = w.heap.size + 1 := by rw [← hV]; simp
  have HV := Hid.mk'' (H.below hb0)
  obtain ⟨c0, -, c2, -⟩ := HV.out.wr.cells
  have hlk : (Instr.lookup 78 (.map (some h.bw)) (.string key) false).run Tryz.prog V = .ok ((wcF W key).getD .nilIface) V := HV.out.wr.mp.look law65 Tryz.underlying78 (zero71 _) key false
  unfold lookW
  cases e : W.ch key with
  | none =>
    have e2 : wcF W key = none := by unfold wcF; rw [e]; rfl
    rw [e2] at hlk
    dsimp only [Option.getD_none] at hlk ⊢
    obtain ⟨d0, -⟩ := HV.out.st.cells
    have hbl : b < w.heap.size := (Array.getElem?_eq_some_iff.1 H.wr.blk).1
    have hsl : s < w.heap.size := (Array.getElem?_eq_some_iff.1 H.st.blk).1
    clear e e2 H
    go_enter Tryz.func43, Tryz.ntmps43
    go_upto_region 3 with fail
    have hdr : Below V.heap.size V V.drew := (Below.refl _ _).drew
    have hat := at_now (HV.out.st.below hdr) key
    have HR0 := Hid.mk'' r0
    have HB0 := Hid.mk'' hb0
    have c0d : V.drew.cell? ⟨b, 0, none⟩ = some (ptr s) := c0
    have d0d : V.drew.cell? ⟨s, 0, none⟩ = some (.int .i64 S.rev) := d0
    generalize hkv : (thereH (S.kh key)).getD noKV = kv at *
    generalize hth : (thereH (S.kh key)).isSome = th at *
    have HKV := Hid.mk'' hkv
    have HTH := Hid.mk'' hth
    obtain ⟨kk, kvv, kcr, kmo, kve, kle⟩ := kv
    dsimp only [encKV] at hat
    have hS0 : V.drew.cell? ⟨b, 0, none⟩ = some (ptr s) ∧ V.drew.cell? ⟨s, 0, none⟩ = some (.int .i64 S.rev) := ⟨c0, d0⟩
    have HN : ∀ W, Hid (Below V.heap.size V.drew W → W.cell? ⟨b, 0, none⟩ = some (ptr s) ∧ W.cell? ⟨s, 0, none⟩ = some (.int .i64 S.rev)) := fun W hb => ⟨(hb.cell (p := ⟨b, 0, none⟩) (by show b < _; omega)).trans c0, (hb.cell (p := ⟨s, 0, none⟩) (by show s < _; omega)).trans d0⟩
    have HRW : ∀ W, Hid (Below V.heap.size V.drew W → W.heap[w.heap.size]? = some (.cells #[.string ⟨#[]⟩, .string ⟨#[]⟩, .int .i64 0, .int .i64 0, .int .i64 0, .int .i64 0] 61 (0, 0)) ∧ Hid (Below w.heap.size w W)) := fun W hb => ⟨(hb.block w.heap.size (by omega)).trans r0, hb0.drew.trans (hb.mono hb0.size)⟩
    have hn1 : ¬ b = w.heap.size := by omega
    have hn2 : ¬ s = w.heap.size := by omega
    have hn3 : ¬ w.heap.size = b := by omega
    have hn4 : ¬ w.heap.size = s := by omega
    clear HV hdr hkv hth r0 hb0 hV hVs c0 c2 d0 hlk hbl hsl
    go_region_held_law (fun W => W.cell? ⟨b, 0, none⟩ = some (ptr s) ∧ W.cell? ⟨s, 0, none⟩ = some (.int .i64 S.rev)) (first | with_reducible assumption | (show _ ∧ _; with_reducible assumption) | with_reducible exact ⟨cell6 hS3.1 hn1 _ _ _ _ _ _, cell6 hS3.2 hn2 _ _ _ _ _ _⟩) (first | (go_at_call 61; refine hat.mono ?_; rintro e w3 ⟨rfl, hb3⟩; have hS3 := (HN w3).out hb3; obtain ⟨r3, HB⟩ := (HRW w3).out hb3; obtain ⟨⟨k0, k1, k2, k3, k4, k5⟩, f0, f1, f2, f3, f4, f5⟩ := box6 r3; have HR := Hid.mk'' r3; clear r3 hb3 hat))
    all_goals
      go_wp2
      refine bodyPost_ret (results_ct rfl _ _ w.heap.size 61 #[.string kk, .string kvv, .int .i64 kcr, .int .i64 kmo, .int .i64 kve, .int .i64 kle] (0, 0) _ rfl (set6 HR.out _ _ _ _ _ _) Tryz.underlying61 rfl size56) rfl ?_
      exact ⟨by rw [HKV.out, HTH.out]; rfl, below6 HB.out (Nat.le_refl _) _ _ _ _ _ _⟩
  | some o =>
    have e2 : wcF W key = some (encC key o) := by unfold wcF; rw [e]; rfl
    rw [e2] at hlk
    dsimp only [Option.getD_some] at hlk ⊢
    clear e e2 H HV
    obtain ⟨ti, xi, kv, th, hni, hkt, hta⟩ : ∃ ti xi kv th, encC key o = .iface ti xi ∧ Hid (o.getD noKV = kv ∧ o.isSome = th) ∧ ∀ W, (Instr.typeAssert (.iface ti xi) 85 96 true).run Tryz.prog W = .ok (.tuple #[encKV kv, .bool th]) W := by
      cases o with
      | none => exact ⟨88, _, noKV, false, rfl, ⟨rfl, rfl⟩, fun W => ta_no _ W⟩
      | some kv => exact ⟨96, _, kv, true, rfl, ⟨rfl, rfl⟩, fun W => ta_yes _ W⟩
    rw [hni] at hlk
    obtain ⟨kk, kvv, kcr, kmo, kve, kle⟩ := kv
    dsimp only [encKV] at hta
    clear hni
    go_enter Tryz.func43, Tryz.ntmps43
    go_upto_region 5 with fail
    obtain ⟨w2, hw2⟩ : ∃ w2, w2 = V.alloc (.cells #[.string kk, .string kvv, .int .i64 kcr, .int .i64 kmo, .int .i64 kve, .int .i64 kle] 96) := ⟨_, rfl⟩
    rw [← hw2]
    have hrow := (show (V.alloc (.cells #[.string kk, .string kvv, .int .i64 kcr, .int .i64 kmo, .int .i64 kve, .int .i64 kle] 96)).heap[w.heap.size]? = V.heap[w.heap.size]? from by first | exact heap_alloc_old _ _ (by omega) | exact heap_alloc_old _ _ _ (by omega)).trans r0
    have hbox := row_alloc V #[.string kk, .string kvv, .int .i64 kcr, .int .i64 kmo, .int .i64 kve, .int .i64 kle] 96
    have HB2 := Hid.mk'' (hb0.alloc (by omega) (.cells #[.string kk, .string kvv, .int .i64 kcr, .int .i64 kmo, .int .i64 kve, .int .i64 kle] 96))
    rw [← hw2] at hrow hbox HB2
    rw [hVs] at hbox
    obtain ⟨⟨k0, k1, k2, k3, k4, k5⟩, f0, f1, f2, f3, f4, f5⟩ := box6 hrow
    obtain ⟨⟨b0, b1, b2, b3, b4, b5⟩, -⟩ := box6 hbox
    have HR2 := Hid.mk'' hrow
    clear hw2 hrow hbox hV hVs hb0 r0 c0 c2 hlk hta
    go_wp2
    refine bodyPost_ret (results_ct rfl _ _ w.heap.size 61 #[.string kk, .string kvv, .int .i64 kcr, .int .i64 kmo, .int .i64 kve, .int .i64 kle] (0, 0) _ rfl (set6 HR2.out _ _ _ _ _ _) Tryz.underlying61 rfl size56) rfl ?_
    exact ⟨by rw [hkt.out.1, hkt.out.2]; rfl, below6 HB2.out (Nat.le_refl _) _ _ _ _ _ _⟩
end Go.Proofs.YtjdmgmnndfhmgaaGreat
/- A write notes a change. -/
namespace Go.Proofs.YtjdmgmnndfhmgaaGreat
open Go Go.RowKit

def Wri.note (W : Wri) (key : ByteArray) (c : Option KVd) : Wri := { W with keys := W.keys ++ [key], ch := fun k => if k = key then some c else W.ch k }
theorem wcF_note (W : Wri) (key : ByteArray) (c : Option KVd) (k : ByteArray) : wcF (W.note key c) k = setF (wcF W) key (encC key c) k := by
  unfold wcF Wri.note setF
  by_cases hk : k = key
  · subst hk; simp
  · simp [hk]
theorem Wm.apart {w : World} {s b : Nat} {W : Wri} {h : Wg} (H : Wm w b s W h) : (∀ k, h.v.ownBlock = some k → k ≠ b ∧ k ≠ h.bw) ∧ b ≠ h.bw := by
  obtain ⟨es, cl, L, hm, -⟩ := H.mp
  refine ⟨fun k hk => ?_, fun e => ?_⟩
  · obtain ⟨_, cc, f, hh⟩ := ownBlock_ge H.row hk
    refine ⟨fun e => ?_, fun e => ?_⟩
    · have := H.blk; rw [← e, hh] at this; cases this
    · rw [← e, hh] at hm; cases hm
  · have := H.blk; rw [e, hm] at this; cases this
/-- What a write's call leaves of its blocks. -/
def KpW (w w' : World) (b : Nat) (h h' : Wg) : Prop := Upd w w' (ftW b h) ∧ ∀ k, ftW b h' k → ftW b h k ∨ w.heap.size ≤ k
set_option maxRecDepth 100000 in
set_option maxHeartbeats 1000000 in
theorem note_st {w : World} {s b : Nat} {W : Wri} {h : Wg} (H : Wm w b s W h) (key : ByteArray) (c : Option KVd) (hk : key ∉ W.keys) (hn : W.keys.length ≤ 100000) :
    Calls Tryz.prog 38 #[ptr b, .string key, encC key c] w fun e w' => e = .returned (.tuple #[]) ∧ ∃ h', Wm w' b s (W.note key c) h' ∧ KpW w w' b h h' := by
  obtain ⟨t9, hti9, hz09, hz19, hz29⟩ := info_parts info9
  obtain ⟨c0, c1, c2, -⟩ := H.cells
  have hbl : b < w.heap.size := H.lt (.inl rfl)
  have hba : Below w.heap.size w (w.alloc (.cells #[.string key] 9)) := (Below.refl _ w).alloc (Nat.le_refl _) _
  have H1 := H.below hba
  have hsrc : Src Tryz.prog 1 37 (.slice (some ⟨w.heap.size, 0, none⟩) 1 1) 1 (strs [key]) (w.alloc (.cells #[.string key] 9)) := Src.ofSlice _ Tryz.underlying37 ⟨w.heap.size, 0, none⟩ 1 1 _ rfl (fun j u hj => by
    rw [Addr.add_lit, Nat.zero_add, cell_of_row _ _ _ _ _ _ (row_alloc w #[.string key] 9)]; simpa using hj) (fun u hu => by simp at hu; subst hu; rfl)
  have hown := H1.row
  have HH := Hid.mk'' H
  have HH1 := Hid.mk'' H1
  generalize hV : w.alloc (.cells #[.string key] 9) = V at *
  have hVs : V.heap.size = w.heap.size + 1 := by rw [← hV]; simp
  clear H H1
  go_enter Tryz.func38, Tryz.ntmps38
  go_upto_region 1 with (at_builtin; refine wpList_appS _ rfl (.tmp 10) (.tmp 12) 37 37 rfl 0 9 t9 _ 1 Tryz.underlying37 hti9 hz09 hz19 rfl (by rw [hz29]; decide) _ W.keys.length (strs W.keys) rfl hown _ rfl 1 (strs [key]) hsrc (by omega) (Nat.zero_le _) ?_; intro v' w2 p1 p2 p3 p4; clear p4; have p2' : Upd V w2 (fun k => some k = h.v.ownBlock) := p2; have p3' : v'.ownBlock = h.v.ownBlock ∨ v'.ownBlock = some V.heap.size := p3; clear p2 p3; obtain ⟨np, nc, hnv⟩ := owns_formB0 p1; subst hnv; have q0 := (p2'.block b (HH1.out.lt (.inl rfl)) (fun e => (HH1.out.apart.1 b e.symm).1 rfl)).trans HH1.out.blk; have k1 : w2.cell? ⟨b, 1, none⟩ = some h.v := cell_of_row _ _ _ _ _ _ q0; have k2 : w2.cell? ⟨b, 2, none⟩ = some (.map (some h.bw)) := cell_of_row _ _ _ _ _ _ q0; have f1 := frozen_of_row w2 b 1 _ _ q0)
  obtain ⟨w3, hw3⟩ : ∃ w3, w3 = w2.setCell ⟨b, 1, none⟩ (.slice np (W.keys.length + 1) nc) := ⟨_, rfl⟩
  rw [← hw3]
  have hu3 : Upd w2 w3 (fun k => k = b) := by rw [hw3]; exact (Upd.refl w2 (fun k => k = b)).setCell (p := ⟨b, 1, none⟩) (.inr rfl) _
  have q3 : w3.heap[b]? = some (.cells #[ptr s, .slice np (W.keys.length + 1) nc, .map (some h.bw), .int .i64 W.count] 80 (0, 0)) := by rw [hw3]; exact heap_setCell_row q0 _
  have k3 : w3.cell? ⟨b, 2, none⟩ = some (.map (some h.bw)) := cell_of_row _ _ _ _ _ _ q3
  have hap := HH1.out.apart
  have hm2 : MapF w2 encB h.bw (wcF W) h.nw := HH1.out.mp.upd p2' (fun e => (hap.1 h.bw e.symm).2 rfl)
  have hm3 : MapF w3 encB h.bw (wcF W) h.nw := hm2.upd hu3 (fun e => hap.2 e.symm)
  obtain ⟨w4, hup, hm4, hu4⟩ := hm3.set law65 Tryz.underlying78 key (encC key c)
  have hup' : (Instr.mapUpdate 78 (.map (some h.bw)) (.string key) (encC key c)).run Tryz.prog w3 = .ok () w4 := hup
  have HF : Hid (∃ h', Wm w4 b s (W.note key c) h' ∧ KpW w w4 b h h') := by
    have hnb : ∀ k, (Value.slice np (W.keys.length + 1) nc).ownBlock = some k → k ≠ b ∧ k ≠ h.bw := fun k hk => by
      rcases p3' with e | e
      · exact hap.1 k (by rw [← e]; exact hk)
      · rw [e] at hk
        cases hk
        have h1 := HH1.out.lt (.inl rfl)
        have h2 := HH1.out.lt (.inr (.inl rfl))
        omega
    refine ⟨⟨h.bw, .slice np (W.keys.length + 1) nc, _⟩, ⟨?_, hm4.congr (wcF_note W key c), ?_, ?_, ?_⟩, ?_, ?_⟩
    · exact (hu4.block b (Nat.lt_of_lt_of_le (HH1.out.lt (.inl rfl)) (Nat.le_trans p2'.size hu3.size)) hap.2).trans q3
    · have r3 := ownsRow_upd p1 hu3 (fun k hk => (hnb k hk).1)
      have r4 := ownsRow_upd r3 hu4 (fun k hk => (hnb k hk).2)
      simpa [Wri.note] using r4
    · intro k
      have := HH.out.cov k
      unfold Wri.note
      by_cases e : k = key
      · subst e; simp
      · simp [e, this]
    · unfold Wri.note
      rw [List.nodup_append]
      exact ⟨HH.out.nd, by simp, fun x hx y hy => by
        obtain rfl : y = key := by simpa using hy
        exact fun e => hk (e ▸ hx)⟩
    · have hwV : Upd w V (ftW b h) := Upd.ofBelow hba
      have a1 := hwV.trans (p2'.mono (T := ftW b h) (fun k _ hk => .inr (.inr hk.symm))) (fun j _ hg => hg)
      have a2 := a1.trans (hu3.mono (T := ftW b h) (fun k _ hk => .inl hk)) (fun j _ hg => hg)
      exact a2.trans (hu4.mono (T := ftW b h) (fun k _ hk => .inr (.inl hk))) (fun j _ hg => hg)
    · rintro k (rfl | rfl | hk2)
      · exact .inl (.inl rfl)
      · exact .inl (.inr (.inl rfl))
      · rcases p3' with e | e
        · exact .inl (.inr (.inr (by rw [← e]; exact hk2)))
        · rw [e] at hk2
          cases hk2
          exact .inr (by omega)
  clear hup hm4 hu4 hm3 hm2 hap p1 p2' p3' q0 q3 hw3 hu3 HH HH1 hown hsrc hba hV hVs
  go_wp2
  first | go_end0 | refine bodyPost_ret (results_none rfl _ _ _) rfl ?_
  exact ⟨rfl, HF.out⟩
end Go.Proofs.YtjdmgmnndfhmgaaGreat
/- Put of a write. -/
namespace Go.Proofs.YtjdmgmnndfhmgaaGreat
open Go Go.RowKit

theorem sz0 {k : ByteArray} (h : ¬ 1 ≤ k.size) : k = ByteArray.empty := by
  apply bytes_ext
  have : k.data.size = 0 := by
    have : k.size = 0 := by omega
    exact this
  have e : k.data = #[] := Array.eq_empty_of_size_eq_zero this
  rw [e]; rfl
set_option maxRecDepth 100000 in
set_option maxHeartbeats 400000 in
theorem slite_clone0 (w : World) : Calls Tryz.prog 62 #[.string ByteArray.empty] w fun e w' => e = .returned (.string ByteArray.empty) ∧ Below w.heap.size w w' := by
  have h0 : ByteArray.empty.size = 0 := rfl
  go_enter Tryz.func62, Tryz.ntmps62
  go_wp2
  go_ret
  exact ⟨rfl, Below.refl _ _⟩
set_option maxRecDepth 100000 in
set_option maxHeartbeats 400000 in
theorem clone_all (s : ByteArray) (h1 : s.size ≤ 1000000) (w : World) : Calls Tryz.prog 45 #[.string s] w fun e w' => e = .returned (.string s) ∧ Below w.heap.size w w' := by
  by_cases h0 : 1 ≤ s.size
  · exact sclone s w h0 h1
  · have := sz0 h0
    subst this
    have hs := slite_clone0 w
    go_enter Tryz.func45, Tryz.ntmps45
    go_wp2_with (go_at_call 62; refine hs.mono ?_; rintro e w1 ⟨rfl, hb⟩)
    go_ret
    exact ⟨rfl, hb⟩
end Go.Proofs.YtjdmgmnndfhmgaaGreat
/- Put of a write, where it is refused. -/
namespace Go.Proofs.YtjdmgmnndfhmgaaGreat
open Go Go.RowKit

theorem KpW.same {w w' : World} {b : Nat} {h : Wg} (hb : Below w.heap.size w w') : KpW w w' b h h := ⟨Upd.ofBelow hb, fun _ hk => .inl hk⟩
section
variable {n : Nat} {w : World} {s b : Nat} {S : Sto} {W : Wri} {g : Sg} {h : Wg} (H : Ow n w s b S W g h) (key value : ByteArray) (lease : Int) (hk : key.size ≤ 9223372036854775807) (hv : value.size ≤ 9223372036854775807)
include H hk
set_option maxRecDepth 100000 in
set_option maxHeartbeats 1000000 in
theorem wput_arg (hc : ¬ (0 < key.size ∧ key.size ≤ 100) ∨ lease < 0) : Calls Tryz.prog 15 #[ptr b, .string key, .string value, .int .i64 lease] w fun e w' => e = .returned (.int .i64 1) ∧ w' = w := by
  have ho := open_st H
  have hi := iskey_any key w hk
  clear H
  by_cases h0 : 0 < key.size ∧ key.size ≤ 100
  · have h1 : lease < 0 := hc.resolve_left (fun h => h h0)
    rw [decide_eq_true h0] at hi
    go_enter Tryz.func15, Tryz.ntmps15
    go_wp2_with (first | (go_at_call 36; refine ho.mono ?_; rintro e w' ⟨rfl, rfl⟩) | (go_at_call 42; refine hi.mono ?_; rintro e w' ⟨rfl, rfl⟩))
    go_ret
    exact ⟨rfl, rfl⟩
  · rw [decide_eq_false h0] at hi
    go_enter Tryz.func15, Tryz.ntmps15
    go_wp2_with (first | (go_at_call 36; refine ho.mono ?_; rintro e w' ⟨rfl, rfl⟩) | (go_at_call 42; refine hi.mono ?_; rintro e w' ⟨rfl, rfl⟩))
    go_ret
    exact ⟨rfl, rfl⟩
include hv
set_option maxRecDepth 100000 in
set_option maxHeartbeats 1000000 in
theorem wput_long (h0 : 0 < key.size ∧ key.size ≤ 100) (h1 : ¬ lease < 0) (h2 : 4096 < value.size) : Calls Tryz.prog 15 #[ptr b, .string key, .string value, .int .i64 lease] w fun e w' => e = .returned (.int .i64 5) ∧ w' = w := by
  have ho := open_st H
  have hi := iskey_any key w hk
  clear H
  rw [decide_eq_true h0] at hi
  go_enter Tryz.func15, Tryz.ntmps15
  go_wp2_with (first | (go_at_call 36; refine ho.mono ?_; rintro e w' ⟨rfl, rfl⟩) | (go_at_call 42; refine hi.mono ?_; rintro e w' ⟨rfl, rfl⟩))
  go_ret
  exact ⟨rfl, rfl⟩
set_option maxRecDepth 100000 in
set_option maxHeartbeats 1000000 in
theorem wput_twice (h0 : 0 < key.size ∧ key.size ≤ 100) (h1 : ¬ lease < 0) (h2 : ¬ 4096 < value.size) {o : Option KVd} (h3 : W.ch key = some o) : Calls Tryz.prog 15 #[ptr b, .string key, .string value, .int .i64 lease] w fun e w' => e = .returned (.int .i64 18) ∧ w' = w := by
  have ho := open_st H
  have hi := iskey_any key w hk
  obtain ⟨-, -, c2, -⟩ := H.wr.cells
  have hlk : (Instr.lookup 78 (.map (some h.bw)) (.string key) false).run Tryz.prog w = .ok ((wcF W key).getD .nilIface) w := H.wr.mp.look law65 Tryz.underlying78 (zero71 _) key false
  have e2 : wcF W key = some (encC key o) := by unfold wcF; rw [h3]; rfl
  rw [e2] at hlk
  dsimp only [Option.getD_some] at hlk
  obtain ⟨ti, xi, hni⟩ : ∃ ti xi, encC key o = .iface ti xi := by cases o <;> exact ⟨_, _, rfl⟩
  rw [hni] at hlk
  clear H e2 hni
  rw [decide_eq_true h0] at hi
  go_enter Tryz.func15, Tryz.ntmps15
  go_wp2_with (first | (go_at_call 36; refine ho.mono ?_; rintro e w' ⟨rfl, rfl⟩) | (go_at_call 42; refine hi.mono ?_; rintro e w' ⟨rfl, rfl⟩))
  go_ret
  exact ⟨rfl, rfl⟩
set_option maxRecDepth 100000 in
set_option maxHeartbeats 1000000 in
theorem wput_full (h0 : 0 < key.size ∧ key.size ≤ 100) (h1 : ¬ lease < 0) (h2 : ¬ 4096 < value.size) (h3 : W.ch key = none) (h4 : thereH (S.kh key) = none) (h5 : 4096 ≤ W.count) : Calls Tryz.prog 15 #[ptr b, .string key, .string value, .int .i64 lease] w fun e w' => e = .returned (.int .i64 14) ∧ Below w.heap.size w w' := by
  have ho := open_st H
  have hi := iskey_any key w hk
  obtain ⟨-, -, c2, -⟩ := H.wr.cells
  have hlk : (Instr.lookup 78 (.map (some h.bw)) (.string key) false).run Tryz.prog w = .ok ((wcF W key).getD .nilIface) w := H.wr.mp.look law65 Tryz.underlying78 (zero71 _) key false
  have e2 : wcF W key = none := by unfold wcF; rw [h3]; rfl
  rw [e2] at hlk
  dsimp only [Option.getD_none] at hlk
  have hlo := look_st H key
  have e3 : lookW S W key = none := by unfold lookW; rw [h3]; exact h4
  rw [e3] at hlo
  dsimp only [Option.getD_none, encKV, noKV, Option.isSome_none] at hlo
  have HC : Hid (∀ W', Below w.heap.size w W' → W'.cell? ⟨b, 3, none⟩ = some (.int .i64 W.count)) := fun W' hb => (H.below hb).wr.cells.2.2.2
  clear H e2 e3 h3 h4
  rw [decide_eq_true h0] at hi
  go_enter Tryz.func15, Tryz.ntmps15
  go_upto_region 10 with (first | (go_at_call 36; refine ho.mono ?_; rintro e w' ⟨rfl, rfl⟩) | (go_at_call 42; refine hi.mono ?_; rintro e w' ⟨rfl, rfl⟩) | (go_at_call 43; refine hlo.mono ?_; rintro e w3 ⟨rfl, hb3⟩))
  have hb4 := hb3.alloc hb3.size (.cells #[.string ByteArray.empty, .string ByteArray.empty, .int .i64 0, .int .i64 0, .int .i64 0, .int .i64 0] 61)
  have c3 := HC.out _ hb4
  have HB := Hid.mk'' hb4
  clear hb3 hb4 HC
  go_wp2
  go_ret
  exact ⟨rfl, HB.out⟩
end
end Go.Proofs.YtjdmgmnndfhmgaaGreat
