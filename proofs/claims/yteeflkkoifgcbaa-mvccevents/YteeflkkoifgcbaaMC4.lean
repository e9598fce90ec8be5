/- A write notes a change. -/
import Derived.Test.YteeflkkoifgcbaaMC3
namespace Go.Proofs.Yteeflkkoifgcbaa
open Go Go.RowKit

def Wri.note (W : Wri) (key : ByteArray) (c : Option KVd) : Wri := { W with keys := W.keys ++ [key], ch := fun k => if k = key then some c else W.ch k }
theorem wcF_note (W : Wri) (key : ByteArray) (c : Option KVd) (k : ByteArray) : wcF (W.note key c) k = setF (wcF W) key (encC key c) k := by
  unfold wcF Wri.note setF
  by_cases hk : k = key
  · subst hk; simp
  · simp [hk]
theorem Wm.apart {w : World} {s b : Nat} {W : Wri} {h : Wg} (H : Wm w b s W h) : (∀ k, h.v.ownBlock = some k → k ≠ b ∧ k ≠ h.bw) ∧ b ≠ h.bw := by
  obtain ⟨es, cl, L, hm, -⟩ := H.mp
  refine ⟨fun k hk => ?_, fun e => ?_⟩
  · obtain ⟨_, cc, f, hh⟩ := ownBlock_ge H.row hk
    refine ⟨fun e => ?_, fun e => ?_⟩
    · have := H.blk; rw [← e, hh] at this; cases this
    · rw [← e, hh] at hm; cases hm
  · have := H.blk; rw [e, hm] at this; cases this
/-- What a write's call leaves of its blocks. -/
def KpW (w w' : World) (b : Nat) (h h' : Wg) : Prop := Upd w w' (ftW b h) ∧ ∀ k, ftW b h' k → ftW b h k ∨ w.heap.size ≤ k
set_option maxRecDepth 100000 in
set_option maxHeartbeats 1000000 in
theorem note_st {w : World} {s b : Nat} {W : Wri} {h : Wg} (H : Wm w b s W h) (key : ByteArray) (c : Option KVd) (hk : key ∉ W.keys) (hn : W.keys.length ≤ 100000) :
    Calls Try.prog 26 #[ptr b, .string key, encC key c] w fun e w' => e = .returned (.tuple #[]) ∧ ∃ h', Wm w' b s (W.note key c) h' ∧ KpW w w' b h h' := by
  obtain ⟨t9, hti9, hz09, hz19, hz29⟩ := info_parts info9
  obtain ⟨c0, c1, c2, -⟩ := H.cells
  have hbl : b < w.heap.size := H.lt (.inl rfl)
  have hba : Below w.heap.size w (w.alloc (.cells #[.string key] 9)) := (Below.refl _ w).alloc (Nat.le_refl _) _
  have H1 := H.below hba
  have hsrc : Src Try.prog 1 66 (.slice (some ⟨w.heap.size, 0, none⟩) 1 1) 1 (strs [key]) (w.alloc (.cells #[.string key] 9)) := Src.ofSlice _ Try.underlying66 ⟨w.heap.size, 0, none⟩ 1 1 _ rfl (fun j u hj => by
    rw [Addr.add_lit, Nat.zero_add, cell_of_row _ _ _ _ _ _ (row_alloc w #[.string key] 9)]; simpa using hj) (fun u hu => by simp at hu; subst hu; rfl)
  have hown := H1.row
  have HH := Hid.mk'' H
  have HH1 := Hid.mk'' H1
  generalize hV : w.alloc (.cells #[.string key] 9) = V at *
  have hVs : V.heap.size = w.heap.size + 1 := by rw [← hV]; simp
  clear H H1
  go_enter Try.func26, Try.ntmps26
  go_upto_region 1 with (at_builtin; refine wpList_appS _ rfl (.tmp 10) (.tmp 12) 66 66 rfl 0 9 t9 _ 1 Try.underlying66 hti9 hz09 hz19 rfl (by rw [hz29]; decide) _ W.keys.length (strs W.keys) rfl hown _ rfl 1 (strs [key]) hsrc (by omega) (Nat.zero_le _) ?_; intro v' w2 p1 p2 p3 p4; clear p4; have p2' : Upd V w2 (fun k => some k = h.v.ownBlock) := p2; have p3' : v'.ownBlock = h.v.ownBlock ∨ v'.ownBlock = some V.heap.size := p3; clear p2 p3; obtain ⟨np, nc, hnv⟩ := owns_formB0 p1; subst hnv; have q0 := (p2'.block b (HH1.out.lt (.inl rfl)) (fun e => (HH1.out.apart.1 b e.symm).1 rfl)).trans HH1.out.blk; have k1 : w2.cell? ⟨b, 1, none⟩ = some h.v := cell_of_row _ _ _ _ _ _ q0; have k2 : w2.cell? ⟨b, 2, none⟩ = some (.map (some h.bw)) := cell_of_row _ _ _ _ _ _ q0; have f1 := frozen_of_row w2 b 1 _ _ q0)
  obtain ⟨w3, hw3⟩ : ∃ w3, w3 = w2.setCell ⟨b, 1, none⟩ (.slice np (W.keys.length + 1) nc) := ⟨_, rfl⟩
  rw [← hw3]
  have hu3 : Upd w2 w3 (fun k => k = b) := by rw [hw3]; exact (Upd.refl w2 (fun k => k = b)).setCell (p := ⟨b, 1, none⟩) (.inr rfl) _
  have q3 : w3.heap[b]? = some (.cells #[ptr s, .slice np (W.keys.length + 1) nc, .map (some h.bw), .int .i64 W.count] 68 (0, 0)) := by rw [hw3]; exact heap_setCell_row q0 _
  have k3 : w3.cell? ⟨b, 2, none⟩ = some (.map (some h.bw)) := cell_of_row _ _ _ _ _ _ q3
  have hap := HH1.out.apart
  have hm2 : MapF w2 encB h.bw (wcF W) h.nw := HH1.out.mp.upd p2' (fun e => (hap.1 h.bw e.symm).2 rfl)
  have hm3 : MapF w3 encB h.bw (wcF W) h.nw := hm2.upd hu3 (fun e => hap.2 e.symm)
  obtain ⟨w4, hup, hm4, hu4⟩ := hm3.set law65 Try.underlying65 key (encC key c)
  have hup' : (Instr.mapUpdate 65 (.map (some h.bw)) (.string key) (encC key c)).run Try.prog w3 = .ok () w4 := hup
  have HF : Hid (∃ h', Wm w4 b s (W.note key c) h' ∧ KpW w w4 b h h') := by
    have hnb : ∀ k, (Value.slice np (W.keys.length + 1) nc).ownBlock = some k → k ≠ b ∧ k ≠ h.bw := fun k hk => by
      rcases p3' with e | e
      · exact hap.1 k (by rw [← e]; exact hk)
      · rw [e] at hk
        cases hk
        have h1 := HH1.out.lt (.inl rfl)
        have h2 := HH1.out.lt (.inr (.inl rfl))
        omega
    refine ⟨⟨h.bw, .slice np (W.keys.length + 1) nc, _⟩, ⟨?_, hm4.congr (wcF_note W key c), ?_, ?_, ?_⟩, ?_, ?_⟩
    · exact (hu4.block b (Nat.lt_of_lt_of_le (HH1.out.lt (.inl rfl)) (Nat.le_trans p2'.size hu3.size)) hap.2).trans q3
    · have r3 := ownsRow_upd p1 hu3 (fun k hk => (hnb k hk).1)
      have r4 := ownsRow_upd r3 hu4 (fun k hk => (hnb k hk).2)
      simpa [Wri.note] using r4
    · intro k
      have := HH.out.cov k
      unfold Wri.note
      by_cases e : k = key
      · subst e; simp
      · simp [e, this]
    · unfold Wri.note
      rw [List.nodup_append]
      exact ⟨HH.out.nd, by simp, fun x hx y hy => by
        obtain rfl : y = key := by simpa using hy
        exact fun e => hk (e ▸ hx)⟩
    · have hwV : Upd w V (ftW b h) := Upd.ofBelow hba
      have a1 := hwV.trans (p2'.mono (T := ftW b h) (fun k _ hk => .inr (.inr hk.symm))) (fun j _ hg => hg)
      have a2 := a1.trans (hu3.mono (T := ftW b h) (fun k _ hk => .inl hk)) (fun j _ hg => hg)
      exact a2.trans (hu4.mono (T := ftW b h) (fun k _ hk => .inr (.inl hk))) (fun j _ hg => hg)
    · rintro k (rfl | rfl | hk2)
      · exact .inl (.inl rfl)
      · exact .inl (.inr (.inl rfl))
      · rcases p3' with e | e
        · exact .inl (.inr (.inr (by rw [← e]; exact hk2)))
        · rw [e] at hk2
          cases hk2
          exact .inr (by omega)
  clear hup hm4 hu4 hm3 hm2 hap p1 p2' p3' q0 q3 hw3 hu3 HH HH1 hown hsrc hba hV hVs
  go_wp2
  first | go_end0 | refine bodyPost_ret (results_none rfl _ _ _) rfl ?_
  exact ⟨rfl, HF.out⟩
end Go.Proofs.Yteeflkkoifgcbaa
