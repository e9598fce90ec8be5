/- A change laid into a store: its memory. -/
import Derived.Test.YteeflkkoifgcbaaML
namespace Go.Proofs.Yteeflkkoifgcbaa
open Go Go.RowKit

/-- What a store's call leaves of its blocks. -/
def KpM (w w' : World) (s : Nat) (g g' : Sg) : Prop := Upd w w' (ftS s g) ∧ ∀ k, ftS s g' k → ftS s g k ∨ w.heap.size ≤ k
theorem KpM.same {w w' : World} {s : Nat} {g : Sg} (hb : Below w.heap.size w w') : KpM w w' s g g := ⟨Upd.ofBelow hb, fun _ hk => .inl hk⟩
theorem KpM.trans {w w1 w2 : World} {s : Nat} {g g1 g2 : Sg} (K : KpM w w1 s g g1) (K' : KpM w1 w2 s g1 g2) : KpM w w2 s g g2 :=
  ⟨K.1.trans K'.1 (fun j hj hg => (K.2 j hg).resolve_right (by omega)), fun k hk => (K'.2 k hk).elim (K.2 k) (fun hge => .inr (Nat.le_trans K.1.size hge))⟩
section
variable {n : Nat} {w : World} {s : Nat} {S : Sto} {g : Sg} {o : Value} (h : St n w s S g o)
include h
/-- The index's blocks are none of the others. -/
theorem St.off : s ∉ g.Fi ∧ g.bc ∉ g.Fi ∧ g.bl ∉ g.Fi ∧ g.bt ∉ g.Fi ∧ ∀ r v k, g.lv r = some v → v.ownBlock = some k → k ∉ g.Fi := by
  obtain ⟨_, _, _, hc, _⟩ := h.ch
  obtain ⟨_, _, _, hl, _⟩ := h.lg
  obtain ⟨_, _, _, ht, _⟩ := h.th
  refine ⟨fun hm => (h.ix.kind _ hm).ne h.blk (by simp) rfl, fun hm => (h.ix.kind _ hm).ne_map hc rfl, fun hm => (h.ix.kind _ hm).ne_map hl rfl, fun hm => (h.ix.kind _ hm).ne_map ht rfl, fun r v k hv hk hm => ?_⟩
  obtain ⟨_, cc, f, hh⟩ := ownBlock_ge (h.rows r v hv).2 hk
  exact (h.ix.kind _ hm).ne hh (by simp) rfl
/-- The maps' blocks are none of the cells. -/
theorem St.offm {b : Nat} (hb : b = g.bc ∨ b = g.bl ∨ b = g.bt) : s ≠ b ∧ (∀ k ∈ g.Fi, k ≠ b) ∧ ∀ r v k, g.lv r = some v → v.ownBlock = some k → k ≠ b := by
  obtain ⟨e1, c1, L1, hc, _⟩ := h.ch
  obtain ⟨e2, c2, L2, hl, _⟩ := h.lg
  obtain ⟨e3, c3, L3, ht, _⟩ := h.th
  obtain ⟨es, cl, hm⟩ : ∃ es cl, w.heap[b]? = some (.map es cl) := by
    rcases hb with rfl | rfl | rfl
    · exact ⟨_, _, hc⟩
    · exact ⟨_, _, hl⟩
    · exact ⟨_, _, ht⟩
  refine ⟨fun e => ?_, fun k hk => (h.ix.kind k hk).ne_map hm, fun r v k hv hk e => ?_⟩
  · have := h.blk; rw [e, hm] at this; cases this
  · obtain ⟨_, cc, f, hh⟩ := ownBlock_ge (h.rows r v hv).2 hk
    rw [e, hm] at hh
    cases hh
/-- A change is laid: the index, the changes, the keys that are there. -/
theorem St.laid {r : Int} {key : ByteArray} {c : Option KVd} (L : LayOk S r key c) (hr : r = S.rev) {w3 w4 w5 : World} {F' : List Nat} {nc' nth' : Nat} {f' : ByteArray → Option Value}
    (hx : Xd w3 g.x (putD (datS S) key r c.isNone) F') (hs : Step w w3 g.Fi F')
    (hm4 : MapF w4 encP g.bc (setF (chF S) (r, key) (encC key c)) nc') (hu4 : Upd w3 w4 (fun k => k = g.bc))
    (hm5 : MapF w5 encB g.bt f' nth') (hu5 : Upd w4 w5 (fun k => k = g.bt)) (hf : ∀ k, thF (layS S r key c) k = f' k) (hnt : nth' = (layS S r key c).nth) :
    St (n + 1) w5 s (layS S r key c) { g with Fi := F', nc := nc' } o ∧ KpM w w5 s g { g with Fi := F', nc := nc' } := by
  obtain ⟨o1, o2, o3, o4, o5⟩ := h.off
  obtain ⟨a1, a2, a3⟩ := h.offm (b := g.bc) (.inl rfl)
  obtain ⟨b1, b2, b3⟩ := h.offm (b := g.bt) (.inr (.inr rfl))
  obtain ⟨n1, n2, n3⟩ := h.ne
  obtain ⟨hE, hD⟩ := putE_lay h L
  have hsl := h.lt (.inl rfl)
  have s3 := hs.upd.size
  have s4 := hu4.size
  have hF : ∀ k ∈ F', k ≠ g.bc ∧ k ≠ g.bt := fun k hk => by
    have hcl := h.lt (.inr (.inl rfl))
    have htl := h.lt (.inr (.inr (.inr (.inl rfl))))
    rcases hs.sub k hk with hk | hk
    · exact ⟨a2 k hk, b2 k hk⟩
    · exact ⟨by omega, by omega⟩
  have u3 : Upd w w3 (ftS s g) := hs.upd.mono (fun k _ hk => .inr (.inr (.inr (.inr (.inl hk)))))
  have u4 : Upd w w4 (ftS s g) := u3.trans (hu4.mono (T := ftS s g) (fun k _ hk => .inr (.inl hk))) (fun j _ hg => hg)
  have u5 : Upd w w5 (ftS s g) := u4.trans (hu5.mono (T := ftS s g) (fun k _ hk => .inr (.inr (.inr (.inl hk))))) (fun j _ hg => hg)
  rw [hD] at hx
  refine ⟨⟨?_, (hx.upd hu4 (fun k hk => (hF k hk).1)).upd hu5 (fun k hk => (hF k hk).2), by rw [← hD]; exact h.bd.put key r _, ?_, ?_, ?_, h.ne, ?_, ?_, ?_, ?_, h.past⟩, u5, ?_⟩
  · refine (hu5.block s (by omega) b1).trans ((hu4.block s (by omega) a1).trans ((hs.upd.block s hsl o1).trans h.blk))
  · refine (hm4.congr (chF_lay S L)).upd hu5 n2
  · exact ((h.lg.upd hs.upd o3).upd hu4 n1.symm).upd hu5 n3
  · rw [← hnt]; exact hm5.congr hf
  · intro r' v hv
    obtain ⟨q1, q2⟩ := h.rows r' v hv
    exact ⟨q1, ownsRow_upd (ownsRow_upd (ownsRow_upd q2 hs.upd (fun k hk => o5 r' v k hv hk)) hu4 (fun k hk => a3 r' v k hv hk)) hu5 (fun k hk => b3 r' v k hv hk)⟩
  · intro k
    by_cases e : k = key
    · subst e
      rw [layS_same]
      have hok := h.hok k
      have hp := L.pos
      refine ⟨?_, ?_, ?_⟩
      · rw [List.pairwise_append]
        refine ⟨hok.asc, by simp, fun p hp' q hq => ?_⟩
        obtain rfl : q = (r, c) := by simpa using hq
        exact L.lt p hp'
      · intro p hp'
        rcases List.mem_append.1 hp' with hp' | hp'
        · exact hok.pos p hp'
        · obtain rfl : p = (r, c) := by simpa using hp'
          show 0 < r ∧ r ≤ S.rev
          omega
      · intro r' v hp'
        rcases List.mem_append.1 hp' with hp' | hp'
        · exact hok.kv r' v hp'
        · obtain ⟨rfl, e2⟩ : r' = r ∧ some v = c := by simpa using hp'
          exact L.kv v e2.symm
    · rw [layS_other _ _ _ e]
      exact h.hok k
  · intro k
    show k ∈ insK key S.ks ↔ _
    rw [mem_insK]
    by_cases e : k = key
    · subst e; rw [layS_same]; simp
    · rw [layS_other _ _ _ e, h.mem k]; simp [e]
  · intro k hk
    rcases mem_insK.1 (show k ∈ insK key S.ks from hk) with rfl | hk
    · exact L.sz
    · exact h.sz k hk
  · rintro k (rfl | rfl | rfl | rfl | hk | ⟨r', v, hv, hk⟩)
    · exact .inl (.inl rfl)
    · exact .inl (.inr (.inl rfl))
    · exact .inl (.inr (.inr (.inl rfl)))
    · exact .inl (.inr (.inr (.inr (.inl rfl))))
    · rcases hs.sub k hk with hk | hk
      · exact .inl (.inr (.inr (.inr (.inr (.inl hk)))))
      · exact .inr hk
    · exact .inl (.inr (.inr (.inr (.inr (.inr ⟨r', v, hv, hk⟩)))))
end
end Go.Proofs.Yteeflkkoifgcbaa
