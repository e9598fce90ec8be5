/- Three nodes side by side: a node, and two kids of it. -/
import Derived.Test.YteeflkkoifgcbaaD1
namespace Go.Proofs.Yteeflkkoifgcbaa
open Go Go.RowKit
section
variable {W W' : World} {A A' B B' C C' : List Nat}
theorem Step.at1 (h : Step W W' A A') (hn : (A ++ B ++ C).Nodup) (hl : ∀ k ∈ A ++ B ++ C, k < W.heap.size) : Step W W' (A ++ B ++ C) (A' ++ B ++ C) := by
  have := h.frame (B ++ C) (by rw [← List.append_assoc]; exact hn) (fun k hk => hl k (by simp only [List.mem_append] at hk ⊢; rcases hk with hk | hk; exact .inl (.inr hk); exact .inr hk))
  rwa [← List.append_assoc, ← List.append_assoc] at this
theorem Step.at2 (h : Step W W' B B') (hn : (A ++ B ++ C).Nodup) (hl : ∀ k ∈ A ++ B ++ C, k < W.heap.size) : Step W W' (A ++ B ++ C) (A ++ B' ++ C) := by
  have p : ∀ X : List Nat, (X ++ A ++ C).Perm (A ++ X ++ C) := fun X => List.Perm.append_right _ List.perm_append_comm
  exact (Step.at1 (B := A) (C := C) h ((p B).nodup_iff.2 hn) (fun k hk => hl k ((p B).mem_iff.1 hk))).perm (p B) (p B')
theorem Step.at3 (h : Step W W' C C') (hn : (A ++ B ++ C).Nodup) (hl : ∀ k ∈ A ++ B ++ C, k < W.heap.size) : Step W W' (A ++ B ++ C) (A ++ B ++ C') := by
  have p : ∀ X : List Nat, (X ++ A ++ B).Perm (A ++ B ++ X) := fun X => by rw [List.append_assoc]; exact List.perm_append_comm
  exact (Step.at1 (B := A) (C := B) h ((p C).nodup_iff.2 hn) (fun k hk => hl k ((p C).mem_iff.1 hk))).perm (p C) (p C')
theorem nd3 (hn : (A ++ B ++ C).Nodup) : (∀ k ∈ A, k ∉ B) ∧ (∀ k ∈ A, k ∉ C) ∧ (∀ k ∈ B, k ∉ C) := by
  simp only [List.nodup_append, List.mem_append] at hn
  exact ⟨fun k ha hb => hn.1.2.2 k ha k hb rfl, fun k ha hc => hn.2.2 k (.inl ha) k hc rfl, fun k hb hc => hn.2.2 k (.inr hb) k hc rfl⟩
theorem Step.new {F : List Nat} (o : Obj) (h : F.Nodup) (hl : ∀ k ∈ F, k < W.heap.size) : Step W (W.alloc o) F (F ++ [W.heap.size]) := by
  refine ⟨Upd.alloc _ _ _, List.nodup_append.2 ⟨h, by simp, fun a ha b hb e => ?_⟩, fun k hk => ?_, fun k hk => ?_⟩
  · simp at hb; subst hb; subst e; have := hl _ ha; omega
  · simp only [List.mem_append, List.mem_singleton] at hk
    exact hk.imp id (fun e => by omega)
  · simp only [List.mem_append, List.mem_singleton] at hk
    simp only [World.size_alloc]
    rcases hk with hk | rfl
    · have := hl k hk; omega
    · omega
end
structure Tri (w0 W : World) (F0 : List Nat) (b : Nat) (iv kv : Value) (its : List Itm) (ks : List Nat) (l : Nat) (liv lkv : Value) (lits : List Itm) (lks : List Nat) (r : Nat) (riv rkv : Value) (rits : List Itm) (rks : List Nat) : Prop where
  hn : Nod W b iv kv its ks
  hl : Nod W l liv lkv lits lks
  hr : Nod W r riv rkv rits rks
  s : Step w0 W F0 (nf b iv kv ++ nf l liv lkv ++ nf r riv rkv)
section
variable {w0 W W' : World} {F0 : List Nat} {b : Nat} {iv kv iv' kv' : Value} {its its' : List Itm} {ks ks' : List Nat} {l : Nat} {liv lkv liv' lkv' : Value} {lits lits' : List Itm} {lks lks' : List Nat} {r : Nat} {riv rkv riv' rkv' : Value} {rits rits' : List Itm} {rks rks' : List Nat}
  (h : Tri w0 W F0 b iv kv its ks l liv lkv lits lks r riv rkv rits rks)
include h
theorem Tri.onN (hN : Nod W' b iv' kv' its' ks') (hs : Step W W' (nf b iv kv) (nf b iv' kv')) : Tri w0 W' F0 b iv' kv' its' ks' l liv lkv lits lks r riv rkv rits rks := by
  obtain ⟨d1, d2, d3⟩ := nd3 h.s.nd
  exact ⟨hN, hs.keep h.hl (fun k hk hk' => d1 k hk' hk), hs.keep h.hr (fun k hk hk' => d2 k hk' hk), h.s.trans (hs.at1 h.s.nd h.s.lt)⟩
theorem Tri.onL (hN : Nod W' l liv' lkv' lits' lks') (hs : Step W W' (nf l liv lkv) (nf l liv' lkv')) : Tri w0 W' F0 b iv kv its ks l liv' lkv' lits' lks' r riv rkv rits rks := by
  obtain ⟨d1, d2, d3⟩ := nd3 h.s.nd
  exact ⟨hs.keep h.hn d1, hN, hs.keep h.hr (fun k hk hk' => d3 k hk' hk), h.s.trans (hs.at2 h.s.nd h.s.lt)⟩
theorem Tri.onR (hN : Nod W' r riv' rkv' rits' rks') (hs : Step W W' (nf r riv rkv) (nf r riv' rkv')) : Tri w0 W' F0 b iv kv its ks l liv lkv lits lks r riv' rkv' rits' rks' := by
  obtain ⟨d1, d2, d3⟩ := nd3 h.s.nd
  exact ⟨hs.keep h.hn d2, hs.keep h.hl d3, hN, h.s.trans (hs.at3 h.s.nd h.s.lt)⟩
theorem Tri.below (hb : Below W.heap.size W W') : Tri w0 W' F0 b iv kv its ks l liv lkv lits lks r riv rkv rits rks :=
  ⟨h.hn.below hb, h.hl.below hb, h.hr.below hb, h.s.trans (Step.below hb h.s.nd h.s.lt)⟩
end
/-- A row beside what turns. -/
theorem row_beside {W W' : World} {u : Nat} {x : Array Value} {t : TypeId} (hu : W.heap[u]? = some (.cells x t (0, 0))) {G G' : List Nat} (hs : Step W W' G G') (hn : u ∉ G) : W'.heap[u]? = some (.cells x t (0, 0)) :=
  (hs.upd.block u (Array.getElem?_eq_some_iff.1 hu).1 hn).trans hu
theorem beside {W W' : World} {u : Nat} {x : Array Value} {t : TypeId} {F F' : List Nat} (hs : Step W W' F F') (hu : W.heap[u]? = some (.cells x t (0, 0))) (hn : u ∉ F) : W'.heap[u]? = some (.cells x t (0, 0)) ∧ u ∉ F' :=
  ⟨row_beside hu hs hn, fun h => (hs.sub u h).elim hn (fun h => by have := (Array.getElem?_eq_some_iff.1 hu).1; omega)⟩
/-- Three nodes, and the box of an item beside them. -/
structure TriU (w0 W : World) (F0 : List Nat) (b : Nat) (iv kv : Value) (its : List Itm) (ks : List Nat) (l : Nat) (liv lkv : Value) (lits : List Itm) (lks : List Nat) (r : Nat) (riv rkv : Value) (rits : List Itm) (rks : List Nat) (u : Nat) (key : ByteArray) (mv : Value) : Prop where
  t : Tri w0 W F0 b iv kv its ks l liv lkv lits lks r riv rkv rits rks
  row : W.heap[u]? = some (.cells #[.string key, mv] 104 (0, 0))
  out : u ∉ nf b iv kv ++ nf l liv lkv ++ nf r riv rkv
section
variable {w0 W W' : World} {F0 : List Nat} {b : Nat} {iv kv iv' kv' : Value} {its its' : List Itm} {ks ks' : List Nat} {l : Nat} {liv lkv liv' lkv' : Value} {lits lits' : List Itm} {lks lks' : List Nat} {r : Nat} {riv rkv riv' rkv' : Value} {rits rits' : List Itm} {rks rks' : List Nat} {u : Nat} {key : ByteArray} {mv : Value}
  (h : TriU w0 W F0 b iv kv its ks l liv lkv lits lks r riv rkv rits rks u key mv)
include h
theorem TriU.onN (hN : Nod W' b iv' kv' its' ks') (hs : Step W W' (nf b iv kv) (nf b iv' kv')) : TriU w0 W' F0 b iv' kv' its' ks' l liv lkv lits lks r riv rkv rits rks u key mv := by
  obtain ⟨a, c⟩ := beside (hs.at1 h.t.s.nd h.t.s.lt) h.row h.out
  exact ⟨h.t.onN hN hs, a, c⟩
theorem TriU.onL (hN : Nod W' l liv' lkv' lits' lks') (hs : Step W W' (nf l liv lkv) (nf l liv' lkv')) : TriU w0 W' F0 b iv kv its ks l liv' lkv' lits' lks' r riv rkv rits rks u key mv := by
  obtain ⟨a, c⟩ := beside (hs.at2 h.t.s.nd h.t.s.lt) h.row h.out
  exact ⟨h.t.onL hN hs, a, c⟩
theorem TriU.onR (hN : Nod W' r riv' rkv' rits' rks') (hs : Step W W' (nf r riv rkv) (nf r riv' rkv')) : TriU w0 W' F0 b iv kv its ks l liv lkv lits lks r riv' rkv' rits' rks' u key mv := by
  obtain ⟨a, c⟩ := beside (hs.at3 h.t.s.nd h.t.s.lt) h.row h.out
  exact ⟨h.t.onR hN hs, a, c⟩
theorem TriU.below (hb : Below W.heap.size W W') : TriU w0 W' F0 b iv kv its ks l liv lkv lits lks r riv rkv rits rks u key mv :=
  ⟨h.t.below hb, (hb.block u (Array.getElem?_eq_some_iff.1 h.row).1).trans h.row, h.out⟩
theorem TriU.u0 : W.cell? ⟨u, 0, none⟩ = some (.string key) := by simp [World.cell?, h.row]
theorem TriU.u1 : W.cell? ⟨u, 1, none⟩ = some mv := by simp [World.cell?, h.row]
end
/-- What a region that draws may have done ahead: new blocks, draws. -/
theorem Step.from {W W1 W2 : World} {F F' : List Nat} (hb : Below W.heap.size W W1) (hs : Step W1 W2 F F') (hn : F.Nodup) (hl : ∀ k ∈ F, k < W.heap.size) : Step W W2 F F' := (Step.below hb hn hl).trans hs
theorem Nod.fresh (w : World) : Nod (w.alloc (.cells #[.slice none 0 0, .slice none 0 0] 123)) w.heap.size (.slice none 0 0) (.slice none 0 0) [] [] :=
  ⟨row_alloc w _ _, World.ownsRow_nil _ _ _ _, World.ownsRow_nil _ _ _ _, by simp, by simp [nf, Value.ownBlock]⟩
theorem nf_fresh (r : Nat) : nf r (.slice none 0 0) (.slice none 0 0) = [r] := by simp [nf, Value.ownBlock]
end Go.Proofs.Yteeflkkoifgcbaa
