/- A node of the tree as it lies in memory; what a step does to the blocks of some nodes. -/
import Derived.Test.YteeflkkoifgcbabGreatA2
import Derived.Test.YteeflkkoifgcbabGreatBB
namespace Go.Proofs.YteeflkkoifgcbabGreat
open Go Go.RowKit

theorem Hid.mk'' {p : Prop} (h : p) : Hid p := h
def isSl (v : Value) : Prop := ∃ p n c, v = .slice p n c
theorem isSl.one {v : Value} (h : isSl v) : v.oneCell' = true := by obtain ⟨p, n, c, rfl⟩ := h; rfl
def itC (it : Itm) : List Value := [.string it.key, it.mv]
def itsC (its : List Itm) : List Value := its.flatMap itC
abbrev ptr (k : Nat) : Value := .pointer (some ⟨k, 0, none⟩)
theorem itsC_len (its : List Itm) : (itsC its).length = its.length * 2 := by
  induction its with
  | nil => rfl
  | cons a l ih => simp only [itsC, List.flatMap_cons, List.length_append, List.length_cons] at ih ⊢; simp [itC] at ih ⊢; omega
theorem itsC_append (a b : List Itm) : itsC (a ++ b) = itsC a ++ itsC b := by simp [itsC]
theorem itsC_one (a : Itm) : itsC [a] = itC a := by simp [itsC]
theorem itsC_take : ∀ (its : List Itm) (i : Nat), (itsC its).take (i * 2) = itsC (its.take i)
  | its, 0 => by simp [itsC]
  | [], i + 1 => by simp [itsC]
  | a :: l, i + 1 => by
    have ih := itsC_take l i
    rw [show (i + 1) * 2 = i * 2 + 1 + 1 by omega]
    simp only [itsC, List.flatMap_cons, itC, List.cons_append, List.nil_append, List.take_succ_cons] at ih ⊢
    rw [ih]
theorem itsC_drop : ∀ (its : List Itm) (i : Nat), (itsC its).drop (i * 2) = itsC (its.drop i)
  | its, 0 => by simp
  | [], i + 1 => by simp [itsC]
  | a :: l, i + 1 => by
    have ih := itsC_drop l i
    rw [show (i + 1) * 2 = i * 2 + 1 + 1 by omega]
    simp only [itsC, List.flatMap_cons, itC, List.cons_append, List.nil_append, List.drop_succ_cons] at ih ⊢
    rw [ih]
theorem itsC_get : ∀ (its : List Itm) (j : Nat) (it : Itm), its[j]? = some it → (itsC its)[j * 2]? = some (.string it.key) ∧ (itsC its)[j * 2 + 1]? = some it.mv
  | [], j, it, h => by simp at h
  | a :: l, 0, it, h => by simp at h; subst h; simp [itsC, itC]
  | a :: l, j + 1, it, h => by
    have ih := itsC_get l j it (by simpa using h)
    rw [show (j + 1) * 2 = j * 2 + 1 + 1 by omega]
    simp only [itsC, List.flatMap_cons, itC, List.cons_append, List.nil_append, List.getElem?_cons_succ] at ih ⊢
    exact ih
theorem itsC_mem {its : List Itm} (h : ∀ it ∈ its, isSl it.mv) : ∀ u ∈ itsC its, u.oneCell' = true := by
  intro u hu
  simp only [itsC, List.mem_flatMap] at hu
  obtain ⟨it, hit, hu⟩ := hu
  simp only [itC, List.mem_cons, List.not_mem_nil, or_false] at hu
  rcases hu with rfl | rfl
  · rfl
  · exact (h it hit).one
theorem ptrs_mem (ks : List Nat) : ∀ u ∈ ks.map ptr, u.oneCell' = true := by
  intro u hu
  obtain ⟨k, _, rfl⟩ := List.mem_map.1 hu
  rfl

/-- The blocks of a node. -/
def nf (b : Nat) (iv kv : Value) : List Nat := b :: (iv.ownBlock.toList ++ kv.ownBlock.toList)

/-- A node: its items, its kids. -/
structure Nod (w : World) (b : Nat) (iv kv : Value) (its : List Itm) (ks : List Nat) : Prop where
  blk : w.heap[b]? = some (.cells #[iv, kv] 125 (0, 0))
  items : w.ownsRow 0 97 2 iv its.length (itsC its)
  kids : w.ownsRow 0 78 1 kv ks.length (ks.map ptr)
  mvs : ∀ it ∈ its, isSl it.mv
  nd : (nf b iv kv).Nodup

theorem owns_lt {w : World} {e s n : Nat} {v : Value} {xs : List Value} (h : w.ownsRow 0 e s v n xs) {k : Nat} (hk : v.ownBlock = some k) : k < w.heap.size := (h.lt k hk).2
theorem owns_form {w : World} {e s n : Nat} {v : Value} {xs : List Value} (h : w.ownsRow 0 e s v n xs) : ∃ p c, v = .slice p n c ∧ n ≤ c ∧ c ≤ 9223372036854775807 := by
  rcases h.2 with ⟨rfl, rfl⟩ | ⟨g, cap, cur, rfl, _, _, h1, h2, _⟩
  · exact ⟨_, _, rfl, Nat.le_refl _, by omega⟩
  · exact ⟨_, _, rfl, h1, by unfold maxLen at h2; omega⟩
theorem owns_form1 {w : World} {e s n : Nat} {v : Value} {xs : List Value} (h : w.ownsRow 0 e s v n xs) (hn : 0 < n) : ∃ g c, v = .slice (some ⟨g, 0, none⟩) n c ∧ n ≤ c ∧ c ≤ 9223372036854775807 := by
  rcases h.2 with ⟨rfl, rfl⟩ | ⟨g, cap, cur, rfl, _, _, h1, h2, _⟩
  · omega
  · exact ⟨_, _, rfl, h1, by unfold maxLen at h2; omega⟩
section
variable {w : World} {b : Nat} {iv kv : Value} {its : List Itm} {ks : List Nat} (h : Nod w b iv kv its ks)
include h
theorem Nod.c0 : w.cell? ⟨b, 0, none⟩ = some iv := by simp [World.cell?, h.blk]
theorem Nod.c1 : w.cell? ⟨b, 1, none⟩ = some kv := by simp [World.cell?, h.blk]
theorem Nod.free (j : Nat) : w.frozen? ⟨b, j, none⟩ = false := by simp [World.frozen?, h.blk]
theorem Nod.lt : b < w.heap.size := (Array.getElem?_eq_some_iff.1 h.blk).1
theorem Nod.foot_lt : ∀ k ∈ nf b iv kv, k < w.heap.size := by
  intro k hk
  simp only [nf, List.mem_cons, List.mem_append, Option.mem_toList] at hk
  rcases hk with rfl | hk | hk
  · exact h.lt
  · exact owns_lt h.items hk
  · exact owns_lt h.kids hk
theorem Nod.upd {w' : World} {S : Nat → Prop} (hu : Upd w w' S) (hS : ∀ k ∈ nf b iv kv, ¬ S k) : Nod w' b iv kv its ks :=
  ⟨(hu.block b h.lt (hS b (by simp [nf]))).trans h.blk, ownsRow_upd h.items hu (fun k hk => hS k (by simp [nf, hk])), ownsRow_upd h.kids hu (fun k hk => hS k (by simp [nf, hk])), h.mvs, h.nd⟩
theorem Nod.below {w' : World} (hb : Below w.heap.size w w') : Nod w' b iv kv its ks := h.upd (S := fun _ => False) (Upd.ofBelow hb) (fun _ _ h => h)
/-- An item's cells. -/
theorem Nod.item {g c : Nat} (hiv : iv = .slice (some ⟨g, 0, none⟩) its.length c) {j : Nat} {it : Itm} (hj : its[j]? = some it) : w.cell? ⟨g, j * 2, none⟩ = some (.string it.key) ∧ w.cell? ⟨g, j * 2 + 1, none⟩ = some it.mv := by
  obtain ⟨h1, h2⟩ := itsC_get its j it hj
  have hc := h.items.cells (g := g) (by rw [hiv]; rfl)
  have a1 := hc _ _ h1
  have a2 := hc _ _ h2
  simp only [Addr.add_lit, Nat.zero_add] at a1 a2
  exact ⟨a1, a2⟩
theorem Nod.kid {g c : Nat} (hkv : kv = .slice (some ⟨g, 0, none⟩) ks.length c) {j k : Nat} (hj : ks[j]? = some k) : w.cell? ⟨g, j, none⟩ = some (ptr k) := by
  have hc := h.kids.cells (g := g) (by rw [hkv]; rfl)
  have a1 := hc j (ptr k) (by simp [hj])
  simpa only [Addr.add_lit, Nat.zero_add] using a1
end

/-- Blocks F have become blocks F': nothing else has turned. -/
structure Step (w w' : World) (F F' : List Nat) : Prop where
  upd : Upd w w' (fun k => k ∈ F)
  nd : F'.Nodup
  sub : ∀ k ∈ F', k ∈ F ∨ w.heap.size ≤ k
  lt : ∀ k ∈ F', k < w'.heap.size
theorem Step.trans {a b c : World} {F G H : List Nat} (h : Step a b F G) (k : Step b c G H) : Step a c F H :=
  ⟨h.upd.trans k.upd (fun j _ hg => (h.sub j hg).resolve_right (by omega)), k.nd, fun j hj => by
    rcases k.sub j hj with hj | hj
    · exact h.sub j hj
    · exact .inr (Nat.le_trans h.upd.size hj), k.lt⟩
theorem Step.refl {w : World} {F : List Nat} (h : F.Nodup) (hl : ∀ k ∈ F, k < w.heap.size) : Step w w F F := ⟨Upd.refl _ _, h, fun _ h => .inl h, hl⟩
theorem Step.perm {w w' : World} {F G F' G' : List Nat} (h : Step w w' F F') (p : F.Perm G) (q : F'.Perm G') : Step w w' G G' :=
  ⟨h.upd.mono (fun _ _ hk => p.mem_iff.1 hk), q.nodup_iff.1 h.nd, fun k hk => (h.sub k (q.mem_iff.2 hk)).imp p.mem_iff.1 id, fun k hk => h.lt k (q.mem_iff.2 hk)⟩
theorem Step.frame {w w' : World} {F F' : List Nat} (h : Step w w' F F') (R : List Nat) (hn : (F ++ R).Nodup) (hl : ∀ k ∈ R, k < w.heap.size) : Step w w' (F ++ R) (F' ++ R) := by
  rw [List.nodup_append] at hn
  refine ⟨h.upd.mono (fun _ _ hk => List.mem_append_left _ hk), List.nodup_append.2 ⟨h.nd, hn.2.1, fun a ha b hb e => ?_⟩, fun k hk => ?_, fun k hk => ?_⟩
  · subst e
    rcases h.sub a ha with h' | h'
    · exact hn.2.2 a h' a hb rfl
    · have := hl a hb; omega
  · rcases List.mem_append.1 hk with hk | hk
    · exact (h.sub k hk).imp (List.mem_append_left _) id
    · exact .inl (List.mem_append_right _ hk)
  · rcases List.mem_append.1 hk with hk | hk
    · exact h.lt k hk
    · exact Nat.lt_of_lt_of_le (hl k hk) h.upd.size
theorem Step.below {w w' : World} {F : List Nat} (h : Below w.heap.size w w') (hn : F.Nodup) (hl : ∀ k ∈ F, k < w.heap.size) : Step w w' F F :=
  ⟨Upd.ofBelow h, hn, fun _ h => .inl h, fun k hk => Nat.lt_of_lt_of_le (hl k hk) h.size⟩
/-- A node that the step does not reach. -/
theorem Step.keep {w w' : World} {F F' : List Nat} (h : Step w w' F F') {b : Nat} {iv kv : Value} {its : List Itm} {ks : List Nat} (hN : Nod w b iv kv its ks) (hd : ∀ k ∈ nf b iv kv, k ∉ F) : Nod w' b iv kv its ks := hN.upd h.upd hd

theorem heap_setCell_row {w : World} {b j : Nat} {r : Array Value} {t : TypeId} {fz : Nat × Nat} (h : w.heap[b]? = some (.cells r t fz)) (v : Value) : (w.setCell ⟨b, j, none⟩ v).heap[b]? = some (.cells (r.set! j v) t fz) := by
  have hlt : b < w.heap.size := (Array.getElem?_eq_some_iff.1 h).1
  have hv : w.heap[b] = .cells r t fz := (Array.getElem?_eq_some_iff.1 h).2
  unfold World.setCell
  rw [Array.getElem?_eq_getElem (by simpa using hlt), Array.getElem_modify]
  simp [hv]
/-- A node gets new items. -/
theorem Nod.setItems {w w1 : World} {b : Nat} {iv kv iv' : Value} {its its' : List Itm} {ks : List Nat} (h : Nod w b iv kv its ks) (ho : w1.ownsRow 0 97 2 iv' its'.length (itsC its')) (hu : Upd w w1 (fun k => some k = iv.ownBlock))
    (hb : iv'.ownBlock = iv.ownBlock ∨ ∃ k, iv'.ownBlock = some k ∧ w.heap.size ≤ k) (hm : ∀ it ∈ its', isSl it.mv) :
    Nod (w1.setCell ⟨b, 0, none⟩ iv') b iv' kv its' ks ∧ Step w (w1.setCell ⟨b, 0, none⟩ iv') (nf b iv kv) (nf b iv' kv) := by
  have hnd := h.nd
  simp only [nf, List.nodup_cons, List.mem_append, Option.mem_toList, not_or] at hnd
  obtain ⟨⟨n1, n2⟩, n3⟩ := hnd
  have hbi : iv'.ownBlock ≠ some b := by
    rcases hb with hb | ⟨k, hk, hl⟩
    · rw [hb]; exact n1
    · rw [hk]; intro e; cases e; have := h.lt; omega
  have hblk : w1.heap[b]? = some (.cells #[iv, kv] 125 (0, 0)) := (hu.block b h.lt (fun e => n1 e.symm)).trans h.blk
  have us : Upd w1 (w1.setCell ⟨b, 0, none⟩ iv') (fun k => k = b) := (Upd.refl w1 (fun k => k = b)).setCell (.inr rfl) _
  have ho' := ownsRow_upd ho us (fun k hk e => hbi (by rw [hk, e]))
  have hk1 : w1.ownsRow 0 78 1 kv ks.length (ks.map ptr) := ownsRow_upd h.kids hu (fun k hk e => by
    rw [← e] at n3; rw [hk] at n3; simp at n3)
  have hk' := ownsRow_upd hk1 us (fun k hk e => n2 (by rw [hk, e]))
  have hnd' : (nf b iv' kv).Nodup := by
    simp only [nf, List.nodup_cons, List.mem_append, Option.mem_toList, not_or]
    refine ⟨⟨hbi, n2⟩, ?_⟩
    rcases hb with hb | ⟨k, hk, hl⟩
    · rw [hb]; exact n3
    · rw [hk]
      cases hkv : kv.ownBlock with
      | none => simp
      | some j =>
        have := owns_lt h.kids hkv
        simp; omega
  have hN : Nod (w1.setCell ⟨b, 0, none⟩ iv') b iv' kv its' ks := ⟨heap_setCell_row hblk iv', ho', hk', hm, hnd'⟩
  refine ⟨hN, (hu.mono fun k _ e => ?_).trans (us.mono fun k _ e => ?_) (fun _ _ h => h), hnd', fun k hk => ?_, hN.foot_lt⟩
  · simp [nf, ← e]
  · subst e; simp [nf]
  · simp only [nf, List.mem_cons, List.mem_append, Option.mem_toList] at hk ⊢
    rcases hk with rfl | hk | hk
    · exact .inl (.inl rfl)
    · rcases hb with hb | ⟨j, hj, hl⟩
      · exact .inl (.inr (.inl (by rw [← hb]; exact hk)))
      · rw [hj] at hk; cases hk; exact .inr hl
    · exact .inl (.inr (.inr hk))
/-- A node gets new kids. -/
theorem Nod.setKids {w w1 : World} {b : Nat} {iv kv kv' : Value} {its : List Itm} {ks ks' : List Nat} (h : Nod w b iv kv its ks) (ho : w1.ownsRow 0 78 1 kv' ks'.length (ks'.map ptr)) (hu : Upd w w1 (fun k => some k = kv.ownBlock))
    (hb : kv'.ownBlock = kv.ownBlock ∨ ∃ k, kv'.ownBlock = some k ∧ w.heap.size ≤ k) :
    Nod (w1.setCell ⟨b, 1, none⟩ kv') b iv kv' its ks' ∧ Step w (w1.setCell ⟨b, 1, none⟩ kv') (nf b iv kv) (nf b iv kv') := by
  have hnd := h.nd
  simp only [nf, List.nodup_cons, List.mem_append, Option.mem_toList, not_or] at hnd
  obtain ⟨⟨n1, n2⟩, n3⟩ := hnd
  have hbi : kv'.ownBlock ≠ some b := by
    rcases hb with hb | ⟨k, hk, hl⟩
    · rw [hb]; exact n2
    · rw [hk]; intro e; cases e; have := h.lt; omega
  have hblk : w1.heap[b]? = some (.cells #[iv, kv] 125 (0, 0)) := (hu.block b h.lt (fun e => n2 e.symm)).trans h.blk
  have us : Upd w1 (w1.setCell ⟨b, 1, none⟩ kv') (fun k => k = b) := (Upd.refl w1 (fun k => k = b)).setCell (.inr rfl) _
  have ho' := ownsRow_upd ho us (fun k hk e => hbi (by rw [hk, e]))
  have hk1 : w1.ownsRow 0 97 2 iv its.length (itsC its) := ownsRow_upd h.items hu (fun k hk e => by
    rw [← e] at n3; rw [hk] at n3; simp at n3)
  have hk' := ownsRow_upd hk1 us (fun k hk e => n1 (by rw [hk, e]))
  have hnd' : (nf b iv kv').Nodup := by
    simp only [nf, List.nodup_cons, List.mem_append, Option.mem_toList, not_or]
    refine ⟨⟨n1, hbi⟩, ?_⟩
    rcases hb with hb | ⟨k, hk, hl⟩
    · rw [hb]; exact n3
    · rw [hk]
      cases hkv : iv.ownBlock with
      | none => simp
      | some j =>
        have := owns_lt h.items hkv
        simp; omega
  have hN : Nod (w1.setCell ⟨b, 1, none⟩ kv') b iv kv' its ks' := ⟨heap_setCell_row hblk kv', hk', ho', h.mvs, hnd'⟩
  refine ⟨hN, (hu.mono fun k _ e => ?_).trans (us.mono fun k _ e => ?_) (fun _ _ h => h), hnd', fun k hk => ?_, hN.foot_lt⟩
  · simp [nf, ← e]
  · subst e; simp [nf]
  · simp only [nf, List.mem_cons, List.mem_append, Option.mem_toList] at hk ⊢
    rcases hk with rfl | hk | hk
    · exact .inl (.inl rfl)
    · exact .inl (.inr (.inl hk))
    · rcases hb with hb | ⟨j, hj, hl⟩
      · exact .inl (.inr (.inr (by rw [← hb]; exact hk)))
      · rw [hj] at hk; cases hk; exact .inr hl
end Go.Proofs.YteeflkkoifgcbabGreat
/- What Insert, Delete and fresh do to a node. -/
namespace Go.Proofs.YteeflkkoifgcbabGreat
open Go Go.RowKit

/-- A slice value at a block, of n elements. -/
def slAt (v : Value) (n : Nat) : Prop := ∃ g c, v = .slice (some ⟨g, 0, none⟩) n c ∧ n ≤ c ∧ c ≤ 9223372036854775807
theorem cell_upd {w w' : World} {S : Nat → Prop} (hu : Upd w w' S) {b j : Nat} {r : Array Value} {t : TypeId} {v : Value} (hb : w.heap[b]? = some (.cells r t (0, 0))) (hS : ¬ S b) (hj : r[j]? = some v) : w'.cell? ⟨b, j, none⟩ = some v ∧ w'.frozen? ⟨b, j, none⟩ = false := by
  have hlt : b < w.heap.size := (Array.getElem?_eq_some_iff.1 hb).1
  have h := (hu.block b hlt hS).trans hb
  constructor
  · simp [World.cell?, h, hj]
  · simp [World.frozen?, h]
theorem nf_iv {b : Nat} {iv kv : Value} (h : (nf b iv kv).Nodup) : iv.ownBlock ≠ some b ∧ kv.ownBlock ≠ some b := by
  simp only [nf, List.nodup_cons, List.mem_append, Option.mem_toList, not_or] at h
  exact h.1

/-- Insert of an item into a node's items. -/
theorem insI_node {w : World} {b : Nat} {iv kv : Value} {its : List Itm} {ks : List Nat} (hN : Nod w b iv kv its ks) (it : Itm) (hit : isSl it.mv) (i vb : Nat) (hi : i ≤ its.length) (hn : its.length ≤ 1000)
    (hvb : w.heap[vb]? = some (.cells #[.string it.key, it.mv] 97 (0, 0))) (hne : iv.ownBlock ≠ some vb) :
    Calls Tryz.prog 88 #[iv, .int .i64 i, .slice (some ⟨vb, 0, none⟩) 1 1] w fun e w' => ∃ iv', e = .returned iv' ∧ slAt iv' (its.length + 1) ∧ w'.cell? ⟨b, 0, none⟩ = some iv ∧ w'.frozen? ⟨b, 0, none⟩ = false ∧
      Nod (w'.setCell ⟨b, 0, none⟩ iv') b iv' kv (its.take i ++ it :: its.drop i) ks ∧ Step w (w'.setCell ⟨b, 0, none⟩ iv') (nf b iv kv) (nf b iv' kv) := by
  refine (insI_any iv its.length i vb (itsC its) (itC it) w hN.items hi hn hvb rfl hne (itsC_mem hN.mvs) (fun u hu => itsC_mem (its := [it]) (by simpa using hit) u (by rw [itsC_one]; exact hu))).mono ?_
  rintro e w' ⟨iv', rfl, ho, hu, hb⟩
  rw [itsC_take, itsC_drop, ← itsC_one it, List.append_assoc, ← itsC_append, ← itsC_append] at ho
  have hl : (its.take i ++ ([it] ++ its.drop i)).length = its.length + 1 := by simp; omega
  have ho1 := ho
  rw [← hl] at ho
  have hs := hN.setItems ho hu (hb.imp id (fun h => ⟨_, h, Nat.le_refl _⟩)) (fun x hx => by
    simp only [List.mem_append, List.mem_cons, List.not_mem_nil, or_false] at hx
    rcases hx with hx | rfl | hx
    · exact hN.mvs x (List.mem_of_mem_take hx)
    · exact hit
    · exact hN.mvs x (List.mem_of_mem_drop hx))
  obtain ⟨d0, d1⟩ := cell_upd hu hN.blk (fun e => (nf_iv hN.nd).1 e.symm) (j := 0) (v := iv) rfl
  exact ⟨iv', rfl, owns_form1 ho1 (by omega), d0, d1, hs.1, hs.2⟩
/-- Delete of items of a node. -/
theorem delI_node {w : World} {b : Nat} {iv kv : Value} {its : List Itm} {ks : List Nat} (hN : Nod w b iv kv its ks) (i j : Nat) (hij : i < j) (hj : j ≤ its.length) (hn : its.length ≤ 1000) :
    Calls Tryz.prog 76 #[iv, .int .i64 i, .int .i64 j] w fun e w' => ∃ iv', e = .returned iv' ∧ (∃ p c, iv' = .slice p (i + (its.length - j)) c) ∧ w'.cell? ⟨b, 0, none⟩ = some iv ∧ w'.frozen? ⟨b, 0, none⟩ = false ∧
      Nod (w'.setCell ⟨b, 0, none⟩ iv') b iv' kv (its.take i ++ its.drop j) ks ∧ Step w (w'.setCell ⟨b, 0, none⟩ iv') (nf b iv kv) (nf b iv' kv) := by
  refine (delI_any iv its.length i j (itsC its) w hN.items hij hj hn (itsC_mem hN.mvs)).mono ?_
  rintro e w' ⟨iv', rfl, ho, hu, hb, _⟩
  rw [itsC_take, itsC_drop, ← itsC_append] at ho
  have hl : (its.take i ++ its.drop j).length = i + (its.length - j) := by simp; omega
  have ho1 := ho
  rw [← hl] at ho
  have hs := hN.setItems ho hu (.inl hb) (fun x hx => by
    simp only [List.mem_append] at hx
    rcases hx with hx | hx
    · exact hN.mvs x (List.mem_of_mem_take hx)
    · exact hN.mvs x (List.mem_of_mem_drop hx))
  obtain ⟨d0, d1⟩ := cell_upd hu hN.blk (fun e => (nf_iv hN.nd).1 e.symm) (j := 0) (v := iv) rfl
  obtain ⟨p, c, hp, _⟩ := owns_form ho1
  exact ⟨iv', rfl, ⟨p, c, hp⟩, d0, d1, hs.1, hs.2⟩
/-- Insert of a kid into a node's kids. -/
theorem insK_node {w : World} {b : Nat} {iv kv : Value} {its : List Itm} {ks : List Nat} (hN : Nod w b iv kv its ks) (k i vb : Nat) (hi : i ≤ ks.length) (hn : ks.length ≤ 1000)
    (hvb : w.heap[vb]? = some (.cells #[ptr k] 78 (0, 0))) (hne : kv.ownBlock ≠ some vb) :
    Calls Tryz.prog 92 #[kv, .int .i64 i, .slice (some ⟨vb, 0, none⟩) 1 1] w fun e w' => ∃ kv', e = .returned kv' ∧ slAt kv' (ks.length + 1) ∧ w'.cell? ⟨b, 1, none⟩ = some kv ∧ w'.frozen? ⟨b, 1, none⟩ = false ∧
      Nod (w'.setCell ⟨b, 1, none⟩ kv') b iv kv' its (ks.take i ++ k :: ks.drop i) ∧ Step w (w'.setCell ⟨b, 1, none⟩ kv') (nf b iv kv) (nf b iv kv') := by
  refine (insK_any kv ks.length i vb (ks.map ptr) [ptr k] w hN.kids hi hn hvb rfl hne (ptrs_mem ks) (ptrs_mem [k])).mono ?_
  rintro e w' ⟨kv', rfl, ho, hu, hb⟩
  rw [Nat.mul_one, ← List.map_take, ← List.map_drop, List.append_assoc, show [ptr k] = [k].map ptr from rfl, ← List.map_append, ← List.map_append] at ho
  have hl : (ks.take i ++ ([k] ++ ks.drop i)).length = ks.length + 1 := by simp; omega
  have ho1 := ho
  rw [← hl] at ho
  have hs := hN.setKids ho hu (hb.imp id (fun h => ⟨_, h, Nat.le_refl _⟩))
  obtain ⟨d0, d1⟩ := cell_upd hu hN.blk (fun e => (nf_iv hN.nd).2 e.symm) (j := 1) (v := kv) rfl
  exact ⟨kv', rfl, owns_form1 ho1 (by omega), d0, d1, hs.1, hs.2⟩
/-- Delete of kids of a node. -/
theorem delK_node {w : World} {b : Nat} {iv kv : Value} {its : List Itm} {ks : List Nat} (hN : Nod w b iv kv its ks) (i j : Nat) (hij : i < j) (hj : j ≤ ks.length) (hn : ks.length ≤ 1000) :
    Calls Tryz.prog 91 #[kv, .int .i64 i, .int .i64 j] w fun e w' => ∃ kv', e = .returned kv' ∧ (∃ p c, kv' = .slice p (i + (ks.length - j)) c) ∧ w'.cell? ⟨b, 1, none⟩ = some kv ∧ w'.frozen? ⟨b, 1, none⟩ = false ∧
      Nod (w'.setCell ⟨b, 1, none⟩ kv') b iv kv' its (ks.take i ++ ks.drop j) ∧ Step w (w'.setCell ⟨b, 1, none⟩ kv') (nf b iv kv) (nf b iv kv') := by
  refine (delK_any kv ks.length i j (ks.map ptr) w hN.kids hij hj hn (ptrs_mem ks)).mono ?_
  rintro e w' ⟨kv', rfl, ho, hu, hb, _⟩
  rw [Nat.mul_one, Nat.mul_one, ← List.map_take, ← List.map_drop, ← List.map_append] at ho
  have hl : (ks.take i ++ ks.drop j).length = i + (ks.length - j) := by simp; omega
  have ho1 := ho
  rw [← hl] at ho
  have hs := hN.setKids ho hu (.inl hb)
  obtain ⟨d0, d1⟩ := cell_upd hu hN.blk (fun e => (nf_iv hN.nd).2 e.symm) (j := 1) (v := kv) rfl
  obtain ⟨p, c, hp, _⟩ := owns_form ho1
  exact ⟨kv', rfl, ⟨p, c, hp⟩, d0, d1, hs.1, hs.2⟩
/-- fresh of a node's items from i on, for a node r that has none. -/
theorem freshI_node {w : World} {l : Nat} {liv lkv : Value} {lits : List Itm} {lks : List Nat} (hL : Nod w l liv lkv lits lks) {r : Nat} {rkv : Value} {rks : List Nat} (hR : Nod w r (.slice none 0 0) rkv [] rks) (i c : Nat) (g : Nat) (hiv : liv = .slice (some ⟨g, 0, none⟩) lits.length c) (hi : i < lits.length) (hn : lits.length ≤ 1000) (c' : Nat) :
    Calls Tryz.prog 89 #[.slice (some ⟨g, i * 2, none⟩) (lits.length - i) c'] w fun e w' => ∃ riv, e = .returned riv ∧ slAt riv (lits.length - i) ∧ w'.cell? ⟨r, 0, none⟩ = some (.slice none 0 0) ∧ w'.frozen? ⟨r, 0, none⟩ = false ∧
      Nod (w'.setCell ⟨r, 0, none⟩ riv) r riv rkv (lits.drop i) rks ∧ Step w (w'.setCell ⟨r, 0, none⟩ riv) (nf r (.slice none 0 0) rkv) (nf r riv rkv) := by
  have hc : ∀ j v, (itsC (lits.drop i))[j]? = some v → w.cell? ⟨g, i * 2 + j, none⟩ = some v := fun j v hj => by
    rw [← itsC_drop, List.getElem?_drop] at hj
    have := hL.items.cells (g := g) (by rw [hiv]; rfl) _ _ hj
    simpa only [Addr.add_lit, Nat.zero_add] using this
  refine (freshI g (i * 2) (lits.length - i) c' (itsC (lits.drop i)) w (by omega) (by omega) (by rw [itsC_len]; simp) hc (itsC_mem (fun x hx => hL.mvs x (List.mem_of_mem_drop hx)))).mono ?_
  rintro e w' ⟨rfl, hb, hz, hbel⟩
  have ho : w'.ownsRow 0 97 2 (.slice (some ⟨w.heap.size, 0, none⟩) (lits.length - i) (lits.length - i)) (lits.drop i).length (itsC (lits.drop i)) := by
    rw [List.length_drop]
    exact owns_of_row hb (Nat.le_refl _) (by unfold maxLen; omega) (by simp [itsC_len]) (List.take_of_length_le (by simp [itsC_len])) (by simp [itsC_len])
  have hu : Upd w w' (fun k => some k = (Value.slice none 0 0).ownBlock) := Upd.ofBelow hbel
  have hs := hR.setItems ho hu (.inr ⟨_, rfl, Nat.le_refl _⟩) (fun x hx => hL.mvs x (List.mem_of_mem_drop hx))
  obtain ⟨d0, d1⟩ := cell_upd hu hR.blk (by simp [Value.ownBlock]) (j := 0) (v := .slice none 0 0) rfl
  exact ⟨_, rfl, ⟨_, _, rfl, Nat.le_refl _, by omega⟩, d0, d1, hs.1, hs.2⟩
/-- fresh of a node's kids from i on, for a node r that has none. -/
theorem freshK_node {w : World} {l : Nat} {liv lkv : Value} {lits : List Itm} {lks : List Nat} (hL : Nod w l liv lkv lits lks) {r : Nat} {riv : Value} {rits : List Itm} (hR : Nod w r riv (.slice none 0 0) rits []) (i c : Nat) (g : Nat) (hkv : lkv = .slice (some ⟨g, 0, none⟩) lks.length c) (hi : i < lks.length) (hn : lks.length ≤ 1000) (c' : Nat) :
    Calls Tryz.prog 90 #[.slice (some ⟨g, i, none⟩) (lks.length - i) c'] w fun e w' => ∃ rkv, e = .returned rkv ∧ slAt rkv (lks.length - i) ∧ w'.cell? ⟨r, 1, none⟩ = some (.slice none 0 0) ∧ w'.frozen? ⟨r, 1, none⟩ = false ∧
      Nod (w'.setCell ⟨r, 1, none⟩ rkv) r riv rkv rits (lks.drop i) ∧ Step w (w'.setCell ⟨r, 1, none⟩ rkv) (nf r riv (.slice none 0 0)) (nf r riv rkv) := by
  have hc : ∀ j v, ((lks.drop i).map ptr)[j]? = some v → w.cell? ⟨g, i + j, none⟩ = some v := fun j v hj => by
    rw [List.map_drop, List.getElem?_drop] at hj
    have := hL.kids.cells (g := g) (by rw [hkv]; rfl) _ _ hj
    simpa only [Addr.add_lit, Nat.zero_add] using this
  refine (freshK g i (lks.length - i) c' ((lks.drop i).map ptr) w (by omega) (by omega) (by simp) hc (ptrs_mem _)).mono ?_
  rintro e w' ⟨rfl, hb, hz, hbel⟩
  have ho : w'.ownsRow 0 78 1 (.slice (some ⟨w.heap.size, 0, none⟩) (lks.length - i) (lks.length - i)) (lks.drop i).length ((lks.drop i).map ptr) := by
    rw [List.length_drop]
    exact owns_of_row hb (Nat.le_refl _) (by unfold maxLen; omega) (by simp) (List.take_of_length_le (by simp)) (by simp)
  have hu : Upd w w' (fun k => some k = (Value.slice none 0 0).ownBlock) := Upd.ofBelow hbel
  have hs := hR.setKids ho hu (.inr ⟨_, rfl, Nat.le_refl _⟩)
  obtain ⟨d0, d1⟩ := cell_upd hu hR.blk (by simp [Value.ownBlock]) (j := 1) (v := .slice none 0 0) rfl
  exact ⟨_, rfl, ⟨_, _, rfl, Nat.le_refl _, by omega⟩, d0, d1, hs.1, hs.2⟩
end Go.Proofs.YteeflkkoifgcbabGreat
