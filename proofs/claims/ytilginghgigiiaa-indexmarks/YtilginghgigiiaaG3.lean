/- walk, by induction; from. -/
import Derived.Test.YtilginghgigiiaaF1
namespace Go.Proofs.Ytilginghgigiiaa
open Go Go.RowKit Go.Shelf
attribute [local go_sem] Oper.semAt_some

/-- An item's place in a tree. -/
structure SlotA (w0 : World) (h b n : Nat) (L : List Itm) (F : List Nat) where
  g : Nat
  i : Nat
  it : Itm
  ok : Slot w0 h b n L F g i it
  loc : Loc w0 h b g i
abbrev encA {w0 : World} {h b n : Nat} {L : List Itm} {F : List Nat} (x : SlotA w0 h b n L F) : Addr := ⟨x.g, x.i * 2, none⟩

set_option maxHeartbeats 1000000 in
theorem walk_nil (l : Nat) (lo : ByteArray) (n : Nat) (W : World) : CallsIn Fence.wide n Try.prog 39 #[.pointer none, .string lo, .func (.yield l) #[] #[]] W fun e W' => e = .returned (.bool true) ∧ W' = W := by
  refine callsIn_of_wp Try.func39 rfl trivial ?_ rfl
  simp only [Try.ntmps39, List.size_toArray, List.length_cons, List.length_nil, Nat.reduceAdd, Nat.reduceSub, Array.replicate_succ, Array.replicate_zero, List.push_toArray, List.append_toArray, List.nil_append, List.cons_append]
  gi_wp2
  go_ret
  exact ⟨rfl, rfl⟩
def KKT (w0 : World) (F : List Nat) (W : World) : Prop := KpT w0 F w0 W ∧ w0.heap.size ≤ W.heap.size
theorem KKT.below {w0 : World} {F : List Nat} (hF : ∀ k ∈ F, k < w0.heap.size) {W W' : World} (h : KKT w0 F W) (hb : Below W.heap.size W W') : KKT w0 F W' :=
  ⟨h.1.trans (KpT.of_block fun k hk => hb.block k (Nat.lt_of_lt_of_le (hF k hk) h.2)), Nat.le_trans h.2 hb.size⟩
section
variable {w0 : World} {hT bT nT : Nat} {LT : List Itm} {F : List Nat} (l N : Nat) (lo : ByteArray) (J Jx : List (SlotA w0 hT bT nT LT F) → World → Prop)
  (hJb : ∀ pre W W', J pre W → Below W.heap.size W W' → J pre W') (hFl : ∀ k ∈ F, k < w0.heap.size)
  (hY : ∀ m pre x W, J pre W → KKT w0 F W → pre.length < N → YieldAt Fence.wide m Try.prog l #[.pointer (some (encA x))] W fun e W' => (e = .returned (.bool true) ∧ J (pre ++ [x]) W' ∧ KKT w0 F W') ∨ (e = .returned (.bool false) ∧ Jx (pre ++ [x]) W'))
include hJb hFl hY
theorem walk_node {h b : Nat} {its L : List Itm} {F' : List Nat} {iv kv : Value} {g : List KidD} (ht : Tre w0 h b its L F') (hN : Nod w0 b iv kv its (g.map KidD.b)) (hg : Good w0 h its.length g) (hL : L = lv h g its) (hF : F' = ff b iv kv g) (hFF : ∀ k ∈ F', k ∈ F)
    (hsl : ∀ g i it, Slot w0 h b its.length L F' g i it → Loc w0 h b g i → Slot w0 hT bT nT LT F g i it ∧ Loc w0 hT bT g i) (hnd : F'.Nodup) (ha : Asc (keysI L)) (h1 : 1 ≤ its.length) (h5 : its.length ≤ 5)
    (hrec : ∀ k ∈ g, ∀ n pre W, KKT w0 F W → J pre W → pre.length + (filt lo k.L).length ≤ N → CallsIn Fence.wide n Try.prog 39 #[ptr k.b, .string lo, .func (.yield l) #[] #[]] W (WalkG (fun x => x.it) (KKT w0 F) J Jx (filt lo k.L) pre))
    (n : Nat) (pre : List (SlotA w0 hT bT nT LT F)) (W : World) (hK : KKT w0 F W) (hJ : J pre W) (hN2 : pre.length + (filt lo L).length ≤ N) :
    CallsIn Fence.wide n Try.prog 39 #[ptr b, .string lo, .func (.yield l) #[] #[]] W (WalkG (fun x => x.it) (KKT w0 F) J Jx (filt lo L) pre) := by
  have hnF : ∀ k ∈ nf b iv kv, k ∈ F := fun k hk => hFF k (by rw [hF]; exact List.mem_append_left _ hk)
  obtain ⟨gi, c, hiv, _, _⟩ := owns_form1 hN.items h1
  have hai := ht.asc ha
  have hsj : ∀ j, ∃ x : SlotA w0 hT bT nT LT F, ∀ it, its[j]? = some it → x.it = it ∧ encA x = ⟨gi, j * 2, none⟩ := fun j => by
    have hmk : ∀ j it, its[j]? = some it → ∃ x : SlotA w0 hT bT nT LT F, x.it = it ∧ encA x = ⟨gi, j * 2, none⟩ := fun j it hj => by
      obtain ⟨g', c', ⟨m, hc, hm⟩, hs⟩ := Slot.own ht hnd hj
      have hl : Loc w0 h b g' j := Loc.own hc (by rw [hm]; exact (List.getElem?_eq_some_iff.1 hj).1)
      have := hN.c0
      rw [hc, hiv] at this
      cases this
      exact ⟨⟨_, j, it, (hsl _ _ _ hs hl).1, (hsl _ _ _ hs hl).2⟩, rfl, rfl⟩
    by_cases hj : j < its.length
    · obtain ⟨x, q1, q2⟩ := hmk j _ (List.getElem?_eq_getElem hj)
      exact ⟨x, fun it h => by rw [List.getElem?_eq_getElem hj] at h; cases h; exact ⟨q1, q2⟩⟩
    · obtain ⟨x, _, _⟩ := hmk 0 _ (List.getElem?_eq_getElem (by omega))
      exact ⟨x, fun it h => by rw [List.getElem?_eq_none (by omega)] at h; cases h⟩
  have hfl : segs (kfOf lo g) its (plc its lo) ++ kfOf lo g its.length = filt lo L := by
    rw [hL] at ha ⊢
    cases h with
    | zero =>
      obtain rfl : g = [] := hg
      exact segs_leaf lo its ha
    | succ h => exact segs_weave lo g its hg.1 ha
  rw [← hfl] at hN2 ⊢
  refine walk_gen l N encA (fun x => x.it) (KKT w0 F) J Jx w0 b gi c (plc its lo) (hre its lo) its lo (kpOf g) (kfOf lo g) (fun j => Classical.choose (hsj j)) hJb (fun W W' h hb => h.below hFl hb) (fun W h => ?_) (plc_le its lo) (by omega)
    (fun W h => place_skel hN hnF h.1 h1 (by omega) hai lo) (fun j W hj h => ?_) (fun j it hj => Classical.choose_spec (hsj j) it hj) hY (fun j m pre W hj h hJ hn => ?_) n pre W hK hJ hN2
  · rw [← hiv]; exact (hN.skel hnF h.1).1
  · obtain ⟨_, k1, k2, _⟩ := hN.skel hnF h.1
    rcases hg.zero with rfl | hgl
    · obtain ⟨p, c', hkv, _⟩ := owns_form hN.kids
      rw [hkv] at k1
      exact kid_leaf b c' j p W k1
    · obtain ⟨kg, c', hkv, _⟩ := owns_form1 hN.kids (by simp; omega)
      obtain ⟨k, hk⟩ : ∃ k, g[j]? = some k := ⟨_, List.getElem?_eq_getElem (by omega)⟩
      rw [hkv] at k1
      have := kid_in b kg _ c' j k.b W k1 (by simp; omega) (k2 kg c' hkv j k.b (by simp [hk]))
      simpa [kpOf, hk] using this
  · rcases hg.zero with rfl | hgl
    · refine (walk_nil l lo m W).mono ?_
      rintro e W' ⟨rfl, rfl⟩
      exact .inl ⟨rfl, [], rfl, by simpa using hJ, h⟩
    · obtain ⟨k, hk⟩ : ∃ k, g[j]? = some k := ⟨_, List.getElem?_eq_getElem (by omega)⟩
      have hkf : kfOf lo g j = filt lo k.L := by simp [kfOf, hk]
      have hkp : kpOf g j = some ⟨k.b, 0, none⟩ := by simp [kpOf, hk]
      rw [hkf] at hn ⊢
      rw [hkp]
      exact hrec k (List.mem_of_getElem? hk) m pre W h hJ hn
theorem walk_tre : ∀ (h b : Nat) (its L : List Itm) (F' : List Nat), Tre w0 h b its L F' → (∀ k ∈ F', k ∈ F) → (∀ g i it, Slot w0 h b its.length L F' g i it → Loc w0 h b g i → Slot w0 hT bT nT LT F g i it ∧ Loc w0 hT bT g i) → F'.Nodup → Asc (keysI L) → 1 ≤ its.length → its.length ≤ 5 →
    ∀ (n : Nat) (pre : List (SlotA w0 hT bT nT LT F)) (W : World), KKT w0 F W → J pre W → pre.length + (filt lo L).length ≤ N →
      CallsIn Fence.wide n Try.prog 39 #[ptr b, .string lo, .func (.yield l) #[] #[]] W (WalkG (fun x => x.it) (KKT w0 F) J Jx (filt lo L) pre) := by
  intro h
  induction h with
  | zero =>
    intro b its L F' ht hFF hsl hnd ha h1 h5
    obtain ⟨iv, kv, g, hN, hg, hL, hF⟩ := ht.open_
    exact walk_node l N lo J Jx hJb hFl hY ht hN hg hL hF hFF hsl hnd ha h1 h5 (fun k hk => by obtain rfl : g = [] := hg; cases hk)
  | succ h ih =>
    intro b its L F' ht hFF hsl hnd ha h1 h5
    obtain ⟨iv, kv, g, hN, hg, hL, hF⟩ := ht.open_
    refine walk_node l N lo J Jx hJb hFl hY ht hN hg hL hF hFF hsl hnd ha h1 h5 (fun k hk => ?_)
    obtain ⟨A, B, rfl⟩ := List.append_of_mem hk
    have hgk := hg.2 k hk
    have hAl : A.length ≤ its.length := by have := hg.1; simp at this; omega
    have hw := weave_split A k B (its.take A.length) (its.drop A.length) (by rw [List.length_take]; omega)
    rw [List.take_append_drop] at hw
    subst hL hF
    refine ih k.b k.its k.L k.F hgk.1 (fun j hj => hFF j (List.mem_append_right _ (List.mem_flatMap.2 ⟨k, hk, hj⟩))) (fun g' i it hs hl => hsl g' i it ?_ (Loc.kid hN hk hl)) ?_ ?_ (by omega) (by omega)
    · exact Slot.kid (C := its.take A.length) (D := its.drop A.length) (by rw [List.take_append_drop]) (by rw [List.length_take]; omega) hN hg hnd hs
    · have hnd' := hnd
      simp only [ff, List.flatMap_append, List.flatMap_cons, List.nodup_append] at hnd'
      exact hnd'.2.1.2.1.1
    · have ha' : Asc (keysI (weave (A ++ k :: B) its)) := ha
      rw [hw] at ha'
      simp only [keysI, List.map_append, asc_append] at ha'
      exact ha'.1.2.1
end
end Go.Proofs.Ytilginghgigiiaa
