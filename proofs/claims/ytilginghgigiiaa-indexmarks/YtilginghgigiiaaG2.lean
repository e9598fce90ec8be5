/- walk, of a tree whose marks may change meanwhile. -/
import Derived.Test.YtilginghgigiiaaG1
import Derived.Test.YtilginghgigiiaaE3
namespace Go.Proofs.Ytilginghgigiiaa
open Go Go.RowKit Go.Shelf
attribute [local go_sem] Oper.semAt_some

/-- A row of items. -/
def is66 (w : World) (k : Nat) : Prop := ∃ cur, w.heap[k]? = some (.cells cur 66 (0, 0))
/-- All cells of the tree are as they were, but for marks. -/
def KpT (w0 : World) (F : List Nat) (W W' : World) : Prop := ∀ p : Addr, p.block ∈ F → ((is66 w0 p.block → p.off % 2 = 0) → W'.cell? p = W.cell? p) ∧ ((W.cell? p).isSome = true → (W'.cell? p).isSome = true)
theorem KpT.refl (w0 : World) (F : List Nat) (W : World) : KpT w0 F W W := fun _ _ => ⟨fun _ => rfl, id⟩
theorem KpT.trans {w0 : World} {F : List Nat} {A B C : World} (h : KpT w0 F A B) (k : KpT w0 F B C) : KpT w0 F A C := fun p hp => ⟨fun hq => ((k p hp).1 hq).trans ((h p hp).1 hq), fun hs => (k p hp).2 ((h p hp).2 hs)⟩
theorem KpT.of_block {w0 : World} {F : List Nat} {W W' : World} (h : ∀ k ∈ F, W'.heap[k]? = W.heap[k]?) : KpT w0 F W W' := fun p hp => by
  have := World.cell?_of_block (w := W) (w' := W') (a := p) (h p.block hp)
  exact ⟨fun _ => this, fun hs => by rw [this]; exact hs⟩

theorem plc_keys {a b : List Itm} (h : keysI a = keysI b) (key : ByteArray) : plc a key = plc b key := by
  have e : ∀ l : List Itm, plc l key = ((keysI l).takeWhile fun k => klt k key).length := fun l => by
    unfold plc keysI
    rw [(map_takeWhile'' Itm.key (fun k => klt k key) l)]
    simp
  rw [e, e, h]
where
  map_takeWhile'' {α β : Type} (f : α → β) (p : β → Bool) : ∀ l : List α, (l.map f).takeWhile p = (l.takeWhile (fun a => p (f a))).map f
    | [] => by simp
    | a :: l => by
      by_cases h : p (f a) = true
      · simp [h, map_takeWhile'' f p l]
      · simp [h]
/-- A node's cells, in a world where marks may have changed. -/
theorem Nod.skel {w0 W : World} {F : List Nat} {b : Nat} {iv kv : Value} {its : List Itm} {ks : List Nat} (hN : Nod w0 b iv kv its ks) (hF : ∀ k ∈ nf b iv kv, k ∈ F) (hK : KpT w0 F w0 W) :
    W.cell? ⟨b, 0, none⟩ = some iv ∧ W.cell? ⟨b, 1, none⟩ = some kv ∧ (∀ g c, kv = .slice (some ⟨g, 0, none⟩) ks.length c → ∀ j k, ks[j]? = some k → W.cell? ⟨g, j, none⟩ = some (ptr k)) ∧
    (∀ g c, iv = .slice (some ⟨g, 0, none⟩) its.length c → ∃ its', keysI its' = keysI its ∧ its'.length = its.length ∧ ItsAt W g its') := by
  have no66 : ¬ is66 w0 b := fun ⟨cur, h⟩ => by rw [hN.blk] at h; simp at h
  refine ⟨((hK ⟨b, 0, none⟩ (hF b (by simp [nf]))).1 (fun h => absurd h no66)).trans hN.c0, ((hK ⟨b, 1, none⟩ (hF b (by simp [nf]))).1 (fun h => absurd h no66)).trans hN.c1, fun g c hkv j k hj => ?_, fun g c hiv => ?_⟩
  · have hg : g ∈ F := hF g (by simp [nf, hkv, Value.ownBlock])
    have no : ¬ is66 w0 g := fun ⟨cur, h⟩ => by
      rcases hN.kids.2 with ⟨e, _⟩ | ⟨g', cap, cur', e, _, hh, _⟩
      · rw [hkv] at e; cases e
      · rw [hkv] at e; cases e; rw [hh] at h; simp at h
    exact ((hK ⟨g, j, none⟩ hg).1 (fun h => absurd h no)).trans (hN.kid hkv hj)
  · have hg : g ∈ F := hF g (by simp [nf, hiv, Value.ownBlock])
    refine ⟨its.zipIdx.map (fun p => ⟨p.1.key, (W.cell? ⟨g, p.2 * 2 + 1, none⟩).getD undef⟩), ?_, by simp, fun j it hj => ?_⟩
    · simp only [keysI, List.map_map]
      have : (Itm.key ∘ fun p : Itm × Nat => (⟨p.1.key, (W.cell? ⟨g, p.2 * 2 + 1, none⟩).getD undef⟩ : Itm)) = Itm.key ∘ Prod.fst := rfl
      rw [this, ← List.map_map, List.zipIdx_map_fst]
    · rw [List.getElem?_map, List.getElem?_zipIdx] at hj
      cases h0 : its[j]? with
      | none => rw [h0] at hj; simp at hj
      | some it0 =>
        rw [h0] at hj
        simp only [Option.map_some, Option.some.injEq, Nat.zero_add] at hj
        subst hj
        obtain ⟨e0, e1⟩ := hN.item hiv h0
        refine ⟨((hK ⟨g, j * 2, none⟩ hg).1 (fun _ => by show j * 2 % 2 = 0; omega)).trans e0, ?_⟩
        have := (hK ⟨g, j * 2 + 1, none⟩ hg).2 (by rw [e1]; rfl)
        obtain ⟨v, hv⟩ := Option.isSome_iff_exists.1 this
        show W.cell? _ = some ((W.cell? _).getD undef)
        rw [hv]; rfl
/-- The place of a key, there. -/
theorem place_skel {w0 W : World} {F : List Nat} {b : Nat} {iv kv : Value} {its : List Itm} {ks : List Nat} (hN : Nod w0 b iv kv its ks) (hF : ∀ k ∈ nf b iv kv, k ∈ F) (hK : KpT w0 F w0 W) (h1 : 1 ≤ its.length) (hn : its.length ≤ 1000) (hs : Asc (keysI its)) (key : ByteArray) :
    Calls Try.prog 33 #[ptr b, .string key] W fun e w' => e = .returned (.tuple #[.int .i64 (plc its key), .bool (hre its key)]) ∧ Below W.heap.size W w' := by
  obtain ⟨g, c, hiv, _, _⟩ := owns_form1 hN.items h1
  obtain ⟨k0, _, _, k3⟩ := hN.skel hF hK
  obtain ⟨its', e1, e2, e3⟩ := k3 g c hiv
  rw [hiv, ← e2] at k0
  have := place_any b g c its' key W k0 e3 (by rw [e1]; exact hs) (by omega)
  have hp := plc_keys e1 key
  have hh : hre its' key = hre its key := by
    unfold hre
    rw [hp]
    have hk : (keysI its')[plc its key]? = (keysI its)[plc its key]? := by rw [e1]
    simp only [keysI, List.getElem?_map] at hk
    cases h1 : its'[plc its key]? <;> cases h2 : its[plc its key]? <;> simp [h1, h2] at hk ⊢
    rw [hk]
  rw [hp, hh] at this
  exact this
def filt (lo : ByteArray) (L : List Itm) : List Itm := L.filter fun it => !klt it.key lo
theorem filt_append (lo : ByteArray) (a b : List Itm) : filt lo (a ++ b) = filt lo a ++ filt lo b := by simp [filt]
theorem filt_none {lo : ByteArray} {L : List Itm} (h : ∀ x ∈ L, klt x.key lo = true) : filt lo L = [] := by
  unfold filt; rw [List.filter_eq_nil_iff]; intro x hx; simp [h x hx]
theorem filt_all {lo : ByteArray} {L : List Itm} (h : ∀ x ∈ L, klt x.key lo = false) : filt lo L = L := by
  unfold filt; rw [List.filter_eq_self]; intro x hx; simp [h x hx]
/-- What the kid at a place gives. -/
def kfOf (lo : ByteArray) (ks : List KidD) (j : Nat) : List Itm := ((ks[j]?).map fun k => filt lo k.L).getD []
def kpOf (ks : List KidD) (j : Nat) : Option Addr := (ks[j]?).map fun k => ⟨k.b, 0, none⟩
theorem segs_rest (lo : ByteArray) (ks : List KidD) (its : List Itm) (hl : ks.length = its.length + 1) : ∀ (D : List Itm) (j : Nat), its.drop j = D → j ≤ its.length → (∀ d ∈ D, klt d.key lo = false) → filt lo (weave (ks.drop j) D) = segs (kfOf lo ks) its j ++ kfOf lo ks its.length
  | [], j, hD, hj, _ => by
    have hjn : j = its.length := by have := congrArg List.length hD; simp at this; omega
    subst hjn
    obtain ⟨k, hk⟩ : ∃ k, ks[its.length]? = some k := ⟨_, List.getElem?_eq_getElem (by omega)⟩
    have hd : ks.drop its.length = [k] := by
      rw [List.drop_eq_getElem_cons (by omega), List.drop_eq_nil_of_le (by omega)]
      rw [List.getElem?_eq_getElem (by omega)] at hk
      simp at hk; rw [hk]
    rw [hd, segs_end]
    simp [weave, suf, kfOf, hk]
  | d :: D, j, hD, hj, hlo => by
    have hjn : j < its.length := by have := congrArg List.length hD; simp at this; omega
    have hd0 : its[j]? = some d := by
      have := congrArg (fun l => l[0]?) hD
      simpa using this
    have hD' : its.drop (j + 1) = D := by
      have := congrArg List.tail hD
      simpa using this
    obtain ⟨k, hk⟩ : ∃ k, ks[j]? = some k := ⟨_, List.getElem?_eq_getElem (by omega)⟩
    have hdk : ks.drop j = k :: ks.drop (j + 1) := by
      rw [List.drop_eq_getElem_cons (by omega)]
      rw [List.getElem?_eq_getElem (by omega)] at hk
      simp at hk; rw [hk]
    have ih := segs_rest lo ks its hl D (j + 1) hD' (by omega) (fun e he => hlo e (by simp [he]))
    rw [hdk, weave_cons _ _ _ _ (by intro e; have := congrArg List.length e; simp at this; omega), filt_append, segs_at _ _ _ d hd0]
    have hcons : filt lo (d :: weave (ks.drop (j + 1)) D) = d :: filt lo (weave (ks.drop (j + 1)) D) := by simp [filt, hlo d (by simp)]
    rw [hcons, ih]
    simp [kfOf, hk]
theorem segs_weave (lo : ByteArray) (ks : List KidD) (its : List Itm) (hl : ks.length = its.length + 1) (ha : Asc (keysI (weave ks its))) : segs (kfOf lo ks) its (plc its lo) ++ kfOf lo ks its.length = filt lo (weave ks its) := by
  have hai : Asc (keysI its) := asc_sublist ((weave_sublist ks its hl).map _) ha
  have hp := plc_le its lo
  rw [← segs_rest lo ks its hl _ (plc its lo) rfl hp (fun d hd => by
    obtain ⟨j, hj⟩ := List.getElem?_of_mem hd
    rw [List.getElem?_drop] at hj
    exact plc_ge hai (Nat.le_add_right _ _) hj)]
  obtain ⟨A, k, B, rfl, hAC, hBD, hAp, hw, hX, _⟩ := parted (key := lo) hl ha
  rw [hw, filt_append, filt_append, filt_none hX]
  have hd : (A ++ k :: B).drop (plc its lo) = k :: B := by rw [← hAp]; simp
  rw [hd]
  simp [weave, filt_append]
theorem segs_leaf (lo : ByteArray) (its : List Itm) (ha : Asc (keysI its)) : segs (kfOf lo []) its (plc its lo) ++ kfOf lo [] its.length = filt lo its := by
  have h1 : ∀ j, segs (kfOf lo []) its j = its.drop j := fun j => by
    unfold segs
    have : ∀ (l : List Itm) (i : Nat), (l.zipIdx i).flatMap (fun p => kfOf lo [] p.2 ++ [p.1]) = l := fun l => by
      induction l with
      | nil => intro i; rfl
      | cons a l ih => intro i; rw [List.zipIdx_cons, List.flatMap_cons, ih]; simp [kfOf]
    exact this _ _
  rw [h1]
  have e : filt lo its = its.drop (plc its lo) := by
    conv => lhs; rw [← List.take_append_drop (plc its lo) its]
    rw [filt_append, filt_none (fun x hx => ?_), filt_all (fun x hx => ?_), List.nil_append]
    · obtain ⟨j, hj⟩ := List.getElem?_of_mem hx
      rw [List.getElem?_drop] at hj
      exact plc_ge ha (Nat.le_add_right _ _) hj
    · obtain ⟨j, hj⟩ := List.getElem?_of_mem hx
      rw [List.getElem?_take] at hj
      split at hj
      · exact plc_lt ‹_› hj
      · cases hj
  rw [e]; simp [kfOf]
end Go.Proofs.Ytilginghgigiiaa
