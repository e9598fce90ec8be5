/- takeLast and drop, in a tree. -/
import Derived.Test.YtilginghgigiiaaMM
import Derived.Test.YtilginghgigiiaaM3
namespace Go.Proofs.Ytilginghgigiiaa
open Go Go.RowKit

/-- A kid has turned: the node's blocks, the others. -/
structure KidT (w W1 : World) (h b : Nat) (iv kv : Value) (its : List Itm) (A B : List KidD) (k k1 : KidD) : Prop where
  hN : Nod W1 b iv kv its ((A ++ k1 :: B).map KidD.b)
  hA : ∀ x ∈ A ++ B, KidOK W1 h x
  t : Tre W1 h k1.b k1.its k1.L k1.F
  s : Step w W1 (ff b iv kv (A ++ k :: B)) (ff b iv kv (A ++ k1 :: B))
theorem kid_turn {w W W1 : World} {h b : Nat} {iv kv : Value} {its : List Itm} {A B : List KidD} {k : KidD} (hb : Below w.heap.size w W) (hN : Nod w b iv kv its ((A ++ k :: B).map KidD.b)) (hks : ∀ x ∈ A ++ k :: B, KidOK w h x) (hnd : (ff b iv kv (A ++ k :: B)).Nodup)
    {its1 L1 : List Itm} {F1 : List Nat} (T1 : Tre W1 h k.b its1 L1 F1) (s1 : Step W W1 k.F F1) : KidT W W1 h b iv kv its A B k ⟨k.b, its1, L1, F1⟩ := by
  have hkm : k ∈ A ++ k :: B := by simp
  have hndk : (∀ j ∈ k.F, j ∉ nf b iv kv) ∧ (∀ j ∈ k.F, ∀ x ∈ A ++ B, j ∉ x.F) := by
    have hnd := hnd
    simp only [ff, List.flatMap_append, List.flatMap_cons, List.nodup_append, List.mem_append, List.mem_flatMap] at hnd
    obtain ⟨_, ⟨_, ⟨d1, _, d3⟩, d4⟩, d5⟩ := hnd
    refine ⟨fun j hj hj' => d5 j hj' j (.inr (.inl hj)) rfl, fun j hj x hx hj' => ?_⟩
    rcases List.mem_append.1 hx with hx | hx
    · exact d4 j ⟨x, hx, hj'⟩ j (.inl hj) rfl
    · exact d3 j hj j ⟨x, hx, hj'⟩ rfl
  have hp : ∀ (K : List Nat), (nf b iv kv ++ (A.flatMap KidD.F ++ K ++ B.flatMap KidD.F)).Perm (K ++ (nf b iv kv ++ (A.flatMap KidD.F ++ B.flatMap KidD.F))) := fun K => by
    rw [List.perm_iff_count]; intro a; simp only [List.count_append]; omega
  have hfm : ∀ (x : KidD), (A ++ x :: B).flatMap KidD.F = A.flatMap KidD.F ++ x.F ++ B.flatMap KidD.F := fun x => by simp
  have hltR : ∀ j ∈ nf b iv kv ++ (A.flatMap KidD.F ++ B.flatMap KidD.F), j < W.heap.size := fun j hj => by
    refine Nat.lt_of_lt_of_le ?_ hb.size
    simp only [List.mem_append, List.mem_flatMap] at hj
    rcases hj with hj | ⟨x, hx, hj⟩ | ⟨x, hx, hj⟩
    · exact hN.foot_lt j hj
    · exact (hks x (by simp [hx])).1.lt j hj
    · exact (hks x (by simp [hx])).1.lt j hj
  refine ⟨?_, fun x hx => ?_, T1, ?_⟩
  · have := s1.keep (hN.below hb) (fun j hj hj' => hndk.1 j hj' hj)
    simpa using this
  · have hxm : x ∈ A ++ k :: B := by simp only [List.mem_append, List.mem_cons] at hx ⊢; exact hx.elim .inl (fun h => .inr (.inr h))
    exact ⟨((hks x hxm).1.below hb).step s1 (fun j hj hj' => hndk.2 j hj' x hx hj), (hks x hxm).2⟩
  · rw [ff, ff, hfm, hfm]
    exact (s1.frame _ ((hp k.F).nodup_iff.1 (by rw [← hfm]; exact hnd)) hltR).perm (hp k.F).symm (hp F1).symm

def TakeP (w : World) (h b : Nat) (its L : List Itm) (F : List Nat) (it : Itm) (w' : World) : Prop :=
  ∃ its' L0 F', L = L0 ++ [it] ∧ Tre w' h b its' L0 F' ∧ its.length ≤ its'.length + 1 ∧ its'.length ≤ its.length ∧ Step w w' F F'
theorem takeLast_tre : ∀ (h : Nat) (w : World) (b : Nat) (its L : List Itm) (F : List Nat), Tre w h b its L F → F.Nodup → 2 ≤ its.length → its.length ≤ 4 →
    Calls Try.prog 55 #[ptr b] w fun e w' => ∃ it : Itm, e = .returned (.agg #[.string it.key, it.mv]) ∧ isSl it.mv ∧ TakeP w h b its L F it w' := by
  intro h
  induction h with
  | zero =>
    rintro w b its L F ⟨iv, kv, hN, rfl, rfl⟩ hnd h2 h4
    obtain ⟨ini, it, rfl⟩ : ∃ ini it, L = ini ++ [it] := ⟨L.dropLast, L.getLast (by intro e; rw [e] at h2; simp at h2), (List.dropLast_concat_getLast _).symm⟩
    refine (takeLast_leaf hN (by simp at h4; omega)).mono ?_
    rintro e w' ⟨rfl, iv', hN', hs⟩
    exact ⟨it, rfl, hN.mvs it (by simp), ini, ini, _, rfl, ⟨iv', kv, hN', rfl, rfl⟩, by simp, by simp, hs⟩
  | succ h ih =>
    rintro w b its L F ⟨iv, kv, ks, hN, hl, hks, rfl, rfl⟩ hnd h2 h4
    obtain ⟨A, k, rfl⟩ : ∃ A k, ks = A ++ [k] := ⟨ks.dropLast, ks.getLast (by intro e; rw [e] at hl; simp at hl), (List.dropLast_concat_getLast _).symm⟩
    have hAl : A.length = its.length := by simpa using hl
    have hkm : k ∈ A ++ [k] := by simp
    have hik : ((A ++ [k]).map KidD.b)[its.length]? = some k.b := by rw [← hAl]; simp
    have hkF : k.F.Nodup := by
      have := hnd
      simp only [List.flatMap_append, List.flatMap_cons, List.flatMap_nil, List.append_nil, List.nodup_append] at this
      exact this.2.1.2.1
    have hFl : ∀ j ∈ nf b iv kv ++ (A ++ [k]).flatMap KidD.F, j < w.heap.size := (show Tre w (h + 1) b its _ _ from ⟨iv, kv, A ++ [k], hN, hl, hks, rfl, rfl⟩).lt
    refine (takeLast_walk hN (by omega) (by omega) (by simpa using hl) hik (TakeP w (h + 1) b its (weave (A ++ [k]) its) (nf b iv kv ++ (A ++ [k]).flatMap KidD.F)) ?_)
    intro W hb hlt
    refine (ih W k.b k.its k.L k.F ((hks k hkm).1.below hb) hkF (hks k hkm).2.1 (hks k hkm).2.2).mono ?_
    rintro e W1 ⟨it, rfl, hsl, its1, L0, F1, hkL, T1, q1, q2, s1⟩
    have KT := kid_turn (B := []) hb hN hks hnd T1 s1
    refine ⟨it, rfl, hsl, fun x o hx ho => ?_, fun W2 hb2 => ?_⟩
    · exact (s1.upd.block x (Array.getElem?_eq_some_iff.1 ho).1 (fun hm => by have := (hks k hkm).1.lt x hm; omega)).trans ho
    · have hks2 := (hks k hkm).2
      have hN2 := KT.hN.below hb2
      have hmd := mend_tre (W := W2) (h := h) (b := b) (iv := iv) (kv := kv) (A := A) (B := []) (k := ⟨k.b, its1, L0, F1⟩) (C := its) (D := []) (by rw [List.append_nil]; exact hN2) hAl rfl (fun x hx => ⟨(KT.hA x hx).1.below hb2, (KT.hA x hx).2⟩) (KT.t.below hb2) (by show 1 ≤ its1.length; omega) (by show its1.length ≤ 4; omega) KT.s.nd (by rw [List.append_nil]; omega) (by rw [List.append_nil]; omega)
      rw [List.append_nil] at hmd
      refine hmd.mono ?_
      rintro e W3 ⟨rfl, its', F', T3, r1, r2, s3⟩
      have hlF : ∀ j ∈ ff b iv kv (A ++ [(⟨k.b, its1, L0, F1⟩ : KidD)]), j < W1.heap.size := KT.s.lt
      have hsub := KT.s.sub
      have hsize : w.heap.size ≤ W1.heap.size := Nat.le_trans hb.size KT.s.upd.size
      refine ⟨rfl, fun y o hy ho => ?_, fun v0 v1 => ?_⟩
      · refine (s3.upd.block y (Array.getElem?_eq_some_iff.1 ho).1 (fun hm => ?_)).trans ho
        rcases hy with ⟨hy1, hy2⟩ | hy
        · rcases hsub y hm with hm | hm
          · have := hFl y hm; omega
          · omega
        · have := hlF y hm; omega
      · have S3 : Step W W3 (nf b iv kv ++ (A ++ [k]).flatMap KidD.F) F' := (KT.s.trans (Step.below hb2 KT.s.nd KT.s.lt)).trans s3
        have hxF : w.heap.size ∉ F' := fun hm => (S3.sub _ hm).elim (fun hm => by have := hFl _ hm; omega) (fun h => by omega)
        have hw : weave (A ++ [k]) its = weave (A ++ [(⟨k.b, its1, L0, F1⟩ : KidD)]) its ++ [it] := by
          have e1 := weave_split A k [] its [] hAl
          have e2 := weave_split A ⟨k.b, its1, L0, F1⟩ [] its [] hAl
          rw [List.append_nil] at e1 e2
          rw [e1, e2, hkL]
          simp [suf]
        refine ⟨its', _, F', hw, T3.agree (fun j hj => ?_), r1, r2, ?_⟩
        · have hne : j ≠ w.heap.size := fun e => hxF (e ▸ hj)
          rw [heap_setCell_other _ _ _ _ _ hne, heap_setCell_other _ _ _ _ _ hne]
        · have S4 := Step.from hb S3 hnd hFl
          exact ⟨(S4.upd.setCell (p := ⟨w.heap.size, 0, none⟩) (.inl (Nat.le_refl _)) _).setCell (p := ⟨w.heap.size, 1, none⟩) (.inl (Nat.le_refl _)) _, S4.nd, S4.sub, fun j hj => by rw [size_setCell', size_setCell']; exact S4.lt j hj⟩

def DropP (w : World) (h b : Nat) (its L : List Itm) (F : List Nat) (key : ByteArray) (w' : World) : Prop :=
  ∃ its' X s Z F', L = X ++ s :: Z ∧ s.key = key ∧ Tre w' h b its' (X ++ Z) F' ∧ its.length ≤ its'.length + 1 ∧ its'.length ≤ its.length ∧ Step w w' F F'
theorem mem_at {L : List Itm} {key : ByteArray} (h : key ∈ keysI L) : ∃ (j : Nat) (s : Itm), L[j]? = some s ∧ s.key = key := by
  obtain ⟨s, hs, rfl⟩ := List.mem_map.1 h
  obtain ⟨j, hj⟩ := List.getElem?_of_mem hs
  exact ⟨j, s, hj, rfl⟩
/-- A key that is there stands at its place. -/
theorem at_plc {its : List Itm} {key : ByteArray} (ha : Asc (keysI its)) (h : key ∈ keysI its) : ∃ s : Itm, its[plc its key]? = some s ∧ s.key = key := by
  obtain ⟨j, s, hj, rfl⟩ := mem_at h
  have hle : plc its s.key ≤ j := by
    refine Nat.le_of_not_lt fun hlt => ?_
    have := plc_lt hlt hj
    rw [klt_irrefl] at this; cases this
  have hpl : plc its s.key < its.length := Nat.lt_of_le_of_lt hle (List.getElem?_eq_some_iff.1 hj).1
  rcases Nat.lt_or_ge (plc its s.key) j with hlt | hge
  · have h1 := plc_not (key := s.key) (List.getElem?_eq_getElem hpl)
    have h2 := asc_get ha hlt (show (keysI its)[plc its s.key]? = some (its[plc its s.key]).key by simp [List.getElem?_eq_getElem hpl]) (show (keysI its)[j]? = some s.key by simp [hj])
    rw [h2] at h1; cases h1
  · have : plc its s.key = j := by omega
    rw [this]
    exact ⟨s, hj, rfl⟩
theorem drop_tre (key : ByteArray) : ∀ (h : Nat) (w : World) (b : Nat) (its L : List Itm) (F : List Nat), Tre w h b its L F → F.Nodup → Asc (keysI L) → key ∈ keysI L → 1 ≤ its.length → its.length ≤ 4 →
    Calls Try.prog 43 #[ptr b, .string key] w fun e w' => e = .returned (.tuple #[]) ∧ DropP w h b its L F key w' := by
  intro h
  induction h with
  | zero =>
    rintro w b its L F ⟨iv, kv, hN, rfl, rfl⟩ hnd ha hm h1 h4
    obtain ⟨s, hs, hsk⟩ := at_plc ha hm
    have hpl := (List.getElem?_eq_some_iff.1 hs).1
    refine (drop_leaf hN ha (by omega) key hpl).mono ?_
    rintro e w' ⟨rfl, iv', hN', hS⟩
    refine ⟨rfl, _, L.take (plc L key), s, L.drop (plc L key + 1), _, (getElem_part hs).1, hsk, ⟨iv', kv, hN', rfl, rfl⟩, ?_, ?_, hS⟩
    · simp; omega
    · simp; omega
  | succ h ih =>
    rintro w b its L F ⟨iv, kv, ks, hN, hl, hks, rfl, rfl⟩ hnd ha hm h1 h4
    have hai : Asc (keysI its) := asc_sublist ((weave_sublist ks its hl).map _) ha
    obtain ⟨A, k, B, rfl, hAC, hBD, hAp, hw, hX, hZ⟩ := parted (key := key) hl ha
    have hkm : k ∈ A ++ k :: B := by simp
    have hik : ((A ++ k :: B).map KidD.b)[plc its key]? = some k.b := by
      rw [List.map_append, List.getElem?_append_right (by simp; omega)]; simp [hAp]
    have hak : Asc (keysI k.L) := by
      rw [hw] at ha
      simp only [keysI, List.map_append, asc_append] at ha
      exact ha.1.2.1
    have hkF : k.F.Nodup := by
      have := hnd
      simp only [List.flatMap_append, List.flatMap_cons, List.nodup_append] at this
      exact this.2.1.2.1.1
    have hk2 := (hks k hkm).2
    have hFl : ∀ j ∈ nf b iv kv ++ (A ++ k :: B).flatMap KidD.F, j < w.heap.size := (show Tre w (h + 1) b its _ _ from ⟨iv, kv, A ++ k :: B, hN, hl, hks, rfl, rfl⟩).lt
    have hCl : (its.take (plc its key)).length = plc its key := by rw [← hAC, hAp]
    cases hf : hre its key with
    | false =>
      have hmk : key ∈ keysI k.L := in_kid hAC ha hf hX hm
      refine drop_down hN hai (by omega) (by simpa using hl) key hik hf (DropP w (h + 1) b its (weave (A ++ k :: B) its) (nf b iv kv ++ (A ++ k :: B).flatMap KidD.F) key) ?_
      intro W hb
      refine (ih W k.b k.its k.L k.F ((hks k hkm).1.below hb) hkF hak hmk (by omega) (by omega)).mono ?_
      rintro e W1 ⟨rfl, its1, X, s, Z, F1, hkL, hsk, T1, q1, q2, s1⟩
      refine ⟨rfl, ?_⟩
      have KT := kid_turn hb hN hks hnd T1 s1
      have hmd := mend_tre (W := W1) (h := h) (b := b) (iv := iv) (kv := kv) (A := A) (B := B) (k := ⟨k.b, its1, X ++ Z, F1⟩) (C := its.take (plc its key)) (D := its.drop (plc its key)) (by rw [List.take_append_drop]; exact KT.hN) hAC hBD KT.hA KT.t (by show 1 ≤ its1.length; omega) (by show its1.length ≤ 4; omega) KT.s.nd (by rw [List.take_append_drop]; omega) (by rw [List.take_append_drop]; omega)
      rw [List.take_append_drop, hCl] at hmd
      refine hmd.mono ?_
      rintro e W3 ⟨rfl, its', F', T3, r1, r2, s3⟩
      have hw2 := weave_split A ⟨k.b, its1, X ++ Z, F1⟩ B (its.take (plc its key)) (its.drop (plc its key)) hAC
      rw [List.take_append_drop] at hw2
      refine ⟨rfl, its', pre A (its.take (plc its key)) ++ X, s, Z ++ suf (its.drop (plc its key)) B, F', ?_, hsk, ?_, r1, r2, Step.from hb (KT.s.trans s3) hnd hFl⟩
      · rw [hw, hkL]; simp
      · rw [hw2] at T3
        simpa using T3
    | true =>
      obtain ⟨s, hs, hsk⟩ := hre_true hf
      have hpl := (List.getElem?_eq_some_iff.1 hs).1
      obtain ⟨gi, ci, hiv, _, _⟩ := owns_form1 hN.items (by omega)
      refine drop_here hN hai (by omega) (by simpa using hl) key hik hf hiv (DropP w (h + 1) b its (weave (A ++ k :: B) its) (nf b iv kv ++ (A ++ k :: B).flatMap KidD.F) key) ?_
      intro W hb
      refine (takeLast_tre h W k.b k.its k.L k.F ((hks k hkm).1.below hb) hkF hk2.1 hk2.2).mono ?_
      rintro e W1 ⟨it, rfl, hsl, its1, L0, F1, hkL, T1, q1, q2, s1⟩
      have KT := kid_turn hb hN hks hnd T1 s1
      have hmap : (A ++ (⟨k.b, its1, L0, F1⟩ : KidD) :: B).map KidD.b = (A ++ k :: B).map KidD.b := by simp
      refine ⟨it, rfl, hsl, by rw [← hmap]; exact KT.hN, fun W2 hb2 => ?_⟩
      obtain ⟨hN3, hS3⟩ := (KT.hN.below hb2).setItem hiv hpl it hsl
      have hnd2 := KT.s.nd
      have hdis : ∀ x ∈ A ++ (⟨k.b, its1, L0, F1⟩ : KidD) :: B, ∀ j ∈ x.F, j ∉ nf b iv kv := fun x hx j hj hj' => (List.nodup_append.1 hnd2).2.2 j hj' j (List.mem_flatMap.2 ⟨x, hx, hj⟩) rfl
      have hpart := (getElem_part hs).2 it
      have hCl2 : (its.take (plc its key) ++ it :: its.drop (plc its key + 1)).length = its.length := by rw [← hpart]; simp
      obtain ⟨b0, B', rfl⟩ : ∃ b0 B', B = b0 :: B' := by
        cases B with
        | nil => simp at hBD; omega
        | cons x y => exact ⟨x, y, rfl⟩
      have hBD' : (b0 :: B').length = (it :: its.drop (plc its key + 1)).length := by simp at hBD ⊢; omega
      have hltW2 : ∀ j ∈ ff b iv kv (A ++ (⟨k.b, its1, L0, F1⟩ : KidD) :: b0 :: B'), j < W2.heap.size := fun j hj => Nat.lt_of_lt_of_le (KT.s.lt j hj) hb2.size
      have hmd := mend_tre (h := h) (b := b) (iv := iv) (kv := kv) (A := A) (B := b0 :: B') (k := ⟨k.b, its1, L0, F1⟩) (C := its.take (plc its key)) (D := it :: its.drop (plc its key + 1)) (by rw [← hpart]; exact hN3) hAC hBD' (fun x hx => ⟨((KT.hA x hx).1.below hb2).step hS3 (hdis x (by simp only [List.mem_append, List.mem_cons] at hx ⊢; exact hx.elim .inl (fun h => .inr (.inr h)))), (KT.hA x hx).2⟩) ((KT.t.below hb2).step hS3 (hdis _ (by simp))) (by show 1 ≤ its1.length; omega) (by show its1.length ≤ 4; omega) hnd2 (by rw [hCl2]; omega) (by rw [hCl2]; omega)
      rw [hCl2, hCl] at hmd
      refine hmd.mono ?_
      rintro e W3 ⟨rfl, its', F', T3, r1, r2, s3⟩
      have hw2 := weave_split A ⟨k.b, its1, L0, F1⟩ (b0 :: B') (its.take (plc its key)) (it :: its.drop (plc its key + 1)) hAC
      have hdr : its.drop (plc its key) = s :: its.drop (plc its key + 1) := by
        rw [List.drop_eq_getElem_cons hpl]
        rw [List.getElem?_eq_getElem hpl] at hs
        rw [Option.some.inj hs]
      have hS3' := hS3.frame ((A ++ (⟨k.b, its1, L0, F1⟩ : KidD) :: b0 :: B').flatMap KidD.F) hnd2 (fun j hj => hltW2 j (List.mem_append_right _ hj))
      refine ⟨rfl, its', pre A (its.take (plc its key)) ++ k.L, s, b0.L ++ suf (its.drop (plc its key + 1)) B', F', ?_, hsk, ?_, r1, r2, Step.from hb (((KT.s.trans (Step.below hb2 KT.s.nd KT.s.lt)).trans hS3').trans s3) hnd hFl⟩
      · rw [hw, hdr]; simp [suf]
      · rw [hw2] at T3
        rw [hkL]
        simpa [suf] using T3
end Go.Proofs.Ytilginghgigiiaa
