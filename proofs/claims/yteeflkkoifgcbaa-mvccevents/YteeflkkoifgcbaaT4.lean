/- add, in a tree. -/
import Derived.Test.YteeflkkoifgcbaaTT
import Derived.Test.YteeflkkoifgcbaaT3
namespace Go.Proofs.Yteeflkkoifgcbaa
open Go Go.RowKit

theorem pre_lt {key : ByteArray} : ∀ (A : List KidD) (C : List Itm), Asc (keysI (pre A C)) → (∀ c ∈ C, klt c.key key = true) → ∀ x ∈ pre A C, klt x.key key = true
  | [], _, _, _, x, hx => by simp [pre] at hx
  | _ :: _, [], _, _, x, hx => by simp [pre] at hx
  | a :: A, c :: C, ha, hc, x, hx => by
    simp only [pre, keysI, List.map_append, List.map_cons, asc_append] at ha
    obtain ⟨h1, ⟨h2, h3⟩, h4⟩ := ha
    simp only [pre, List.mem_append, List.mem_cons] at hx
    rcases hx with hx | rfl | hx
    · exact klt_trans (h4 x.key (List.mem_map_of_mem hx) c.key (by simp)) (hc c (by simp))
    · exact hc x (by simp)
    · exact pre_lt A C h3 (fun d hd => hc d (by simp [hd])) x hx
theorem suf_ge {key : ByteArray} : ∀ (D : List Itm) (B : List KidD), Asc (keysI (suf D B)) → (∀ d ∈ D, klt d.key key = false) → ∀ x ∈ suf D B, klt x.key key = false
  | [], _, _, _, x, hx => by simp [suf] at hx
  | _ :: _, [], _, _, x, hx => by simp [suf] at hx
  | d :: D, b :: B, ha, hd, x, hx => by
    simp only [suf, keysI, List.map_append, List.map_cons] at ha
    obtain ⟨h1, h2⟩ := ha
    simp only [asc_append] at h2
    simp only [suf, List.mem_append, List.mem_cons] at hx
    rcases hx with rfl | hx | hx
    · exact hd x (by simp)
    · have := h1 x.key (List.mem_append_left _ (List.mem_map_of_mem hx))
      cases hk : klt x.key key
      · rfl
      · have h := klt_trans this hk
        rw [hd d (by simp)] at h; cases h
    · exact suf_ge D B h2.2.1 (fun e he => hd e (by simp [he])) x hx
/-- A list parted at a place. -/
theorem part_at {α : Type} (l : List α) (p : Nat) (h : p < l.length) : ∃ A k B, l = A ++ k :: B ∧ A.length = p ∧ B.length = l.length - p - 1 :=
  ⟨l.take p, l[p], l.drop (p + 1), by rw [List.getElem_cons_drop, List.take_append_drop], by simp; omega, by simp; omega⟩
/-- What a node's place says of a tree: what lies ahead of the kid there, what behind. -/
theorem parted {its : List Itm} {key : ByteArray} {ks : List KidD} (hl : ks.length = its.length + 1) (ha : Asc (keysI (weave ks its))) :
    ∃ A k B, ks = A ++ k :: B ∧ A.length = (its.take (plc its key)).length ∧ B.length = (its.drop (plc its key)).length ∧ A.length = plc its key ∧ weave ks its = pre A (its.take (plc its key)) ++ k.L ++ suf (its.drop (plc its key)) B ∧
      (∀ x ∈ pre A (its.take (plc its key)), klt x.key key = true) ∧ (∀ x ∈ suf (its.drop (plc its key)) B, klt x.key key = false) := by
  have hp := plc_le its key
  have hai : Asc (keysI its) := asc_sublist ((weave_sublist ks its hl).map _) ha
  obtain ⟨A, k, B, rfl, hA, hB⟩ := part_at ks (plc its key) (by omega)
  have hAC : A.length = (its.take (plc its key)).length := by rw [hA, List.length_take]; omega
  have hw := weave_split A k B (its.take (plc its key)) (its.drop (plc its key)) hAC
  rw [List.take_append_drop] at hw
  rw [hw] at ha
  simp only [keysI, List.map_append, asc_append] at ha
  refine ⟨A, k, B, rfl, hAC, by rw [hB, List.length_drop, hl]; omega, hA, hw, pre_lt A _ ha.1.1 (fun c hc => ?_), suf_ge _ B ha.2.1 (fun d hd => ?_)⟩
  · obtain ⟨j, hj⟩ := List.getElem?_of_mem hc
    rw [List.getElem?_take] at hj
    split at hj
    · exact plc_lt ‹_› hj
    · cases hj
  · obtain ⟨j, hj⟩ := List.getElem?_of_mem hd
    rw [List.getElem?_drop] at hj
    exact plc_ge hai (Nat.le_add_right _ _) hj

theorem add_tre (it : Itm) (hit : isSl it.mv) : ∀ (h : Nat) (w : World) (b : Nat) (its L : List Itm) (F : List Nat), Tre w h b its L F → F.Nodup → Asc (keysI L) → its.length ≤ 4 →
    Calls Try.prog 52 #[ptr b, .agg #[.string it.key, it.mv]] w fun e w' => e = .returned (.tuple #[]) ∧ ∃ its' F', Tre w' h b its' (insI L it) F' ∧ its.length ≤ its'.length ∧ its'.length ≤ its.length + 1 ∧ Step w w' F F' := by
  intro h
  induction h with
  | zero =>
    rintro w b its L F ⟨iv, kv, hN, rfl, rfl⟩ hnd ha h4
    refine (add_leaf hN ha (by omega) it hit).mono ?_
    rintro e w' ⟨rfl, iv', hN', hs⟩
    rw [insI_plc] at hN'
    exact ⟨rfl, _, _, ⟨iv', kv, hN', rfl, rfl⟩, by rw [insI_len]; omega, by rw [insI_len]; omega, hs⟩
  | succ h ih =>
    rintro w b its L F ⟨iv, kv, ks, hN, hl, hks, rfl, rfl⟩ hnd ha h4
    have hai : Asc (keysI its) := asc_sublist ((weave_sublist ks its hl).map _) ha
    obtain ⟨A, k, B, rfl, hAC, hBD, hAp, hw, hX, hZ⟩ := parted (key := it.key) hl ha
    have hkm : k ∈ A ++ k :: B := by simp
    have hik : ((A ++ k :: B).map KidD.b)[plc its it.key]? = some k.b := by
      rw [List.map_append, List.getElem?_append_right (by simp; omega)]; simp [hAp]
    have hak : Asc (keysI k.L) := by
      rw [hw] at ha
      simp only [keysI, List.map_append, asc_append] at ha
      exact ha.1.2.1
    have hndk : k.F.Nodup ∧ (∀ j ∈ k.F, j ∉ nf b iv kv) ∧ (∀ j ∈ k.F, ∀ x ∈ A ++ B, j ∉ x.F) := by
      simp only [List.flatMap_append, List.flatMap_cons, List.nodup_append, List.mem_append, List.mem_flatMap] at hnd
      obtain ⟨_, ⟨_, ⟨d1, _, d3⟩, d4⟩, d5⟩ := hnd
      refine ⟨d1, fun j hj hj' => d5 j hj' j (.inr (.inl hj)) rfl, fun j hj x hx hj' => ?_⟩
      rcases List.mem_append.1 hx with hx | hx
      · exact d4 j ⟨x, hx, hj'⟩ j (.inl hj) rfl
      · exact d3 j hj j ⟨x, hx, hj'⟩ rfl
    have hp : ∀ (K : List Nat), (nf b iv kv ++ (A.flatMap KidD.F ++ K ++ B.flatMap KidD.F)).Perm (K ++ (nf b iv kv ++ (A.flatMap KidD.F ++ B.flatMap KidD.F))) := fun K => by
      rw [List.perm_iff_count]; intro a; simp only [List.count_append]; omega
    have hfm : ∀ (x : KidD), (A ++ x :: B).flatMap KidD.F = A.flatMap KidD.F ++ x.F ++ B.flatMap KidD.F := fun x => by simp
    refine add_walk hN hai (by omega) (by simp at hl ⊢; omega) it hit hik (fun w' => ∃ its' F', Tre w' (h + 1) b its' (insI (weave (A ++ k :: B) its) it) F' ∧ its.length ≤ its'.length ∧ its'.length ≤ its.length + 1 ∧ Step w w' (nf b iv kv ++ (A ++ k :: B).flatMap KidD.F) F') ?_
    intro W hb
    refine (ih W k.b k.its k.L k.F ((hks k hkm).1.below hb) hndk.1 hak (hks k hkm).2.2).mono ?_
    rintro e W1 ⟨rfl, its1, F1, T1, q1, q2, s1⟩
    have s1' : Step w W1 k.F F1 := Step.from hb s1 hndk.1 (hks k hkm).1.lt
    have hN1 : Nod W1 b iv kv its ((A ++ k :: B).map KidD.b) := s1'.keep hN (fun j hj hj' => hndk.2.1 j hj' hj)
    have hold : ∀ x ∈ A ++ B, Tre W1 h x.b x.its x.L x.F ∧ 2 ≤ x.its.length ∧ x.its.length ≤ 4 := fun x hx => by
      have hxm : x ∈ A ++ k :: B := by simp only [List.mem_append, List.mem_cons] at hx ⊢; exact hx.elim .inl (fun h => .inr (.inr h))
      exact ⟨(hks x hxm).1.step s1' (fun j hj hj' => hndk.2.2 j hj' x hx hj), (hks x hxm).2⟩
    have hltR : ∀ j ∈ nf b iv kv ++ (A.flatMap KidD.F ++ B.flatMap KidD.F), j < w.heap.size := fun j hj => by
      simp only [List.mem_append, List.mem_flatMap] at hj
      rcases hj with hj | ⟨x, hx, hj⟩ | ⟨x, hx, hj⟩
      · exact hN.foot_lt j hj
      · exact (hks x (by simp [hx])).1.lt j hj
      · exact (hks x (by simp [hx])).1.lt j hj
    have S1 : Step w W1 (nf b iv kv ++ (A ++ k :: B).flatMap KidD.F) (ff b iv kv (A ++ ⟨k.b, its1, insI k.L it, F1⟩ :: B)) := by
      rw [ff, hfm, hfm]
      exact (s1'.frame _ ((hp k.F).nodup_iff.1 (by rw [← hfm]; exact hnd)) hltR).perm (hp k.F).symm (hp F1).symm
    have hLL : weave (A ++ ⟨k.b, its1, insI k.L it, F1⟩ :: B) its = insI (weave (A ++ k :: B) its) it := by
      have := weave_split A ⟨k.b, its1, insI k.L it, F1⟩ B (its.take (plc its it.key)) (its.drop (plc its it.key)) hAC
      rw [List.take_append_drop] at this
      rw [this, hw, insI_mid _ _ _ _ hX hZ]
    obtain ⟨civ, ckv, cks, hC1, _, _⟩ := T1.nod
    have hmap : (A ++ k :: B).map KidD.b = (A ++ (⟨k.b, its1, insI k.L it, F1⟩ : KidD) :: B).map KidD.b := by simp
    refine ⟨rfl, civ, ckv, its1, cks, hN1, hC1, ?_⟩
    have hk2 := (hks k hkm).2
    by_cases h5 : its1.length ≤ 4
    · refine .inl ⟨h5, its, _, ?_, Nat.le_refl _, by omega, S1⟩
      rw [← hLL]
      refine Tre.close (h := h + 1) (by rw [← hmap]; exact hN1) ⟨by simp at hl ⊢; omega, fun x hx => ?_⟩
      simp only [List.mem_append, List.mem_cons] at hx
      rcases hx with hx | rfl | hx
      · exact hold x (by simp [hx])
      · exact ⟨T1, by show 2 ≤ its1.length; omega, h5⟩
      · exact hold x (by simp [hx])
    · refine .inr ⟨by omega, ?_⟩
      have hN1' : Nod W1 b iv kv (its.take (plc its it.key) ++ its.drop (plc its it.key)) ((A ++ (⟨k.b, its1, insI k.L it, F1⟩ : KidD) :: B).map KidD.b) := by
        rw [List.take_append_drop, ← hmap]; exact hN1
      have := split_tre (h := h) hN1' hAC hBD hold T1 (by show its1.length = 5; omega) S1.nd (by rw [List.take_append_drop]; omega)
      rw [show ((its.take (plc its it.key)).length) = plc its it.key by rw [← hAC, hAp], List.take_append_drop, hLL] at this
      refine this.mono ?_
      rintro e W2 ⟨rfl, t, F', T2, s2⟩
      refine ⟨rfl, _, F', T2, ?_, ?_, S1.trans s2⟩
      · simp; omega
      · simp; omega
end Go.Proofs.Yteeflkkoifgcbaa
