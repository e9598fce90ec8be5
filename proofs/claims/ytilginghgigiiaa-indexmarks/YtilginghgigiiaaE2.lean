/- find. -/
import Derived.Test.YtilginghgigiiaaE1
import Derived.Deep.LoopGhost
namespace Go.Proofs.Ytilginghgigiiaa
open Go Go.RowKit

theorem kid_none {w : World} {b : Nat} {iv kv : Value} {its : List Itm} (hN : Nod w b iv kv its []) (i : Int) : Calls Try.prog 34 #[ptr b, .int .i64 i] w fun e w' => e = .returned (.pointer none) ∧ w' = w := by
  obtain ⟨p, c, h, _⟩ := owns_form hN.kids
  have h1 := hN.c1
  rw [h] at h1
  exact kid_leaf b c i p w h1
theorem kid_some {w : World} {b : Nat} {iv kv : Value} {its : List Itm} {ks : List Nat} (hN : Nod w b iv kv its ks) {i k : Nat} (hi : ks[i]? = some k) : Calls Try.prog 34 #[ptr b, .int .i64 i] w fun e w' => e = .returned (ptr k) ∧ w' = w := by
  have hl := (List.getElem?_eq_some_iff.1 hi).1
  obtain ⟨g, c, h, _⟩ := owns_form1 hN.kids (by omega)
  have h1 := hN.c1
  have h2 := hN.kid h hi
  rw [h] at h1
  exact kid_in b g _ c i k w h1 hl h2
theorem hre_true {its : List Itm} {key : ByteArray} (h : hre its key = true) : ∃ it, its[plc its key]? = some it ∧ it.key = key := by
  unfold hre at h
  split at h
  · exact ⟨_, ‹_›, by simpa using h⟩
  · cases h
/-- Where the key is not among a node's own items, it can stand in the kid at its place alone. -/
theorem in_kid {its : List Itm} {key : ByteArray} {A B : List KidD} {k : KidD} (hAC : A.length = (its.take (plc its key)).length) (ha : Asc (keysI (weave (A ++ k :: B) its))) (hf : hre its key = false) (hX : ∀ x ∈ pre A (its.take (plc its key)), klt x.key key = true) (hm : key ∈ keysI (weave (A ++ k :: B) its)) : key ∈ keysI k.L := by
  have hw := weave_split A k B (its.take (plc its key)) (its.drop (plc its key)) hAC
  rw [List.take_append_drop] at hw
  rw [hw] at hm ha
  simp only [keysI, List.map_append, List.mem_append] at hm
  rcases hm with (hm | hm) | hm
  · obtain ⟨x, hx, rfl⟩ := List.mem_map.1 hm
    have := hX x hx
    rw [klt_irrefl] at this; cases this
  · exact hm
  · exfalso
    obtain ⟨x, hx, hxk⟩ := List.mem_map.1 hm
    cases hD : its.drop (plc its key) with
    | nil => rw [hD] at hx; simp [suf] at hx
    | cons d D =>
      have hd : its[plc its key]? = some d := by
        have := congrArg (fun l => l[0]?) hD
        simpa using this
      rw [hD] at hx ha
      have h1 : klt d.key key = false := plc_not hd
      have h2 : d.key ≠ key := fun e => by unfold hre at hf; rw [hd] at hf; simp [e] at hf
      have h3 : klt key d.key = true := by
        cases hk : klt key d.key
        · exact absurd (klt_tri h1 hk) h2
        · rfl
      cases B with
      | nil => simp [suf] at hx
      | cons b0 B =>
        simp only [suf, List.mem_cons, List.mem_append] at hx
        simp only [keysI, List.map_append, suf, List.map_cons, asc_append] at ha
        have hdx : x = d ∨ klt d.key x.key = true := by
          rcases hx with hx | hx
          · exact .inl hx
          · right
            refine ha.2.1.1 x.key ?_
            rw [← List.map_append]
            exact List.mem_map_of_mem (List.mem_append.2 hx)
        rcases hdx with rfl | hdx
        · exact h2 hxk
        · have := klt_trans h3 hdx
          rw [hxk, klt_irrefl] at this; cases this

structure FindI (w : World) (h b n : Nat) (L : List Itm) (F : List Nat) (key : ByteArray) (h' b' : Nat) (its' L' : List Itm) (F' : List Nat) : Prop where
  t : Tre w h' b' its' L' F'
  nd : F'.Nodup
  asc : Asc (keysI L')
  len : its'.length ≤ 5
  sub : key ∈ keysI L → key ∈ keysI L'
  slot : ∀ g i it, Slot w h' b' its'.length L' F' g i it → Slot w h b n L F g i it

/-- What a node says of a key: it is there, or there is no kid, or the kid to go to. -/
theorem FindI.next {w : World} {h b n : Nat} {L : List Itm} {F : List Nat} {key : ByteArray} {h' b' : Nat} {its' L' : List Itm} {F' : List Nat} (H : FindI w h b n L F key h' b' its' L' F') (hf : hre its' key = false) :
    (∃ iv kv, Nod w b' iv kv its' [] ∧ key ∉ keysI L) ∨ ∃ iv kv ks k h2 its2 L2 F2, Nod w b' iv kv its' ks ∧ ks[plc its' key]? = some k ∧ h' = h2 + 1 ∧ FindI w h b n L F key h2 k its2 L2 F2 := by
  obtain ⟨iv, kv, g, hN, hg, hL, hF⟩ := H.t.open_
  cases h' with
  | zero =>
    obtain rfl : g = [] := hg
    change L' = its' at hL
    refine .inl ⟨iv, kv, hN, fun hm => ?_⟩
    have hm' := H.sub hm
    rw [hL] at hm'
    obtain ⟨x, hx, hxk⟩ := List.mem_map.1 hm'
    have hai := H.asc
    rw [hL] at hai
    obtain ⟨j, hj⟩ := List.getElem?_of_mem hx
    rcases Nat.lt_trichotomy j (plc its' key) with hlt | heq | hgt
    · have := plc_lt hlt hj
      rw [hxk, klt_irrefl] at this; cases this
    · subst heq
      unfold hre at hf; rw [hj] at hf; simp [hxk] at hf
    · have hpl : plc its' key < its'.length := by have := (List.getElem?_eq_some_iff.1 hj).1; omega
      have h1 := plc_not (key := key) (List.getElem?_eq_getElem hpl)
      have h2 := asc_get hai hgt (show (keysI its')[plc its' key]? = some (its'[plc its' key]).key by simp [List.getElem?_eq_getElem hpl]) (show (keysI its')[j]? = some x.key by simp [hj])
      rw [hxk] at h2
      rw [h2] at h1; cases h1
  | succ h2 =>
    have ha := H.asc
    rw [hL] at ha
    obtain ⟨A, k, B, rfl, hAC, hBD, hAp, hw, hX, hZ⟩ := parted (key := key) hg.1 ha
    have hkm : k ∈ A ++ k :: B := by simp
    have hik : ((A ++ k :: B).map KidD.b)[plc its' key]? = some k.b := by
      rw [List.map_append, List.getElem?_append_right (by simp; omega)]; simp [hAp]
    have hnd := H.nd
    rw [hF] at hnd
    refine .inr ⟨iv, kv, _, k.b, h2, k.its, k.L, k.F, hN, hik, rfl, (hg.2 k hkm).1, ?_, ?_, by have := (hg.2 k hkm).2; omega, fun hm => ?_, fun g' i it hs => ?_⟩
    · simp only [ff, List.flatMap_append, List.flatMap_cons, List.nodup_append] at hnd
      exact hnd.2.1.2.1.1
    · have ha' := ha
      change Asc (keysI (weave _ _)) at ha'
      rw [hw] at ha'
      simp only [keysI, List.map_append, asc_append] at ha'
      exact ha'.1.2.1
    · have hm' := H.sub hm
      rw [hL] at hm'
      exact in_kid hAC ha hf hX hm'
    · refine H.slot g' i it ?_
      rw [hL, hF]
      exact Slot.kid (C := its'.take (plc its' key)) (D := its'.drop (plc its' key)) (by rw [List.take_append_drop]) hAC hN hg hnd hs

set_option maxRecDepth 100000 in
set_option maxHeartbeats 2000000 in
theorem find_tre {w : World} {h b : Nat} {its L : List Itm} {F : List Nat} (ht : Tre w h b its L F) (hnd : F.Nodup) (ha : Asc (keysI L)) (h4 : its.length ≤ 5) (key : ByteArray) :
    Calls Try.prog 23 #[ptr b, .string key] w fun e w' => Below w.heap.size w w' ∧ ((e = .returned (.pointer none) ∧ key ∉ keysI L) ∨ ∃ g i it, e = .returned (.pointer (some ⟨g, i * 2, none⟩)) ∧ it.key = key ∧ Slot w h b its.length L F g i it) := by
  have H0 : FindI w h b its.length L F key h b its L F := ⟨ht, hnd, ha, h4, id, fun _ _ _ h => h⟩
  clear ht hnd ha h4
  go_enter Try.func23, Try.ntmps23
  go_wp2
  go_loopg [0] (h + 1) (fun kx s0 wr => Hid (Below w.heap.size w wr) ∧ ((s0 = .pointer none ∧ Hid (key ∉ keysI L)) ∨ ∃ h' b' its' L' F', s0 = ptr b' ∧ h' + 1 ≤ kx ∧ Hid (FindI w h b its.length L F key h' b' its' L' F')))
  case atStart => exact ⟨Below.refl _ _, .inr ⟨h, b, its, L, F, rfl, Nat.le_refl _, H0⟩⟩
  case round =>
    clear H0
    obtain ⟨hb, hst⟩ := hrel
    rcases hst with ⟨rfl, hno⟩ | ⟨h', b', its', L', F', rfl, hkx, H⟩
    · go_wp2
      go_ret
      exact ⟨hb, .inl ⟨rfl, hno⟩⟩
    · obtain ⟨niv, nkv, nks, hN, _, _⟩ := H.out.t.nod
      have hpl := (place_node (hN.below hb) (H.out.t.asc H.out.asc) (by have := H.out.len; omega) key).mono (R' := fun e w' => e = .returned (.tuple #[.int .i64 (plc its' key), .bool (hre its' key)]) ∧ Below w.heap.size w w') fun e w' h => ⟨h.1, hb.out.trans (h.2.mono hb.out.size)⟩
      clear hN
      cases hf : hre its' key
      · rw [hf] at hpl
        rcases H.out.next hf with ⟨iv, kv, hN, hno⟩ | ⟨iv, kv, ks, k, h2, its2, L2, F2, hN, hik, rfl, H2⟩
        · have HN := Hid.mk'' hN
          have HNO := Hid.mk'' hno
          clear hN hno hf
          go_wp2_with (first | (go_at_call 33; refine hpl.mono ?_; rintro e w1 ⟨rfl, hb1⟩) | (go_at_call 34; refine (kid_none (HN.out.below hb1) _).mono ?_; rintro e w2 ⟨rfl, rfl⟩))
          go_roundg 0
          case measure => omega
          case rel => exact ⟨hb1, .inl ⟨rfl, HNO⟩⟩
        · have HN := Hid.mk'' hN
          have HH := Hid.mk'' H2
          have HIK := Hid.mk'' hik
          clear hN H2 hf hik
          go_wp2_with (first | (go_at_call 33; refine hpl.mono ?_; rintro e w1 ⟨rfl, hb1⟩) | (go_at_call 34; refine (kid_some (HN.out.below hb1) HIK.out).mono ?_; rintro e w2 ⟨rfl, rfl⟩))
          go_roundg (h2 + 1)
          case measure => omega
          case rel => exact ⟨hb1, .inr ⟨h2, k, its2, L2, F2, rfl, Nat.le_refl _, HH⟩⟩
      · rw [hf] at hpl
        obtain ⟨it, hit, hkey⟩ := hre_true hf
        obtain ⟨g, c, ⟨n, hc0, hn⟩, hs⟩ := Slot.own H.out.t H.out.nd hit
        have hpl' : plc its' key < its'.length := (List.getElem?_eq_some_iff.1 hit).1
        have HS := Hid.mk'' (H.out.slot _ _ _ hs)
        have HK := Hid.mk'' hkey
        have hlt : b' < w.heap.size := World.block_lt_of_cell? _ _ hc0
        have hlen := H.out.len
        clear hf hit hs hkey
        go_wp2_with (go_at_call 33; refine hpl.mono ?_; rintro e w1 ⟨rfl, hb1⟩; have hc1 := (hb1.cell (p := ⟨b', 0, none⟩) hlt).trans hc0)
        go_ret
        exact ⟨hb1, .inr ⟨g, plc its' key, it, rfl, HK, HS⟩⟩
end Go.Proofs.Ytilginghgigiiaa
