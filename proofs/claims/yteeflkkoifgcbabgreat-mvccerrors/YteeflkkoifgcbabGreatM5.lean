/- Index.drop. -/
import Derived.Test.YteeflkkoifgcbabGreatMM
import Derived.Test.YteeflkkoifgcbabGreatJ9
namespace Go.Proofs.YteeflkkoifgcbabGreat
open Go Go.RowKit

/-- The one kid of a node without items. -/
theorem Tre.lone {w : World} {h b : Nat} {L : List Itm} {F : List Nat} (ht : Tre w h b [] L F) (hnd : F.Nodup) :
    ∃ rp' F', Root w rp' L F' ∧ F'.Nodup ∧ (∀ k ∈ F', k ∈ F) ∧ Calls Tryz.prog 64 #[ptr b, .int .i64 0] w fun e w' => e = .returned (.pointer rp') ∧ w' = w := by
  cases h with
  | zero =>
    obtain ⟨iv, kv, hN, rfl, rfl⟩ := ht
    exact ⟨none, [], .inl ⟨rfl, rfl, rfl⟩, by simp, by simp, kid_none hN 0⟩
  | succ h =>
    obtain ⟨iv, kv, ks, hN, hl, hks, rfl, rfl⟩ := ht
    match ks, hl, hN, hks, hnd with
    | [k], _, hN, hks, hnd =>
      have hk := hks k (by simp)
      refine ⟨some ⟨k.b, 0, none⟩, k.F, .inr ⟨h, k.b, k.its, rfl, ?_, by omega, by omega⟩, ?_, fun j hj => by simp [hj], kid_some (i := 0) hN (by simp)⟩
      · have : weave [k] [] = k.L := by simp [weave, suf]
        rw [this]; exact hk.1
      · simp only [List.flatMap_cons, List.flatMap_nil, List.append_nil, List.nodup_append] at hnd
        exact hnd.2.1
set_option maxRecDepth 100000 in
set_option maxHeartbeats 1000000 in
/-- drop, of a key that an index has. -/
theorem idrop_any {w : World} {x : Nat} {rp : Option Addr} {n : Nat} {L : List Itm} {F : List Nat} (hx : xrow w x rp n) (hR : Root w rp L F) (hnd : (x :: F).Nodup) (ha : Asc (keysI L)) (key : ByteArray) (hm : key ∈ keysI L) (hn1 : 1 ≤ n) (hn2 : n ≤ 1000000) :
    Calls Tryz.prog 40 #[ptr x, .string key] w fun e w' => e = .returned (.tuple #[]) ∧ ∃ X s Z rp' F', L = X ++ s :: Z ∧ s.key = key ∧ xrow w' x rp' ((n : Int) - 1) ∧ Root w' rp' (X ++ Z) F' ∧ Step w w' (x :: F) (x :: F') := by
  rcases hR with ⟨_, rfl, _⟩ | ⟨h, b, its, rfl, ht, h1, h4⟩
  · simp at hm
  have hxl := hx.lt
  have hxF := (List.nodup_cons.1 hnd).1
  have hd := drop_tre key h w b its L F ht (List.nodup_cons.1 hnd).2 ha hm h1 h4
  have c0 := hx.c0
  have HX : Hid (∀ w1, Upd w w1 (fun k => k ∈ F) → xrow w1 x (some ⟨b, 0, none⟩) n) := fun w1 hu => (hu.block x hxl hxF).trans hx
  have hd2 := hd.mono (R' := fun e w1 => e = .returned (.tuple #[]) ∧ ∃ its' X s Z F' ip ic, Hid (L = X ++ s :: Z ∧ s.key = key) ∧ Hid (Tre w1 h b its' (X ++ Z) F') ∧ Hid (Step w w1 F F') ∧ Hid (its'.length ≤ 4) ∧ w1.cell? ⟨b, 0, none⟩ = some (.slice ip its'.length ic) ∧ w1.cell? ⟨x, 0, none⟩ = some (ptr b) ∧ w1.cell? ⟨x, 1, none⟩ = some (.int .i64 n) ∧ w1.frozen? ⟨x, 0, none⟩ = false ∧ w1.frozen? ⟨x, 1, none⟩ = false) (by
    rintro e w1 ⟨rfl, its', X, s, Z, F', e1, e2, T, q1, q2, S⟩
    obtain ⟨ip, ic, hc⟩ := T.cell_len
    have hX1 := HX.out _ S.upd
    exact ⟨rfl, its', X, s, Z, F', ip, ic, ⟨e1, e2⟩, T, S, (show its'.length ≤ 4 by omega), hc, hX1.c0, hX1.c1, hX1.free 0, hX1.free 1⟩)
  clear hd ht hx ha hm
  have hsz : IntKind.i64.wrap ((n : Int) - 1) = (n : Int) - 1 := by rw [IntKind.wrap_i64]; omega
  go_enter Tryz.func40, Tryz.ntmps40
  go_upto_region 1 with (go_at_call 63; refine hd2.mono ?_; rintro e w1 ⟨rfl, its', X, s, Z, F', ip, ic, HL, HT, HS, H4, nb, a0, a1, a2, a3⟩)
  clear hd2 c0
  have hX1 := HX.out _ HS.out.upd
  have hxn : x ∉ F' := HS.out.beyond hxl hxF
  have S1 := HS.out.with hxl hxF
  have hnd2 : (x :: F').Nodup := S1.nd
  have hltF := HS.out.lt
  have HFIN : Hid (∀ (rp' : Option Addr) (F2 : List Nat) (W : World), (∀ k ∈ F2, k ∈ F') → F2.Nodup → Root w1 rp' (X ++ Z) F2 → xrow W x rp' ((n : Int) - 1) → Step w1 W (x :: F') (x :: F') → (∀ k, k ≠ x → W.heap[k]? = w1.heap[k]?) → ∃ X s Z rp' F', L = X ++ s :: Z ∧ s.key = key ∧ xrow W x rp' ((n : Int) - 1) ∧ Root W rp' (X ++ Z) F' ∧ Step w W (x :: F) (x :: F')) := fun rp' F2 W hs hn hR hxr hS hag => by
    have hx2 : x ∉ F2 := fun h => hxn (hs x h)
    have hag' : ∀ k ∈ F2, W.heap[k]? = w1.heap[k]? := fun k hk => hag k (fun e => hx2 (e ▸ hk))
    refine ⟨X, s, Z, rp', F2, HL.out.1, HL.out.2, hxr, ?_, (S1.trans hS).less (List.nodup_cons.2 ⟨hx2, hn⟩) (fun k hk => ?_)⟩
    · rcases hR with h | ⟨h', b', its2, e, t, l1, l4⟩
      · exact .inl h
      · exact .inr ⟨h', b', its2, e, t.agree hag', l1, l4⟩
    · rcases List.mem_cons.1 hk with rfl | hk
      · simp
      · exact List.mem_cons_of_mem _ (hs k hk)
  have hx1l := hX1.lt
  have HX1 := Hid.mk'' hX1
  clear hX1
  by_cases h0 : its'.length = 0
  · obtain rfl : its' = [] := List.eq_nil_of_length_eq_zero h0
    obtain ⟨rp', F2, hR2, hn2', hs2, hkid⟩ := HT.out.lone (List.nodup_cons.1 hnd2).2
    have HR2 := Hid.mk'' hR2
    clear hR2 h0
    go_wp2_with (go_at_call 64; refine hkid.mono ?_; rintro e w2 ⟨rfl, rfl⟩)
    first | go_end0 | refine bodyPost_ret (results_none rfl _ _ _) rfl ?_
    refine ⟨rfl, HFIN.out rp' F2 _ hs2 hn2' HR2.out ((HX1.out.setRoot rp').setSize _) ((Step.x hx1l hnd2 hltF).trans (Step.x (by rw [size_setCell]; exact hx1l) hnd2 (fun k hk => by rw [size_setCell]; exact hltF k hk))) (fun k hk => ?_)⟩
    rw [heap_setCell_other _ _ _ _ _ hk, heap_setCell_other _ _ _ _ _ hk]
  · have hpos : 0 < its'.length := by omega
    have HR2 : Hid (Root w1 (some ⟨b, 0, none⟩) (X ++ Z) F') := .inr ⟨h, b, its', rfl, HT.out, hpos, H4.out⟩
    go_wp2
    first | go_end0 | refine bodyPost_ret (results_none rfl _ _ _) rfl ?_
    exact ⟨rfl, HFIN.out _ F' _ (fun _ h => h) (List.nodup_cons.1 hnd2).2 HR2.out (HX1.out.setSize _) (Step.x hx1l hnd2 hltF) (fun k hk => heap_setCell_other _ _ _ _ _ hk)⟩
end Go.Proofs.YteeflkkoifgcbabGreat
