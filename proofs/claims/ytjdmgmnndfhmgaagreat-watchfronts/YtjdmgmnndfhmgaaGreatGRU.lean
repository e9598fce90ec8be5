/- Index.drop. -/
import Derived.Test.YtjdmgmnndfhmgaaGreatGRT
import Derived.Test.YtjdmgmnndfhmgaaGreatGRR
import Derived.Test.YtjdmgmnndfhmgaaGreatGRG
import Derived.Test.YtjdmgmnndfhmgaaGreatGRM
import Derived.Test.YtjdmgmnndfhmgaaGreatGRK
namespace Go.Proofs.YtjdmgmnndfhmgaaGreat
open Go Go.RowKit

/-- The one kid of a node without items. -/
theorem Tre.lone {w : World} {h b : Nat} {L : List Itm} {F : List Nat} (ht : Tre w h b [] L F) (hnd : F.Nodup) :
    ∃ rp' F', Root w rp' L F' ∧ F'.Nodup ∧ (∀ k ∈ F', k ∈ F) ∧ Calls Tryz.prog 103 #[ptr b, .int .i64 0] w fun e w' => e = .returned (.pointer rp') ∧ w' = w := by
  cases h with
  | zero =>
    obtain ⟨iv, kv, hN, rfl, rfl⟩ := ht
    exact ⟨none, [], .inl ⟨rfl, rfl, rfl⟩, by simp, by simp, kid_none hN 0⟩
  | succ h =>
    obtain ⟨iv, kv, ks, hN, hl, hks, rfl, rfl⟩ := ht
    match ks, hl, hN, hks, hnd with
    | [k], _, hN, hks, hnd =>
      have hk := hks k (by simp)
      refine ⟨some ⟨k.b, 0, none⟩, k.F, .inr ⟨h, k.b, k.its, rfl, ?_, by omega, by omega⟩, ?_, fun j hj => by simp [hj], kid_some (i := 0) hN (by simp)⟩
      · have : weave [k] [] = k.L := by simp [weave, suf]
        rw [this]; exact hk.1
      · simp only [List.flatMap_cons, List.flatMap_nil, List.append_nil, List.nodup_append] at hnd
        exact hnd.2.1
set_option maxRecDepth 100000 in
set_option maxHeartbeats 1000000 in
/-- drop, of a key that an index has. -/
theorem idrop_any {w : World} {x : Nat} {rp : Option Addr} {n : Nat} {L : List Itm} {F : List Nat} (hx : xrow w x rp n) (hR : Root w rp L F) (hnd : (x :: F).Nodup) (ha : Asc (keysI L)) (key : ByteArray) (hm : key ∈ keysI L) (hn1 : 1 ≤ n) (hn2 : n ≤ 1000000) :
    Calls Tryz.prog 75 #[ptr x, .string key] w fun e w' => e = .returned (.tuple #[]) ∧ ∃ X s Z rp' F', L = X ++ s :: Z ∧ s.key = key ∧ xrow w' x rp' ((n : Int) - 1) ∧ Root w' rp' (X ++ Z) F' ∧ Step w w' (x :: F) (x :: F') := by
  rcases hR with ⟨_, rfl, _⟩ | ⟨h, b, its, rfl, ht, h1, h4⟩
  · simp at hm
  have hxl := hx.lt
  have hxF := (List.nodup_cons.1 hnd).1
  have hd := drop_tre key h w b its L F ht (List.nodup_cons.1 hnd).2 ha hm h1 h4
  have c0 := hx.c0
  have HX : Hid (∀ w1, Upd w w1 (fun k => k ∈ F) → xrow w1 x (some ⟨b, 0, none⟩) n) := fun w1 hu => (hu.block x hxl hxF).trans hx
  have hd2 := hd.mono (R' := fun e w1 => e = .returned (.tuple #[]) ∧ ∃ its' X s Z F' ip ic, Hid (L = X ++ s :: Z ∧ s.key = key) ∧ Hid (Tre w1 h b its' (X ++ Z) F') ∧ Hid (Step w w1 F F') ∧ Hid (its'.length ≤ 4) ∧ w1.cell? ⟨b, 0, none⟩ = some (.slice ip its'.length ic) ∧ w1.cell? ⟨x, 0, none⟩ = some (ptr b) ∧ w1.cell? ⟨x, 1, none⟩ = some (.int .i64 n) ∧ w1.frozen? ⟨x, 0, none⟩ = false ∧ w1.frozen? ⟨x, 1, none⟩ = false) (by
    rintro e w1 ⟨rfl, its', X, s, Z, F', e1, e2, T, q1, q2, S⟩
    obtain ⟨ip, ic, hc⟩ := T.cell_len
    have hX1 := HX.out _ S.upd
    exact ⟨rfl, its', X, s, Z, F', ip, ic, ⟨e1, e2⟩, T, S, (show its'.length ≤ 4 by omega), hc, hX1.c0, hX1.c1, hX1.free 0, hX1.free 1⟩)
  clear hd ht hx ha hm
  have hsz : IntKind.i64.wrap ((n : Int) - 1) = (n : Int) - 1 := by rw [IntKind.wrap_i64]; omega
  go_enter Tryz.func75, Tryz.ntmps75
  go_upto_region 1 with (go_at_call 102; refine hd2.mono ?_; rintro e w1 ⟨rfl, its', X, s, Z, F', ip, ic, HL, HT, HS, H4, nb, a0, a1, a2, a3⟩)
  clear hd2 c0
  have hX1 := HX.out _ HS.out.upd
  have hxn : x ∉ F' := HS.out.beyond hxl hxF
  have S1 := HS.out.with hxl hxF
  have hnd2 : (x :: F').Nodup := S1.nd
  have hltF := HS.out.lt
  have HFIN : Hid (∀ (rp' : Option Addr) (F2 : List Nat) (W : World), (∀ k ∈ F2, k ∈ F') → F2.Nodup → Root w1 rp' (X ++ Z) F2 → xrow W x rp' ((n : Int) - 1) → Step w1 W (x :: F') (x :: F') → (∀ k, k ≠ x → W.heap[k]? = w1.heap[k]?) → ∃ X s Z rp' F', L = X ++ s :: Z ∧ s.key = key ∧ xrow W x rp' ((n : Int) - 1) ∧ Root W rp' (X ++ Z) F' ∧ Step w W (x :: F) (x :: F')) := fun rp' F2 W hs hn hR hxr hS hag => by
    have hx2 : x ∉ F2 := fun h => hxn (hs x h)
    have hag' : ∀ k ∈ F2, W.heap[k]? = w1.heap[k]? := fun k hk => hag k (fun e => hx2 (e ▸ hk))
    refine ⟨X, s, Z, rp', F2, HL.out.1, HL.out.2, hxr, ?_, (S1.trans hS).less (List.nodup_cons.2 ⟨hx2, hn⟩) (fun k hk => ?_)⟩
    · rcases hR with h | ⟨h', b', its2, e, t, l1, l4⟩
      · exact .inl h
      · exact .inr ⟨h', b', its2, e, t.agree hag', l1, l4⟩
    · rcases List.mem_cons.1 hk with rfl | hk
      · simp
      · exact List.mem_cons_of_mem _ (hs k hk)
  have hx1l := hX1.lt
  have HX1 := Hid.mk'' hX1
  clear hX1
  by_cases h0 : its'.length = 0
  · obtain rfl : its' = [] := List.eq_nil_of_length_eq_zero h0
    obtain ⟨rp', F2, hR2, hn2', hs2, hkid⟩ := HT.out.lone (List.nodup_cons.1 hnd2).2
    have HR2 := Hid.mk'' hR2
    clear hR2 h0
    go_wp2_with (go_at_call 103; refine hkid.mono ?_; rintro e w2 ⟨rfl, rfl⟩)
    first | go_end0 | refine bodyPost_ret (results_none rfl _ _ _) rfl ?_
    refine ⟨rfl, HFIN.out rp' F2 _ hs2 hn2' HR2.out ((HX1.out.setRoot rp').setSize _) ((Step.x hx1l hnd2 hltF).trans (Step.x (by rw [size_setCell]; exact hx1l) hnd2 (fun k hk => by rw [size_setCell]; exact hltF k hk))) (fun k hk => ?_)⟩
    rw [heap_setCell_other _ _ _ _ _ hk, heap_setCell_other _ _ _ _ _ hk]
  · have hpos : 0 < its'.length := by omega
    have HR2 : Hid (Root w1 (some ⟨b, 0, none⟩) (X ++ Z) F') := .inr ⟨h, b, its', rfl, HT.out, hpos, H4.out⟩
    go_wp2
    first | go_end0 | refine bodyPost_ret (results_none rfl _ _ _) rfl ?_
    exact ⟨rfl, HFIN.out _ F' _ (fun _ h => h) (List.nodup_cons.1 hnd2).2 HR2.out (HX1.out.setSize _) (Step.x hx1l hnd2 hltF) (fun k hk => heap_setCell_other _ _ _ _ _ hk)⟩
end Go.Proofs.YtjdmgmnndfhmgaaGreat
/- Trim: the marks that turn, as data and in memory. -/
namespace Go.Proofs.YtjdmgmnndfhmgaaGreat
open Go Go.RowKit Go.Shelf

/-! ### As data -/
def cutL (rev : Int) (ms : List Mk) : List Mk := ms.drop (cutM ms rev)
def turnD (rev : Int) (key : ByteArray) (D : Dat) : Dat := D.map fun p => if p.1 = key then (p.1, cutL rev p.2) else p
def goneD (rev : Int) (key : ByteArray) (D : Dat) : List ByteArray := match lookD D key with | some ms => if cutL rev ms = [] then [key] else [] | none => []
def trF (rev : Int) (s : Dat × List ByteArray) (key : ByteArray) : Dat × List ByteArray := (turnD rev key s.1, s.2 ++ goneD rev key s.1)
def trS (rev : Int) (D : Dat) (keys : List ByteArray) : Dat × List ByteArray := keys.foldl (trF rev) (D, [])
theorem trS_snoc (rev : Int) (D : Dat) (keys : List ByteArray) (k : ByteArray) : trS rev D (keys ++ [k]) = trF rev (trS rev D keys) k := by simp [trS]
/-- The index as Trim leaves it. -/
def trimD (rev : Int) (D : Dat) : Dat := (D.map fun p => (p.1, cutL rev p.2)).filter fun p => !p.2.isEmpty
theorem turnD_none {rev : Int} {key : ByteArray} : ∀ {D : Dat}, key ∉ D.map Prod.fst → turnD rev key D = D
  | [], _ => rfl
  | p :: D, h => by
    simp only [List.map_cons, List.mem_cons, not_or] at h
    have ih := turnD_none (rev := rev) h.2
    simp only [turnD, List.map_cons] at ih ⊢
    rw [ih, if_neg (Ne.symm h.1)]
theorem turnD_append (rev : Int) (key : ByteArray) (A B : Dat) : turnD rev key (A ++ B) = turnD rev key A ++ turnD rev key B := by simp [turnD]
theorem lookD_append {A B : Dat} {key : ByteArray} : key ∉ A.map Prod.fst → lookD (A ++ B) key = lookD B key := by
  intro h
  induction A with
  | nil => rfl
  | cons p A ih =>
    obtain ⟨k, ms⟩ := p
    simp only [List.map_cons, List.mem_cons, not_or] at h
    simp only [List.cons_append, lookD, if_neg (Ne.symm h.1)]
    exact ih h.2
theorem tr_fold (rev : Int) : ∀ (Y X : Dat) (G : List ByteArray), ((X ++ Y).map Prod.fst).Nodup → (Y.map Prod.fst).foldl (trF rev) (X ++ Y, G) = (X ++ Y.map (fun p => (p.1, cutL rev p.2)), G ++ (Y.filter fun p => (cutL rev p.2).isEmpty).map Prod.fst)
  | [], X, G, _ => by simp
  | (k, ms) :: Y, X, G, h => by
    have hn := h
    simp only [List.map_append, List.map_cons, List.nodup_append, List.nodup_cons] at hn
    obtain ⟨_, ⟨hY, _⟩, hXY⟩ := hn
    have hX : k ∉ X.map Prod.fst := fun hm => hXY k hm k (by simp) rfl
    have e1 : trF rev (X ++ (k, ms) :: Y, G) k = ((X ++ [(k, cutL rev ms)]) ++ Y, G ++ if cutL rev ms = [] then [k] else []) := by
      unfold trF
      congr 1
      · show turnD rev k (X ++ (k, ms) :: Y) = _
        rw [turnD_append, turnD_none hX]
        have : turnD rev k ((k, ms) :: Y) = (k, cutL rev ms) :: turnD rev k Y := by simp [turnD]
        rw [this, turnD_none hY]; simp
      · show G ++ goneD rev k (X ++ (k, ms) :: Y) = _
        unfold goneD
        rw [lookD_append hX]
        simp [lookD]
    rw [List.map_cons, List.foldl_cons, e1, tr_fold rev Y _ _ (by simpa using h)]
    congr 1
    · simp
    · by_cases hc : cutL rev ms = []
      · simp [hc]
      · have : (cutL rev ms).isEmpty = false := by rw [List.isEmpty_eq_false_iff]; exact hc
        simp [hc, this]
theorem asc_nodupN : ∀ {l : List ByteArray}, Asc l → l.Nodup
  | [], _ => by simp
  | a :: l, h => List.nodup_cons.2 ⟨fun hm => (by have := h.1 a hm; rw [klt_irrefl] at this; cases this), asc_nodupN h.2⟩
theorem trS_all (rev : Int) (D : Dat) (h : Asc (D.map Prod.fst)) : trS rev D (D.map Prod.fst) = (D.map (fun p => (p.1, cutL rev p.2)), (D.filter fun p => (cutL rev p.2).isEmpty).map Prod.fst) := by
  have := tr_fold rev D [] [] (by simpa using asc_nodupN h)
  simpa [trS] using this

/-! ### In memory -/
theorem Loc.is66 {w : World} : ∀ {h b : Nat} {its L : List Itm} {F : List Nat}, Tre w h b its L F → ∀ {g i : Nat}, Loc w h b g i → is66 w g := by
  have own : ∀ {h b : Nat} {its L : List Itm} {F : List Nat}, Tre w h b its L F → ∀ {g n c : Nat}, w.cell? ⟨b, 0, none⟩ = some (.slice (some ⟨g, 0, none⟩) n c) → Go.Proofs.YtjdmgmnndfhmgaaGreat.is66 w g := fun {h b its L F} ht {g n c} h0 => by
    obtain ⟨iv, kv, ks, hN, _, _⟩ := ht.nod
    have e : iv = .slice (some ⟨g, 0, none⟩) n c := by have := hN.c0; rw [this] at h0; simpa using h0
    rcases hN.items.2 with ⟨e1, _⟩ | ⟨g', cap, cur, e1, _, hg, _⟩
    · rw [e] at e1; cases e1
    · rw [e] at e1; cases e1; exact ⟨cur, hg⟩
  intro h
  induction h with
  | zero =>
    intro b its L F ht g i hl
    obtain ⟨n, c, h0, _⟩ := hl
    exact own ht h0
  | succ h ih =>
    intro b its L F ht g i hl
    rcases hl with ⟨n, c, h0, _⟩ | ⟨kg, n, c, j, k, h1, hj, hk, hl⟩
    · exact own ht h0
    · obtain ⟨iv, kv, gk, hN, hg, rfl, rfl⟩ := ht.open_
      have e : kv = .slice (some ⟨kg, 0, none⟩) n c := by have := hN.c1; rw [this] at h1; simpa using h1
      obtain ⟨p, c', hkv, _, _⟩ := owns_form hN.kids
      have hn : n = gk.length := by rw [e] at hkv; simp at hkv; exact hkv.2.1
      have hjl : j < gk.length := by omega
      have hkk := hN.kid (g := kg) (c := c) (by rw [e, hn]; simp) (j := j) (k := gk[j].b) (by simp [List.getElem?_eq_getElem hjl])
      rw [hkk] at hk
      have ek : gk[j].b = k := by simpa using hk
      subst ek
      exact ih (hg.2 gk[j] (List.getElem_mem hjl)).1 hl
/-- A mark's row is set in an item: what the walk may not see of it. -/
theorem KpT.turn {w0 W V : World} {F : List Nat} {g i : Nat} {v : Value} (h66 : is66 w0 g) (hV : ∀ k ∈ F, V.heap[k]? = W.heap[k]?) : KpT w0 F W (V.setCell ⟨g, i * 2 + 1, none⟩ v) := fun p hp => by
  by_cases hb : p.block = g
  · have hVp : ∀ q : Addr, q.block = g → V.cell? q = W.cell? q := fun q hq => World.cell?_of_block (w := W) (w' := V) (a := q) (hV q.block (by rw [hq, ← hb]; exact hp))
    obtain ⟨pb, po, pe⟩ := p
    dsimp only at hb
    subst hb
    refine ⟨fun hq => ?_, fun hs => ?_⟩
    · have hpo : po % 2 = 0 := hq h66
      rw [World.cell?_setCell_other _ _ _ _ (by intro e; cases e; omega)]
      exact hVp _ rfl
    · by_cases he : (⟨pb, po, pe⟩ : Addr) = ⟨pb, i * 2 + 1, none⟩
      · rw [he] at hs ⊢
        obtain ⟨u, hu⟩ := Option.isSome_iff_exists.1 hs
        rw [World.cell?_setCell_same V ⟨pb, i * 2 + 1, none⟩ v ((hVp _ rfl).trans hu)]; rfl
      · rw [World.cell?_setCell_other _ _ _ _ (Ne.symm he), hVp _ rfl]; exact hs
  · have : (V.setCell ⟨g, i * 2 + 1, none⟩ v).cell? p = W.cell? p := World.cell?_of_block (w := W) (a := p) ((heap_setCell_other _ _ _ _ _ hb).trans (hV p.block hp))
    exact ⟨fun _ => this, fun hs => by rw [this]; exact hs⟩
end Go.Proofs.YtjdmgmnndfhmgaaGreat
/- Trim: the tree while marks turn. -/
namespace Go.Proofs.YtjdmgmnndfhmgaaGreat
open Go Go.RowKit Go.Shelf

/-- Marks that lie in a row, that may be empty. -/
def MksP (W : World) (v : Value) (ms : List Mk) : Prop := ∃ g c, v = .slice (some ⟨g, 0, none⟩) ms.length c ∧ Mks W v ms
theorem MksP.agree {W W' : World} {v : Value} {ms : List Mk} (h : MksP W v ms) (hu : ∀ k, v.ownBlock = some k → W'.heap[k]? = W.heap[k]?) : MksP W' v ms := by
  obtain ⟨g, c, e, hM⟩ := h
  exact ⟨g, c, e, ownsRow_agree hM hu⟩
structure TI (w : World) (x : Nat) (rp : Option Addr) (n : Int) (h b nT : Nat) (R : List IM) (F Ft : List Nat) (R' : List IM) (W : World) : Prop where
  t : R' ≠ [] → ∃ its', its'.length = nT ∧ Tre W h b its' (R'.map IM.it) Ft
  kp : KpT w Ft w W
  keys : keysR R' = keysR R
  mks : ∀ r ∈ R', MksP W r.it.mv r.ms
  masc : ∀ r ∈ R', MAscH r.ms ∧ r.ms.length ≤ 1000000
  nd : (R'.flatMap ownM).Nodup
  own : ∀ k ∈ R'.flatMap ownM, (k ∈ F ∧ k ∉ x :: Ft) ∨ w.heap.size + 4 ≤ k
  xr : xrow W x rp n
  upd : Upd w W (fun k => k ∈ F)
theorem mem_ownM {R : List IM} {r : IM} (hr : r ∈ R) {k : Nat} (hk : r.it.mv.ownBlock = some k) : k ∈ R.flatMap ownM := List.mem_flatMap.2 ⟨r, hr, by simp [ownM, hk]⟩
section
variable {w : World} {x : Nat} {rp : Option Addr} {n : Int} {h b nT : Nat} {R : List IM} {F Ft : List Nat} {R' : List IM} {W : World} (H : TI w x rp n h b nT R F Ft R' W)
include H
theorem TI.agree {W' : World} (hx : W'.heap[x]? = W.heap[x]?) (ht : ∀ k ∈ Ft, W'.heap[k]? = W.heap[k]?) (hm : ∀ k ∈ R'.flatMap ownM, W'.heap[k]? = W.heap[k]?) (hu : Upd w W' (fun k => k ∈ F)) : TI w x rp n h b nT R F Ft R' W' :=
  ⟨fun hne => by
    obtain ⟨its', e, T⟩ := H.t hne
    exact ⟨its', e, T.agree ht⟩, H.kp.trans (KpT.of_block ht), H.keys, fun r hr => (H.mks r hr).agree (fun k hk => hm k (mem_ownM hr hk)), H.masc, H.nd, H.own, hx.trans H.xr, hu⟩
theorem TI.grown (hF : ∀ k ∈ x :: Ft, k < w.heap.size) {W' : World} {row : Option Nat} (hg : W.grownBy W' row) (hr : ∀ r, row = some r → w.heap.size + 4 ≤ r ∧ ∃ o : Obj, W.heap[r]? = some o ∧ o.isCells = false) : TI w x rp n h b nT R F Ft R' W' := by
  have hz := H.upd.size
  have hlow : ∀ k, k < w.heap.size → W'.heap[k]? = W.heap[k]? := fun k hk => hg.block k (by omega) (fun e => by have := (hr k e.symm).1; omega)
  refine H.agree (hlow x (hF x (by simp))) (fun k hk => hlow k (hF k (by simp [hk]))) (fun k hk => ?_) ⟨hg.os.trans H.upd.os, hg.tape.trans H.upd.tape, hg.output.trans H.upd.output, Nat.le_trans hz hg.size, fun k hk hn => (hlow k hk).trans (H.upd.block k hk hn)⟩
  obtain ⟨r, hrm, hk⟩ := List.mem_flatMap.1 hk
  simp only [ownM, Option.mem_toList] at hk
  obtain ⟨g, c, e, hM⟩ := H.mks r hrm
  obtain ⟨_, cc, f, hh⟩ := ownBlock_ge hM hk
  rw [hh]
  exact grown_cells hg hr hh
/-- One item's marks turn. -/
theorem TI.turn {its : List Itm} (ht : Tre w h b its (R.map IM.it) Ft) (hnd : Ft.Nodup) (ha : Asc (keysR R)) (hFF : ∀ k ∈ x :: Ft, k ∈ F) (hFl : ∀ k ∈ F, k < w.heap.size) (hxF : x ∉ Ft) (hz4 : w.heap.size + 4 ≤ W.heap.size) (rev : Int) (a : SlotA w h b nT (R.map IM.it) Ft) :
    ∃ j r g c, R'[j]? = some r ∧ lookD (dat R') a.it.key = some r.ms ∧ W.cell? ⟨a.g, a.i * 2 + 1, none⟩ = some (.slice (some ⟨g, 0, none⟩) r.ms.length c) ∧ W.frozen? ⟨a.g, a.i * 2 + 1, none⟩ = false ∧ W.cell? ⟨a.g, a.i * 2, none⟩ = some (.string a.it.key) ∧ Mks W (.slice (some ⟨g, 0, none⟩) r.ms.length c) r.ms ∧ MAscH r.ms ∧ r.ms.length ≤ 1000000 ∧
      ∀ V v', NeedPost W V (.slice (some ⟨g, 0, none⟩) r.ms.length c) v' r.ms (cutM r.ms rev) →
        TI w x rp n h b nT R F Ft (R'.set j ⟨⟨a.it.key, v'⟩, cutL rev r.ms⟩) (V.setCell ⟨a.g, a.i * 2 + 1, none⟩ v') ∧ dat (R'.set j ⟨⟨a.it.key, v'⟩, cutL rev r.ms⟩) = turnD rev a.it.key (dat R') ∧ KpT w Ft W (V.setCell ⟨a.g, a.i * 2 + 1, none⟩ v') ∧
        (∃ g' c', v' = .slice (some ⟨g', 0, none⟩) (cutL rev r.ms).length c' ∧ ((g' = g) ∨ W.heap.size ≤ g')) ∧ (∀ k ∈ (R'.set j ⟨⟨a.it.key, v'⟩, cutL rev r.ms⟩).flatMap ownM, k ∈ R'.flatMap ownM ∨ W.heap.size ≤ k) ∧ (∀ k, k < W.heap.size → k ≠ a.g → (V.setCell ⟨a.g, a.i * 2 + 1, none⟩ v').heap[k]? = W.heap[k]?) ∧ a.g ∈ Ft := by
  have hkeys : keysI (R'.map IM.it) = keysI (R.map IM.it) := by rw [keysI_map, keysI_map]; exact H.keys
  obtain ⟨X0, Z0, hLX, _⟩ := a.ok.put
  have hne : R' ≠ [] := fun e => by
    have := congrArg List.length H.keys
    have h2 := congrArg List.length hLX
    rw [e] at this
    simp at this h2
    omega
  obtain ⟨its', hl', T⟩ := H.t hne
  have hj : (R.map IM.it)[X0.length]? = some a.it := by
    have := congrArg (fun l => l[X0.length]?) hLX
    simpa using this
  obtain ⟨⟨it', e1, e2, e3⟩, e4, e5⟩ := a.turn ht T hnd (by rw [keysI_map]; exact ha) hkeys H.kp hj
  rw [List.getElem?_map] at e1
  obtain ⟨r, hr, rfl⟩ := Option.map_eq_some_iff.1 e1
  have hrm := List.mem_of_getElem? hr
  obtain ⟨g, c, emv, hM⟩ := H.mks r hrm
  obtain ⟨m1, m2⟩ := H.masc r hrm
  have hk0 := ((H.kp ⟨a.g, a.i * 2, none⟩ a.ok.mem).1 (fun _ => by show a.i * 2 % 2 = 0; omega)).trans a.ok.key
  obtain ⟨hp1, hp2⟩ := getElem_part hr
  have hasc' : Asc ((dat R').map Prod.fst) := by rw [dat_keys, H.keys]; exact ha
  have hd : dat R' = dat (R'.take X0.length) ++ (a.it.key, r.ms) :: dat (R'.drop (X0.length + 1)) := by
    conv => lhs; rw [hp1]
    simp [dat, e2]
  rw [hd] at hasc'
  have hlk : lookD (dat R') a.it.key = some r.ms := by rw [hd]; exact lookD_at hasc'
  rw [emv] at e3 hM
  refine ⟨X0.length, r, g, c, hr, hlk, e3, e4, hk0, hM, m1, m2, fun V v' hNP => ?_⟩
  obtain ⟨n1, n2⟩ := hNP.mks hM m2
  have hVB := hNP.2
  have hgW : g < W.heap.size := owns_lt hM rfl
  have hform : ∃ g' c', v' = .slice (some ⟨g', 0, none⟩) (cutL rev r.ms).length c' ∧ ((g' = g) ∨ W.heap.size ≤ g') := by
    have hlen : (cutL rev r.ms).length = r.ms.length - cutM r.ms rev := by simp [cutL]
    rw [hlen]
    rcases hNP.1 with ⟨h0, rfl⟩ | ⟨h0, _, q, hq, rfl, _⟩ | ⟨h0, q, hq, rfl, _⟩
    · exact ⟨g, c, by rw [h0]; simp, .inl rfl⟩
    · exact ⟨q, _, rfl, .inr hq⟩
    · exact ⟨q, 0, by rw [h0]; simp, .inr hq⟩
  obtain ⟨g', c', hv', hg'⟩ := hform
  have hgF := a.ok.mem
  have hag : a.g < w.heap.size := hFl _ (hFF _ (by simp [hgF]))
  have hzw : w.heap.size ≤ W.heap.size := by omega
  have hoth : ∀ k, k < W.heap.size → k ≠ a.g → (V.setCell ⟨a.g, a.i * 2 + 1, none⟩ v').heap[k]? = W.heap[k]? := fun k hk hne => (heap_setCell_other _ _ _ _ _ hne).trans (hVB.block k hk)
  have hFtW : ∀ k ∈ Ft, k < W.heap.size := fun k hk => Nat.lt_of_lt_of_le (hFl _ (hFF _ (by simp [hk]))) hzw
  have hVF : ∀ k ∈ Ft, V.heap[k]? = W.heap[k]? := fun k hk => hVB.block k (hFtW k hk)
  obtain ⟨its2, hl2, T2⟩ := e5 V hVF v' ⟨_, _, _, hv'⟩
  have hgown : g ∈ R'.flatMap ownM := mem_ownM hrm (by rw [emv]; rfl)
  have hnotg : ∀ k ∈ R'.flatMap ownM, k ≠ a.g := fun k hk e => by
    rcases H.own k hk with ⟨_, h2⟩ | h2
    · exact h2 (by rw [e]; simp [hgF])
    · omega
  have hmlt : ∀ k ∈ R'.flatMap ownM, k < W.heap.size := fun k hk => by
    obtain ⟨r, hrm, hk⟩ := List.mem_flatMap.1 hk
    simp only [ownM, Option.mem_toList] at hk
    obtain ⟨_, _, _, hM⟩ := H.mks r hrm
    exact owns_lt hM hk
  have hset := hp2 ⟨⟨a.it.key, v'⟩, cutL rev r.ms⟩
  have hfl : R'.flatMap ownM = (R'.take X0.length).flatMap ownM ++ g :: (R'.drop (X0.length + 1)).flatMap ownM := by
    conv => lhs; rw [hp1]
    simp [ownM, emv, Value.ownBlock]
  have hfl' : (R'.set X0.length ⟨⟨a.it.key, v'⟩, cutL rev r.ms⟩).flatMap ownM = (R'.take X0.length).flatMap ownM ++ g' :: (R'.drop (X0.length + 1)).flatMap ownM := by
    rw [hset]; simp [ownM, hv', Value.ownBlock]
  have hnd0 := H.nd
  rw [hfl] at hnd0
  have hsub : ∀ k ∈ (R'.take X0.length).flatMap ownM ++ (R'.drop (X0.length + 1)).flatMap ownM, k ∈ R'.flatMap ownM ∧ k ≠ g := fun k hk => by
    rw [hfl]
    have hp : ((R'.take X0.length).flatMap ownM ++ g :: (R'.drop (X0.length + 1)).flatMap ownM).Perm (g :: ((R'.take X0.length).flatMap ownM ++ (R'.drop (X0.length + 1)).flatMap ownM)) := List.perm_middle
    refine ⟨hp.mem_iff.2 (List.mem_cons_of_mem _ hk), fun e => ?_⟩
    exact (List.nodup_cons.1 (hp.nodup_iff.1 hnd0)).1 (by rw [← e]; exact hk)
  have hg'n : ∀ k ∈ (R'.take X0.length).flatMap ownM ++ (R'.drop (X0.length + 1)).flatMap ownM, k ≠ g' := fun k hk e => by
    obtain ⟨h1, h2⟩ := hsub k hk
    rcases hg' with h | h
    · exact h2 (e.trans h)
    · have := hmlt k h1; omega
  refine ⟨⟨fun _ => ⟨its2, by rw [hl2]; exact hl', ?_⟩, H.kp.trans (KpT.turn (a.loc.is66 ht) hVF), ?_, fun s hs => ?_, fun s hs => ?_, ?_, fun k hk => ?_, ?_, ?_⟩, ?_, KpT.turn (a.loc.is66 ht) hVF, ⟨g', c', hv', hg'⟩, fun k hk => ?_, hoth, hgF⟩
  · rw [List.map_set]; exact T2
  · rw [← H.keys, hset]
    conv => rhs; rw [hp1]
    simp [keysR, e2]
  · rcases List.mem_or_eq_of_mem_set hs with hs' | rfl
    · obtain ⟨i, hi⟩ := List.getElem?_of_mem hs
      rw [List.getElem?_set] at hi
      by_cases hsx : s.it.mv.ownBlock = some g'
      · -- s is the new one
        split at hi
        · rename_i hxi
          split at hi
          · cases hi
            exact ⟨g', c', hv', ownsRow_agree n1 (fun k hk => heap_setCell_other _ _ _ _ _ (fun e => by
              have hk' : g' = k := by rw [hv'] at hk; simpa [Value.ownBlock] using hk
              rcases hg' with h | h
              · exact hnotg g hgown (by omega)
              · omega))⟩
          · cases hi
        · exfalso
          rename_i hxi
          have hsm : g' ∈ (R'.take X0.length).flatMap ownM ++ (R'.drop (X0.length + 1)).flatMap ownM := by
            rw [List.mem_append]
            rcases Nat.lt_trichotomy i X0.length with hlt | heq | hgt
            · exact .inl (mem_ownM (List.mem_of_getElem? (i := i) (by rw [List.getElem?_take, if_pos hlt]; exact hi)) hsx)
            · omega
            · exact .inr (mem_ownM (List.mem_of_getElem? (i := i - (X0.length + 1)) (by rw [List.getElem?_drop, show X0.length + 1 + (i - (X0.length + 1)) = i by omega]; exact hi)) hsx)
          exact hg'n g' hsm rfl
      · obtain ⟨gs, cs, es, hMs⟩ := H.mks s hs'
        refine ⟨gs, cs, es, ownsRow_agree hMs (fun k hk => hoth k ?_ ?_)⟩
        · exact hmlt k (mem_ownM hs' hk)
        · exact hnotg k (mem_ownM hs' hk)
    · exact ⟨g', c', hv', ownsRow_agree n1 (fun k hk => heap_setCell_other _ _ _ _ _ (fun e => by
        have hk' : g' = k := by rw [hv'] at hk; simpa [Value.ownBlock] using hk
        rcases hg' with h | h
        · exact hnotg g hgown (by omega)
        · omega))⟩
  · rcases List.mem_or_eq_of_mem_set hs with hs' | rfl
    · exact H.masc s hs'
    · exact ⟨m1.sublist (List.drop_sublist _ _), by simp [cutL]; omega⟩
  · rw [hfl']
    have hp : ((R'.take X0.length).flatMap ownM ++ g' :: (R'.drop (X0.length + 1)).flatMap ownM).Perm (g' :: ((R'.take X0.length).flatMap ownM ++ (R'.drop (X0.length + 1)).flatMap ownM)) := List.perm_middle
    have hp0 : ((R'.take X0.length).flatMap ownM ++ g :: (R'.drop (X0.length + 1)).flatMap ownM).Perm (g :: ((R'.take X0.length).flatMap ownM ++ (R'.drop (X0.length + 1)).flatMap ownM)) := List.perm_middle
    exact hp.nodup_iff.2 (List.nodup_cons.2 ⟨fun hm => hg'n g' hm rfl, (List.nodup_cons.1 (hp0.nodup_iff.1 hnd0)).2⟩)
  · rw [hfl'] at hk
    rcases List.mem_append.1 hk with hk | hk
    · exact H.own k (hsub k (List.mem_append_left _ hk)).1
    · rcases List.mem_cons.1 hk with rfl | hk
      · rcases hg' with h | h
        · rw [h]; exact H.own g hgown
        · exact .inr (by omega)
      · exact H.own k (hsub k (List.mem_append_right _ hk)).1
  · exact (hoth x (by have := H.xr.lt; exact this) (fun e => hxF (by rw [e]; exact hgF))).trans H.xr
  · refine (H.upd.trans (Upd.ofBelow hVB) (fun _ _ h => h)).setCell (p := ⟨a.g, a.i * 2 + 1, none⟩) (.inr (hFF _ (by simp [hgF]))) _
  · have hnn := asc_nodupN hasc'
    simp only [List.map_append, List.map_cons, List.nodup_append, List.nodup_cons] at hnn
    obtain ⟨_, ⟨hY, _⟩, hXY⟩ := hnn
    have q1 : turnD rev a.it.key (dat (R'.take X0.length)) = dat (R'.take X0.length) := turnD_none (fun hm => hXY _ hm _ (by simp) rfl)
    have q2 : turnD rev a.it.key (dat (R'.drop (X0.length + 1))) = dat (R'.drop (X0.length + 1)) := turnD_none hY
    have q3 : turnD rev a.it.key ((a.it.key, r.ms) :: dat (R'.drop (X0.length + 1))) = (a.it.key, cutL rev r.ms) :: turnD rev a.it.key (dat (R'.drop (X0.length + 1))) := by simp [turnD]
    rw [hd, turnD_append, q1, q3, q2, hset]
    simp [dat]
  · rw [hfl'] at hk
    rcases List.mem_append.1 hk with hk | hk
    · exact .inl (hsub k (List.mem_append_left _ hk)).1
    · rcases List.mem_cons.1 hk with rfl | hk
      · rcases hg' with h | h
        · rw [h]; exact .inl hgown
        · exact .inr h
      · exact .inl (hsub k (List.mem_append_right _ hk)).1
end
end Go.Proofs.YtjdmgmnndfhmgaaGreat
/- Trim. -/
namespace Go.Proofs.YtjdmgmnndfhmgaaGreat
open Go Go.RowKit Go.Shelf
attribute [local go_sem] Oper.semAt_some

/-- A range over an index's root, and the tree. -/
theorem seq_root2 {w0 : World} {rp : Option Addr} {L : List Itm} {F : List Nat} (hR : Root w0 rp L F) (hnd : F.Nodup) (ha : Asc (keysI L)) (lo : ByteArray) (n B1 B2 : Nat) (w : World) (hb0 : Below w0.heap.size w0 w)
    (hc1 : w.cell? ⟨B1, 0, none⟩ = some (.pointer rp)) (hc2 : w.cell? ⟨B2, 0, none⟩ = some (.string lo)) :
    ∃ h b n', (L ≠ [] → ∃ its, rp = some ⟨b, 0, none⟩ ∧ Tre w0 h b its L F ∧ its.length = n' ∧ 1 ≤ n' ∧ n' ≤ 4) ∧ SeqStopsK Fence.wide n Tryz.prog 97 #[.pointer (some ⟨B1, 0, none⟩), .pointer (some ⟨B2, 0, none⟩)] (fun x : SlotA w0 h b n' L F => #[Value.pointer (some (encA x))]) (KpS w0 F) (fun ys => ys.map (fun x => x.it) = filt lo L) (fun pre => pre.map (fun x => x.it) <+: filt lo L) (filt lo L).length w := by
  rcases hR with ⟨rfl, rfl, rfl⟩ | ⟨h, b, its, rfl, ht, h1, h4⟩
  · exact ⟨0, 0, 0, fun h => absurd rfl h, seq_nil w0 0 0 0 [] lo n B1 B2 w hc1 hc2⟩
  · exact ⟨h, b, its.length, fun _ => ⟨its, rfl, ht, rfl, h1, h4⟩, seq_tre ht hnd ha h1 (by omega) lo n B1 B2 w hb0 hc1 hc2⟩
/-- The range's state. -/
structure TJ (w : World) (x : Nat) (rp : Option Addr) (n : Int) (h b nT : Nat) (R : List IM) (F Ft : List Nat) (rev : Int) (keys : List ByteArray) (R' : List IM) (v : Value) (gone : List ByteArray) (W : World) : Prop where
  ti : TI w x rp n h b nT R F Ft R' W
  st : trS rev (dat R) keys = (dat R', gone)
  bx : W.heap[w.heap.size + 1]? = some (.cells #[v] 37 (0, 0))
  row : W.ownsRow (w.heap.size + 4) 9 1 v gone.length (strs gone)
  dis : ∀ k, v.ownBlock = some k → k ∉ R'.flatMap ownM
  rv : W.heap[w.heap.size]? = some (.cells #[.int .i64 rev] 3 (0, 0))
  size : w.heap.size + 4 ≤ W.heap.size
  len : gone.length ≤ keys.length
/-- What a round is to leave. -/
def TFin (w : World) (x : Nat) (rp : Option Addr) (n : Int) (h b nT : Nat) (R : List IM) (F Ft : List Nat) (rev : Int) (keys : List ByteArray) (W W' : World) : Prop :=
  KeepsFrom (w.heap.size + 4) W W' ∧ KpS w Ft W W' ∧ ∃ R' v gone, TJ w x rp n h b nT R F Ft rev keys R' v gone W'
/-- The world behind the store of an item's marks. -/
structure TMid (w : World) (x : Nat) (rp : Option Addr) (n : Int) (h b nT : Nat) (R : List IM) (F Ft : List Nat) (rev : Int) (keys : List ByteArray) (key : ByteArray) (ag ai : Nat) (ms : List Mk) (v : Value) (gone : List ByteArray) (W W5 : World) : Prop where
  c0 : W5.cell? ⟨ag, ai * 2, none⟩ = some (.string key)
  bx : W5.heap[w.heap.size + 1]? = some (.cells #[v] 37 (0, 0))
  row : W5.ownsRow (w.heap.size + 4) 9 1 v gone.length (strs gone)
  size : w.heap.size + 4 ≤ W5.heap.size
  full : cutL rev ms ≠ [] → TFin w x rp n h b nT R F Ft rev (keys ++ [key]) W W5
  gone : cutL rev ms = [] → ∀ V2 w' nv, Below W5.heap.size W5 V2 → Upd V2 w' (fun k => some k = v.ownBlock) → (nv.ownBlock = v.ownBlock ∨ nv.ownBlock = some V2.heap.size) → w'.ownsRow (w.heap.size + 4) 9 1 nv (gone.length + 1) (strs gone ++ strs [key]) → TFin w x rp n h b nT R F Ft rev (keys ++ [key]) W (w'.setCell ⟨w.heap.size + 1, 0, none⟩ nv)
section
variable {w : World} {x : Nat} {rp : Option Addr} {n : Int} {h b nT : Nat} {R : List IM} {F Ft : List Nat} {rev : Int} {keys : List ByteArray} {R' : List IM} {v : Value} {gone : List ByteArray} {W : World} (H : TJ w x rp n h b nT R F Ft rev keys R' v gone W)
include H
theorem TJ.grown (hF : ∀ k ∈ x :: Ft, k < w.heap.size) {W' : World} {row : Option Nat} (hg : W.grownBy W' row) (hr : ∀ r, row = some r → w.heap.size + 4 ≤ r ∧ ∃ o : Obj, W.heap[r]? = some o ∧ o.isCells = false) : TJ w x rp n h b nT R F Ft rev keys R' v gone W' :=
  ⟨H.ti.grown hF hg hr, H.st, grown_cells hg hr H.bx, ownsRow_grown hg hr H.row, H.dis, grown_cells hg hr H.rv, Nat.le_trans H.size hg.size, H.len⟩
theorem TJ.next {its : List Itm} (ht : Tre w h b its (R.map IM.it) Ft) (hnd : Ft.Nodup) (ha : Asc (keysR R)) (hFF : ∀ k ∈ x :: Ft, k ∈ F) (hFl : ∀ k ∈ F, k < w.heap.size) (hxF : x ∉ Ft) (a : SlotA w h b nT (R.map IM.it) Ft) :
    ∃ g c ms, W.cell? ⟨a.g, a.i * 2 + 1, none⟩ = some (.slice (some ⟨g, 0, none⟩) ms.length c) ∧ W.frozen? ⟨a.g, a.i * 2 + 1, none⟩ = false ∧ Mks W (.slice (some ⟨g, 0, none⟩) ms.length c) ms ∧ MAscH ms ∧ ms.length ≤ 1000000 ∧ a.g < W.heap.size ∧
      ∀ V v', NeedPost W V (.slice (some ⟨g, 0, none⟩) ms.length c) v' ms (cutM ms rev) → (∃ g' c', v' = .slice (some ⟨g', 0, none⟩) (cutL rev ms).length c') ∧ TMid w x rp n h b nT R F Ft rev keys a.it.key a.g a.i ms v gone W (V.setCell ⟨a.g, a.i * 2 + 1, none⟩ v') := by
  obtain ⟨j, r, g, c, hr, hlk, e1, e2, e3, hM, m1, m2, hnx⟩ := H.ti.turn ht hnd ha hFF hFl hxF H.size rev a
  have hag : a.g < w.heap.size := hFl _ (hFF _ (by simp [a.ok.mem]))
  have hz := H.size
  refine ⟨g, c, r.ms, e1, e2, hM, m1, m2, by omega, fun V v' hNP => ?_⟩
  obtain ⟨T5, hd5, kp5, ⟨g', c', hv', _⟩, own5, hoth, _⟩ := hnx V v' hNP
  have hVB := hNP.2
  have hz5 : W.heap.size ≤ (V.setCell ⟨a.g, a.i * 2 + 1, none⟩ v').heap.size := by rw [size_setCell]; exact hVB.size
  have hst : trS rev (dat R) (keys ++ [a.it.key]) = (dat (R'.set j ⟨⟨a.it.key, v'⟩, cutL rev r.ms⟩), gone ++ if cutL rev r.ms = [] then [a.it.key] else []) := by
    rw [trS_snoc, H.st, trF, hd5]
    simp only [goneD, hlk]
  have K5 : KeepsFrom (w.heap.size + 4) W (V.setCell ⟨a.g, a.i * 2 + 1, none⟩ v') := ⟨hz5, fun k o hk ho _ => (hoth k (Array.getElem?_eq_some_iff.1 ho).1 (by omega)).trans ho⟩
  have vlt : ∀ k, v.ownBlock = some k → k < W.heap.size ∧ w.heap.size + 4 ≤ k := fun k hk => by
    obtain ⟨h1, cc, f, hh⟩ := ownBlock_ge H.row hk
    exact ⟨(Array.getElem?_eq_some_iff.1 hh).1, h1⟩
  have dis5 : ∀ k, v.ownBlock = some k → k ∉ (R'.set j ⟨⟨a.it.key, v'⟩, cutL rev r.ms⟩).flatMap ownM := fun k hk hm => by
    rcases own5 k hm with h1 | h1
    · exact H.dis k hk h1
    · have := (vlt k hk).1; omega
  have bx5 := (hoth (w.heap.size + 1) (by omega) (by omega)).trans H.bx
  have rv5 := (hoth w.heap.size (by omega) (by omega)).trans H.rv
  have row5 : (V.setCell ⟨a.g, a.i * 2 + 1, none⟩ v').ownsRow (w.heap.size + 4) 9 1 v gone.length (strs gone) := ownsRow_agree H.row (fun k hk => hoth k (vlt k hk).1 (by have := (vlt k hk).2; omega))
  refine ⟨⟨g', c', hv'⟩, ?_, bx5, row5, by omega, fun hne => ?_, fun he V2 w' nv hV2 p2 p3 p1 => ?_⟩
  · have hVc : V.cell? ⟨a.g, a.i * 2, none⟩ = some (.string a.it.key) := (hVB.cell (p := ⟨a.g, a.i * 2, none⟩) (by show a.g < W.heap.size; omega)).trans e3
    rw [World.cell?_setCell_other _ _ _ _ (by intro e; simp only [Addr.mk.injEq] at e; omega)]
    exact hVc
  · refine ⟨K5, ⟨kp5, hz5⟩, _, v, gone, T5, ?_, bx5, row5, dis5, rv5, by omega, ?_⟩
    · rw [hst, if_neg hne, List.append_nil]
    · have := H.len; simp; omega
  · generalize V.setCell ⟨a.g, a.i * 2 + 1, none⟩ v' = W5 at *
    obtain ⟨f1, f2, f3, f4, f5⟩ := app_fin bx5 row5 (by omega) (by omega) hV2 p2 p1 (w.heap.size + 4)
    have hFtl : ∀ k ∈ x :: Ft, k < w.heap.size := fun k hk => hFl k (hFF k hk)
    have hfl : ∀ k, k < w.heap.size → (w'.setCell ⟨w.heap.size + 1, 0, none⟩ nv).heap[k]? = W5.heap[k]? := fun k hk => f5 k (by omega) (by omega)
    have hm5 : ∀ k ∈ (R'.set j ⟨⟨a.it.key, v'⟩, cutL rev r.ms⟩).flatMap ownM, k < W5.heap.size := fun k hk => by
      obtain ⟨r, hrm, hk⟩ := List.mem_flatMap.1 hk
      simp only [ownM, Option.mem_toList] at hk
      obtain ⟨_, _, _, hM⟩ := T5.mks r hrm
      exact owns_lt hM hk
    refine ⟨K5.trans f1, ⟨kp5.trans (KpT.of_block fun k hk => hfl k (hFtl k (by simp [hk]))), Nat.le_trans hz5 f1.size⟩, _, nv, gone ++ [a.it.key], T5.agree (hfl x (hFtl x (by simp))) (fun k hk => hfl k (hFtl k (by simp [hk]))) (fun k hk => ?_) ?_, ?_, f3, ?_, fun k hk hm => ?_, ?_, Nat.le_trans (by omega) f1.size, ?_⟩
    · have hb : k ≠ w.heap.size + 1 := fun e => by
        rcases T5.own k hk with ⟨h1, _⟩ | h1
        · have := hFl k h1; omega
        · omega
      rw [heap_setCell_other _ _ _ _ _ hb]
      exact (p2.block k (Nat.lt_of_lt_of_le (hm5 k hk) hV2.size) (fun e => dis5 k e.symm hk)).trans (hV2.block k (hm5 k hk))
    · exact ⟨f2.os.trans T5.upd.os, f2.tape.trans T5.upd.tape, f2.output.trans T5.upd.output, Nat.le_trans T5.upd.size f1.size, fun k hk hn => (hfl k hk).trans (T5.upd.block k hk hn)⟩
    · rw [hst, if_pos he]
    · simpa [strs] using f4
    · rcases p3 with p3 | p3
      · exact dis5 k (by rw [← p3]; exact hk) hm
      · rw [hk] at p3
        have h1 := hm5 k hm
        have h2 := hV2.size
        have h3 : k = V2.heap.size := Option.some.inj p3
        omega
    · exact (f5 w.heap.size (by omega) (by omega)).trans rv5
    · have := H.len; simp; omega
end
end Go.Proofs.YtjdmgmnndfhmgaaGreat
/- Trim: the keys that go. -/
namespace Go.Proofs.YtjdmgmnndfhmgaaGreat
open Go Go.RowKit Go.Shelf

structure TL (w W1 : World) (x : Nat) (F : List Nat) (O : Nat → Prop) (Ri : List IM) (W : World) : Prop where
  ex : ∃ rp Fi, xrow W x rp Ri.length ∧ Root W rp (Ri.map IM.it) Fi ∧ (x :: Fi).Nodup ∧ (∀ k ∈ x :: Fi, k ∈ F ∨ w.heap.size ≤ k) ∧ (∀ k, O k → k ∉ x :: Fi)
  asc : Asc (keysR Ri)
  keep : ∀ k, O k → k < W.heap.size ∧ W.heap[k]? = W1.heap[k]?
  upd : Upd w W (fun k => k ∈ F)
theorem filter_mid {RX RZ : List IM} {r : IM} (h : Asc (keysR (RX ++ r :: RZ))) : (RX ++ r :: RZ).filter (fun s => !decide (s.it.key = r.it.key)) = RX ++ RZ := by
  have hn := asc_nodupN h
  simp only [keysR, List.map_append, List.map_cons, List.nodup_append, List.nodup_cons] at hn
  obtain ⟨_, ⟨h2, _⟩, h3⟩ := hn
  rw [List.filter_append, List.filter_cons, List.filter_eq_self.2, List.filter_eq_self.2]
  · simp
  · intro s hs
    have : s.it.key ≠ r.it.key := fun e => h2 (by rw [← e]; exact List.mem_map_of_mem (f := fun r : IM => r.it.key) hs)
    simp [this]
  · intro s hs
    have : s.it.key ≠ r.it.key := fun e => h3 s.it.key (List.mem_map_of_mem (f := fun r : IM => r.it.key) hs) r.it.key (by simp) e
    simp [this]
theorem asc_filter {p : IM → Bool} {R : List IM} (h : Asc (keysR R)) : Asc (keysR (R.filter p)) := asc_sublist ((List.filter_sublist (p := p) (l := R)).map _) h
theorem TL.drop {w W1 : World} {x : Nat} {F : List Nat} {O : Nat → Prop} {Ri : List IM} {W : World} (H : TL w W1 x F O Ri W) (key : ByteArray) (hk : key ∈ keysR Ri) (hl : Ri.length ≤ 1000000) :
    Calls Tryz.prog 75 #[ptr x, .string key] W fun e W' => e = .returned (.tuple #[]) ∧ TL w W1 x F O (Ri.filter fun s => !decide (s.it.key = key)) W' := by
  obtain ⟨rp, Fi, hx, hR, hnd, hsub, hO⟩ := H.ex
  have hpos : 1 ≤ Ri.length := by
    cases Ri with
    | nil => simp at hk
    | cons a l => simp
  refine (idrop_any hx hR hnd (by rw [keysI_map]; exact H.asc) key (by rw [keysI_map]; exact hk) hpos hl).mono ?_
  rintro e W' ⟨rfl, X, s, Z, rp', F', hL, hsk, hx', hR', hS⟩
  obtain ⟨RX, r, RZ, rfl, rfl, rfl, rfl⟩ := split_map IM.it hL
  subst hsk
  rw [filter_mid H.asc]
  have hasc : Asc (keysR (RX ++ RZ)) := by
    have := asc_filter (p := fun s => !decide (s.it.key = r.it.key)) H.asc
    rwa [filter_mid H.asc] at this
  have hOW : ∀ k, O k → k ∉ x :: F' := fun k hk hm => (hS.sub k hm).elim (hO k hk) (fun h => by have := (H.keep k hk).1; omega)
  refine ⟨rfl, ⟨rp', F', ?_, ?_, hS.nd, fun k hk => ?_, hOW⟩, hasc, fun k hk => ⟨Nat.lt_of_lt_of_le (H.keep k hk).1 hS.upd.size, ?_⟩, ?_⟩
  · have e1 : (((RX ++ r :: RZ).length : Nat) : Int) - 1 = ((RX ++ RZ).length : Nat) := by simp; omega
    rw [e1] at hx'
    exact hx'
  · rw [List.map_append]; exact hR'
  · rcases hS.sub k hk with h | h
    · exact hsub k h
    · exact .inr (Nat.le_trans H.upd.size h)
  · exact (hS.upd.block k (H.keep k hk).1 (hO k hk)).trans (H.keep k hk).2
  · exact H.upd.trans hS.upd (fun k hk hm => (hsub k hm).resolve_right (by omega))

theorem fm_sub {α β : Type} (f : α → List β) : ∀ {a b : List α}, a.Sublist b → (a.flatMap f).Sublist (b.flatMap f)
  | _, _, .slnil => List.Sublist.refl _
  | _, _, .cons _ s => by rw [List.flatMap_cons]; exact (fm_sub f s).trans (List.sublist_append_right _ _)
  | _, _, .cons_cons _ s => by rw [List.flatMap_cons, List.flatMap_cons]; exact (List.Sublist.refl _).append (fm_sub f s)
/-- What Trim leaves. -/
def TrimP (w : World) (x : Nat) (R : List IM) (F : List Nat) (rev : Int) (w' : World) : Prop := ∃ R2 F2, Ix w' x R2 F2 ∧ dat R2 = trimD rev (dat R) ∧ Step w w' F F2
theorem mem_datN {R : List IM} {r : IM} (h : r ∈ R) : (r.it.key, r.ms) ∈ dat R := List.mem_map.2 ⟨r, h, rfl⟩
theorem nodup_fst {D : Dat} (h : (D.map Prod.fst).Nodup) {p q : ByteArray × List Mk} (hp : p ∈ D) (hq : q ∈ D) (e : p.1 = q.1) : p = q := by
  obtain ⟨i, hi⟩ := List.getElem?_of_mem hp
  obtain ⟨j, hj⟩ := List.getElem?_of_mem hq
  have h1 : (D.map Prod.fst)[i]? = some p.1 := by simp [hi]
  have h2 : (D.map Prod.fst)[j]? = some p.1 := by simp [hj, e]
  have := (List.getElem?_inj (by have := (List.getElem?_eq_some_iff.1 hi).1; simpa using this) h).1 (h1.trans h2.symm)
  subst this
  rw [hi] at hj
  exact Option.some.inj hj
/-- Behind the way through the tree: which keys go. -/
theorem gone_iff {R R' : List IM} {rev : Int} {gone : List ByteArray} (ha : Asc (keysR R)) (hst : trS rev (dat R) (keysR R) = (dat R', gone)) : (∀ r ∈ R', (r.it.key ∈ gone ↔ r.ms = [])) ∧ gone.Nodup ∧ (∀ k ∈ gone, k ∈ keysR R') ∧ dat (R'.filter fun r => !r.ms.isEmpty) = trimD rev (dat R) := by
  have hall := trS_all rev (dat R) (by rw [dat_keys]; exact ha)
  rw [dat_keys, hst] at hall
  obtain ⟨h1, h2⟩ := Prod.mk.inj hall
  have hnd : ((dat R).map Prod.fst).Nodup := by rw [dat_keys]; exact asc_nodupN ha
  refine ⟨fun r hr => ?_, ?_, fun k hk => ?_, ?_⟩
  · have hm := mem_datN hr
    rw [h1] at hm
    obtain ⟨p, hp, he⟩ := List.mem_map.1 hm
    simp only [Prod.mk.injEq] at he
    rw [h2]
    constructor
    · intro hg
      obtain ⟨q, hq, hqk⟩ := List.mem_map.1 hg
      obtain ⟨hq1, hq2⟩ := List.mem_filter.1 hq
      have := nodup_fst hnd hp hq1 (he.1.trans hqk.symm)
      subst this
      rw [← he.2]
      simpa using hq2
    · intro hms
      refine List.mem_map.2 ⟨p, List.mem_filter.2 ⟨hp, ?_⟩, he.1⟩
      rw [he.2, hms]; rfl
  · rw [h2]
    exact hnd.sublist ((List.filter_sublist).map _)
  · rw [h2] at hk
    obtain ⟨q, hq, rfl⟩ := List.mem_map.1 hk
    rw [← dat_keys, h1, List.map_map]
    exact List.mem_map.2 ⟨q, (List.mem_filter.1 hq).1, rfl⟩
  · rw [trimD, ← h1]
    simp only [dat, List.filter_map]
    rfl
/-- All is together again. -/
theorem TL.ix {w W1 : World} {x : Nat} {R : List IM} {F Ft : List Nat} {O : Nat → Prop} {R' : List IM} {W W' : World} {D : Nat} {rp : Option Addr} {n : Int} {h b nT : Nat} {rev : Int} {gone : List ByteArray} (H : TL w W1 x F O (R'.filter fun r => !r.ms.isEmpty) W) (T : TI w x rp n h b nT R F Ft R' W1) (hO : ∀ k ∈ R'.flatMap ownM, O k) (hD : O D) (hWD : W1.heap[D]? = some (.deferred (some [])))
    (ha : Asc (keysR R)) (hst : trS rev (dat R) (keysR R) = (dat R', gone)) (hg : W.grownBy W' (some D)) (hDl : w.heap.size ≤ D) : TrimP w x R F rev W' := by
  obtain ⟨rp', Fi, hx, hR, hnd, hsub, hOk⟩ := H.ex
  obtain ⟨_, _, _, hdat⟩ := gone_iff ha hst
  have hDF : D ∉ x :: Fi := hOk D hD
  have hltF : ∀ k ∈ x :: Fi, k < W.heap.size := fun k hk => by
    rcases List.mem_cons.1 hk with rfl | hk
    · exact hx.lt
    · exact hR.lt k hk
  have hagF : ∀ k ∈ x :: Fi, W'.heap[k]? = W.heap[k]? := fun k hk => hg.block k (hltF k hk) (fun e => hDF (by rw [← Option.some.inj e]; exact hk))
  have hsubM : ∀ k ∈ (R'.filter fun r => !r.ms.isEmpty).flatMap ownM, k ∈ R'.flatMap ownM := fun k hk => by
    obtain ⟨r, hr, hk⟩ := List.mem_flatMap.1 hk
    exact List.mem_flatMap.2 ⟨r, (List.mem_filter.1 hr).1, hk⟩
  have hmD : ∀ k ∈ R'.flatMap ownM, k ≠ D := fun k hk e => by
    obtain ⟨r, hr, hk⟩ := List.mem_flatMap.1 hk
    simp only [ownM, Option.mem_toList] at hk
    obtain ⟨_, _, _, hM⟩ := T.mks r hr
    obtain ⟨_, c, f, hh⟩ := ownBlock_ge hM hk
    rw [e, hWD] at hh
    cases hh
  have hagM : ∀ k ∈ R'.flatMap ownM, W'.heap[k]? = W1.heap[k]? := fun k hk => (hg.block k (H.keep k (hO k hk)).1 (fun e => hmD k hk (Option.some.inj e))).trans (H.keep k (hO k hk)).2
  have hndM : ((R'.filter fun r => !r.ms.isEmpty).flatMap ownM).Nodup := T.nd.sublist (fm_sub ownM List.filter_sublist)
  have hnd2 : (x :: (Fi ++ (R'.filter fun r => !r.ms.isEmpty).flatMap ownM)).Nodup := by
    have : ((x :: Fi) ++ (R'.filter fun r => !r.ms.isEmpty).flatMap ownM).Nodup := List.nodup_append.2 ⟨hnd, hndM, fun a ha b hb e => hOk b (hO b (hsubM b hb)) (e ▸ ha)⟩
    simpa using this
  have hix : Ix W' x (R'.filter fun r => !r.ms.isEmpty) (x :: (Fi ++ (R'.filter fun r => !r.ms.isEmpty).flatMap ownM)) := by
    refine ⟨⟨rp', Fi, (hagF x (by simp)).trans hx, ?_, rfl⟩, H.asc, fun r hr => ?_, hnd2⟩
    · rcases hR with hR | ⟨h', b', its2, e, t, l1, l4⟩
      · exact .inl hR
      · exact .inr ⟨h', b', its2, e, t.agree (fun k hk => hagF k (List.mem_cons_of_mem _ hk)), l1, l4⟩
    · obtain ⟨hr1, hr2⟩ := List.mem_filter.1 hr
      obtain ⟨_, _, _, hM⟩ := T.mks r hr1
      refine ⟨ownsRow_agree hM (fun k hk => hagM k (mem_ownM hr1 hk)), ?_⟩
      cases hms : r.ms with
      | nil => rw [hms] at hr2; simp at hr2
      | cons a l => simp
  refine ⟨_, _, hix, hdat, ⟨hg.os.trans H.upd.os, hg.tape.trans H.upd.tape, hg.output.trans H.upd.output, Nat.le_trans H.upd.size hg.size, fun k hk hn => (hg.block k (Nat.lt_of_lt_of_le hk H.upd.size) (fun e => by have := Option.some.inj e; omega)).trans (H.upd.block k hk hn)⟩, hnd2, fun k hk => ?_, hix.lt⟩
  rw [← List.cons_append] at hk
  rcases List.mem_append.1 hk with hk | hk
  · exact hsub k hk
  · rcases T.own k (hsubM k hk) with ⟨h1, _⟩ | h1
    · exact .inl h1
    · exact .inr (by omega)
end Go.Proofs.YtjdmgmnndfhmgaaGreat
/- A store that is compacted, as data. -/
namespace Go.Proofs.YtjdmgmnndfhmgaaGreat
open Go Go.RowKit

theorem cutM_eq {ms : List Mk} {r : Int} (hs : MAsc ms) : cutM ms r = match tlen ms r with | 0 => 0 | c + 1 => cutA ms c := by
  have hl := tlen_le ms r
  have hp := plm_le ms r
  unfold cutM
  by_cases hh : hrm ms r = true
  · rw [if_pos hh]
    have h1 := hrm_lt hh
    obtain ⟨m, hm⟩ : ∃ m, ms[plm ms r]? = some m := ⟨_, List.getElem?_eq_getElem h1⟩
    have hmr : m.1 = r := by
      unfold hrm at hh
      rw [hm] at hh
      simpa using hh
    have e : tlen ms r = plm ms r + 1 := by
      rcases Nat.lt_or_ge (plm ms r) (tlen ms r) with h2 | h2
      · rcases Nat.lt_or_ge (plm ms r + 1) (tlen ms r) with h3 | h3
        · obtain ⟨q, hq⟩ : ∃ q, ms[plm ms r + 1]? = some q := ⟨_, List.getElem?_eq_getElem (by omega)⟩
          have h4 := tlen_lt h3 hq
          have h5 := masc_get hs (Nat.lt_succ_self _) hm hq
          omega
        · omega
      · have := tlen_ge hs h2 hm
        omega
    rw [e]
  · rw [if_neg hh]
    have e : tlen ms r = plm ms r := by
      rcases Nat.lt_trichotomy (tlen ms r) (plm ms r) with h2 | h2 | h2
      · obtain ⟨q, hq⟩ : ∃ q, ms[tlen ms r]? = some q := ⟨_, List.getElem?_eq_getElem (by omega)⟩
        have h4 := tlen_ge hs (Nat.le_refl _) hq
        have h5 := plm_lt h2 hq
        omega
      · exact h2
      · obtain ⟨q, hq⟩ : ∃ q, ms[plm ms r]? = some q := ⟨_, List.getElem?_eq_getElem (by omega)⟩
        have h4 := tlen_lt h2 hq
        have h5 := plm_not hq
        exact absurd (by unfold hrm; rw [hq]; exact decide_eq_true (by omega)) hh
    rw [← e]
    cases tlen ms r with
    | zero => rfl
    | succ c => rfl
/-- What stays of a key's history when it is compacted. -/
def keepH (h : Hs) (rev : Int) : Hs := h.filter fun p => decide (rev < p.1 ∨ p.1 = modOf (atH h rev))
theorem keep_drop {k : ByteArray} {R : Int} {h : Hs} (H : HOk k R h) (rev : Int) : h.drop (cutM (h.map markOf) rev) = keepH h rev := by
  have hm := marks_asc H.asc
  rw [cutM_eq hm]
  cases hc : tlen (h.map markOf) rev with
  | zero =>
    show h.drop 0 = _
    rw [List.drop_zero, keepH, List.filter_eq_self.2]
    intro p hp
    obtain ⟨j, hj⟩ := List.getElem?_of_mem hp
    have := tlen_ge (r := rev) (k := j) (m := markOf p) hm (by omega) (by rw [List.getElem?_map, hj]; rfl)
    exact decide_eq_true (.inl this)
  | succ c =>
    obtain ⟨p, hp, hpm, ha⟩ := atH_pos H.asc hc
    have hlt := (List.getElem?_eq_some_iff.1 hp).1
    have hs : h = h.take c ++ p :: h.drop (c + 1) := by
      conv => lhs; rw [← List.take_append_drop c h]
      rw [List.drop_eq_getElem_cons hlt]
      rw [List.getElem?_eq_getElem hlt] at hp
      cases hp
      rfl
    have hple : p.1 ≤ rev := tlen_lt (r := rev) (k := c) (m := markOf p) (by omega) hpm
    have hpos := (H.pos p (List.mem_of_getElem? hp)).1
    have h1 : ∀ q ∈ h.take c, q.1 < p.1 := fun q hq => by
      have := H.asc
      rw [hs] at this
      exact (List.pairwise_append.1 this).2.2 q hq p (by simp)
    have h2 : ∀ q ∈ h.drop (c + 1), rev < q.1 := fun q hq => by
      obtain ⟨j, hj⟩ := List.getElem?_of_mem hq
      rw [List.getElem?_drop] at hj
      exact tlen_ge (r := rev) (k := c + 1 + j) (m := markOf q) hm (by omega) (by rw [List.getElem?_map, hj]; rfl)
    have hk : keepH h rev = (if p.1 = modOf p.2 then [p] else []) ++ h.drop (c + 1) := by
      unfold keepH
      rw [ha]
      conv => lhs; rw [hs]
      have e1 : (h.take c).filter (fun q => decide (rev < q.1 ∨ q.1 = modOf p.2)) = [] := by
        rw [List.filter_eq_nil_iff]
        intro q hq hd
        have hq1 := h1 q hq
        have hqp := (H.pos q (List.mem_of_mem_take hq)).1
        rcases of_decide_eq_true hd with hd | hd
        · omega
        · cases hp2 : p.2 with
          | none => rw [hp2] at hd; simp only [modOf] at hd; omega
          | some v =>
            have := (H.kv p.1 v (by rw [← hp2]; exact List.mem_of_getElem? hp)).2.1
            rw [hp2] at hd; simp only [modOf] at hd; omega
      have e2 : (h.drop (c + 1)).filter (fun q => decide (rev < q.1 ∨ q.1 = modOf p.2)) = h.drop (c + 1) := List.filter_eq_self.2 fun q hq => decide_eq_true (.inl (h2 q hq))
      rw [List.filter_append, List.filter_cons, e1, e2, List.nil_append]
      have : ¬ rev < p.1 := by omega
      by_cases hq : p.1 = modOf p.2
      · rw [if_pos (decide_eq_true (.inr hq)), if_pos hq]; rfl
      · rw [if_neg (by simp [this, hq]), if_neg hq]; rfl
    show h.drop (cutA (h.map markOf) c) = _
    rw [hk]
    unfold cutA
    rw [hpm]
    show h.drop (if p.2.isNone = true then c + 1 else c) = _
    cases hp2 : p.2 with
    | none =>
      have : ¬ p.1 = modOf (none : Option KVd) := by simp only [modOf]; omega
      rw [if_neg this]
      rfl
    | some v =>
      have hv := (H.kv p.1 v (by rw [← hp2]; exact List.mem_of_getElem? hp)).2.1
      have : p.1 = modOf (some v) := by simp only [modOf]; omega
      rw [if_pos this]
      show h.drop c = _
      rw [List.drop_eq_getElem_cons (show c < h.length from hlt)]
      rw [List.getElem?_eq_getElem hlt] at hp
      cases hp
      rfl
theorem atH_keep {k : ByteArray} {R : Int} {h : Hs} (H : HOk k R h) {rev r : Int} (hr : rev ≤ r) : atH (keepH h rev) r = atH h r := by
  unfold atH
  have e : (keepH h rev).filter (fun p => decide (p.1 ≤ r)) = keepH (h.filter fun p => decide (p.1 ≤ r)) rev := by
    unfold keepH
    have : atH (h.filter fun p => decide (p.1 ≤ r)) rev = atH h rev := by
      unfold atH
      rw [List.filter_filter]
      congr 1
      refine List.filter_congr fun p _ => ?_
      by_cases hp : p.1 ≤ rev
      · simp [hp]; omega
      · simp [hp]
    rw [this, List.filter_filter, List.filter_filter]
    exact List.filter_congr fun p _ => Bool.and_comm _ _
  rw [e]
  have hsub : (h.filter fun p => decide (p.1 ≤ r)).Sublist h := List.filter_sublist
  generalize h.filter (fun p => decide (p.1 ≤ r)) = l at hsub ⊢
  rcases List.eq_nil_or_concat l with rfl | ⟨ini, q, rfl⟩
  · rfl
  · rw [List.concat_eq_append] at hsub ⊢
    have hasc := H.asc.sublist hsub
    have hq : q ∈ h := hsub.subset (by simp)
    have hqpos := (H.pos q hq).1
    by_cases hqr : rev < q.1
    · unfold keepH
      rw [List.filter_append, List.filter_cons, if_pos (decide_eq_true (.inl hqr))]
      show thereH (_ ++ [(q.1, q.2)]) = thereH (_ ++ [(q.1, q.2)])
      rw [thereH_snoc, thereH_snoc]
    · have hall : ∀ p ∈ ini ++ [q], p.1 ≤ rev := fun p hp => by
        rcases List.mem_append.1 hp with hp | hp
        · have := (List.pairwise_append.1 hasc).2.2 p hp q (by simp)
          omega
        · obtain rfl : p = q := by simpa using hp
          omega
      unfold keepH
      rw [atH_all hall]
      have ht : thereH (ini ++ [q]) = q.2 := thereH_snoc ini q.1 q.2
      rw [ht]
      cases hq2 : q.2 with
      | none =>
        rw [List.filter_eq_nil_iff.2]
        · rfl
        · intro p hp hd
          have h1 := hall p hp
          have h2 := (H.pos p (hsub.subset hp)).1
          have := of_decide_eq_true hd
          simp only [modOf] at this
          omega
      | some v =>
        have hv := (H.kv q.1 v (by rw [← hq2]; exact hq)).2.1
        have : q.1 = modOf (some v) := by simp only [modOf]; omega
        rw [List.filter_append, List.filter_cons, if_pos (decide_eq_true (.inr this))]
        show thereH (_ ++ [(q.1, q.2)]) = _
        rw [thereH_snoc, hq2]
theorem there_keep {k : ByteArray} {R : Int} {h : Hs} (H : HOk k R h) {rev : Int} (hr : rev ≤ R) : thereH (keepH h rev) = thereH h := by
  have h1 := atH_keep H hr
  rw [atH_all (fun p hp => (H.pos p hp).2), atH_all (h := keepH h rev) (fun p hp => (H.pos p (List.mem_filter.1 hp).1).2)] at h1
  exact h1
theorem HOk.keep {k : ByteArray} {R : Int} {h : Hs} (H : HOk k R h) (rev : Int) : HOk k R (keepH h rev) :=
  ⟨H.asc.sublist List.filter_sublist, fun p hp => H.pos p (List.mem_filter.1 hp).1, fun r v hv => H.kv r v (List.mem_filter.1 hv |>.1)⟩
theorem keep_keep {k : ByteArray} {R : Int} {h : Hs} (H : HOk k R h) (rev : Int) : keepH (keepH h rev) rev = keepH h rev := by
  conv => lhs; unfold keepH
  rw [show atH (h.filter fun p => decide (rev < p.1 ∨ p.1 = modOf (atH h rev))) rev = atH h rev from atH_keep H (Int.le_refl _), List.filter_filter]
  unfold keepH
  exact List.filter_congr fun p _ => Bool.and_self _
/-- A key that no change has touched since stays as it is. -/
theorem keep_same {h : Hs} {past rev : Int} (hp : keepH h past = h) (hle : past ≤ rev) (hno : ∀ p ∈ h, p.1 ≤ past ∨ rev < p.1) : keepH h rev = h := by
  have ha : atH h rev = atH h past := by
    unfold atH
    congr 1
    refine List.filter_congr fun p hq => ?_
    have := hno p hq
    by_cases h1 : p.1 ≤ past
    · simp [h1]; omega
    · simp [h1]; omega
  unfold keepH
  rw [List.filter_eq_self]
  intro p hq
  rw [ha]
  have : p ∈ keepH h past := by rw [hp]; exact hq
  have h2 := of_decide_eq_true (List.mem_filter.1 this).2
  have h3 := hno p hq
  exact decide_eq_true (by omega)
/-- A store that is compacted. -/
def compS (S : Sto) (rev : Nat) : Sto := ⟨S.rev, rev, S.ks.filter fun k => !(keepH (S.kh k) rev).isEmpty, fun k => keepH (S.kh k) rev, fun r => if r ≤ rev then [] else S.lg r, S.nth⟩
theorem datS_comp {S : Sto} {rev : Nat} (H : ∀ k, HOk k S.rev (S.kh k)) : datS (compS S rev) = trimD rev (datS S) := by
  unfold datS trimD compS
  rw [List.map_map, List.filter_map]
  have e1 : ∀ k, cutL rev ((S.kh k).map markOf) = (keepH (S.kh k) rev).map markOf := fun k => by
    unfold cutL
    rw [← List.map_drop, keep_drop (H k)]
  have e2 : ((fun p : ByteArray × List Mk => !p.2.isEmpty) ∘ ((fun p : ByteArray × List Mk => (p.1, cutL rev p.2)) ∘ fun k => (k, (S.kh k).map markOf))) = fun k => !(keepH (S.kh k) rev).isEmpty := by
    funext k
    simp only [Function.comp_def, e1]
    cases keepH (S.kh k) rev <;> rfl
  rw [e2]
  refine List.map_congr_left fun k _ => ?_
  simp only [Function.comp_def, e1]
theorem thF_comp {S : Sto} {rev : Nat} (H : ∀ k, HOk k S.rev (S.kh k)) (hr : rev ≤ S.rev) : thF (compS S rev) = thF S := by
  funext k
  unfold thF compS
  dsimp only
  rw [there_keep (H k) (by omega)]
/-- The changes that forget takes away of a key. -/
def goneP (S : Sto) (rev : Int) (p : Int × ByteArray) : Prop := p.1 ≤ rev ∧ p.1 ≠ modOf (atH (S.kh p.2) rev)
instance (S : Sto) (rev : Int) (p : Int × ByteArray) : Decidable (goneP S rev p) := inferInstanceAs (Decidable (_ ∧ _))
theorem chF_comp (S : Sto) (rev : Nat) (p : Int × ByteArray) : chF (compS S rev) p = if goneP S rev p then none else chF S p := by
  unfold chF compS keepH
  dsimp only
  rw [List.find?_filter]
  by_cases hg : goneP S rev p
  · have hg' : p.1 ≤ rev ∧ p.1 ≠ modOf (atH (S.kh p.2) rev) := hg
    rw [if_pos hg, List.find?_eq_none.2]
    · rfl
    · intro q _ hq
      have h1 : decide ((rev : Int) < q.1 ∨ q.1 = modOf (atH (S.kh p.2) rev)) = true ∧ decide (q.1 = p.1) = true := by simpa using hq
      have h2 := of_decide_eq_true h1.1
      have h3 := of_decide_eq_true h1.2
      omega
  · have hg' : ¬ (p.1 ≤ rev ∧ p.1 ≠ modOf (atH (S.kh p.2) rev)) := hg
    rw [if_neg hg]
    congr 2
    funext q
    by_cases h3 : q.1 = p.1
    · have : (rev : Int) < q.1 ∨ q.1 = modOf (atH (S.kh p.2) rev) := by omega
      simp [h3] at this ⊢
      exact this
    · simp [h3]
/-- What lies at or ahead of the last compaction is one put at most. -/
def PastOk (S : Sto) : Prop := ∀ k, keepH (S.kh k) S.past = S.kh k
theorem PastOk.comp {S : Sto} {rev : Nat} (H : ∀ k, HOk k S.rev (S.kh k)) : PastOk (compS S rev) := fun k => keep_keep (H k) rev
theorem comp_mem {S : Sto} {rev : Nat} (h : ∀ k, k ∈ S.ks ↔ S.kh k ≠ []) (k : ByteArray) : k ∈ (compS S rev).ks ↔ (compS S rev).kh k ≠ [] := by
  show k ∈ S.ks.filter (fun k => !(keepH (S.kh k) rev).isEmpty) ↔ keepH (S.kh k) rev ≠ []
  rw [List.mem_filter, h k]
  constructor
  · rintro ⟨_, h2⟩ e
    rw [e] at h2
    cases h2
  · intro hn
    refine ⟨fun e => hn (by rw [e]; rfl), ?_⟩
    cases hq : keepH (S.kh k) rev with
    | nil => exact absurd hq hn
    | cons a l => rfl
end Go.Proofs.YtjdmgmnndfhmgaaGreat
/- A store while it is compacted. -/
namespace Go.Proofs.YtjdmgmnndfhmgaaGreat
open Go Go.RowKit

/-- A store whose changes and whose log are being cut. -/
structure Cm (n : Nat) (w : World) (s : Nat) (S : Sto) (g : Sg) (o : Value) (fc : Int × ByteArray → Option Value) (nc : Nat) (fl : Int → Option Value) (nl : Nat) : Prop where
  blk : w.heap[s]? = some (.cells #[.int .i64 S.rev, .int .i64 S.past, ptr g.x, .map (some g.bc), .map (some g.bl), .map (some g.bt), o] 74 (0, 0))
  ix : Xd w g.x (datS S) g.Fi
  bd : Bd n (datS S)
  ch : MapF w encP g.bc fc nc
  lg : MapF w encI g.bl fl nl
  th : MapF w encB g.bt (thF S) S.nth
  ne : g.bc ≠ g.bl ∧ g.bc ≠ g.bt ∧ g.bl ≠ g.bt
  sub : ∀ r v, fl r = some v → g.lv r = some v
  rows : ∀ r v, fl r = some v → r ≤ S.rev ∧ w.ownsRow 0 9 1 v (S.lg r).length (strs (S.lg r))
  hok : ∀ k, HOk k S.rev (S.kh k)
  mem : ∀ k, k ∈ S.ks ↔ S.kh k ≠ []
  sz : ∀ k ∈ S.ks, 0 < k.size ∧ k.size ≤ 100
  past : S.past ≤ S.rev
theorem St.cm {n : Nat} {w : World} {s : Nat} {S : Sto} {g : Sg} {o : Value} (h : St n w s S g o) : Cm n w s S g o (chF S) g.nc g.lv g.nl :=
  ⟨h.blk, h.ix, h.bd, h.ch, h.lg, h.th, h.ne, fun _ _ e => e, h.rows, h.hok, h.mem, h.sz, h.past⟩
section
variable {n : Nat} {w : World} {s : Nat} {S : Sto} {g : Sg} {o : Value} {fc : Int × ByteArray → Option Value} {nc : Nat} {fl : Int → Option Value} {nl : Nat} (h : Cm n w s S g o fc nc fl nl)
include h
theorem Cm.upd {w' : World} {T : Nat → Prop} (hu : Upd w w' T) (hT : ∀ k, ftS s g k → ¬ T k) : Cm n w' s S g o fc nc fl nl :=
  ⟨(hu.block s (Array.getElem?_eq_some_iff.1 h.blk).1 (hT s (.inl rfl))).trans h.blk, h.ix.upd hu (fun k hk => hT k (.inr (.inr (.inr (.inr (.inl hk)))))), h.bd,
   h.ch.upd hu (hT _ (.inr (.inl rfl))), h.lg.upd hu (hT _ (.inr (.inr (.inl rfl)))), h.th.upd hu (hT _ (.inr (.inr (.inr (.inl rfl))))), h.ne, h.sub,
   fun r v hv => ⟨(h.rows r v hv).1, ownsRow_upd (h.rows r v hv).2 hu (fun k hk => hT k (.inr (.inr (.inr (.inr (.inr ⟨r, v, h.sub r v hv, hk⟩))))))⟩, h.hok, h.mem, h.sz, h.past⟩
theorem Cm.below {w' : World} (hb : Below w.heap.size w w') : Cm n w' s S g o fc nc fl nl := by
  refine ⟨(hb.block s (Array.getElem?_eq_some_iff.1 h.blk).1).trans h.blk, h.ix.below hb, h.bd, h.ch.below hb, h.lg.below hb, h.th.below hb, h.ne, h.sub, fun r v hv => ⟨(h.rows r v hv).1, ?_⟩, h.hok, h.mem, h.sz, h.past⟩
  exact ownsRow_upd (S := fun _ => False) (h.rows r v hv).2 (Upd.ofBelow hb) (fun _ _ e => e)
theorem Cm.cells : w.cell? ⟨s, 0, none⟩ = some (.int .i64 S.rev) ∧ w.cell? ⟨s, 1, none⟩ = some (.int .i64 S.past) ∧ w.cell? ⟨s, 2, none⟩ = some (ptr g.x) ∧ w.cell? ⟨s, 3, none⟩ = some (.map (some g.bc)) ∧ w.cell? ⟨s, 4, none⟩ = some (.map (some g.bl)) ∧ w.cell? ⟨s, 5, none⟩ = some (.map (some g.bt)) ∧ w.cell? ⟨s, 6, none⟩ = some o :=
  ⟨cell_of_row _ _ _ _ _ _ h.blk, cell_of_row _ _ _ _ _ _ h.blk, cell_of_row _ _ _ _ _ _ h.blk, cell_of_row _ _ _ _ _ _ h.blk, cell_of_row _ _ _ _ _ _ h.blk, cell_of_row _ _ _ _ _ _ h.blk, cell_of_row _ _ _ _ _ _ h.blk⟩
/-- The maps' blocks are none of the cells. -/
theorem Cm.offm {b : Nat} (hb : b = g.bc ∨ b = g.bl ∨ b = g.bt) : s ≠ b ∧ (∀ k ∈ g.Fi, k ≠ b) ∧ ∀ r v k, fl r = some v → v.ownBlock = some k → k ≠ b := by
  obtain ⟨e1, c1, L1, hc, _⟩ := h.ch
  obtain ⟨e2, c2, L2, hl, _⟩ := h.lg
  obtain ⟨e3, c3, L3, ht, _⟩ := h.th
  obtain ⟨es, cl, hm⟩ : ∃ es cl, w.heap[b]? = some (.map es cl) := by
    rcases hb with rfl | rfl | rfl
    · exact ⟨_, _, hc⟩
    · exact ⟨_, _, hl⟩
    · exact ⟨_, _, ht⟩
  refine ⟨fun e => ?_, fun k hk => (h.ix.kind k hk).ne_map hm, fun r v k hv hk e => ?_⟩
  · have := h.blk; rw [e, hm] at this; cases this
  · obtain ⟨_, cc, f, hh⟩ := ownBlock_ge (h.rows r v hv).2 hk
    rw [e, hm] at hh
    cases hh
/-- The changes are cut. -/
theorem Cm.setc {w' : World} {fc' : Int × ByteArray → Option Value} {nc' : Nat} (hm : MapF w' encP g.bc fc' nc') (hu : Upd w w' (fun k => k = g.bc)) : Cm n w' s S g o fc' nc' fl nl := by
  obtain ⟨a1, a2, a3⟩ := h.offm (b := g.bc) (.inl rfl)
  obtain ⟨n1, n2, n3⟩ := h.ne
  exact ⟨(hu.block s (Array.getElem?_eq_some_iff.1 h.blk).1 a1).trans h.blk, h.ix.upd hu a2, h.bd, hm, h.lg.upd hu n1.symm, h.th.upd hu n2.symm, h.ne, h.sub,
    fun r v hv => ⟨(h.rows r v hv).1, ownsRow_upd (h.rows r v hv).2 hu (fun k hk => a3 r v k hv hk)⟩, h.hok, h.mem, h.sz, h.past⟩
/-- The log is cut. -/
theorem Cm.setl {w' : World} {fl' : Int → Option Value} {nl' : Nat} (hm : MapF w' encI g.bl fl' nl') (hs : ∀ r v, fl' r = some v → fl r = some v) (hu : Upd w w' (fun k => k = g.bl)) : Cm n w' s S g o fc nc fl' nl' := by
  obtain ⟨a1, a2, a3⟩ := h.offm (b := g.bl) (.inr (.inl rfl))
  obtain ⟨n1, n2, n3⟩ := h.ne
  exact ⟨(hu.block s (Array.getElem?_eq_some_iff.1 h.blk).1 a1).trans h.blk, h.ix.upd hu a2, h.bd, h.ch.upd hu n1, hm, h.th.upd hu n3.symm, h.ne, fun r v hv => h.sub r v (hs r v hv),
    fun r v hv => ⟨(h.rows r v (hs r v hv)).1, ownsRow_upd (h.rows r v (hs r v hv)).2 hu (fun k hk => a3 r v k (hs r v hv) hk)⟩, h.hok, h.mem, h.sz, h.past⟩
end
theorem clookD {n : Nat} {w : World} {s : Nat} {S : Sto} {g : Sg} {o : Value} {fc : Int × ByteArray → Option Value} {nc : Nat} {fl : Int → Option Value} {nl : Nat} (h : Cm n w s S g o fc nc fl nl) (key : ByteArray) : (lookD (datS S) key).getD [] = (S.kh key).map markOf ∧ ((lookD (datS S) key) = none ↔ S.kh key = []) := by
  unfold datS
  rw [look_ks (fun k => (S.kh k).map markOf)]
  by_cases hm : key ∈ S.ks
  · rw [if_pos (hasK_iff.2 hm)]
    have := (h.mem key).1 hm
    simp [this]
  · have h0 : S.kh key = [] := Classical.byContradiction fun hn => hm ((h.mem key).2 hn)
    have : ¬ hasK S.ks key = true := fun e => hm (hasK_iff.1 e)
    rw [if_neg this, h0]
    simp
theorem chlen_le {n : Nat} {w : World} {s : Nat} {S : Sto} {g : Sg} {o : Value} {fc : Int × ByteArray → Option Value} {nc : Nat} {fl : Int → Option Value} {nl : Nat} (h : Cm n w s S g o fc nc fl nl) (key : ByteArray) : (S.kh key).length ≤ n := by
  by_cases hm : key ∈ S.ks
  · have := (h.bd.ms (key, (S.kh key).map markOf) (List.mem_map.2 ⟨key, hm, rfl⟩)).1
    simpa using this
  · have h0 : S.kh key = [] := Classical.byContradiction fun hn => hm ((h.mem key).2 hn)
    rw [h0]; simp
set_option maxRecDepth 100000 in
set_option maxHeartbeats 400000 in
/-- lastPut at the present. -/
theorem clast_now {n : Nat} {w : World} {s : Nat} {S : Sto} {g : Sg} {o : Value} {fc : Int × ByteArray → Option Value} {nc : Nat} {fl : Int → Option Value} {nl : Nat} (h : Cm n w s S g o fc nc fl nl) (key : ByteArray) : Calls Tryz.prog 71 #[ptr s, .string key, .int .i64 S.rev] w fun e w' => e = .returned (.int .i64 (modOf (thereH (S.kh key)))) ∧ Below w.heap.size w w' := by
  have hb : Below w.heap.size w (w.alloc (.cells #[.int .i64 S.rev] 3)) := (Below.refl _ w).alloc (Nat.le_refl _) _
  have h1 := h.below hb
  have hbd : ∀ q, Below w.heap.size w ((w.alloc (.cells #[.int .i64 S.rev] 3)).drewN q) := fun q => by
    induction q with
    | zero => exact hb
    | succ q ih => exact ih.drew
  obtain ⟨c0, -, -, -, -, c5, -⟩ := h1.cells
  have hl : ∀ q, (Instr.lookup 72 (.map (some g.bt)) (.string key) false).run Tryz.prog ((w.alloc (.cells #[.int .i64 S.rev] 3)).drewN q) = .ok (.int .i64 (modOf (thereH (S.kh key)))) ((w.alloc (.cells #[.int .i64 S.rev] 3)).drewN q) := fun q => by
    rw [← thF_get]
    exact (h.below (hbd q)).th.look law65 Tryz.underlying72 (zero3 _) key false
  have HBD : ∀ q, Hid (Below w.heap.size w ((w.alloc (.cells #[.int .i64 S.rev] 3)).drewN q)) := fun q => hbd q
  clear h h1 hb hbd
  go_enter Tryz.func71, Tryz.ntmps71
  go_wp2
  go_quiet (fail)
  go_wp2
  go_ret
  exact ⟨rfl, (HBD _).out⟩
set_option maxRecDepth 100000 in
set_option maxHeartbeats 1000000 in
theorem clast_past {n : Nat} {w : World} {s : Nat} {S : Sto} {g : Sg} {o : Value} {fc : Int × ByteArray → Option Value} {nc : Nat} {fl : Int → Option Value} {nl : Nat} (h : Cm n w s S g o fc nc fl nl) (hn : n ≤ 1000000) (key : ByteArray) (rev : Int) (hne : rev ≠ S.rev) : Calls Tryz.prog 71 #[ptr s, .string key, .int .i64 rev] w fun e w' => e = .returned (.int .i64 (modOf (atH (S.kh key) rev))) ∧ Below w.heap.size w w' := by
  have hb0 : Below w.heap.size w (w.alloc (.cells #[.int .i64 rev] 3)) := (Below.refl _ w).alloc (Nat.le_refl _) _
  have r0 := row_alloc w #[.int .i64 rev] 3
  generalize hV : w.alloc (.cells #[.int .i64 rev] 3) = V at *
  have hVs : V.heap.size = w.heap.size + 1 := by rw [← hV]; simp
  have hbd : ∀ q, Below w.heap.size w (V.drewN q) := fun q => below_drewQ hb0 q
  have hhl := chlen_le h key
  have HMK : Hid (∀ W, Below w.heap.size w W → Calls Tryz.prog 72 #[ptr g.x, .string key] W fun e w' => ∃ v, e = .returned v ∧ MarksPost W w' v ((S.kh key).map markOf)) := fun W hb => by
    have := marks_xd (h.below hb).ix (h.below hb).bd hn key
    rw [(clookD h key).1] at this
    exact this
  have HC : Hid (∀ W, Below w.heap.size w W → W.cell? ⟨s, 0, none⟩ = some (.int .i64 S.rev) ∧ W.cell? ⟨s, 2, none⟩ = some (ptr g.x)) := fun W hb => ⟨(h.below hb).cells.1, (h.below hb).cells.2.2.1⟩
  have hasc := (h.hok key).asc
  have HKV : Hid (∀ r v, (r, some v) ∈ S.kh key → v.mod = r) := fun r v hm => ((h.hok key).kv r v hm).2.1
  obtain ⟨c0, c2⟩ := HC.out V hb0
  have k0 : V.cell? ⟨w.heap.size, 0, none⟩ = some (.int .i64 rev) := cell_of_row _ _ _ _ _ _ r0
  have hneb : (rev == (S.rev : Int)) = false := by rw [beq_eq_false_iff_ne]; exact hne
  generalize S.kh key = hs at *
  have HA := Hid.mk'' hasc
  have HBD := Hid.mk'' hbd
  have HR0 := Hid.mk'' r0
  clear h hasc hne hbd r0
  go_enter Tryz.func71, Tryz.ntmps71
  go_wp2
  go_quiet (fail)
  have hmk := HMK.out _ (HBD.out nq)
  have c2q := (HC.out _ (HBD.out nq)).2
  go_upto_region 4 with (go_at_call 72; refine hmk.mono ?_; rintro e w3 ⟨v, rfl, hP⟩; obtain ⟨⟨p, c, rfl, -⟩, hM, hb3⟩ := hP)
  obtain ⟨w4, hw4⟩ : ∃ w4, w4 = w3.alloc (.cells #[.slice p hs.length c] 141) := ⟨_, rfl⟩
  rw [← hw4]
  obtain ⟨a, ha⟩ : ∃ a, a = w3.heap.size := ⟨_, rfl⟩
  rw [← ha]
  obtain ⟨q, hq⟩ : ∃ q, q = w.heap.size := ⟨_, rfl⟩
  rw [← hq]
  have hB3 : Below w.heap.size w w3 := (HBD.out nq).trans (hb3.mono (HBD.out nq).size)
  have b34 : Below w3.heap.size w3 w4 := by rw [hw4]; exact (Below.refl _ _).alloc (Nat.le_refl _) _
  have hB4 : Below w.heap.size w w4 := hB3.trans (b34.mono hB3.size)
  have ka : w4.cell? ⟨a, 0, none⟩ = some (.slice p hs.length c) := by rw [hw4, ha]; exact cell_of_row _ _ _ _ _ _ (row_alloc w3 _ _)
  have kq : w4.cell? ⟨q, 0, none⟩ = some (.int .i64 rev) := by
    have h1 : (V.drewN nq).heap[w.heap.size]? = V.heap[w.heap.size]? := (below_drewQ (Below.refl V.heap.size V) nq).block w.heap.size (by omega)
    have h2 := (hb3.block w.heap.size (by have := (below_drewQ (Below.refl V.heap.size V) nq).size; omega)).trans (h1.trans HR0.out)
    have h3 := (b34.block w.heap.size (Array.getElem?_eq_some_iff.1 h2).1).trans h2
    rw [hq]
    exact cell_of_row _ _ _ _ _ _ h3
  have HB4 := Hid.mk'' hB4
  have HQL : Hid (q = w.heap.size) := hq
  have hlen2 : (hs.map markOf).length = hs.length := List.length_map _
  have HMS : Hid (Mks w4 (.slice p (hs.map markOf).length c) (hs.map markOf)) := ownsRow_upd hM (Upd.ofBelow (S := fun _ => False) b34) (fun _ _ h => h)
  clear hw4 ha hq hM hb3 hB3 b34 hB4 hmk c2q HMK HC c0 c2 k0 hneb HR0 hV hb0 hVs
  by_cases hnil : hs = []
  · subst hnil
    have hsr := ssearch_zero (.func (.func 94) #[] #[.pointer (some ⟨a, 0, none⟩), .pointer (some ⟨q, 0, none⟩)]) w4
    go_wp2_with (go_at_call 93; refine hsr.mono ?_; rintro e w' ⟨rfl, hw'⟩; obtain rfl := hw'.symm)
    go_ret
    exact ⟨rfl, HB4.out⟩
  · obtain ⟨gk, ck, hv, -, -⟩ := owns_form1 HMS.out (by rw [hlen2]; exact List.length_pos_iff.2 hnil)
    have hpk : p = some ⟨gk, 0, none⟩ := by cases hv; rfl
    subst hpk
    have hat : MksAt w4 gk (hs.map markOf) := fun j m hj => HMS.out.cell hj
    have hsr := ssearch_any a q gk c (hs.map markOf) rev w4 (by rw [hlen2]; exact ka) kq hat (marks_asc HA.out) (by omega)
    rw [hlen2] at hsr
    have HAT := Hid.mk'' hat
    clear hat hv
    cases hc : tlen (hs.map markOf) rev with
    | zero =>
      have HE := Hid.mk'' (atH_zero HA.out hc)
      rw [hc] at hsr
      clear hc
      go_wp2_with (go_at_call 93; refine hsr.mono ?_; rintro e w5 ⟨rfl, hb5⟩)
      go_ret
      exact ⟨by rw [HE.out]; rfl, HB4.out.trans (hb5.mono HB4.out.size)⟩
    | succ cn =>
      obtain ⟨pe, hpe, hme, hate⟩ := atH_pos HA.out hc
      have hcl := tlen_le (hs.map markOf) rev
      rw [hc] at hsr hcl
      rw [hlen2] at hcl
      have HPE : Hid (pe ∈ hs) := List.mem_of_getElem? hpe
      have HE := Hid.mk'' hate
      have HME := Hid.mk'' hme
      have hx : IntKind.i64.wrap (((cn + 1 : Nat) : Int) - 1) = (cn : Int) := by rw [IntKind.wrap_i64]; omega
      clear hc hpe hme hate
      go_upto_region 5 with (go_at_call 93; refine hsr.mono ?_; rintro e w5 ⟨rfl, hb5⟩)
      obtain ⟨x1, x2⟩ := (HAT.out.below hb5) cn (markOf pe) HME.out
      have ka5 := (hb5.cell (p := ⟨a, 0, none⟩) (World.block_lt_of_cell? _ _ ka)).trans ka
      have HB5 : Hid (Below w.heap.size w w5) := HB4.out.trans (hb5.mono HB4.out.size)
      obtain ⟨pr, po⟩ := pe
      dsimp only [markOf] at x1 x2
      clear hsr hb5 ka kq HMS HAT HME
      cases po with
      | none =>
        dsimp only [Option.isNone_none] at x2
        go_wp2
        go_ret
        exact ⟨by rw [HE.out]; rfl, HB5.out⟩
      | some v =>
        dsimp only [Option.isNone_some] at x2
        go_wp2
        go_ret
        refine ⟨?_, HB5.out⟩
        rw [HE.out]
        show Ending.returned (.int .i64 pr) = .returned (.int .i64 v.mod)
        rw [HKV.out pr v HPE.out]
/-- lastPut at any revision that is not ahead. -/
theorem clast {n : Nat} {w : World} {s : Nat} {S : Sto} {g : Sg} {o : Value} {fc : Int × ByteArray → Option Value} {nc : Nat} {fl : Int → Option Value} {nl : Nat} (h : Cm n w s S g o fc nc fl nl) (hn : n ≤ 1000000) (key : ByteArray) (rev : Int) : Calls Tryz.prog 71 #[ptr s, .string key, .int .i64 rev] w fun e w' => e = .returned (.int .i64 (modOf (atH (S.kh key) rev))) ∧ Below w.heap.size w w' := by
  by_cases hr : rev = S.rev
  · subst hr
    rw [atH_all (fun p hp => ((h.hok key).pos p hp).2)]
    exact clast_now h key
  · exact clast_past h hn key rev hr
end Go.Proofs.YtjdmgmnndfhmgaaGreat
