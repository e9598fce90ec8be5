/- Trim: the marks that turn, as data and in memory. -/
import Derived.Test.YteeflkkoifgcbabGreatHH
import Derived.Test.YteeflkkoifgcbabGreatG40
import Derived.Test.YteeflkkoifgcbabGreatM5
namespace Go.Proofs.YteeflkkoifgcbabGreat
open Go Go.RowKit Go.Shelf

/-! ### As data -/
def cutL (rev : Int) (ms : List Mk) : List Mk := ms.drop (cutM ms rev)
def turnD (rev : Int) (key : ByteArray) (D : Dat) : Dat := D.map fun p => if p.1 = key then (p.1, cutL rev p.2) else p
def goneD (rev : Int) (key : ByteArray) (D : Dat) : List ByteArray := match lookD D key with | some ms => if cutL rev ms = [] then [key] else [] | none => []
def trF (rev : Int) (s : Dat × List ByteArray) (key : ByteArray) : Dat × List ByteArray := (turnD rev key s.1, s.2 ++ goneD rev key s.1)
def trS (rev : Int) (D : Dat) (keys : List ByteArray) : Dat × List ByteArray := keys.foldl (trF rev) (D, [])
theorem trS_snoc (rev : Int) (D : Dat) (keys : List ByteArray) (k : ByteArray) : trS rev D (keys ++ [k]) = trF rev (trS rev D keys) k := by simp [trS]
/-- The index as Trim leaves it. -/
def trimD (rev : Int) (D : Dat) : Dat := (D.map fun p => (p.1, cutL rev p.2)).filter fun p => !p.2.isEmpty
theorem turnD_none {rev : Int} {key : ByteArray} : ∀ {D : Dat}, key ∉ D.map Prod.fst → turnD rev key D = D
  | [], _ => rfl
  | p :: D, h => by
    simp only [List.map_cons, List.mem_cons, not_or] at h
    have ih := turnD_none (rev := rev) h.2
    simp only [turnD, List.map_cons] at ih ⊢
    rw [ih, if_neg (Ne.symm h.1)]
theorem turnD_append (rev : Int) (key : ByteArray) (A B : Dat) : turnD rev key (A ++ B) = turnD rev key A ++ turnD rev key B := by simp [turnD]
theorem lookD_append {A B : Dat} {key : ByteArray} : key ∉ A.map Prod.fst → lookD (A ++ B) key = lookD B key := by
  intro h
  induction A with
  | nil => rfl
  | cons p A ih =>
    obtain ⟨k, ms⟩ := p
    simp only [List.map_cons, List.mem_cons, not_or] at h
    simp only [List.cons_append, lookD, if_neg (Ne.symm h.1)]
    exact ih h.2
theorem tr_fold (rev : Int) : ∀ (Y X : Dat) (G : List ByteArray), ((X ++ Y).map Prod.fst).Nodup → (Y.map Prod.fst).foldl (trF rev) (X ++ Y, G) = (X ++ Y.map (fun p => (p.1, cutL rev p.2)), G ++ (Y.filter fun p => (cutL rev p.2).isEmpty).map Prod.fst)
  | [], X, G, _ => by simp
  | (k, ms) :: Y, X, G, h => by
    have hn := h
    simp only [List.map_append, List.map_cons, List.nodup_append, List.nodup_cons] at hn
    obtain ⟨_, ⟨hY, _⟩, hXY⟩ := hn
    have hX : k ∉ X.map Prod.fst := fun hm => hXY k hm k (by simp) rfl
    have e1 : trF rev (X ++ (k, ms) :: Y, G) k = ((X ++ [(k, cutL rev ms)]) ++ Y, G ++ if cutL rev ms = [] then [k] else []) := by
      unfold trF
      congr 1
      · show turnD rev k (X ++ (k, ms) :: Y) = _
        rw [turnD_append, turnD_none hX]
        have : turnD rev k ((k, ms) :: Y) = (k, cutL rev ms) :: turnD rev k Y := by simp [turnD]
        rw [this, turnD_none hY]; simp
      · show G ++ goneD rev k (X ++ (k, ms) :: Y) = _
        unfold goneD
        rw [lookD_append hX]
        simp [lookD]
    rw [List.map_cons, List.foldl_cons, e1, tr_fold rev Y _ _ (by simpa using h)]
    congr 1
    · simp
    · by_cases hc : cutL rev ms = []
      · simp [hc]
      · have : (cutL rev ms).isEmpty = false := by rw [List.isEmpty_eq_false_iff]; exact hc
        simp [hc, this]
theorem asc_nodupN : ∀ {l : List ByteArray}, Asc l → l.Nodup
  | [], _ => by simp
  | a :: l, h => List.nodup_cons.2 ⟨fun hm => (by have := h.1 a hm; rw [klt_irrefl] at this; cases this), asc_nodupN h.2⟩
theorem trS_all (rev : Int) (D : Dat) (h : Asc (D.map Prod.fst)) : trS rev D (D.map Prod.fst) = (D.map (fun p => (p.1, cutL rev p.2)), (D.filter fun p => (cutL rev p.2).isEmpty).map Prod.fst) := by
  have := tr_fold rev D [] [] (by simpa using asc_nodupN h)
  simpa [trS] using this

/-! ### In memory -/
theorem Loc.is66 {w : World} : ∀ {h b : Nat} {its L : List Itm} {F : List Nat}, Tre w h b its L F → ∀ {g i : Nat}, Loc w h b g i → is66 w g := by
  have own : ∀ {h b : Nat} {its L : List Itm} {F : List Nat}, Tre w h b its L F → ∀ {g n c : Nat}, w.cell? ⟨b, 0, none⟩ = some (.slice (some ⟨g, 0, none⟩) n c) → Go.Proofs.YteeflkkoifgcbabGreat.is66 w g := fun {h b its L F} ht {g n c} h0 => by
    obtain ⟨iv, kv, ks, hN, _, _⟩ := ht.nod
    have e : iv = .slice (some ⟨g, 0, none⟩) n c := by have := hN.c0; rw [this] at h0; simpa using h0
    rcases hN.items.2 with ⟨e1, _⟩ | ⟨g', cap, cur, e1, _, hg, _⟩
    · rw [e] at e1; cases e1
    · rw [e] at e1; cases e1; exact ⟨cur, hg⟩
  intro h
  induction h with
  | zero =>
    intro b its L F ht g i hl
    obtain ⟨n, c, h0, _⟩ := hl
    exact own ht h0
  | succ h ih =>
    intro b its L F ht g i hl
    rcases hl with ⟨n, c, h0, _⟩ | ⟨kg, n, c, j, k, h1, hj, hk, hl⟩
    · exact own ht h0
    · obtain ⟨iv, kv, gk, hN, hg, rfl, rfl⟩ := ht.open_
      have e : kv = .slice (some ⟨kg, 0, none⟩) n c := by have := hN.c1; rw [this] at h1; simpa using h1
      obtain ⟨p, c', hkv, _, _⟩ := owns_form hN.kids
      have hn : n = gk.length := by rw [e] at hkv; simp at hkv; exact hkv.2.1
      have hjl : j < gk.length := by omega
      have hkk := hN.kid (g := kg) (c := c) (by rw [e, hn]; simp) (j := j) (k := gk[j].b) (by simp [List.getElem?_eq_getElem hjl])
      rw [hkk] at hk
      have ek : gk[j].b = k := by simpa using hk
      subst ek
      exact ih (hg.2 gk[j] (List.getElem_mem hjl)).1 hl
/-- A mark's row is set in an item: what the walk may not see of it. -/
theorem KpT.turn {w0 W V : World} {F : List Nat} {g i : Nat} {v : Value} (h66 : is66 w0 g) (hV : ∀ k ∈ F, V.heap[k]? = W.heap[k]?) : KpT w0 F W (V.setCell ⟨g, i * 2 + 1, none⟩ v) := fun p hp => by
  by_cases hb : p.block = g
  · have hVp : ∀ q : Addr, q.block = g → V.cell? q = W.cell? q := fun q hq => World.cell?_of_block (w := W) (w' := V) (a := q) (hV q.block (by rw [hq, ← hb]; exact hp))
    obtain ⟨pb, po, pe⟩ := p
    dsimp only at hb
    subst hb
    refine ⟨fun hq => ?_, fun hs => ?_⟩
    · have hpo : po % 2 = 0 := hq h66
      rw [World.cell?_setCell_other _ _ _ _ (by intro e; cases e; omega)]
      exact hVp _ rfl
    · by_cases he : (⟨pb, po, pe⟩ : Addr) = ⟨pb, i * 2 + 1, none⟩
      · rw [he] at hs ⊢
        obtain ⟨u, hu⟩ := Option.isSome_iff_exists.1 hs
        rw [World.cell?_setCell_same V ⟨pb, i * 2 + 1, none⟩ v ((hVp _ rfl).trans hu)]; rfl
      · rw [World.cell?_setCell_other _ _ _ _ (Ne.symm he), hVp _ rfl]; exact hs
  · have : (V.setCell ⟨g, i * 2 + 1, none⟩ v).cell? p = W.cell? p := World.cell?_of_block (w := W) (a := p) ((heap_setCell_other _ _ _ _ _ hb).trans (hV p.block hp))
    exact ⟨fun _ => this, fun hs => by rw [this]; exact hs⟩
end Go.Proofs.YteeflkkoifgcbabGreat
/- Trim: the tree while marks turn. -/
namespace Go.Proofs.YteeflkkoifgcbabGreat
open Go Go.RowKit Go.Shelf

/-- Marks that lie in a row, that may be empty. -/
def MksP (W : World) (v : Value) (ms : List Mk) : Prop := ∃ g c, v = .slice (some ⟨g, 0, none⟩) ms.length c ∧ Mks W v ms
theorem MksP.agree {W W' : World} {v : Value} {ms : List Mk} (h : MksP W v ms) (hu : ∀ k, v.ownBlock = some k → W'.heap[k]? = W.heap[k]?) : MksP W' v ms := by
  obtain ⟨g, c, e, hM⟩ := h
  exact ⟨g, c, e, ownsRow_agree hM hu⟩
structure TI (w : World) (x : Nat) (rp : Option Addr) (n : Int) (h b nT : Nat) (R : List IM) (F Ft : List Nat) (R' : List IM) (W : World) : Prop where
  t : R' ≠ [] → ∃ its', its'.length = nT ∧ Tre W h b its' (R'.map IM.it) Ft
  kp : KpT w Ft w W
  keys : keysR R' = keysR R
  mks : ∀ r ∈ R', MksP W r.it.mv r.ms
  masc : ∀ r ∈ R', MAscH r.ms ∧ r.ms.length ≤ 1000000
  nd : (R'.flatMap ownM).Nodup
  own : ∀ k ∈ R'.flatMap ownM, (k ∈ F ∧ k ∉ x :: Ft) ∨ w.heap.size + 4 ≤ k
  xr : xrow W x rp n
  upd : Upd w W (fun k => k ∈ F)
theorem mem_ownM {R : List IM} {r : IM} (hr : r ∈ R) {k : Nat} (hk : r.it.mv.ownBlock = some k) : k ∈ R.flatMap ownM := List.mem_flatMap.2 ⟨r, hr, by simp [ownM, hk]⟩
section
variable {w : World} {x : Nat} {rp : Option Addr} {n : Int} {h b nT : Nat} {R : List IM} {F Ft : List Nat} {R' : List IM} {W : World} (H : TI w x rp n h b nT R F Ft R' W)
include H
theorem TI.agree {W' : World} (hx : W'.heap[x]? = W.heap[x]?) (ht : ∀ k ∈ Ft, W'.heap[k]? = W.heap[k]?) (hm : ∀ k ∈ R'.flatMap ownM, W'.heap[k]? = W.heap[k]?) (hu : Upd w W' (fun k => k ∈ F)) : TI w x rp n h b nT R F Ft R' W' :=
  ⟨fun hne => by
    obtain ⟨its', e, T⟩ := H.t hne
    exact ⟨its', e, T.agree ht⟩, H.kp.trans (KpT.of_block ht), H.keys, fun r hr => (H.mks r hr).agree (fun k hk => hm k (mem_ownM hr hk)), H.masc, H.nd, H.own, hx.trans H.xr, hu⟩
theorem TI.grown (hF : ∀ k ∈ x :: Ft, k < w.heap.size) {W' : World} {row : Option Nat} (hg : W.grownBy W' row) (hr : ∀ r, row = some r → w.heap.size + 4 ≤ r ∧ ∃ o : Obj, W.heap[r]? = some o ∧ o.isCells = false) : TI w x rp n h b nT R F Ft R' W' := by
  have hz := H.upd.size
  have hlow : ∀ k, k < w.heap.size → W'.heap[k]? = W.heap[k]? := fun k hk => hg.block k (by omega) (fun e => by have := (hr k e.symm).1; omega)
  refine H.agree (hlow x (hF x (by simp))) (fun k hk => hlow k (hF k (by simp [hk]))) (fun k hk => ?_) ⟨hg.os.trans H.upd.os, hg.tape.trans H.upd.tape, hg.output.trans H.upd.output, Nat.le_trans hz hg.size, fun k hk hn => (hlow k hk).trans (H.upd.block k hk hn)⟩
  obtain ⟨r, hrm, hk⟩ := List.mem_flatMap.1 hk
  simp only [ownM, Option.mem_toList] at hk
  obtain ⟨g, c, e, hM⟩ := H.mks r hrm
  obtain ⟨_, cc, f, hh⟩ := ownBlock_ge hM hk
  rw [hh]
  exact grown_cells hg hr hh
/-- One item's marks turn. -/
theorem TI.turn {its : List Itm} (ht : Tre w h b its (R.map IM.it) Ft) (hnd : Ft.Nodup) (ha : Asc (keysR R)) (hFF : ∀ k ∈ x :: Ft, k ∈ F) (hFl : ∀ k ∈ F, k < w.heap.size) (hxF : x ∉ Ft) (hz4 : w.heap.size + 4 ≤ W.heap.size) (rev : Int) (a : SlotA w h b nT (R.map IM.it) Ft) :
    ∃ j r g c, R'[j]? = some r ∧ lookD (dat R') a.it.key = some r.ms ∧ W.cell? ⟨a.g, a.i * 2 + 1, none⟩ = some (.slice (some ⟨g, 0, none⟩) r.ms.length c) ∧ W.frozen? ⟨a.g, a.i * 2 + 1, none⟩ = false ∧ W.cell? ⟨a.g, a.i * 2, none⟩ = some (.string a.it.key) ∧ Mks W (.slice (some ⟨g, 0, none⟩) r.ms.length c) r.ms ∧ MAscH r.ms ∧ r.ms.length ≤ 1000000 ∧
      ∀ V v', NeedPost W V (.slice (some ⟨g, 0, none⟩) r.ms.length c) v' r.ms (cutM r.ms rev) →
        TI w x rp n h b nT R F Ft (R'.set j ⟨⟨a.it.key, v'⟩, cutL rev r.ms⟩) (V.setCell ⟨a.g, a.i * 2 + 1, none⟩ v') ∧ dat (R'.set j ⟨⟨a.it.key, v'⟩, cutL rev r.ms⟩) = turnD rev a.it.key (dat R') ∧ KpT w Ft W (V.setCell ⟨a.g, a.i * 2 + 1, none⟩ v') ∧
        (∃ g' c', v' = .slice (some ⟨g', 0, none⟩) (cutL rev r.ms).length c' ∧ ((g' = g) ∨ W.heap.size ≤ g')) ∧ (∀ k ∈ (R'.set j ⟨⟨a.it.key, v'⟩, cutL rev r.ms⟩).flatMap ownM, k ∈ R'.flatMap ownM ∨ W.heap.size ≤ k) ∧ (∀ k, k < W.heap.size → k ≠ a.g → (V.setCell ⟨a.g, a.i * 2 + 1, none⟩ v').heap[k]? = W.heap[k]?) ∧ a.g ∈ Ft := by
  have hkeys : keysI (R'.map IM.it) = keysI (R.map IM.it) := by rw [keysI_map, keysI_map]; exact H.keys
  obtain ⟨X0, Z0, hLX, _⟩ := a.ok.put
  have hne : R' ≠ [] := fun e => by
    have := congrArg List.length H.keys
    have h2 := congrArg List.length hLX
    rw [e] at this
    simp at this h2
    omega
  obtain ⟨its', hl', T⟩ := H.t hne
  have hj : (R.map IM.it)[X0.length]? = some a.it := by
    have := congrArg (fun l => l[X0.length]?) hLX
    simpa using this
  obtain ⟨⟨it', e1, e2, e3⟩, e4, e5⟩ := a.turn ht T hnd (by rw [keysI_map]; exact ha) hkeys H.kp hj
  rw [List.getElem?_map] at e1
  obtain ⟨r, hr, rfl⟩ := Option.map_eq_some_iff.1 e1
  have hrm := List.mem_of_getElem? hr
  obtain ⟨g, c, emv, hM⟩ := H.mks r hrm
  obtain ⟨m1, m2⟩ := H.masc r hrm
  have hk0 := ((H.kp ⟨a.g, a.i * 2, none⟩ a.ok.mem).1 (fun _ => by show a.i * 2 % 2 = 0; omega)).trans a.ok.key
  obtain ⟨hp1, hp2⟩ := getElem_part hr
  have hasc' : Asc ((dat R').map Prod.fst) := by rw [dat_keys, H.keys]; exact ha
  have hd : dat R' = dat (R'.take X0.length) ++ (a.it.key, r.ms) :: dat (R'.drop (X0.length + 1)) := by
    conv => lhs; rw [hp1]
    simp [dat, e2]
  rw [hd] at hasc'
  have hlk : lookD (dat R') a.it.key = some r.ms := by rw [hd]; exact lookD_at hasc'
  rw [emv] at e3 hM
  refine ⟨X0.length, r, g, c, hr, hlk, e3, e4, hk0, hM, m1, m2, fun V v' hNP => ?_⟩
  obtain ⟨n1, n2⟩ := hNP.mks hM m2
  have hVB := hNP.2
  have hgW : g < W.heap.size := owns_lt hM rfl
  have hform : ∃ g' c', v' = .slice (some ⟨g', 0, none⟩) (cutL rev r.ms).length c' ∧ ((g' = g) ∨ W.heap.size ≤ g') := by
    have hlen : (cutL rev r.ms).length = r.ms.length - cutM r.ms rev := by simp [cutL]
    rw [hlen]
    rcases hNP.1 with ⟨h0, rfl⟩ | ⟨h0, _, q, hq, rfl, _⟩ | ⟨h0, q, hq, rfl, _⟩
    · exact ⟨g, c, by rw [h0]; simp, .inl rfl⟩
    · exact ⟨q, _, rfl, .inr hq⟩
    · exact ⟨q, 0, by rw [h0]; simp, .inr hq⟩
  obtain ⟨g', c', hv', hg'⟩ := hform
  have hgF := a.ok.mem
  have hag : a.g < w.heap.size := hFl _ (hFF _ (by simp [hgF]))
  have hzw : w.heap.size ≤ W.heap.size := by omega
  have hoth : ∀ k, k < W.heap.size → k ≠ a.g → (V.setCell ⟨a.g, a.i * 2 + 1, none⟩ v').heap[k]? = W.heap[k]? := fun k hk hne => (heap_setCell_other _ _ _ _ _ hne).trans (hVB.block k hk)
  have hFtW : ∀ k ∈ Ft, k < W.heap.size := fun k hk => Nat.lt_of_lt_of_le (hFl _ (hFF _ (by simp [hk]))) hzw
  have hVF : ∀ k ∈ Ft, V.heap[k]? = W.heap[k]? := fun k hk => hVB.block k (hFtW k hk)
  obtain ⟨its2, hl2, T2⟩ := e5 V hVF v' ⟨_, _, _, hv'⟩
  have hgown : g ∈ R'.flatMap ownM := mem_ownM hrm (by rw [emv]; rfl)
  have hnotg : ∀ k ∈ R'.flatMap ownM, k ≠ a.g := fun k hk e => by
    rcases H.own k hk with ⟨_, h2⟩ | h2
    · exact h2 (by rw [e]; simp [hgF])
    · omega
  have hmlt : ∀ k ∈ R'.flatMap ownM, k < W.heap.size := fun k hk => by
    obtain ⟨r, hrm, hk⟩ := List.mem_flatMap.1 hk
    simp only [ownM, Option.mem_toList] at hk
    obtain ⟨_, _, _, hM⟩ := H.mks r hrm
    exact owns_lt hM hk
  have hset := hp2 ⟨⟨a.it.key, v'⟩, cutL rev r.ms⟩
  have hfl : R'.flatMap ownM = (R'.take X0.length).flatMap ownM ++ g :: (R'.drop (X0.length + 1)).flatMap ownM := by
    conv => lhs; rw [hp1]
    simp [ownM, emv, Value.ownBlock]
  have hfl' : (R'.set X0.length ⟨⟨a.it.key, v'⟩, cutL rev r.ms⟩).flatMap ownM = (R'.take X0.length).flatMap ownM ++ g' :: (R'.drop (X0.length + 1)).flatMap ownM := by
    rw [hset]; simp [ownM, hv', Value.ownBlock]
  have hnd0 := H.nd
  rw [hfl] at hnd0
  have hsub : ∀ k ∈ (R'.take X0.length).flatMap ownM ++ (R'.drop (X0.length + 1)).flatMap ownM, k ∈ R'.flatMap ownM ∧ k ≠ g := fun k hk => by
    rw [hfl]
    have hp : ((R'.take X0.length).flatMap ownM ++ g :: (R'.drop (X0.length + 1)).flatMap ownM).Perm (g :: ((R'.take X0.length).flatMap ownM ++ (R'.drop (X0.length + 1)).flatMap ownM)) := List.perm_middle
    refine ⟨hp.mem_iff.2 (List.mem_cons_of_mem _ hk), fun e => ?_⟩
    exact (List.nodup_cons.1 (hp.nodup_iff.1 hnd0)).1 (by rw [← e]; exact hk)
  have hg'n : ∀ k ∈ (R'.take X0.length).flatMap ownM ++ (R'.drop (X0.length + 1)).flatMap ownM, k ≠ g' := fun k hk e => by
    obtain ⟨h1, h2⟩ := hsub k hk
    rcases hg' with h | h
    · exact h2 (e.trans h)
    · have := hmlt k h1; omega
  refine ⟨⟨fun _ => ⟨its2, by rw [hl2]; exact hl', ?_⟩, H.kp.trans (KpT.turn (a.loc.is66 ht) hVF), ?_, fun s hs => ?_, fun s hs => ?_, ?_, fun k hk => ?_, ?_, ?_⟩, ?_, KpT.turn (a.loc.is66 ht) hVF, ⟨g', c', hv', hg'⟩, fun k hk => ?_, hoth, hgF⟩
  · rw [List.map_set]; exact T2
  · rw [← H.keys, hset]
    conv => rhs; rw [hp1]
    simp [keysR, e2]
  · rcases List.mem_or_eq_of_mem_set hs with hs' | rfl
    · obtain ⟨i, hi⟩ := List.getElem?_of_mem hs
      rw [List.getElem?_set] at hi
      by_cases hsx : s.it.mv.ownBlock = some g'
      · -- s is the new one
        split at hi
        · rename_i hxi
          split at hi
          · cases hi
            exact ⟨g', c', hv', ownsRow_agree n1 (fun k hk => heap_setCell_other _ _ _ _ _ (fun e => by
              have hk' : g' = k := by rw [hv'] at hk; simpa [Value.ownBlock] using hk
              rcases hg' with h | h
              · exact hnotg g hgown (by omega)
              · omega))⟩
          · cases hi
        · exfalso
          rename_i hxi
          have hsm : g' ∈ (R'.take X0.length).flatMap ownM ++ (R'.drop (X0.length + 1)).flatMap ownM := by
            rw [List.mem_append]
            rcases Nat.lt_trichotomy i X0.length with hlt | heq | hgt
            · exact .inl (mem_ownM (List.mem_of_getElem? (i := i) (by rw [List.getElem?_take, if_pos hlt]; exact hi)) hsx)
            · omega
            · exact .inr (mem_ownM (List.mem_of_getElem? (i := i - (X0.length + 1)) (by rw [List.getElem?_drop, show X0.length + 1 + (i - (X0.length + 1)) = i by omega]; exact hi)) hsx)
          exact hg'n g' hsm rfl
      · obtain ⟨gs, cs, es, hMs⟩ := H.mks s hs'
        refine ⟨gs, cs, es, ownsRow_agree hMs (fun k hk => hoth k ?_ ?_)⟩
        · exact hmlt k (mem_ownM hs' hk)
        · exact hnotg k (mem_ownM hs' hk)
    · exact ⟨g', c', hv', ownsRow_agree n1 (fun k hk => heap_setCell_other _ _ _ _ _ (fun e => by
        have hk' : g' = k := by rw [hv'] at hk; simpa [Value.ownBlock] using hk
        rcases hg' with h | h
        · exact hnotg g hgown (by omega)
        · omega))⟩
  · rcases List.mem_or_eq_of_mem_set hs with hs' | rfl
    · exact H.masc s hs'
    · exact ⟨m1.sublist (List.drop_sublist _ _), by simp [cutL]; omega⟩
  · rw [hfl']
    have hp : ((R'.take X0.length).flatMap ownM ++ g' :: (R'.drop (X0.length + 1)).flatMap ownM).Perm (g' :: ((R'.take X0.length).flatMap ownM ++ (R'.drop (X0.length + 1)).flatMap ownM)) := List.perm_middle
    have hp0 : ((R'.take X0.length).flatMap ownM ++ g :: (R'.drop (X0.length + 1)).flatMap ownM).Perm (g :: ((R'.take X0.length).flatMap ownM ++ (R'.drop (X0.length + 1)).flatMap ownM)) := List.perm_middle
    exact hp.nodup_iff.2 (List.nodup_cons.2 ⟨fun hm => hg'n g' hm rfl, (List.nodup_cons.1 (hp0.nodup_iff.1 hnd0)).2⟩)
  · rw [hfl'] at hk
    rcases List.mem_append.1 hk with hk | hk
    · exact H.own k (hsub k (List.mem_append_left _ hk)).1
    · rcases List.mem_cons.1 hk with rfl | hk
      · rcases hg' with h | h
        · rw [h]; exact H.own g hgown
        · exact .inr (by omega)
      · exact H.own k (hsub k (List.mem_append_right _ hk)).1
  · exact (hoth x (by have := H.xr.lt; exact this) (fun e => hxF (by rw [e]; exact hgF))).trans H.xr
  · refine (H.upd.trans (Upd.ofBelow hVB) (fun _ _ h => h)).setCell (p := ⟨a.g, a.i * 2 + 1, none⟩) (.inr (hFF _ (by simp [hgF]))) _
  · have hnn := asc_nodupN hasc'
    simp only [List.map_append, List.map_cons, List.nodup_append, List.nodup_cons] at hnn
    obtain ⟨_, ⟨hY, _⟩, hXY⟩ := hnn
    have q1 : turnD rev a.it.key (dat (R'.take X0.length)) = dat (R'.take X0.length) := turnD_none (fun hm => hXY _ hm _ (by simp) rfl)
    have q2 : turnD rev a.it.key (dat (R'.drop (X0.length + 1))) = dat (R'.drop (X0.length + 1)) := turnD_none hY
    have q3 : turnD rev a.it.key ((a.it.key, r.ms) :: dat (R'.drop (X0.length + 1))) = (a.it.key, cutL rev r.ms) :: turnD rev a.it.key (dat (R'.drop (X0.length + 1))) := by simp [turnD]
    rw [hd, turnD_append, q1, q3, q2, hset]
    simp [dat]
  · rw [hfl'] at hk
    rcases List.mem_append.1 hk with hk | hk
    · exact .inl (hsub k (List.mem_append_left _ hk)).1
    · rcases List.mem_cons.1 hk with rfl | hk
      · rcases hg' with h | h
        · rw [h]; exact .inl hgown
        · exact .inr h
      · exact .inl (hsub k (List.mem_append_right _ hk)).1
end
end Go.Proofs.YteeflkkoifgcbabGreat
/- Trim. -/
namespace Go.Proofs.YteeflkkoifgcbabGreat
open Go Go.RowKit Go.Shelf
attribute [local go_sem] Oper.semAt_some

/-- A range over an index's root, and the tree. -/
theorem seq_root2 {w0 : World} {rp : Option Addr} {L : List Itm} {F : List Nat} (hR : Root w0 rp L F) (hnd : F.Nodup) (ha : Asc (keysI L)) (lo : ByteArray) (n B1 B2 : Nat) (w : World) (hb0 : Below w0.heap.size w0 w)
    (hc1 : w.cell? ⟨B1, 0, none⟩ = some (.pointer rp)) (hc2 : w.cell? ⟨B2, 0, none⟩ = some (.string lo)) :
    ∃ h b n', (L ≠ [] → ∃ its, rp = some ⟨b, 0, none⟩ ∧ Tre w0 h b its L F ∧ its.length = n' ∧ 1 ≤ n' ∧ n' ≤ 4) ∧ SeqStopsK Fence.wide n Tryz.prog 58 #[.pointer (some ⟨B1, 0, none⟩), .pointer (some ⟨B2, 0, none⟩)] (fun x : SlotA w0 h b n' L F => #[Value.pointer (some (encA x))]) (KpS w0 F) (fun ys => ys.map (fun x => x.it) = filt lo L) (fun pre => pre.map (fun x => x.it) <+: filt lo L) (filt lo L).length w := by
  rcases hR with ⟨rfl, rfl, rfl⟩ | ⟨h, b, its, rfl, ht, h1, h4⟩
  · exact ⟨0, 0, 0, fun h => absurd rfl h, seq_nil w0 0 0 0 [] lo n B1 B2 w hc1 hc2⟩
  · exact ⟨h, b, its.length, fun _ => ⟨its, rfl, ht, rfl, h1, h4⟩, seq_tre ht hnd ha h1 (by omega) lo n B1 B2 w hb0 hc1 hc2⟩
/-- The range's state. -/
structure TJ (w : World) (x : Nat) (rp : Option Addr) (n : Int) (h b nT : Nat) (R : List IM) (F Ft : List Nat) (rev : Int) (keys : List ByteArray) (R' : List IM) (v : Value) (gone : List ByteArray) (W : World) : Prop where
  ti : TI w x rp n h b nT R F Ft R' W
  st : trS rev (dat R) keys = (dat R', gone)
  bx : W.heap[w.heap.size + 1]? = some (.cells #[v] 51 (0, 0))
  row : W.ownsRow (w.heap.size + 4) 9 1 v gone.length (strs gone)
  dis : ∀ k, v.ownBlock = some k → k ∉ R'.flatMap ownM
  rv : W.heap[w.heap.size]? = some (.cells #[.int .i64 rev] 3 (0, 0))
  size : w.heap.size + 4 ≤ W.heap.size
  len : gone.length ≤ keys.length
/-- What a round is to leave. -/
def TFin (w : World) (x : Nat) (rp : Option Addr) (n : Int) (h b nT : Nat) (R : List IM) (F Ft : List Nat) (rev : Int) (keys : List ByteArray) (W W' : World) : Prop :=
  KeepsFrom (w.heap.size + 4) W W' ∧ KpS w Ft W W' ∧ ∃ R' v gone, TJ w x rp n h b nT R F Ft rev keys R' v gone W'
/-- The world behind the store of an item's marks. -/
structure TMid (w : World) (x : Nat) (rp : Option Addr) (n : Int) (h b nT : Nat) (R : List IM) (F Ft : List Nat) (rev : Int) (keys : List ByteArray) (key : ByteArray) (ag ai : Nat) (ms : List Mk) (v : Value) (gone : List ByteArray) (W W5 : World) : Prop where
  c0 : W5.cell? ⟨ag, ai * 2, none⟩ = some (.string key)
  bx : W5.heap[w.heap.size + 1]? = some (.cells #[v] 51 (0, 0))
  row : W5.ownsRow (w.heap.size + 4) 9 1 v gone.length (strs gone)
  size : w.heap.size + 4 ≤ W5.heap.size
  full : cutL rev ms ≠ [] → TFin w x rp n h b nT R F Ft rev (keys ++ [key]) W W5
  gone : cutL rev ms = [] → ∀ V2 w' nv, Below W5.heap.size W5 V2 → Upd V2 w' (fun k => some k = v.ownBlock) → (nv.ownBlock = v.ownBlock ∨ nv.ownBlock = some V2.heap.size) → w'.ownsRow (w.heap.size + 4) 9 1 nv (gone.length + 1) (strs gone ++ strs [key]) → TFin w x rp n h b nT R F Ft rev (keys ++ [key]) W (w'.setCell ⟨w.heap.size + 1, 0, none⟩ nv)
section
variable {w : World} {x : Nat} {rp : Option Addr} {n : Int} {h b nT : Nat} {R : List IM} {F Ft : List Nat} {rev : Int} {keys : List ByteArray} {R' : List IM} {v : Value} {gone : List ByteArray} {W : World} (H : TJ w x rp n h b nT R F Ft rev keys R' v gone W)
include H
theorem TJ.grown (hF : ∀ k ∈ x :: Ft, k < w.heap.size) {W' : World} {row : Option Nat} (hg : W.grownBy W' row) (hr : ∀ r, row = some r → w.heap.size + 4 ≤ r ∧ ∃ o : Obj, W.heap[r]? = some o ∧ o.isCells = false) : TJ w x rp n h b nT R F Ft rev keys R' v gone W' :=
  ⟨H.ti.grown hF hg hr, H.st, grown_cells hg hr H.bx, ownsRow_grown hg hr H.row, H.dis, grown_cells hg hr H.rv, Nat.le_trans H.size hg.size, H.len⟩
theorem TJ.next {its : List Itm} (ht : Tre w h b its (R.map IM.it) Ft) (hnd : Ft.Nodup) (ha : Asc (keysR R)) (hFF : ∀ k ∈ x :: Ft, k ∈ F) (hFl : ∀ k ∈ F, k < w.heap.size) (hxF : x ∉ Ft) (a : SlotA w h b nT (R.map IM.it) Ft) :
    ∃ g c ms, W.cell? ⟨a.g, a.i * 2 + 1, none⟩ = some (.slice (some ⟨g, 0, none⟩) ms.length c) ∧ W.frozen? ⟨a.g, a.i * 2 + 1, none⟩ = false ∧ Mks W (.slice (some ⟨g, 0, none⟩) ms.length c) ms ∧ MAscH ms ∧ ms.length ≤ 1000000 ∧ a.g < W.heap.size ∧
      ∀ V v', NeedPost W V (.slice (some ⟨g, 0, none⟩) ms.length c) v' ms (cutM ms rev) → (∃ g' c', v' = .slice (some ⟨g', 0, none⟩) (cutL rev ms).length c') ∧ TMid w x rp n h b nT R F Ft rev keys a.it.key a.g a.i ms v gone W (V.setCell ⟨a.g, a.i * 2 + 1, none⟩ v') := by
  obtain ⟨j, r, g, c, hr, hlk, e1, e2, e3, hM, m1, m2, hnx⟩ := H.ti.turn ht hnd ha hFF hFl hxF H.size rev a
  have hag : a.g < w.heap.size := hFl _ (hFF _ (by simp [a.ok.mem]))
  have hz := H.size
  refine ⟨g, c, r.ms, e1, e2, hM, m1, m2, by omega, fun V v' hNP => ?_⟩
  obtain ⟨T5, hd5, kp5, ⟨g', c', hv', _⟩, own5, hoth, _⟩ := hnx V v' hNP
  have hVB := hNP.2
  have hz5 : W.heap.size ≤ (V.setCell ⟨a.g, a.i * 2 + 1, none⟩ v').heap.size := by rw [size_setCell]; exact hVB.size
  have hst : trS rev (dat R) (keys ++ [a.it.key]) = (dat (R'.set j ⟨⟨a.it.key, v'⟩, cutL rev r.ms⟩), gone ++ if cutL rev r.ms = [] then [a.it.key] else []) := by
    rw [trS_snoc, H.st, trF, hd5]
    simp only [goneD, hlk]
  have K5 : KeepsFrom (w.heap.size + 4) W (V.setCell ⟨a.g, a.i * 2 + 1, none⟩ v') := ⟨hz5, fun k o hk ho _ => (hoth k (Array.getElem?_eq_some_iff.1 ho).1 (by omega)).trans ho⟩
  have vlt : ∀ k, v.ownBlock = some k → k < W.heap.size ∧ w.heap.size + 4 ≤ k := fun k hk => by
    obtain ⟨h1, cc, f, hh⟩ := ownBlock_ge H.row hk
    exact ⟨(Array.getElem?_eq_some_iff.1 hh).1, h1⟩
  have dis5 : ∀ k, v.ownBlock = some k → k ∉ (R'.set j ⟨⟨a.it.key, v'⟩, cutL rev r.ms⟩).flatMap ownM := fun k hk hm => by
    rcases own5 k hm with h1 | h1
    · exact H.dis k hk h1
    · have := (vlt k hk).1; omega
  have bx5 := (hoth (w.heap.size + 1) (by omega) (by omega)).trans H.bx
  have rv5 := (hoth w.heap.size (by omega) (by omega)).trans H.rv
  have row5 : (V.setCell ⟨a.g, a.i * 2 + 1, none⟩ v').ownsRow (w.heap.size + 4) 9 1 v gone.length (strs gone) := ownsRow_agree H.row (fun k hk => hoth k (vlt k hk).1 (by have := (vlt k hk).2; omega))
  refine ⟨⟨g', c', hv'⟩, ?_, bx5, row5, by omega, fun hne => ?_, fun he V2 w' nv hV2 p2 p3 p1 => ?_⟩
  · have hVc : V.cell? ⟨a.g, a.i * 2, none⟩ = some (.string a.it.key) := (hVB.cell (p := ⟨a.g, a.i * 2, none⟩) (by show a.g < W.heap.size; omega)).trans e3
    rw [World.cell?_setCell_other _ _ _ _ (by intro e; simp only [Addr.mk.injEq] at e; omega)]
    exact hVc
  · refine ⟨K5, ⟨kp5, hz5⟩, _, v, gone, T5, ?_, bx5, row5, dis5, rv5, by omega, ?_⟩
    · rw [hst, if_neg hne, List.append_nil]
    · have := H.len; simp; omega
  · generalize V.setCell ⟨a.g, a.i * 2 + 1, none⟩ v' = W5 at *
    obtain ⟨f1, f2, f3, f4, f5⟩ := app_fin bx5 row5 (by omega) (by omega) hV2 p2 p1 (w.heap.size + 4)
    have hFtl : ∀ k ∈ x :: Ft, k < w.heap.size := fun k hk => hFl k (hFF k hk)
    have hfl : ∀ k, k < w.heap.size → (w'.setCell ⟨w.heap.size + 1, 0, none⟩ nv).heap[k]? = W5.heap[k]? := fun k hk => f5 k (by omega) (by omega)
    have hm5 : ∀ k ∈ (R'.set j ⟨⟨a.it.key, v'⟩, cutL rev r.ms⟩).flatMap ownM, k < W5.heap.size := fun k hk => by
      obtain ⟨r, hrm, hk⟩ := List.mem_flatMap.1 hk
      simp only [ownM, Option.mem_toList] at hk
      obtain ⟨_, _, _, hM⟩ := T5.mks r hrm
      exact owns_lt hM hk
    refine ⟨K5.trans f1, ⟨kp5.trans (KpT.of_block fun k hk => hfl k (hFtl k (by simp [hk]))), Nat.le_trans hz5 f1.size⟩, _, nv, gone ++ [a.it.key], T5.agree (hfl x (hFtl x (by simp))) (fun k hk => hfl k (hFtl k (by simp [hk]))) (fun k hk => ?_) ?_, ?_, f3, ?_, fun k hk hm => ?_, ?_, Nat.le_trans (by omega) f1.size, ?_⟩
    · have hb : k ≠ w.heap.size + 1 := fun e => by
        rcases T5.own k hk with ⟨h1, _⟩ | h1
        · have := hFl k h1; omega
        · omega
      rw [heap_setCell_other _ _ _ _ _ hb]
      exact (p2.block k (Nat.lt_of_lt_of_le (hm5 k hk) hV2.size) (fun e => dis5 k e.symm hk)).trans (hV2.block k (hm5 k hk))
    · exact ⟨f2.os.trans T5.upd.os, f2.tape.trans T5.upd.tape, f2.output.trans T5.upd.output, Nat.le_trans T5.upd.size f1.size, fun k hk hn => (hfl k hk).trans (T5.upd.block k hk hn)⟩
    · rw [hst, if_pos he]
    · simpa [strs] using f4
    · rcases p3 with p3 | p3
      · exact dis5 k (by rw [← p3]; exact hk) hm
      · rw [hk] at p3
        have h1 := hm5 k hm
        have h2 := hV2.size
        have h3 : k = V2.heap.size := Option.some.inj p3
        omega
    · exact (f5 w.heap.size (by omega) (by omega)).trans rv5
    · have := H.len; simp; omega
end
end Go.Proofs.YteeflkkoifgcbabGreat
/- Trim: the keys that go. -/
namespace Go.Proofs.YteeflkkoifgcbabGreat
open Go Go.RowKit Go.Shelf

structure TL (w W1 : World) (x : Nat) (F : List Nat) (O : Nat → Prop) (Ri : List IM) (W : World) : Prop where
  ex : ∃ rp Fi, xrow W x rp Ri.length ∧ Root W rp (Ri.map IM.it) Fi ∧ (x :: Fi).Nodup ∧ (∀ k ∈ x :: Fi, k ∈ F ∨ w.heap.size ≤ k) ∧ (∀ k, O k → k ∉ x :: Fi)
  asc : Asc (keysR Ri)
  keep : ∀ k, O k → k < W.heap.size ∧ W.heap[k]? = W1.heap[k]?
  upd : Upd w W (fun k => k ∈ F)
theorem filter_mid {RX RZ : List IM} {r : IM} (h : Asc (keysR (RX ++ r :: RZ))) : (RX ++ r :: RZ).filter (fun s => !decide (s.it.key = r.it.key)) = RX ++ RZ := by
  have hn := asc_nodupN h
  simp only [keysR, List.map_append, List.map_cons, List.nodup_append, List.nodup_cons] at hn
  obtain ⟨_, ⟨h2, _⟩, h3⟩ := hn
  rw [List.filter_append, List.filter_cons, List.filter_eq_self.2, List.filter_eq_self.2]
  · simp
  · intro s hs
    have : s.it.key ≠ r.it.key := fun e => h2 (by rw [← e]; exact List.mem_map_of_mem (f := fun r : IM => r.it.key) hs)
    simp [this]
  · intro s hs
    have : s.it.key ≠ r.it.key := fun e => h3 s.it.key (List.mem_map_of_mem (f := fun r : IM => r.it.key) hs) r.it.key (by simp) e
    simp [this]
theorem asc_filter {p : IM → Bool} {R : List IM} (h : Asc (keysR R)) : Asc (keysR (R.filter p)) := asc_sublist ((List.filter_sublist (p := p) (l := R)).map _) h
theorem TL.drop {w W1 : World} {x : Nat} {F : List Nat} {O : Nat → Prop} {Ri : List IM} {W : World} (H : TL w W1 x F O Ri W) (key : ByteArray) (hk : key ∈ keysR Ri) (hl : Ri.length ≤ 1000000) :
    Calls Tryz.prog 40 #[ptr x, .string key] W fun e W' => e = .returned (.tuple #[]) ∧ TL w W1 x F O (Ri.filter fun s => !decide (s.it.key = key)) W' := by
  obtain ⟨rp, Fi, hx, hR, hnd, hsub, hO⟩ := H.ex
  have hpos : 1 ≤ Ri.length := by
    cases Ri with
    | nil => simp at hk
    | cons a l => simp
  refine (idrop_any hx hR hnd (by rw [keysI_map]; exact H.asc) key (by rw [keysI_map]; exact hk) hpos hl).mono ?_
  rintro e W' ⟨rfl, X, s, Z, rp', F', hL, hsk, hx', hR', hS⟩
  obtain ⟨RX, r, RZ, rfl, rfl, rfl, rfl⟩ := split_map IM.it hL
  subst hsk
  rw [filter_mid H.asc]
  have hasc : Asc (keysR (RX ++ RZ)) := by
    have := asc_filter (p := fun s => !decide (s.it.key = r.it.key)) H.asc
    rwa [filter_mid H.asc] at this
  have hOW : ∀ k, O k → k ∉ x :: F' := fun k hk hm => (hS.sub k hm).elim (hO k hk) (fun h => by have := (H.keep k hk).1; omega)
  refine ⟨rfl, ⟨rp', F', ?_, ?_, hS.nd, fun k hk => ?_, hOW⟩, hasc, fun k hk => ⟨Nat.lt_of_lt_of_le (H.keep k hk).1 hS.upd.size, ?_⟩, ?_⟩
  · have e1 : (((RX ++ r :: RZ).length : Nat) : Int) - 1 = ((RX ++ RZ).length : Nat) := by simp; omega
    rw [e1] at hx'
    exact hx'
  · rw [List.map_append]; exact hR'
  · rcases hS.sub k hk with h | h
    · exact hsub k h
    · exact .inr (Nat.le_trans H.upd.size h)
  · exact (hS.upd.block k (H.keep k hk).1 (hO k hk)).trans (H.keep k hk).2
  · exact H.upd.trans hS.upd (fun k hk hm => (hsub k hm).resolve_right (by omega))

theorem fm_sub {α β : Type} (f : α → List β) : ∀ {a b : List α}, a.Sublist b → (a.flatMap f).Sublist (b.flatMap f)
  | _, _, .slnil => List.Sublist.refl _
  | _, _, .cons _ s => by rw [List.flatMap_cons]; exact (fm_sub f s).trans (List.sublist_append_right _ _)
  | _, _, .cons_cons _ s => by rw [List.flatMap_cons, List.flatMap_cons]; exact (List.Sublist.refl _).append (fm_sub f s)
/-- What Trim leaves. -/
def TrimP (w : World) (x : Nat) (R : List IM) (F : List Nat) (rev : Int) (w' : World) : Prop := ∃ R2 F2, Ix w' x R2 F2 ∧ dat R2 = trimD rev (dat R) ∧ Step w w' F F2
theorem mem_datN {R : List IM} {r : IM} (h : r ∈ R) : (r.it.key, r.ms) ∈ dat R := List.mem_map.2 ⟨r, h, rfl⟩
theorem nodup_fst {D : Dat} (h : (D.map Prod.fst).Nodup) {p q : ByteArray × List Mk} (hp : p ∈ D) (hq : q ∈ D) (e : p.1 = q.1) : p = q := by
  obtain ⟨i, hi⟩ := List.getElem?_of_mem hp
  obtain ⟨j, hj⟩ := List.getElem?_of_mem hq
  have h1 : (D.map Prod.fst)[i]? = some p.1 := by simp [hi]
  have h2 : (D.map Prod.fst)[j]? = some p.1 := by simp [hj, e]
  have := (List.getElem?_inj (by have := (List.getElem?_eq_some_iff.1 hi).1; simpa using this) h).1 (h1.trans h2.symm)
  subst this
  rw [hi] at hj
  exact Option.some.inj hj
/-- Behind the way through the tree: which keys go. -/
theorem gone_iff {R R' : List IM} {rev : Int} {gone : List ByteArray} (ha : Asc (keysR R)) (hst : trS rev (dat R) (keysR R) = (dat R', gone)) : (∀ r ∈ R', (r.it.key ∈ gone ↔ r.ms = [])) ∧ gone.Nodup ∧ (∀ k ∈ gone, k ∈ keysR R') ∧ dat (R'.filter fun r => !r.ms.isEmpty) = trimD rev (dat R) := by
  have hall := trS_all rev (dat R) (by rw [dat_keys]; exact ha)
  rw [dat_keys, hst] at hall
  obtain ⟨h1, h2⟩ := Prod.mk.inj hall
  have hnd : ((dat R).map Prod.fst).Nodup := by rw [dat_keys]; exact asc_nodupN ha
  refine ⟨fun r hr => ?_, ?_, fun k hk => ?_, ?_⟩
  · have hm := mem_datN hr
    rw [h1] at hm
    obtain ⟨p, hp, he⟩ := List.mem_map.1 hm
    simp only [Prod.mk.injEq] at he
    rw [h2]
    constructor
    · intro hg
      obtain ⟨q, hq, hqk⟩ := List.mem_map.1 hg
      obtain ⟨hq1, hq2⟩ := List.mem_filter.1 hq
      have := nodup_fst hnd hp hq1 (he.1.trans hqk.symm)
      subst this
      rw [← he.2]
      simpa using hq2
    · intro hms
      refine List.mem_map.2 ⟨p, List.mem_filter.2 ⟨hp, ?_⟩, he.1⟩
      rw [he.2, hms]; rfl
  · rw [h2]
    exact hnd.sublist ((List.filter_sublist).map _)
  · rw [h2] at hk
    obtain ⟨q, hq, rfl⟩ := List.mem_map.1 hk
    rw [← dat_keys, h1, List.map_map]
    exact List.mem_map.2 ⟨q, (List.mem_filter.1 hq).1, rfl⟩
  · rw [trimD, ← h1]
    simp only [dat, List.filter_map]
    rfl
/-- All is together again. -/
theorem TL.ix {w W1 : World} {x : Nat} {R : List IM} {F Ft : List Nat} {O : Nat → Prop} {R' : List IM} {W W' : World} {D : Nat} {rp : Option Addr} {n : Int} {h b nT : Nat} {rev : Int} {gone : List ByteArray} (H : TL w W1 x F O (R'.filter fun r => !r.ms.isEmpty) W) (T : TI w x rp n h b nT R F Ft R' W1) (hO : ∀ k ∈ R'.flatMap ownM, O k) (hD : O D) (hWD : W1.heap[D]? = some (.deferred (some [])))
    (ha : Asc (keysR R)) (hst : trS rev (dat R) (keysR R) = (dat R', gone)) (hg : W.grownBy W' (some D)) (hDl : w.heap.size ≤ D) : TrimP w x R F rev W' := by
  obtain ⟨rp', Fi, hx, hR, hnd, hsub, hOk⟩ := H.ex
  obtain ⟨_, _, _, hdat⟩ := gone_iff ha hst
  have hDF : D ∉ x :: Fi := hOk D hD
  have hltF : ∀ k ∈ x :: Fi, k < W.heap.size := fun k hk => by
    rcases List.mem_cons.1 hk with rfl | hk
    · exact hx.lt
    · exact hR.lt k hk
  have hagF : ∀ k ∈ x :: Fi, W'.heap[k]? = W.heap[k]? := fun k hk => hg.block k (hltF k hk) (fun e => hDF (by rw [← Option.some.inj e]; exact hk))
  have hsubM : ∀ k ∈ (R'.filter fun r => !r.ms.isEmpty).flatMap ownM, k ∈ R'.flatMap ownM := fun k hk => by
    obtain ⟨r, hr, hk⟩ := List.mem_flatMap.1 hk
    exact List.mem_flatMap.2 ⟨r, (List.mem_filter.1 hr).1, hk⟩
  have hmD : ∀ k ∈ R'.flatMap ownM, k ≠ D := fun k hk e => by
    obtain ⟨r, hr, hk⟩ := List.mem_flatMap.1 hk
    simp only [ownM, Option.mem_toList] at hk
    obtain ⟨_, _, _, hM⟩ := T.mks r hr
    obtain ⟨_, c, f, hh⟩ := ownBlock_ge hM hk
    rw [e, hWD] at hh
    cases hh
  have hagM : ∀ k ∈ R'.flatMap ownM, W'.heap[k]? = W1.heap[k]? := fun k hk => (hg.block k (H.keep k (hO k hk)).1 (fun e => hmD k hk (Option.some.inj e))).trans (H.keep k (hO k hk)).2
  have hndM : ((R'.filter fun r => !r.ms.isEmpty).flatMap ownM).Nodup := T.nd.sublist (fm_sub ownM List.filter_sublist)
  have hnd2 : (x :: (Fi ++ (R'.filter fun r => !r.ms.isEmpty).flatMap ownM)).Nodup := by
    have : ((x :: Fi) ++ (R'.filter fun r => !r.ms.isEmpty).flatMap ownM).Nodup := List.nodup_append.2 ⟨hnd, hndM, fun a ha b hb e => hOk b (hO b (hsubM b hb)) (e ▸ ha)⟩
    simpa using this
  have hix : Ix W' x (R'.filter fun r => !r.ms.isEmpty) (x :: (Fi ++ (R'.filter fun r => !r.ms.isEmpty).flatMap ownM)) := by
    refine ⟨⟨rp', Fi, (hagF x (by simp)).trans hx, ?_, rfl⟩, H.asc, fun r hr => ?_, hnd2⟩
    · rcases hR with hR | ⟨h', b', its2, e, t, l1, l4⟩
      · exact .inl hR
      · exact .inr ⟨h', b', its2, e, t.agree (fun k hk => hagF k (List.mem_cons_of_mem _ hk)), l1, l4⟩
    · obtain ⟨hr1, hr2⟩ := List.mem_filter.1 hr
      obtain ⟨_, _, _, hM⟩ := T.mks r hr1
      refine ⟨ownsRow_agree hM (fun k hk => hagM k (mem_ownM hr1 hk)), ?_⟩
      cases hms : r.ms with
      | nil => rw [hms] at hr2; simp at hr2
      | cons a l => simp
  refine ⟨_, _, hix, hdat, ⟨hg.os.trans H.upd.os, hg.tape.trans H.upd.tape, hg.output.trans H.upd.output, Nat.le_trans H.upd.size hg.size, fun k hk hn => (hg.block k (Nat.lt_of_lt_of_le hk H.upd.size) (fun e => by have := Option.some.inj e; omega)).trans (H.upd.block k hk hn)⟩, hnd2, fun k hk => ?_, hix.lt⟩
  rw [← List.cons_append] at hk
  rcases List.mem_append.1 hk with hk | hk
  · exact hsub k hk
  · rcases T.own k (hsubM k hk) with ⟨h1, _⟩ | h1
    · exact .inl h1
    · exact .inr (by omega)
end Go.Proofs.YteeflkkoifgcbabGreat
