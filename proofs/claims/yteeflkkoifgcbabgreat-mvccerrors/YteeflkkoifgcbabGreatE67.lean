/- An index in memory. -/
import Derived.Test.YteeflkkoifgcbabGreatEA
import Derived.Test.YteeflkkoifgcbabGreatEB
namespace Go.Proofs.YteeflkkoifgcbabGreat
open Go Go.RowKit

/-- An item, and its marks. -/
structure IM where
  it : Itm
  ms : List Mk
def ownM (r : IM) : List Nat := r.it.mv.ownBlock.toList
abbrev keysR (R : List IM) : List ByteArray := R.map (fun r => r.it.key)
structure Ix (w : World) (x : Nat) (R : List IM) (F : List Nat) : Prop where
  ex : ∃ rp Ft, xrow w x rp R.length ∧ Root w rp (R.map IM.it) Ft ∧ F = x :: (Ft ++ R.flatMap ownM)
  asc : Asc (keysR R)
  mks : ∀ r ∈ R, Mks w r.it.mv r.ms ∧ 0 < r.ms.length
  nd : F.Nodup
/-- What an index says: its keys, rising, and the marks of each. -/
abbrev Dat := List (ByteArray × List Mk)
def dat (R : List IM) : Dat := R.map fun r => (r.it.key, r.ms)
theorem dat_len (R : List IM) : (dat R).length = R.length := by simp [dat]
theorem keysI_map (R : List IM) : keysI (R.map IM.it) = keysR R := by simp [keysI, keysR]
theorem Ix.upd {w w' : World} {S : Nat → Prop} (hu : Upd w w' S) {x : Nat} {R : List IM} {F : List Nat} (h : Ix w x R F) (hS : ∀ k ∈ F, ¬ S k) : Ix w' x R F := by
  obtain ⟨rp, Ft, h1, h2, h3⟩ := h.ex
  refine ⟨⟨rp, Ft, (hu.block x h1.lt (hS x (by rw [h3]; simp))).trans h1, h2.upd hu (fun k hk => hS k (by rw [h3]; simp [hk])), h3⟩, h.asc, fun r hr => ⟨ownsRow_upd (h.mks r hr).1 hu (fun k hk => hS k ?_), (h.mks r hr).2⟩, h.nd⟩
  rw [h3]
  refine List.mem_cons_of_mem _ (List.mem_append_right _ (List.mem_flatMap.2 ⟨r, hr, ?_⟩))
  simp [ownM, hk]
theorem Ix.below {w w' : World} (hb : Below w.heap.size w w') {x : Nat} {R : List IM} {F : List Nat} (h : Ix w x R F) : Ix w' x R F := h.upd (S := fun _ => False) (Upd.ofBelow hb) (fun _ _ h => h)
theorem Ix.lt {w : World} {x : Nat} {R : List IM} {F : List Nat} (h : Ix w x R F) : ∀ k ∈ F, k < w.heap.size := by
  obtain ⟨rp, Ft, h1, h2, h3⟩ := h.ex
  intro k hk
  rw [h3] at hk
  rcases List.mem_cons.1 hk with rfl | hk
  · exact h1.lt
  · rcases List.mem_append.1 hk with hk | hk
    · exact h2.lt k hk
    · obtain ⟨r, hr, hk⟩ := List.mem_flatMap.1 hk
      simp only [ownM, Option.mem_toList] at hk
      exact owns_lt (h.mks r hr).1 hk
theorem Ix.step {w w' : World} {G G' : List Nat} (hs : Step w w' G G') {x : Nat} {R : List IM} {F : List Nat} (h : Ix w x R F) (hd : ∀ k ∈ F, k ∉ G) : Ix w' x R F := h.upd hs.upd hd

set_option maxRecDepth 100000 in
set_option maxHeartbeats 1000000 in
theorem find_nil (key : ByteArray) (w : World) : Calls Tryz.prog 56 #[.pointer none, .string key] w fun e w' => e = .returned (.pointer none) ∧ w' = w := by
  go_enter Tryz.func56, Tryz.ntmps56
  go_wp2
  go_loop [0] (fun s => s = .pointer none) (fun _ => 0)
  case atStart => rfl
  case round =>
    subst hrel
    go_wp2
    go_ret
    exact ⟨rfl, rfl⟩
/-- Where an item stands in an index. -/
structure At (w : World) (x : Nat) (R : List IM) (F : List Nat) (key : ByteArray) (g i mg c : Nat) (X Z : List IM) (ms : List Mk) : Prop where
  parts : R = X ++ ⟨⟨key, .slice (some ⟨mg, 0, none⟩) ms.length c⟩, ms⟩ :: Z
  mv : w.cell? ⟨g, i * 2 + 1, none⟩ = some (.slice (some ⟨mg, 0, none⟩) ms.length c)
  free : w.frozen? ⟨g, i * 2 + 1, none⟩ = false
  inF : g ∈ F
  ne : g ≠ mg
  put : ∀ w' : World, (∀ k ∈ F, k ≠ mg → w'.heap[k]? = w.heap[k]?) → w.heap.size ≤ w'.heap.size → ∀ v' ms', Mks w' v' ms' → 0 < ms'.length → (v'.ownBlock = some mg ∨ ∃ j, v'.ownBlock = some j ∧ w.heap.size ≤ j) →
    ∃ F', Ix (w'.setCell ⟨g, i * 2 + 1, none⟩ v') x (X ++ ⟨⟨key, v'⟩, ms'⟩ :: Z) F' ∧ F'.Nodup ∧ (∀ k ∈ F', k ∈ F ∨ w.heap.size ≤ k)
theorem split_map {α β : Type} (f : α → β) : ∀ {l : List α} {a : List β} {b : β} {c : List β}, l.map f = a ++ b :: c → ∃ X r Z, l = X ++ r :: Z ∧ X.map f = a ∧ f r = b ∧ Z.map f = c := by
  intro l a b c h
  obtain ⟨X, Y, rfl, h1, h2⟩ := List.map_eq_append_iff.1 h
  cases Y with
  | nil => simp at h2
  | cons r Z => simp only [List.map_cons, List.cons.injEq] at h2; exact ⟨X, r, Z, rfl, h1, h2.1, h2.2⟩
theorem At.of {w : World} {x : Nat} {R : List IM} {F : List Nat} (H : Ix w x R F) {rp : Option Addr} {Ft : List Nat} (hx : xrow w x rp R.length) (hF : F = x :: (Ft ++ R.flatMap ownM)) {h b n g i : Nat} {it : Itm} (hrp : rp = some ⟨b, 0, none⟩) (hn1 : 1 ≤ n) (hn4 : n ≤ 4) (hs : Slot w h b n (R.map IM.it) Ft g i it) :
    ∃ mg c X Z ms, At w x R F it.key g i mg c X Z ms ∧ Mks w (.slice (some ⟨mg, 0, none⟩) ms.length c) ms ∧ 0 < ms.length := by
  obtain ⟨LX, LZ, hL, hput⟩ := hs.put
  obtain ⟨X, r, Z, rfl, hX, hr, hZ⟩ := split_map IM.it hL
  have hrm : r ∈ X ++ r :: Z := by simp
  obtain ⟨hM, hpos⟩ := H.mks r hrm
  obtain ⟨rit, rms⟩ := r
  dsimp only at hr hM hpos
  subst hr
  obtain ⟨mg, c, hmv, _, _⟩ := owns_form1 hM hpos
  obtain ⟨key, mv⟩ := rit
  dsimp only at hmv hput
  subst hmv
  have hnd := H.nd
  rw [hF] at hnd
  have hgF : g ∈ F := by rw [hF]; exact List.mem_cons_of_mem _ (List.mem_append_left _ hs.mem)
  have gm0 : g ≠ mg := fun e => by
    have h2 := (List.nodup_append.1 (List.nodup_cons.1 hnd).2).2.2 g hs.mem mg (List.mem_flatMap.2 ⟨_, hrm, by simp [ownM, Value.ownBlock]⟩)
    exact h2 e
  refine ⟨mg, c, X, Z, rms, ⟨rfl, hs.mv, hs.free, hgF, gm0, ?_⟩, hM, hpos⟩
  intro w' hw hz v' ms' hM' hp' hb'
  -- what the Nodup says
  have hfl : (X ++ (⟨⟨key, .slice (some ⟨mg, 0, none⟩) rms.length c⟩, rms⟩ : IM) :: Z).flatMap ownM = X.flatMap ownM ++ mg :: Z.flatMap ownM := by simp [ownM, Value.ownBlock]
  rw [hfl] at hnd hF
  have hall : ∀ k ∈ x :: (Ft ++ (X.flatMap ownM ++ mg :: Z.flatMap ownM)), k ∈ F := fun k hk => by rw [hF]; exact hk
  simp only [List.nodup_cons, List.nodup_append, List.mem_append, List.mem_cons, not_or] at hnd
  obtain ⟨⟨x1, x2, x3, x4⟩, ft, ⟨xo, ⟨mz, zo⟩, xz⟩, ftd⟩ := hnd
  have mgFt : mg ∉ Ft := fun hm => ftd mg hm mg (.inr (.inl rfl)) rfl
  have mgX : mg ∉ X.flatMap ownM := fun hm => xz mg hm mg (.inl rfl) rfl
  have gFt := hs.mem
  have gx : g ≠ x := fun e => x1 (by rw [← e]; exact gFt)
  have gX : g ∉ X.flatMap ownM := fun hm => ftd g gFt g (.inl hm) rfl
  have gZ : g ∉ Z.flatMap ownM := fun hm => ftd g gFt g (.inr (.inr hm)) rfl
  have gm : g ≠ mg := fun e => mgFt (by rw [← e]; exact gFt)
  have hlt : ∀ k ∈ F, k < w.heap.size := H.lt
  obtain ⟨its', hl', T'⟩ := hput w' (fun k hk => hw k (hall k (by simp [hk])) (fun e => mgFt (by rw [← e]; exact hk))) v' (by obtain ⟨p, c, h, _⟩ := owns_form hM'; exact ⟨p, _, c, h⟩)
  have hother : ∀ k, k ≠ g → (w'.setCell ⟨g, i * 2 + 1, none⟩ v').heap[k]? = w'.heap[k]? := fun k hk => heap_setCell_other w' g _ k v' hk
  obtain ⟨m', hm'⟩ : ∃ m', v'.ownBlock = some m' := by rcases hb' with h | ⟨j, h, _⟩ <;> exact ⟨_, h⟩
  have hm'2 : m' = mg ∨ w.heap.size ≤ m' := by
    rcases hb' with h | ⟨j, h, hj⟩
    · left; rw [hm'] at h; exact Option.some.inj h
    · right; rw [hm'] at h; rw [Option.some.inj h]; exact hj
  have m'F : ∀ k, k ∈ F → k ≠ mg → k ≠ m' := fun k hk hkm e => by
    rcases hm'2 with h | h
    · exact hkm (e.trans h)
    · have := hlt k hk; omega
  have hmg : m' ≠ g := fun e => (m'F g hgF gm) e.symm
  have hfl' : (X ++ (⟨⟨key, v'⟩, ms'⟩ : IM) :: Z).flatMap ownM = X.flatMap ownM ++ m' :: Z.flatMap ownM := by simp [ownM, hm']
  have hnd' : (x :: (Ft ++ (X.flatMap ownM ++ m' :: Z.flatMap ownM))).Nodup := by
    simp only [List.nodup_cons, List.nodup_append, List.mem_append, List.mem_cons, not_or]
    have q1 : ∀ k ∈ X.flatMap ownM, k ≠ m' := fun k hk => m'F k (hall k (by simp [hk])) (fun e => mgX (by rw [← e]; exact hk))
    have q2 : ∀ k ∈ Z.flatMap ownM, k ≠ m' := fun k hk => m'F k (hall k (by simp [hk])) (fun e => mz (by rw [← e]; exact hk))
    have q3 : ∀ k ∈ Ft, k ≠ m' := fun k hk => m'F k (hall k (by simp [hk])) (fun e => mgFt (by rw [← e]; exact hk))
    have q4 : x ≠ m' := m'F x (hall x (by simp)) x3
    refine ⟨⟨x1, x2, q4, x4⟩, ft, ⟨xo, ⟨fun hm => q2 m' hm rfl, zo⟩, fun a ha b hb => ?_⟩, fun a ha b hb => ?_⟩
    · rcases hb with rfl | hb
      · exact q1 a ha
      · exact xz a ha b (.inr hb)
    · rcases hb with hb | rfl | hb
      · exact ftd a ha b (.inl hb)
      · exact q3 a ha
      · exact ftd a ha b (.inr (.inr hb))
  refine ⟨x :: (Ft ++ (X.flatMap ownM ++ m' :: Z.flatMap ownM)), ⟨⟨rp, Ft, ?_, .inr ⟨h, b, its', hrp, ?_, by omega, by omega⟩, by rw [hfl']⟩, ?_, ?_, hnd'⟩, hnd', ?_⟩
  · have := (hother x gx.symm).trans ((hw x (hall x (by simp)) x3).trans hx)
    simpa using this
  · rw [List.map_append, List.map_cons, hX, hZ]; exact T'
  · have := H.asc
    simpa [keysR] using this
  · intro s hs'
    simp only [List.mem_append, List.mem_cons] at hs'
    have hold : ∀ s ∈ X ++ Z, Mks (w'.setCell ⟨g, i * 2 + 1, none⟩ v') s.it.mv s.ms ∧ 0 < s.ms.length := fun s hs' => by
      have hsm : s ∈ X ++ (⟨⟨key, .slice (some ⟨mg, 0, none⟩) rms.length c⟩, rms⟩ : IM) :: Z := by simp only [List.mem_append, List.mem_cons] at hs' ⊢; exact hs'.elim .inl (fun h => .inr (.inr h))
      refine ⟨ownsRow_agree (H.mks s hsm).1 (fun k hk => ?_), (H.mks s hsm).2⟩
      have hks : k ∈ X.flatMap ownM ∨ k ∈ Z.flatMap ownM := by
        rcases List.mem_append.1 hs' with h | h
        · exact .inl (List.mem_flatMap.2 ⟨s, h, by simp [ownM, hk]⟩)
        · exact .inr (List.mem_flatMap.2 ⟨s, h, by simp [ownM, hk]⟩)
      have hkg : k ≠ g := fun e => hks.elim (fun h => gX (by rw [← e]; exact h)) (fun h => gZ (by rw [← e]; exact h))
      have hkm : k ≠ mg := fun e => hks.elim (fun h => mgX (by rw [← e]; exact h)) (fun h => mz (by rw [← e]; exact h))
      rw [hother k hkg]
      exact hw k (hall k (by simp only [List.mem_cons, List.mem_append]; exact .inr (.inr (hks.elim .inl (fun h => .inr (.inr h)))))) hkm
    rcases hs' with hs' | rfl | hs'
    · exact hold s (by simp [hs'])
    · exact ⟨ownsRow_agree hM' (fun k hk => hother k (by rw [hm'] at hk; cases hk; exact hmg)), hp'⟩
    · exact hold s (by simp [hs'])
  · intro k hk
    simp only [List.mem_cons, List.mem_append] at hk
    rcases hk with rfl | hk | hk | rfl | hk
    · exact .inl (hall _ (by simp))
    · exact .inl (hall _ (by simp [hk]))
    · exact .inl (hall _ (by simp [hk]))
    · rcases hm'2 with rfl | h
      · exact .inl (hall _ (by simp))
      · exact .inr h
    · exact .inl (hall _ (by simp [hk]))
/-- find, of an index. -/
theorem find_ix {w : World} {x : Nat} {R : List IM} {F : List Nat} (H : Ix w x R F) (key : ByteArray) {rp : Option Addr} (hrp : w.cell? ⟨x, 0, none⟩ = some (.pointer rp)) (W : World) (hb : Below w.heap.size w W) :
    Calls Tryz.prog 56 #[.pointer rp, .string key] W fun e w' => Below w.heap.size w w' ∧ ((e = .returned (.pointer none) ∧ key ∉ keysR R) ∨ ∃ g i mg c X Z ms, e = .returned (.pointer (some ⟨g, i * 2, none⟩)) ∧ At w x R F key g i mg c X Z ms ∧ Mks w (.slice (some ⟨mg, 0, none⟩) ms.length c) ms ∧ 0 < ms.length) := by
  obtain ⟨rp', Ft, hx, hR, hF⟩ := H.ex
  obtain rfl : rp = rp' := by have := hx.c0; rw [hrp] at this; simpa using this
  have hnd : Ft.Nodup := by have := H.nd; rw [hF] at this; exact (List.nodup_append.1 (List.nodup_cons.1 this).2).1
  rcases hR with ⟨rfl, hL, _⟩ | ⟨h, b, its, rfl, ht, h1, h4⟩
  · refine (find_nil key W).mono ?_
    rintro e w' ⟨rfl, rfl⟩
    refine ⟨hb, .inl ⟨rfl, ?_⟩⟩
    rw [← keysI_map, hL]; simp
  · refine (find_tre (ht.below hb) hnd (by rw [keysI_map]; exact H.asc) (by omega) key).mono ?_
    rintro e w' ⟨hb', ⟨rfl, hno⟩ | ⟨g, i, it, rfl, rfl, hs⟩⟩
    · exact ⟨hb.trans (hb'.mono hb.size), .inl ⟨rfl, by rw [← keysI_map]; exact hno⟩⟩
    · refine ⟨hb.trans (hb'.mono hb.size), .inr ?_⟩
      have hlF : ∀ k ∈ Ft, W.heap[k]? = w.heap[k]? := fun k hk => hb.block k (ht.lt k hk)
      have hgl : g < w.heap.size := ht.lt g hs.mem
      have hs' : Slot w h b its.length (R.map IM.it) Ft g i it := by
        refine ⟨hs.mem, ?_, ?_, ?_, ?_⟩
        · rw [← hs.key]; exact (hb.cell (p := ⟨g, i * 2, none⟩) hgl).symm
        · rw [← hs.mv]; exact (hb.cell (p := ⟨g, i * 2 + 1, none⟩) hgl).symm
        · rw [← hs.free]; exact (hb.frozen (p := ⟨g, i * 2 + 1, none⟩) hgl).symm
        · obtain ⟨X, Z, q1, q2⟩ := hs.put
          exact ⟨X, Z, q1, fun w2 hw2 => q2 w2 (fun k hk => (hw2 k hk).trans (hlF k hk).symm)⟩
      obtain ⟨mg, c, X, Z, ms, hA, hM, hp⟩ := At.of H hx hF rfl h1 h4 hs'
      exact ⟨g, i, mg, c, X, Z, ms, rfl, hA, hM, hp⟩
end Go.Proofs.YteeflkkoifgcbabGreat
/- What Put answers, and leaves, as data. -/
namespace Go.Proofs.YteeflkkoifgcbabGreat
open Go Go.RowKit

def lookD : Dat → ByteArray → Option (List Mk)
  | [], _ => none
  | (k, ms) :: D, key => if k = key then some ms else lookD D key
def setD : Dat → ByteArray → List Mk → Dat
  | [], key, ms => [(key, ms)]
  | (k, m) :: D, key, ms => if klt k key then (k, m) :: setD D key ms else if k = key then (key, ms) :: D else (key, ms) :: (k, m) :: D
def lastM (ms : List Mk) : Mk := ms.getLastD (0, true)
/-- What Put answers. -/
def putE (D : Dat) (key : ByteArray) (rev : Int) (del : Bool) : Int :=
  if key.size = 0 ∨ 100 < key.size ∨ rev < 1 then 1
  else match lookD D key with
    | none => if del then 2 else 0
    | some ms => if rev ≤ (lastM ms).1 then 15 else if del && (lastM ms).2 then 2 else 0
def putD (D : Dat) (key : ByteArray) (rev : Int) (del : Bool) : Dat :=
  if putE D key rev del = 0 then setD D key ((lookD D key).getD [] ++ [(rev, del)]) else D
theorem lookD_none : ∀ {D : Dat} {key : ByteArray}, key ∉ D.map Prod.fst → lookD D key = none
  | [], _, _ => rfl
  | (k, ms) :: D, key, h => by
    simp only [List.map_cons, List.mem_cons, not_or] at h
    simp only [lookD, if_neg (Ne.symm h.1)]
    exact lookD_none h.2
theorem lookD_at : ∀ {X Z : Dat} {key : ByteArray} {ms : List Mk}, Asc ((X ++ (key, ms) :: Z).map Prod.fst) → lookD (X ++ (key, ms) :: Z) key = some ms
  | [], _, _, _, _ => by simp [lookD]
  | (k, m) :: X, Z, key, ms, h => by
    simp only [List.cons_append, List.map_cons, Asc] at h
    have hk : klt k key = true := h.1 key (by simp)
    simp only [List.cons_append, lookD, if_neg (klt_ne hk)]
    exact lookD_at h.2
theorem setD_at : ∀ {X Z : Dat} {key : ByteArray} {ms ms' : List Mk}, Asc ((X ++ (key, ms) :: Z).map Prod.fst) → setD (X ++ (key, ms) :: Z) key ms' = X ++ (key, ms') :: Z
  | [], _, key, _, _, _ => by simp [setD, klt_irrefl]
  | (k, m) :: X, Z, key, ms, ms', h => by
    simp only [List.cons_append, List.map_cons, Asc] at h
    have hk : klt k key = true := h.1 key (by simp)
    simp only [List.cons_append, setD, hk, if_true]
    rw [setD_at h.2]
theorem setD_new : ∀ {D : Dat} {key : ByteArray} {ms : List Mk}, key ∉ D.map Prod.fst → setD D key ms = D.takeWhile (fun p => klt p.1 key) ++ (key, ms) :: D.dropWhile (fun p => klt p.1 key)
  | [], _, _, _ => rfl
  | (k, m) :: D, key, ms, h => by
    simp only [List.map_cons, List.mem_cons, not_or] at h
    by_cases hk : klt k key = true
    · simp only [setD, hk, if_true, List.takeWhile_cons, List.dropWhile_cons]
      rw [setD_new h.2]; rfl
    · simp [setD, hk, if_neg (Ne.symm h.1)]
theorem dat_keys (R : List IM) : (dat R).map Prod.fst = keysR R := by simp [dat, keysR]
/-- An item put among the others. -/
def insR (R : List IM) (r : IM) : List IM := R.takeWhile (fun s => klt s.it.key r.it.key) ++ r :: R.dropWhile (fun s => klt s.it.key r.it.key)
theorem map_takeWhile' {α β : Type} (f : α → β) (p : β → Bool) : ∀ l : List α, (l.map f).takeWhile p = (l.takeWhile (fun a => p (f a))).map f ∧ (l.map f).dropWhile p = (l.dropWhile (fun a => p (f a))).map f
  | [] => by simp
  | a :: l => by
    have ih := map_takeWhile' f p l
    by_cases h : p (f a) = true
    · simp [h, ih.1, ih.2]
    · simp [h]
theorem insR_it (R : List IM) (r : IM) : (insR R r).map IM.it = insI (R.map IM.it) r.it := by
  obtain ⟨h1, h2⟩ := map_takeWhile' IM.it (fun x : Itm => klt x.key r.it.key) R
  simp only [insR, insI, List.map_append, List.map_cons, h1, h2]
theorem insR_dat (R : List IM) (r : IM) (h : r.it.key ∉ keysR R) : dat (insR R r) = setD (dat R) r.it.key r.ms := by
  obtain ⟨h1, h2⟩ := map_takeWhile' (fun s : IM => (s.it.key, s.ms)) (fun p : ByteArray × List Mk => klt p.1 r.it.key) R
  rw [setD_new (by rw [dat_keys]; exact h)]
  simp only [dat, h1, h2, insR, List.map_append, List.map_cons]
theorem insR_mem {R : List IM} {r s : IM} : s ∈ insR R r ↔ s = r ∨ s ∈ R := by
  unfold insR
  rw [List.mem_append, List.mem_cons]
  have : s ∈ R ↔ s ∈ R.takeWhile (fun s => klt s.it.key r.it.key) ∨ s ∈ R.dropWhile (fun s => klt s.it.key r.it.key) := by
    rw [← List.mem_append, List.takeWhile_append_dropWhile]
  rw [this]
  constructor
  · rintro (h | h | h)
    · exact .inr (.inl h)
    · exact .inl h
    · exact .inr (.inr h)
  · rintro (h | h | h)
    · exact .inr (.inl h)
    · exact .inl h
    · exact .inr (.inr h)
theorem insR_len (R : List IM) (r : IM) : (insR R r).length = R.length + 1 := by
  have := congrArg List.length (List.takeWhile_append_dropWhile (p := fun s : IM => klt s.it.key r.it.key) (l := R))
  simp only [List.length_append] at this
  simp [insR]; omega
theorem insR_perm (R : List IM) (r : IM) : (insR R r).Perm (r :: R) := by
  have h := List.takeWhile_append_dropWhile (p := fun s : IM => klt s.it.key r.it.key) (l := R)
  unfold insR
  refine List.perm_middle.trans ?_
  rw [h]
theorem asc_ins : ∀ (R : List IM) (r : IM), Asc (keysR R) → r.it.key ∉ keysR R → Asc (keysR (insR R r))
  | [], r, _, _ => by simp [insR, keysR, Asc]
  | s :: R, r, h, hn => by
    simp only [keysR, List.map_cons, List.mem_cons, not_or] at hn
    by_cases hs : klt s.it.key r.it.key = true
    · have e : insR (s :: R) r = s :: insR R r := by simp [insR, hs]
      rw [e]
      refine ⟨fun j hj => ?_, asc_ins R r h.2 hn.2⟩
      obtain ⟨t, ht, rfl⟩ := List.mem_map.1 hj
      rcases insR_mem.1 ht with rfl | ht
      · exact hs
      · exact h.1 _ (List.mem_map_of_mem ht)
    · have e : insR (s :: R) r = r :: s :: R := by simp [insR, hs]
      have hrs : klt r.it.key s.it.key = true := by
        cases hk : klt r.it.key s.it.key
        · exact absurd (klt_tri hk (by simpa using hs)) hn.1
        · rfl
      rw [e]
      refine ⟨fun j hj => ?_, h⟩
      rcases List.mem_cons.1 hj with rfl | hj
      · exact hrs
      · exact klt_trans hrs (h.1 j hj)
/-- The index with one item more. -/
theorem Ix.added {w W w' : World} {x : Nat} {R : List IM} {F : List Nat} (H : Ix w x R F) (hb : Below w.heap.size w W) {rp : Option Addr} {Ft : List Nat} (hF : F = x :: (Ft ++ R.flatMap ownM)) (r : IM) {mb : Nat} (hmb : r.it.mv.ownBlock = some mb) (hmw : w.heap.size ≤ mb) (hml : mb < W.heap.size) (hM : Mks W r.it.mv r.ms) (hp : 0 < r.ms.length) (hk : r.it.key ∉ keysR R)
    {F' : List Nat} (hx' : xrow w' x rp (R.length + 1)) (hR' : Root w' rp (insI (R.map IM.it) r.it) F') (hs : Step W w' (x :: Ft) (x :: F')) :
    ∃ F2, Ix w' x (insR R r) F2 ∧ Step w w' F F2 := by
  have hnd := H.nd
  have hlt := H.lt
  rw [hF] at hnd hlt
  have hndm : (x :: (Ft ++ (mb :: R.flatMap ownM))).Nodup := by
    have hp : (x :: (Ft ++ (mb :: R.flatMap ownM))).Perm (mb :: (x :: (Ft ++ R.flatMap ownM))) := (List.Perm.cons _ List.perm_middle).trans (List.Perm.swap _ _ _)
    rw [hp.nodup_iff, List.nodup_cons]
    exact ⟨fun h => by have := hlt mb h; omega, hnd⟩
  have hltW : ∀ k ∈ mb :: R.flatMap ownM, k < W.heap.size := fun k hk => by
    rcases List.mem_cons.1 hk with rfl | hk
    · exact hml
    · exact Nat.lt_of_lt_of_le (hlt k (by simp [hk])) hb.size
  have hfr := hs.frame (mb :: R.flatMap ownM) (by simpa using hndm) hltW
  have hpm : ((x :: F') ++ (mb :: R.flatMap ownM)).Perm (x :: (F' ++ (insR R r).flatMap ownM)) := by
    have h1 : ((insR R r).flatMap ownM).Perm (mb :: R.flatMap ownM) := by
      refine ((insR_perm R r).flatMap_right ownM).trans ?_
      simp [ownM, hmb]
    simp only [List.cons_append]
    exact List.Perm.cons _ (List.Perm.append_left _ h1.symm)
  have hdis : ∀ k ∈ mb :: R.flatMap ownM, k ∉ x :: Ft := fun k hk hk' => by
    have h2 : ((x :: Ft) ++ (mb :: R.flatMap ownM)).Nodup := by simpa using hndm
    exact (List.nodup_append.1 h2).2.2 k hk' k hk rfl
  refine ⟨x :: (F' ++ (insR R r).flatMap ownM), ⟨⟨rp, F', ?_, ?_, rfl⟩, asc_ins R r H.asc hk, fun s hs' => ?_, hpm.nodup_iff.1 hfr.nd⟩, ?_⟩
  · rw [insR_len]; simpa using hx'
  · rw [insR_it]; exact hR'
  · rcases insR_mem.1 hs' with rfl | hs'
    · exact ⟨ownsRow_upd hM hs.upd (fun k hk' => by rw [hmb] at hk'; cases hk'; exact hdis mb (by simp)), hp⟩
    · obtain ⟨m1, m2⟩ := H.mks s hs'
      have m1' : Mks W s.it.mv s.ms := ownsRow_upd m1 (Upd.ofBelow (S := fun _ => False) hb) (fun _ _ h => h)
      exact ⟨ownsRow_upd m1' hs.upd (fun k hk' => hdis k (List.mem_cons_of_mem _ (List.mem_flatMap.2 ⟨s, hs', by simp [ownM, hk']⟩))), m2⟩
  · have hup : Upd w w' (fun k => k ∈ F) := (Upd.ofBelow hb).trans hs.upd (fun j hj hj' => by
      rw [hF]
      rcases List.mem_cons.1 hj' with rfl | hj'
      · simp
      · simp [hj'])
    refine ⟨hup, hpm.nodup_iff.1 hfr.nd, fun k hk' => ?_, fun k hk' => hfr.lt k (hpm.mem_iff.2 hk')⟩
    have := hpm.mem_iff.2 hk'
    rcases List.mem_append.1 this with h | h
    · rcases hs.sub k h with h | h
      · left; rw [hF]
        rcases List.mem_cons.1 h with rfl | h
        · simp
        · simp [h]
      · exact .inr (Nat.le_trans hb.size h)
    · rcases List.mem_cons.1 h with rfl | h
      · exact .inr hmw
      · left; rw [hF]; simp [h]
end Go.Proofs.YteeflkkoifgcbabGreat
