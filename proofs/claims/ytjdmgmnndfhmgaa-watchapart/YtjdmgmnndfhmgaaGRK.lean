/- An index by what it says: its calls. -/
import Derived.Test.YtjdmgmnndfhmgaaGRH
import Derived.Test.YtjdmgmnndfhmgaaGRG
import Derived.Test.YtjdmgmnndfhmgaaGRJ
import Derived.BigQuiet
namespace Go.Proofs.Ytjdmgmnndfhmgaa
open Go Go.RowKit

theorem new_xd (w : World) : Calls Try.prog 18 #[] w fun e w' => e = .returned (ptr w.heap.size) ∧ Xd w' w.heap.size [] [w.heap.size] ∧ Below w.heap.size w w' ∧ w'.heap.size = w.heap.size + 1 :=
  (new_any w).mono fun _ _ ⟨h1, h2, h3, h4⟩ => ⟨h1, ⟨[], h2, rfl⟩, h3, h4⟩
section
variable {w : World} {x : Nat} {D : Dat} {F : List Nat} {n : Nat} (H : Xd w x D F) (hB : Bd n D) (hn : n ≤ 1000000)
include H
include hB hn
theorem put_xd (key : ByteArray) (rev : Int) (del : Bool) (hk : key.size ≤ 9223372036854775807) (hrv : -9223372036854775808 ≤ rev ∧ rev ≤ 9223372036854775807) :
    Calls Try.prog 44 #[ptr x, .string key, .agg #[.int .i64 rev, .bool del]] w fun e w' => e = .returned (.int .i64 (putE D key rev del)) ∧ ∃ F', Xd w' x (putD D key rev del) F' ∧ Step w w' F F' := by
  obtain ⟨R, h1, rfl⟩ := H
  refine (put_any h1 key rev del hk hrv (by have := hB.len; rw [dat_len] at this; omega) (fun r hr => by have := (hB.ms _ (mem_dat hr)).1; dsimp only at this; omega)).mono ?_
  rintro e w' ⟨rfl, R', F', q1, q2, q3⟩
  exact ⟨rfl, F', ⟨R', q1, q2⟩, q3⟩
theorem marks_xd (key : ByteArray) : Calls Try.prog 47 #[ptr x, .string key] w fun e w' => ∃ v, e = .returned v ∧ MarksPost w w' v ((lookD D key).getD []) := by
  obtain ⟨R, h1, rfl⟩ := H
  cases hl : lookD (dat R) key with
  | none =>
    have hno : key ∉ keysR R := fun hm => by
      rw [← dat_keys] at hm
      obtain ⟨p, hp, rfl⟩ := List.mem_map.1 hm
      obtain ⟨A, B, hAB⟩ := List.append_of_mem hp
      have := hB.asc
      rw [hAB] at this hl
      rw [lookD_at (X := A) (Z := B) (key := p.1) (ms := p.2) this] at hl
      cases hl
    refine (marks_no h1 key hno).mono ?_
    rintro e w' ⟨rfl, hb⟩
    exact ⟨_, rfl, ⟨none, 0, rfl, fun g hg => by cases hg⟩, World.ownsRow_nil _ _ _ _, hb⟩
  | some ms => exact marks_yes h1 key ms hl (by have := (hB.ms _ (lookD_mem hl)).1; dsimp only at this; omega)
end
end Go.Proofs.Ytjdmgmnndfhmgaa
/- A change laid into a store, as data. -/
namespace Go.Proofs.Ytjdmgmnndfhmgaa
open Go Go.RowKit

def hasK (l : List ByteArray) (k : ByteArray) : Bool := l.any fun x => decide (x = k)
theorem hasK_iff {l : List ByteArray} {k : ByteArray} : hasK l k = true ↔ k ∈ l := by
  unfold hasK
  rw [List.any_eq_true]
  exact ⟨fun ⟨x, h1, h2⟩ => by rw [← of_decide_eq_true h2]; exact h1, fun h => ⟨k, h, decide_eq_true rfl⟩⟩
theorem datS_keys (S : Sto) : (datS S).map Prod.fst = S.ks := by
  unfold datS
  rw [List.map_map]
  exact List.map_id _
def insK (key : ByteArray) : List ByteArray → List ByteArray
  | [] => [key]
  | k :: l => if klt k key then k :: insK key l else if k = key then k :: l else key :: k :: l
theorem mem_insK {key j : ByteArray} : ∀ {l : List ByteArray}, j ∈ insK key l ↔ j = key ∨ j ∈ l
  | [] => by simp [insK]
  | k :: l => by
    unfold insK
    split
    · simp only [List.mem_cons, mem_insK (l := l)]
      constructor
      · rintro (h | h | h)
        · exact .inr (.inl h)
        · exact .inl h
        · exact .inr (.inr h)
      · rintro (h | h | h)
        · exact .inr (.inl h)
        · exact .inl h
        · exact .inr (.inr h)
    · split
      · rename_i e
        simp only [List.mem_cons]
        constructor
        · exact .inr
        · rintro (h | h)
          · exact .inl (by rw [h, e])
          · exact h
      · simp only [List.mem_cons]
def layS (S : Sto) (r : Int) (key : ByteArray) (c : Option KVd) : Sto :=
  { S with ks := insK key S.ks, kh := fun k => if k = key then S.kh k ++ [(r, c)] else S.kh k, nth := if c.isSome then (if (thereH (S.kh key)).isSome then S.nth else S.nth + 1) else (if (thereH (S.kh key)).isSome then S.nth - 1 else S.nth) }
theorem layS_same (S : Sto) (r : Int) (key : ByteArray) (c : Option KVd) : (layS S r key c).kh key = S.kh key ++ [(r, c)] := by simp [layS]
theorem layS_other (S : Sto) (r : Int) {key k : ByteArray} (c : Option KVd) (h : ¬ k = key) : (layS S r key c).kh k = S.kh k := by simp [layS, h]
theorem look_ks (f : ByteArray → List Mk) : ∀ (ks : List ByteArray) (key : ByteArray), lookD (ks.map fun k => (k, f k)) key = if hasK ks key then some (f key) else none
  | [], key => rfl
  | k :: ks, key => by
    simp only [List.map_cons, lookD]
    by_cases h : k = key
    · subst h; simp [hasK]
    · rw [if_neg h, look_ks f ks key]
      have : hasK (k :: ks) key = hasK ks key := by simp [hasK, h]
      rw [this]
theorem set_ks (f : ByteArray → List Mk) (key : ByteArray) (ms : List Mk) : ∀ {ks : List ByteArray}, Asc ks → setD (ks.map fun k => (k, f k)) key ms = (insK key ks).map fun k => (k, if k = key then ms else f k)
  | [], _ => by simp [setD, insK]
  | k :: ks, ⟨h1, h2⟩ => by
    simp only [List.map_cons, setD, insK]
    by_cases hk : klt k key = true
    · rw [if_pos hk, if_pos hk, List.map_cons, set_ks f key ms h2]
      have : ¬ k = key := klt_ne hk
      simp [this]
    · rw [if_neg hk, if_neg hk]
      have htl : ∀ j ∈ ks, klt key j = true → (fun k => (k, f k)) j = (fun k => (k, if k = key then ms else f k)) j := fun j _ hj => by
        have : ¬ j = key := (klt_ne hj).symm
        simp [this]
      by_cases e : k = key
      · subst e
        rw [if_pos rfl, if_pos rfl, List.map_cons]
        congr 1
        · simp
        · exact List.map_congr_left (fun j hj => htl j hj (h1 j hj))
      · rw [if_neg e, if_neg e, List.map_cons, List.map_cons]
        have hkk : klt key k = true := by
          cases hq : klt key k
          · exact absurd (klt_tri (by simpa using hk) hq) e
          · rfl
        congr 1
        · simp
        · congr 1
          · simp [e]
          · exact List.map_congr_left (fun j hj => htl j hj (klt_trans hkk (h1 j hj)))
theorem lookD_datS {n : Nat} {w : World} {s : Nat} {S : Sto} {g : Sg} {o : Value} (h : St n w s S g o) (key : ByteArray) : (lookD (datS S) key).getD [] = (S.kh key).map markOf ∧ ((lookD (datS S) key) = none ↔ S.kh key = []) := by
  unfold datS
  rw [look_ks (fun k => (S.kh k).map markOf)]
  by_cases hm : key ∈ S.ks
  · rw [if_pos (hasK_iff.2 hm)]
    have := (h.mem key).1 hm
    simp [this]
  · have h0 : S.kh key = [] := Classical.byContradiction fun hn => hm ((h.mem key).2 hn)
    have : ¬ hasK S.ks key = true := fun e => hm (hasK_iff.1 e)
    rw [if_neg this, h0]
    simp
theorem lastM_marks {h : Hs} {p : Int × Option KVd} (e : h.getLast? = some p) : lastM (h.map markOf) = markOf p := by
  unfold lastM
  rw [List.getLastD_eq_getLast?, List.getLast?_map, e]
  rfl
/-- What may be laid. -/
structure LayOk (S : Sto) (r : Int) (key : ByteArray) (c : Option KVd) : Prop where
  sz : 0 < key.size ∧ key.size ≤ 100
  lt : ∀ p ∈ S.kh key, p.1 < r
  pos : 0 < r
  kv : ∀ v, c = some v → v.key = key ∧ v.mod = r ∧ 1 ≤ v.version ∧ v.version ≤ r
  del : c = none → (thereH (S.kh key)).isSome = true
theorem putE_lay {n : Nat} {w : World} {s : Nat} {S : Sto} {g : Sg} {o : Value} (h : St n w s S g o) {r : Int} {key : ByteArray} {c : Option KVd} (L : LayOk S r key c) : putE (datS S) key r c.isNone = 0 ∧ putD (datS S) key r c.isNone = datS (layS S r key c) := by
  obtain ⟨h1, h2⟩ := lookD_datS h key
  have hE : putE (datS S) key r c.isNone = 0 := by
    unfold putE
    have hs := L.sz
    have hp := L.pos
    rw [if_neg (by omega)]
    cases hl : lookD (datS S) key with
    | none =>
      have h0 := h2.1 hl
      cases c with
      | none => have := L.del rfl; rw [h0] at this; cases this
      | some v => rfl
    | some ms =>
      rw [hl] at h1
      dsimp only [Option.getD_some] at h1
      have hne : S.kh key ≠ [] := fun e => by have := h2.2 e; rw [hl] at this; cases this
      obtain ⟨p, hp'⟩ : ∃ p, (S.kh key).getLast? = some p := ⟨_, List.getLast?_eq_some_getLast hne⟩
      have hlm : lastM ms = markOf p := by rw [h1]; exact lastM_marks hp'
      have hlt := L.lt p (List.mem_of_getLast? hp')
      dsimp only
      rw [hlm]
      have : ¬ r ≤ (markOf p).1 := by unfold markOf; dsimp only; omega
      rw [if_neg this]
      cases c with
      | some v => rfl
      | none =>
        have hd := L.del rfl
        unfold thereH at hd
        rw [hp'] at hd
        obtain ⟨pr, po⟩ := p
        cases po with
        | none => cases hd
        | some v => rfl
  refine ⟨hE, ?_⟩
  unfold putD
  rw [if_pos hE, h1]
  have ha : Asc S.ks := by have := h.bd.asc; rw [datS_keys] at this; exact this
  unfold datS
  rw [set_ks (fun k => (S.kh k).map markOf) key _ ha]
  show _ = (insK key S.ks).map _
  refine List.map_congr_left (fun k _ => ?_)
  by_cases e : k = key
  · subst e
    rw [if_pos rfl, layS_same, List.map_append]
    rfl
  · rw [if_neg e, layS_other _ _ _ e]
theorem chF_lay (S : Sto) {r : Int} {key : ByteArray} {c : Option KVd} (L : LayOk S r key c) (p : Int × ByteArray) : chF (layS S r key c) p = setF (chF S) (r, key) (encC key c) p := by
  obtain ⟨a, k⟩ := p
  unfold chF setF
  by_cases e : k = key
  · subst e
    simp only [layS_same]
    rw [List.find?_append]
    by_cases ea : a = r
    · subst ea
      have hno : (S.kh k).find? (fun q => decide (q.1 = a)) = none := List.find?_eq_none.2 (fun q hq => by have := L.lt q hq; simp; omega)
      rw [hno]
      simp
    · have : ¬ r = a := fun e => ea e.symm
      simp [ea, this]
  · simp only [layS_other _ _ _ e]
    have : ¬ (a, k) = (r, key) := fun h => e (by cases h; rfl)
    rw [if_neg this]
theorem thF_lay (S : Sto) (r : Int) (key : ByteArray) {v : KVd} (k : ByteArray) (hv : v.mod = r) : thF (layS S r key (some v)) k = setF (thF S) key (.int .i64 r) k := by
  unfold thF setF
  by_cases e : k = key
  · subst e
    rw [layS_same, thereH_snoc]
    simp [hv]
  · rw [layS_other _ _ _ e, if_neg e]
theorem thF_layD (S : Sto) (r : Int) (key k : ByteArray) : thF (layS S r key none) k = delF (thF S) key k := by
  unfold thF delF
  by_cases e : k = key
  · subst e
    rw [layS_same, thereH_snoc]
    simp
  · rw [layS_other _ _ _ e, if_neg e]
end Go.Proofs.Ytjdmgmnndfhmgaa
/- A change laid into a store: its memory. -/
namespace Go.Proofs.Ytjdmgmnndfhmgaa
open Go Go.RowKit

/-- What a store's call leaves of its blocks. -/
def KpM (w w' : World) (s : Nat) (g g' : Sg) : Prop := Upd w w' (ftS s g) ∧ ∀ k, ftS s g' k → ftS s g k ∨ w.heap.size ≤ k
theorem KpM.same {w w' : World} {s : Nat} {g : Sg} (hb : Below w.heap.size w w') : KpM w w' s g g := ⟨Upd.ofBelow hb, fun _ hk => .inl hk⟩
theorem KpM.trans {w w1 w2 : World} {s : Nat} {g g1 g2 : Sg} (K : KpM w w1 s g g1) (K' : KpM w1 w2 s g1 g2) : KpM w w2 s g g2 :=
  ⟨K.1.trans K'.1 (fun j hj hg => (K.2 j hg).resolve_right (by omega)), fun k hk => (K'.2 k hk).elim (K.2 k) (fun hge => .inr (Nat.le_trans K.1.size hge))⟩
section
variable {n : Nat} {w : World} {s : Nat} {S : Sto} {g : Sg} {o : Value} (h : St n w s S g o)
include h
/-- The index's blocks are none of the others. -/
theorem St.off : s ∉ g.Fi ∧ g.bc ∉ g.Fi ∧ g.bl ∉ g.Fi ∧ g.bt ∉ g.Fi ∧ ∀ r v k, g.lv r = some v → v.ownBlock = some k → k ∉ g.Fi := by
  obtain ⟨_, _, _, hc, _⟩ := h.ch
  obtain ⟨_, _, _, hl, _⟩ := h.lg
  obtain ⟨_, _, _, ht, _⟩ := h.th
  refine ⟨fun hm => (h.ix.kind _ hm).ne h.blk (by simp) rfl, fun hm => (h.ix.kind _ hm).ne_map hc rfl, fun hm => (h.ix.kind _ hm).ne_map hl rfl, fun hm => (h.ix.kind _ hm).ne_map ht rfl, fun r v k hv hk hm => ?_⟩
  obtain ⟨_, cc, f, hh⟩ := ownBlock_ge (h.rows r v hv).2 hk
  exact (h.ix.kind _ hm).ne hh (by simp) rfl
/-- The maps' blocks are none of the cells. -/
theorem St.offm {b : Nat} (hb : b = g.bc ∨ b = g.bl ∨ b = g.bt) : s ≠ b ∧ (∀ k ∈ g.Fi, k ≠ b) ∧ ∀ r v k, g.lv r = some v → v.ownBlock = some k → k ≠ b := by
  obtain ⟨e1, c1, L1, hc, _⟩ := h.ch
  obtain ⟨e2, c2, L2, hl, _⟩ := h.lg
  obtain ⟨e3, c3, L3, ht, _⟩ := h.th
  obtain ⟨es, cl, hm⟩ : ∃ es cl, w.heap[b]? = some (.map es cl) := by
    rcases hb with rfl | rfl | rfl
    · exact ⟨_, _, hc⟩
    · exact ⟨_, _, hl⟩
    · exact ⟨_, _, ht⟩
  refine ⟨fun e => ?_, fun k hk => (h.ix.kind k hk).ne_map hm, fun r v k hv hk e => ?_⟩
  · have := h.blk; rw [e, hm] at this; cases this
  · obtain ⟨_, cc, f, hh⟩ := ownBlock_ge (h.rows r v hv).2 hk
    rw [e, hm] at hh
    cases hh
/-- A change is laid: the index, the changes, the keys that are there. -/
theorem St.laid {r : Int} {key : ByteArray} {c : Option KVd} (L : LayOk S r key c) (hr : r = S.rev) {w3 w4 w5 : World} {F' : List Nat} {nc' nth' : Nat} {f' : ByteArray → Option Value}
    (hx : Xd w3 g.x (putD (datS S) key r c.isNone) F') (hs : Step w w3 g.Fi F')
    (hm4 : MapF w4 encP g.bc (setF (chF S) (r, key) (encC key c)) nc') (hu4 : Upd w3 w4 (fun k => k = g.bc))
    (hm5 : MapF w5 encB g.bt f' nth') (hu5 : Upd w4 w5 (fun k => k = g.bt)) (hf : ∀ k, thF (layS S r key c) k = f' k) (hnt : nth' = (layS S r key c).nth) :
    St (n + 1) w5 s (layS S r key c) { g with Fi := F', nc := nc' } o ∧ KpM w w5 s g { g with Fi := F', nc := nc' } := by
  obtain ⟨o1, o2, o3, o4, o5⟩ := h.off
  obtain ⟨a1, a2, a3⟩ := h.offm (b := g.bc) (.inl rfl)
  obtain ⟨b1, b2, b3⟩ := h.offm (b := g.bt) (.inr (.inr rfl))
  obtain ⟨n1, n2, n3⟩ := h.ne
  obtain ⟨hE, hD⟩ := putE_lay h L
  have hsl := h.lt (.inl rfl)
  have s3 := hs.upd.size
  have s4 := hu4.size
  have hF : ∀ k ∈ F', k ≠ g.bc ∧ k ≠ g.bt := fun k hk => by
    have hcl := h.lt (.inr (.inl rfl))
    have htl := h.lt (.inr (.inr (.inr (.inl rfl))))
    rcases hs.sub k hk with hk | hk
    · exact ⟨a2 k hk, b2 k hk⟩
    · exact ⟨by omega, by omega⟩
  have u3 : Upd w w3 (ftS s g) := hs.upd.mono (fun k _ hk => .inr (.inr (.inr (.inr (.inl hk)))))
  have u4 : Upd w w4 (ftS s g) := u3.trans (hu4.mono (T := ftS s g) (fun k _ hk => .inr (.inl hk))) (fun j _ hg => hg)
  have u5 : Upd w w5 (ftS s g) := u4.trans (hu5.mono (T := ftS s g) (fun k _ hk => .inr (.inr (.inr (.inl hk))))) (fun j _ hg => hg)
  rw [hD] at hx
  refine ⟨⟨?_, (hx.upd hu4 (fun k hk => (hF k hk).1)).upd hu5 (fun k hk => (hF k hk).2), by rw [← hD]; exact h.bd.put key r _, ?_, ?_, ?_, h.ne, ?_, ?_, ?_, ?_, h.past⟩, u5, ?_⟩
  · refine (hu5.block s (by omega) b1).trans ((hu4.block s (by omega) a1).trans ((hs.upd.block s hsl o1).trans h.blk))
  · refine (hm4.congr (chF_lay S L)).upd hu5 n2
  · exact ((h.lg.upd hs.upd o3).upd hu4 n1.symm).upd hu5 n3
  · rw [← hnt]; exact hm5.congr hf
  · intro r' v hv
    obtain ⟨q1, q2⟩ := h.rows r' v hv
    exact ⟨q1, ownsRow_upd (ownsRow_upd (ownsRow_upd q2 hs.upd (fun k hk => o5 r' v k hv hk)) hu4 (fun k hk => a3 r' v k hv hk)) hu5 (fun k hk => b3 r' v k hv hk)⟩
  · intro k
    by_cases e : k = key
    · subst e
      rw [layS_same]
      have hok := h.hok k
      have hp := L.pos
      refine ⟨?_, ?_, ?_⟩
      · rw [List.pairwise_append]
        refine ⟨hok.asc, by simp, fun p hp' q hq => ?_⟩
        obtain rfl : q = (r, c) := by simpa using hq
        exact L.lt p hp'
      · intro p hp'
        rcases List.mem_append.1 hp' with hp' | hp'
        · exact hok.pos p hp'
        · obtain rfl : p = (r, c) := by simpa using hp'
          show 0 < r ∧ r ≤ S.rev
          omega
      · intro r' v hp'
        rcases List.mem_append.1 hp' with hp' | hp'
        · exact hok.kv r' v hp'
        · obtain ⟨rfl, e2⟩ : r' = r ∧ some v = c := by simpa using hp'
          exact L.kv v e2.symm
    · rw [layS_other _ _ _ e]
      exact h.hok k
  · intro k
    show k ∈ insK key S.ks ↔ _
    rw [mem_insK]
    by_cases e : k = key
    · subst e; rw [layS_same]; simp
    · rw [layS_other _ _ _ e, h.mem k]; simp [e]
  · intro k hk
    rcases mem_insK.1 (show k ∈ insK key S.ks from hk) with rfl | hk
    · exact L.sz
    · exact h.sz k hk
  · rintro k (rfl | rfl | rfl | rfl | hk | ⟨r', v, hv, hk⟩)
    · exact .inl (.inl rfl)
    · exact .inl (.inr (.inl rfl))
    · exact .inl (.inr (.inr (.inl rfl)))
    · exact .inl (.inr (.inr (.inr (.inl rfl))))
    · rcases hs.sub k hk with hk | hk
      · exact .inl (.inr (.inr (.inr (.inr (.inl hk)))))
      · exact .inr hk
    · exact .inl (.inr (.inr (.inr (.inr (.inr ⟨r', v, hv, hk⟩)))))
end
end Go.Proofs.Ytjdmgmnndfhmgaa
/- A change laid into a store. -/
namespace Go.Proofs.Ytjdmgmnndfhmgaa
open Go Go.RowKit

theorem Upd.undrew {w w' : World} {S : Nat → Prop} (h : Upd w.drew w' S) : Upd w w' S := ⟨h.os, h.tape, h.output, h.size, h.block⟩
set_option maxRecDepth 100000 in
set_option maxHeartbeats 2000000 in
theorem lay_put {n : Nat} {w : World} {s : Nat} {S : Sto} {g : Sg} {o : Value} (h : St n w s S g o) (hn : n ≤ 900000) {r : Int} {key : ByteArray} {v : KVd} (L : LayOk S r key (some v)) (hr : r = S.rev) (hrb : r ≤ 1000000) :
    Calls Try.prog 35 #[ptr s, .agg #[.int .i64 r, .string key], encC key (some v)] w fun e w' => e = .returned (.tuple #[]) ∧ ∃ g', St (n + 1) w' s (layS S r key (some v)) g' o ∧ KpM w w' s g g' ∧ g'.lv = g.lv := by
  obtain ⟨kk, kvv, kcr, kmo, kve, kle⟩ := v
  have hta := ta_yes
  dsimp only [encC, encKV]
  obtain ⟨w2, hw2⟩ : ∃ w2, w2 = (w.alloc (.cells #[.int .i64 r, .string key] 96)).alloc (.cells #[.string kk, .string kvv, .int .i64 kcr, .int .i64 kmo, .int .i64 kve, .int .i64 kle] 80) := ⟨_, rfl⟩
  have hb2 : Below w.heap.size w w2 := by rw [hw2]; exact ((Below.refl _ w).alloc (Nat.le_refl _) _).alloc (by simp) _
  have hp2 : w2.heap[w.heap.size]? = some (.cells #[.int .i64 r, .string key] 96 (0, 0)) := by rw [hw2]; exact (heap_alloc_old _ _ (by simp)).trans (row_alloc w _ _)
  obtain ⟨bp, hbp⟩ : ∃ bp, bp = w.heap.size := ⟨_, rfl⟩
  have HH := Hid.mk'' h
  have HL := Hid.mk'' L
  have hpos := L.pos
  have hsz := L.sz
  have HRV := Hid.mk'' hr
  clear h L hr
  go_enter Try.func35, Try.ntmps35
  go_upto_region 2 with fail
  rw [← hw2]
  rw [← hbp] at hp2 ⊢
  have h2 := HH.out.below (hb2.drew)
  have hput := put_xd h2.ix h2.bd (by omega) key r false (by omega) (by omega)
  obtain ⟨-, -, c2, -⟩ := h2.cells
  have p0 : w2.drew.cell? ⟨bp, 0, none⟩ = some (.int .i64 r) := cell_of_row _ _ _ _ _ _ hp2
  have p1 : w2.drew.cell? ⟨bp, 1, none⟩ = some (.string key) := cell_of_row _ _ _ _ _ _ hp2
  have hE := (putE_lay h2 HL.out).1
  dsimp only [Option.isNone_some, Option.isNone_none] at hE
  rw [hE] at hput
  have hS2 : w2.drew.cell? ⟨s, 2, none⟩ = some (ptr g.x) ∧ w2.drew.cell? ⟨bp, 0, none⟩ = some (.int .i64 r) ∧ w2.drew.cell? ⟨bp, 1, none⟩ = some (.string key) := ⟨c2, p0, p1⟩
  have hpl : bp < w2.drew.heap.size := (Array.getElem?_eq_some_iff.1 hp2).1
  have hpn : bp ∉ g.Fi := fun hm => (h2.ix.kind _ hm).ne (b := bp) hp2 (by simp) rfl
  have hsl := h2.lt (.inl rfl)
  have HS3 : Hid (∀ w3 F', Step w2.drew w3 g.Fi F' → w3.cell? ⟨s, 2, none⟩ = some (ptr g.x) ∧ w3.cell? ⟨bp, 0, none⟩ = some (.int .i64 r) ∧ w3.cell? ⟨bp, 1, none⟩ = some (.string key)) := fun w3 F' hs => ⟨(hs.upd.cell (p := ⟨s, 2, none⟩) hsl h2.off.1).trans c2, (hs.upd.cell (p := ⟨bp, 0, none⟩) hpl hpn).trans p0, (hs.upd.cell (p := ⟨bp, 1, none⟩) hpl hpn).trans p1⟩
  have H2 := Hid.mk'' h2
  have HB2 := Hid.mk'' hb2
  have HBP := Hid.mk'' hbp
  clear h2 c2 p0 p1 hE hta hw2 hb2 hbp
  go_region_held_law (fun V => V.cell? ⟨s, 2, none⟩ = some (ptr g.x) ∧ V.cell? ⟨bp, 0, none⟩ = some (.int .i64 r) ∧ V.cell? ⟨bp, 1, none⟩ = some (.string key)) (first | with_reducible assumption | (show _ ∧ _ ∧ _; with_reducible assumption)) (first | (go_at_call 44; refine hput.mono ?_; rintro e w3 ⟨rfl, F', hx3, hs3⟩; have hS3 := HS3.out w3 F' hs3; have HX3 := Hid.mk'' hx3; have HT3 := Hid.mk'' hs3; clear hx3 hs3))
  go_upto_region 3 with fail
  obtain ⟨o1, o2, o3, o4, o5⟩ := H2.out.off
  have hc3 := (H2.out.ch.upd HT3.out.upd o2)
  have hcd : MapF w3.drew encP g.bc (chF S) g.nc := hc3
  obtain ⟨w4, hup4, hm4, hu4⟩ := hcd.set law60 Try.underlying49 (r, key) (.iface 80 (.agg #[.string kk, .string kvv, .int .i64 kcr, .int .i64 kmo, .int .i64 kve, .int .i64 kle]))
  have hup4' : (Instr.mapUpdate 49 (.map (some g.bc)) (.agg #[.int .i64 r, .string key]) (.iface 80 (.agg #[.string kk, .string kvv, .int .i64 kcr, .int .i64 kmo, .int .i64 kve, .int .i64 kle]))).run Try.prog w3.drew = .ok () w4 := hup4
  have hs3 : w3.heap[s]? = _ := (HT3.out.upd.block s hsl o1).trans H2.out.blk
  have c33 : w3.cell? ⟨s, 3, none⟩ = some (.map (some g.bc)) := cell_of_row _ _ _ _ _ _ hs3
  obtain ⟨-, q30, q31⟩ := hS3
  obtain ⟨a1, a2, a3⟩ := H2.out.offm (b := g.bc) (.inl rfl)
  have hsl3 : s < w3.heap.size := Nat.lt_of_lt_of_le hsl HT3.out.upd.size
  have hpl3 : bp < w3.heap.size := Nat.lt_of_lt_of_le hpl HT3.out.upd.size
  have hpb : bp ≠ g.bc ∧ bp ≠ g.bt := by
    have h1 := HH.out.lt (.inr (.inl rfl))
    have h2 := HH.out.lt (.inr (.inr (.inr (.inl rfl))))
    have h3 := HBP.out
    omega
  have hu4' : Upd w3 w4 (fun k => k = g.bc) := hu4.undrew
  have s4 : w4.heap[s]? = _ := (hu4'.block s hsl3 a1).trans hs3
  have c45 : w4.cell? ⟨s, 5, none⟩ = some (.map (some g.bt)) := cell_of_row _ _ _ _ _ _ s4
  have q40 : w4.cell? ⟨bp, 0, none⟩ = some (.int .i64 r) := (hu4'.cell (p := ⟨bp, 0, none⟩) hpl3 hpb.1).trans q30
  have q41 : w4.cell? ⟨bp, 1, none⟩ = some (.string key) := (hu4'.cell (p := ⟨bp, 1, none⟩) hpl3 hpb.1).trans q31
  have ht4 : MapF w4 encB g.bt (thF S) S.nth := (H2.out.th.upd HT3.out.upd o4).upd hu4' H2.out.ne.2.1.symm
  have hm4' : MapF w4 encP g.bc (setF (chF S) (r, key) (.iface 80 (.agg #[.string kk, .string kvv, .int .i64 kcr, .int .i64 kmo, .int .i64 kve, .int .i64 kle]))) (if (chF S (r, key)).isSome then g.nc else g.nc + 1) := hm4
  clear hup4 hc3 hcd hs3 s4 o1 o2 o3 o4 o5 a1 a2 a3 hm4 hu4
  have HM4 := Hid.mk'' hm4'
  have HU4 := Hid.mk'' hu4'
  clear hm4' hu4'
  obtain ⟨w5, hup5, hm5, hu5⟩ := (show MapF w4.drew encB g.bt (thF S) S.nth from ht4).set law65 Try.underlying51 key (.int .i64 r)
  have hup5' : (Instr.mapUpdate 51 (.map (some g.bt)) (.string key) (.int .i64 r)).run Try.prog w4.drew = .ok () w5 := hup5
  have HFIN : Hid (∃ g', St (n + 1) w5 s (layS S r key (some ⟨kk, kvv, kcr, kmo, kve, kle⟩)) g' o ∧ KpM w w5 s g g' ∧ g'.lv = g.lv) := by
    have := H2.out.laid HL.out HRV.out HX3.out HT3.out HM4.out HU4.out hm5 hu5.undrew (fun k => thF_lay S r key k (HL.out.kv _ rfl).2.1) (by
      show _ = (layS S r key (some ⟨kk, kvv, kcr, kmo, kve, kle⟩)).nth
      unfold layS thF
      cases thereH (S.kh key) <;> rfl)
    exact ⟨_, this.1, (KpM.same HB2.out.drew).trans this.2, rfl⟩
  clear hup5 hm5 hu5 ht4 HM4 HU4 HX3 HT3 H2 HB2 HL HH HS3 hput
  go_region
  go_upto_region 5 with fail
  go_region
  all_goals
    go_wp2
    first | go_end0 | refine bodyPost_ret (results_none rfl _ _ _) rfl ?_
    exact ⟨rfl, HFIN.out⟩
set_option maxRecDepth 100000 in
set_option maxHeartbeats 2000000 in
theorem lay_del {n : Nat} {w : World} {s : Nat} {S : Sto} {g : Sg} {o : Value} (h : St n w s S g o) (hn : n ≤ 900000) {r : Int} {key : ByteArray} (L : LayOk S r key none) (hr : r = S.rev) (hrb : r ≤ 1000000) :
    Calls Try.prog 35 #[ptr s, .agg #[.int .i64 r, .string key], encC key none] w fun e w' => e = .returned (.tuple #[]) ∧ ∃ g', St (n + 1) w' s (layS S r key none) g' o ∧ KpM w w' s g g' ∧ g'.lv = g.lv := by
  have hta := ta_no
  dsimp only [encC, encKV]
  obtain ⟨w2, hw2⟩ : ∃ w2, w2 = (w.alloc (.cells #[.int .i64 r, .string key] 96)).alloc (.cells #[.string ⟨#[]⟩, .string ⟨#[]⟩, .int .i64 0, .int .i64 0, .int .i64 0, .int .i64 0] 80) := ⟨_, rfl⟩
  have hb2 : Below w.heap.size w w2 := by rw [hw2]; exact ((Below.refl _ w).alloc (Nat.le_refl _) _).alloc (by simp) _
  have hp2 : w2.heap[w.heap.size]? = some (.cells #[.int .i64 r, .string key] 96 (0, 0)) := by rw [hw2]; exact (heap_alloc_old _ _ (by simp)).trans (row_alloc w _ _)
  obtain ⟨bp, hbp⟩ : ∃ bp, bp = w.heap.size := ⟨_, rfl⟩
  have HH := Hid.mk'' h
  have HL := Hid.mk'' L
  have hpos := L.pos
  have hsz := L.sz
  have HRV := Hid.mk'' hr
  clear h L hr
  go_enter Try.func35, Try.ntmps35
  go_upto_region 2 with fail
  rw [← hw2]
  rw [← hbp] at hp2 ⊢
  have h2 := HH.out.below (hb2.drew)
  have hput := put_xd h2.ix h2.bd (by omega) key r true (by omega) (by omega)
  obtain ⟨-, -, c2, -⟩ := h2.cells
  have p0 : w2.drew.cell? ⟨bp, 0, none⟩ = some (.int .i64 r) := cell_of_row _ _ _ _ _ _ hp2
  have p1 : w2.drew.cell? ⟨bp, 1, none⟩ = some (.string key) := cell_of_row _ _ _ _ _ _ hp2
  have hE := (putE_lay h2 HL.out).1
  dsimp only [Option.isNone_some, Option.isNone_none] at hE
  rw [hE] at hput
  have hS2 : w2.drew.cell? ⟨s, 2, none⟩ = some (ptr g.x) ∧ w2.drew.cell? ⟨bp, 0, none⟩ = some (.int .i64 r) ∧ w2.drew.cell? ⟨bp, 1, none⟩ = some (.string key) := ⟨c2, p0, p1⟩
  have hpl : bp < w2.drew.heap.size := (Array.getElem?_eq_some_iff.1 hp2).1
  have hpn : bp ∉ g.Fi := fun hm => (h2.ix.kind _ hm).ne (b := bp) hp2 (by simp) rfl
  have hsl := h2.lt (.inl rfl)
  have HS3 : Hid (∀ w3 F', Step w2.drew w3 g.Fi F' → w3.cell? ⟨s, 2, none⟩ = some (ptr g.x) ∧ w3.cell? ⟨bp, 0, none⟩ = some (.int .i64 r) ∧ w3.cell? ⟨bp, 1, none⟩ = some (.string key)) := fun w3 F' hs => ⟨(hs.upd.cell (p := ⟨s, 2, none⟩) hsl h2.off.1).trans c2, (hs.upd.cell (p := ⟨bp, 0, none⟩) hpl hpn).trans p0, (hs.upd.cell (p := ⟨bp, 1, none⟩) hpl hpn).trans p1⟩
  have H2 := Hid.mk'' h2
  have HB2 := Hid.mk'' hb2
  have HBP := Hid.mk'' hbp
  clear h2 c2 p0 p1 hE hta hw2 hb2 hbp
  go_region_held_law (fun V => V.cell? ⟨s, 2, none⟩ = some (ptr g.x) ∧ V.cell? ⟨bp, 0, none⟩ = some (.int .i64 r) ∧ V.cell? ⟨bp, 1, none⟩ = some (.string key)) (first | with_reducible assumption | (show _ ∧ _ ∧ _; with_reducible assumption)) (first | (go_at_call 44; refine hput.mono ?_; rintro e w3 ⟨rfl, F', hx3, hs3⟩; have hS3 := HS3.out w3 F' hs3; have HX3 := Hid.mk'' hx3; have HT3 := Hid.mk'' hs3; clear hx3 hs3))
  go_upto_region 3 with fail
  obtain ⟨o1, o2, o3, o4, o5⟩ := H2.out.off
  have hc3 := (H2.out.ch.upd HT3.out.upd o2)
  have hcd : MapF w3.drew encP g.bc (chF S) g.nc := hc3
  obtain ⟨w4, hup4, hm4, hu4⟩ := hcd.set law60 Try.underlying49 (r, key) (.iface 7979 (.agg #[.string key]))
  have hup4' : (Instr.mapUpdate 49 (.map (some g.bc)) (.agg #[.int .i64 r, .string key]) (.iface 7979 (.agg #[.string key]))).run Try.prog w3.drew = .ok () w4 := hup4
  have hs3 : w3.heap[s]? = _ := (HT3.out.upd.block s hsl o1).trans H2.out.blk
  have c33 : w3.cell? ⟨s, 3, none⟩ = some (.map (some g.bc)) := cell_of_row _ _ _ _ _ _ hs3
  obtain ⟨-, q30, q31⟩ := hS3
  obtain ⟨a1, a2, a3⟩ := H2.out.offm (b := g.bc) (.inl rfl)
  have hsl3 : s < w3.heap.size := Nat.lt_of_lt_of_le hsl HT3.out.upd.size
  have hpl3 : bp < w3.heap.size := Nat.lt_of_lt_of_le hpl HT3.out.upd.size
  have hpb : bp ≠ g.bc ∧ bp ≠ g.bt := by
    have h1 := HH.out.lt (.inr (.inl rfl))
    have h2 := HH.out.lt (.inr (.inr (.inr (.inl rfl))))
    have h3 := HBP.out
    omega
  have hu4' : Upd w3 w4 (fun k => k = g.bc) := hu4.undrew
  have s4 : w4.heap[s]? = _ := (hu4'.block s hsl3 a1).trans hs3
  have c45 : w4.cell? ⟨s, 5, none⟩ = some (.map (some g.bt)) := cell_of_row _ _ _ _ _ _ s4
  have q40 : w4.cell? ⟨bp, 0, none⟩ = some (.int .i64 r) := (hu4'.cell (p := ⟨bp, 0, none⟩) hpl3 hpb.1).trans q30
  have q41 : w4.cell? ⟨bp, 1, none⟩ = some (.string key) := (hu4'.cell (p := ⟨bp, 1, none⟩) hpl3 hpb.1).trans q31
  have ht4 : MapF w4 encB g.bt (thF S) S.nth := (H2.out.th.upd HT3.out.upd o4).upd hu4' H2.out.ne.2.1.symm
  have hm4' : MapF w4 encP g.bc (setF (chF S) (r, key) (.iface 7979 (.agg #[.string key]))) (if (chF S (r, key)).isSome then g.nc else g.nc + 1) := hm4
  clear hup4 hc3 hcd hs3 s4 o1 o2 o3 o4 o5 a1 a2 a3 hm4 hu4
  have HM4 := Hid.mk'' hm4'
  have HU4 := Hid.mk'' hu4'
  clear hm4' hu4'
  obtain ⟨w5, hup5, hm5, hu5⟩ := (show MapF w4.drew encB g.bt (thF S) S.nth from ht4).del law65 Try.underlying51 key 0
  have hup5' : (Builtin.delete_ #[51, 9] 0 #[.map (some g.bt), .string key]).run Try.prog w4.drew = .ok (.tuple #[]) w5 := hup5
  have HFIN : Hid (∃ g', St (n + 1) w5 s (layS S r key none) g' o ∧ KpM w w5 s g g' ∧ g'.lv = g.lv) := by
    have := H2.out.laid HL.out HRV.out HX3.out HT3.out HM4.out HU4.out hm5 hu5.undrew (fun k => thF_layD S r key k) (by
      show _ = (layS S r key none).nth
      unfold layS thF
      cases thereH (S.kh key) <;> rfl)
    exact ⟨_, this.1, (KpM.same HB2.out.drew).trans this.2, rfl⟩
  clear hup5 hm5 hu5 ht4 HM4 HU4 HX3 HT3 H2 HB2 HL HH HS3 hput
  go_region
  go_upto_region 6 with fail
  go_region
  all_goals
    go_wp2
    first | go_end0 | refine bodyPost_ret (results_none rfl _ _ _) rfl ?_
    exact ⟨rfl, HFIN.out⟩
end Go.Proofs.Ytjdmgmnndfhmgaa
