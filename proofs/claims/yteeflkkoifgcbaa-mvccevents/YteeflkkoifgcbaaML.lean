/- A change laid into a store, as data. -/
import Derived.Test.YteeflkkoifgcbaaMC9
namespace Go.Proofs.Yteeflkkoifgcbaa
open Go Go.RowKit

def insK (key : ByteArray) : List ByteArray → List ByteArray
  | [] => [key]
  | k :: l => if klt k key then k :: insK key l else if k = key then k :: l else key :: k :: l
theorem mem_insK {key j : ByteArray} : ∀ {l : List ByteArray}, j ∈ insK key l ↔ j = key ∨ j ∈ l
  | [] => by simp [insK]
  | k :: l => by
    unfold insK
    split
    · simp only [List.mem_cons, mem_insK (l := l)]
      constructor
      · rintro (h | h | h)
        · exact .inr (.inl h)
        · exact .inl h
        · exact .inr (.inr h)
      · rintro (h | h | h)
        · exact .inr (.inl h)
        · exact .inl h
        · exact .inr (.inr h)
    · split
      · rename_i e
        simp only [List.mem_cons]
        constructor
        · exact .inr
        · rintro (h | h)
          · exact .inl (by rw [h, e])
          · exact h
      · simp only [List.mem_cons]
def layS (S : Sto) (r : Int) (key : ByteArray) (c : Option KVd) : Sto :=
  { S with ks := insK key S.ks, kh := fun k => if k = key then S.kh k ++ [(r, c)] else S.kh k, nth := if c.isSome then (if (thereH (S.kh key)).isSome then S.nth else S.nth + 1) else (if (thereH (S.kh key)).isSome then S.nth - 1 else S.nth) }
theorem layS_same (S : Sto) (r : Int) (key : ByteArray) (c : Option KVd) : (layS S r key c).kh key = S.kh key ++ [(r, c)] := by simp [layS]
theorem layS_other (S : Sto) (r : Int) {key k : ByteArray} (c : Option KVd) (h : ¬ k = key) : (layS S r key c).kh k = S.kh k := by simp [layS, h]
theorem look_ks (f : ByteArray → List Mk) : ∀ (ks : List ByteArray) (key : ByteArray), lookD (ks.map fun k => (k, f k)) key = if hasK ks key then some (f key) else none
  | [], key => rfl
  | k :: ks, key => by
    simp only [List.map_cons, lookD]
    by_cases h : k = key
    · subst h; simp [hasK]
    · rw [if_neg h, look_ks f ks key]
      have : hasK (k :: ks) key = hasK ks key := by simp [hasK, h]
      rw [this]
theorem set_ks (f : ByteArray → List Mk) (key : ByteArray) (ms : List Mk) : ∀ {ks : List ByteArray}, Asc ks → setD (ks.map fun k => (k, f k)) key ms = (insK key ks).map fun k => (k, if k = key then ms else f k)
  | [], _ => by simp [setD, insK]
  | k :: ks, ⟨h1, h2⟩ => by
    simp only [List.map_cons, setD, insK]
    by_cases hk : klt k key = true
    · rw [if_pos hk, if_pos hk, List.map_cons, set_ks f key ms h2]
      have : ¬ k = key := klt_ne hk
      simp [this]
    · rw [if_neg hk, if_neg hk]
      have htl : ∀ j ∈ ks, klt key j = true → (fun k => (k, f k)) j = (fun k => (k, if k = key then ms else f k)) j := fun j _ hj => by
        have : ¬ j = key := (klt_ne hj).symm
        simp [this]
      by_cases e : k = key
      · subst e
        rw [if_pos rfl, if_pos rfl, List.map_cons]
        congr 1
        · simp
        · exact List.map_congr_left (fun j hj => htl j hj (h1 j hj))
      · rw [if_neg e, if_neg e, List.map_cons, List.map_cons]
        have hkk : klt key k = true := by
          cases hq : klt key k
          · exact absurd (klt_tri (by simpa using hk) hq) e
          · rfl
        congr 1
        · simp
        · congr 1
          · simp [e]
          · exact List.map_congr_left (fun j hj => htl j hj (klt_trans hkk (h1 j hj)))
theorem lookD_datS {n : Nat} {w : World} {s : Nat} {S : Sto} {g : Sg} {o : Value} (h : St n w s S g o) (key : ByteArray) : (lookD (datS S) key).getD [] = (S.kh key).map markOf ∧ ((lookD (datS S) key) = none ↔ S.kh key = []) := by
  unfold datS
  rw [look_ks (fun k => (S.kh k).map markOf)]
  by_cases hm : key ∈ S.ks
  · rw [if_pos (hasK_iff.2 hm)]
    have := (h.mem key).1 hm
    simp [this]
  · have h0 : S.kh key = [] := Classical.byContradiction fun hn => hm ((h.mem key).2 hn)
    have : ¬ hasK S.ks key = true := fun e => hm (hasK_iff.1 e)
    rw [if_neg this, h0]
    simp
theorem lastM_marks {h : Hs} {p : Int × Option KVd} (e : h.getLast? = some p) : lastM (h.map markOf) = markOf p := by
  unfold lastM
  rw [List.getLastD_eq_getLast?, List.getLast?_map, e]
  rfl
/-- What may be laid. -/
structure LayOk (S : Sto) (r : Int) (key : ByteArray) (c : Option KVd) : Prop where
  sz : 0 < key.size ∧ key.size ≤ 100
  lt : ∀ p ∈ S.kh key, p.1 < r
  pos : 0 < r
  kv : ∀ v, c = some v → v.key = key ∧ v.mod = r ∧ 1 ≤ v.version ∧ v.version ≤ r
  del : c = none → (thereH (S.kh key)).isSome = true
theorem putE_lay {n : Nat} {w : World} {s : Nat} {S : Sto} {g : Sg} {o : Value} (h : St n w s S g o) {r : Int} {key : ByteArray} {c : Option KVd} (L : LayOk S r key c) : putE (datS S) key r c.isNone = 0 ∧ putD (datS S) key r c.isNone = datS (layS S r key c) := by
  obtain ⟨h1, h2⟩ := lookD_datS h key
  have hE : putE (datS S) key r c.isNone = 0 := by
    unfold putE
    have hs := L.sz
    have hp := L.pos
    rw [if_neg (by omega)]
    cases hl : lookD (datS S) key with
    | none =>
      have h0 := h2.1 hl
      cases c with
      | none => have := L.del rfl; rw [h0] at this; cases this
      | some v => rfl
    | some ms =>
      rw [hl] at h1
      dsimp only [Option.getD_some] at h1
      have hne : S.kh key ≠ [] := fun e => by have := h2.2 e; rw [hl] at this; cases this
      obtain ⟨p, hp'⟩ : ∃ p, (S.kh key).getLast? = some p := ⟨_, List.getLast?_eq_some_getLast hne⟩
      have hlm : lastM ms = markOf p := by rw [h1]; exact lastM_marks hp'
      have hlt := L.lt p (List.mem_of_getLast? hp')
      dsimp only
      rw [hlm]
      have : ¬ r ≤ (markOf p).1 := by unfold markOf; dsimp only; omega
      rw [if_neg this]
      cases c with
      | some v => rfl
      | none =>
        have hd := L.del rfl
        unfold thereH at hd
        rw [hp'] at hd
        obtain ⟨pr, po⟩ := p
        cases po with
        | none => cases hd
        | some v => rfl
  refine ⟨hE, ?_⟩
  unfold putD
  rw [if_pos hE, h1]
  have ha : Asc S.ks := by have := h.bd.asc; rw [datS_keys] at this; exact this
  unfold datS
  rw [set_ks (fun k => (S.kh k).map markOf) key _ ha]
  show _ = (insK key S.ks).map _
  refine List.map_congr_left (fun k _ => ?_)
  by_cases e : k = key
  · subst e
    rw [if_pos rfl, layS_same, List.map_append]
    rfl
  · rw [if_neg e, layS_other _ _ _ e]
theorem chF_lay (S : Sto) {r : Int} {key : ByteArray} {c : Option KVd} (L : LayOk S r key c) (p : Int × ByteArray) : chF (layS S r key c) p = setF (chF S) (r, key) (encC key c) p := by
  obtain ⟨a, k⟩ := p
  unfold chF setF
  by_cases e : k = key
  · subst e
    simp only [layS_same]
    rw [List.find?_append]
    by_cases ea : a = r
    · subst ea
      have hno : (S.kh k).find? (fun q => decide (q.1 = a)) = none := List.find?_eq_none.2 (fun q hq => by have := L.lt q hq; simp; omega)
      rw [hno]
      simp
    · have : ¬ r = a := fun e => ea e.symm
      simp [ea, this]
  · simp only [layS_other _ _ _ e]
    have : ¬ (a, k) = (r, key) := fun h => e (by cases h; rfl)
    rw [if_neg this]
theorem thF_lay (S : Sto) (r : Int) (key : ByteArray) {v : KVd} (k : ByteArray) (hv : v.mod = r) : thF (layS S r key (some v)) k = setF (thF S) key (.int .i64 r) k := by
  unfold thF setF
  by_cases e : k = key
  · subst e
    rw [layS_same, thereH_snoc]
    simp [hv]
  · rw [layS_other _ _ _ e, if_neg e]
theorem thF_layD (S : Sto) (r : Int) (key k : ByteArray) : thF (layS S r key none) k = delF (thF S) key k := by
  unfold thF delF
  by_cases e : k = key
  · subst e
    rw [layS_same, thereH_snoc]
    simp
  · rw [layS_other _ _ _ e, if_neg e]
end Go.Proofs.Yteeflkkoifgcbaa
