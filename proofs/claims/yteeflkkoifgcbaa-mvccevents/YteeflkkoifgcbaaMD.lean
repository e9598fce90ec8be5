/- A store's keys as data. -/
import Derived.Test.YteeflkkoifgcbaaRW
namespace Go.Proofs.Yteeflkkoifgcbaa
open Go Go.RowKit

/-- A key as it was put. -/
structure KVd where
  key : ByteArray
  value : ByteArray
  create : Int
  mod : Int
  version : Int
  lease : Int
def noKV : KVd := ⟨ByteArray.empty, ByteArray.empty, 0, 0, 0, 0⟩
def encKV (k : KVd) : Value := .agg #[.string k.key, .string k.value, .int .i64 k.create, .int .i64 k.mod, .int .i64 k.version, .int .i64 k.lease]
/-- What was done to a key, revision by revision: a put, or a deletion (none). -/
abbrev Hs := List (Int × Option KVd)
def thereH (h : Hs) : Option KVd := match h.getLast? with | some (_, some kv) => some kv | _ => none
/-- A key as it was at a revision. -/
def atH (h : Hs) (rev : Int) : Option KVd := thereH (h.filter fun p => decide (p.1 ≤ rev))
theorem thereH_snoc (h : Hs) (r : Int) (o : Option KVd) : thereH (h ++ [(r, o)]) = o := by
  unfold thereH
  rw [List.getLast?_concat]
  cases o <;> rfl
theorem thereH_nil : thereH [] = none := rfl
theorem atH_all {h : Hs} {rev : Int} (hr : ∀ p ∈ h, p.1 ≤ rev) : atH h rev = thereH h := by
  unfold atH
  rw [List.filter_eq_self.2]
  intro p hp
  exact decide_eq_true (hr p hp)
theorem atH_snoc_lt {h : Hs} {r rev : Int} {o : Option KVd} (hr : rev < r) : atH (h ++ [(r, o)]) rev = atH h rev := by
  unfold atH
  rw [List.filter_append]
  have : ¬ r ≤ rev := by omega
  simp [this]
theorem atH_snoc_le {h : Hs} {r rev : Int} {o : Option KVd} (hr : r ≤ rev) : atH (h ++ [(r, o)]) rev = o := by
  unfold atH
  rw [List.filter_append]
  have : ([(r, o)] : Hs).filter (fun p => decide (p.1 ≤ rev)) = [(r, o)] := by simp [hr]
  rw [this, thereH_snoc]
/-- A key's history is right: revisions rise, puts bear their key and revision, a deletion follows a put. -/
structure HOk (k : ByteArray) (rev : Int) (h : Hs) : Prop where
  asc : h.Pairwise (fun p q => p.1 < q.1)
  pos : ∀ p ∈ h, 0 < p.1 ∧ p.1 ≤ rev
  kv : ∀ r v, (r, some v) ∈ h → v.key = k ∧ v.mod = r ∧ 1 ≤ v.version ∧ v.version ≤ r
theorem HOk.nil (k : ByteArray) (rev : Int) : HOk k rev [] := ⟨List.Pairwise.nil, fun _ h => (by cases h), fun _ _ h => (by cases h)⟩
theorem HOk.snoc {k : ByteArray} {rev : Int} {h : Hs} (H : HOk k rev h) {r : Int} (h0 : 0 ≤ rev) (hr : rev < r) {o : Option KVd} (ho : ∀ v, o = some v → v.key = k ∧ v.mod = r ∧ 1 ≤ v.version ∧ v.version ≤ r) : HOk k r (h ++ [(r, o)]) where
  asc := by
    rw [List.pairwise_append]
    refine ⟨H.asc, by simp, fun p hp q hq => ?_⟩
    have := H.pos p hp
    obtain rfl : q = (r, o) := by simpa using hq
    dsimp only
    omega
  pos := fun p hp => by
    rcases List.mem_append.1 hp with hp | hp
    · have := H.pos p hp; omega
    · obtain rfl : p = (r, o) := by simpa using hp
      dsimp only
      omega
  kv := fun r' v hp => by
    rcases List.mem_append.1 hp with hp | hp
    · exact H.kv r' v hp
    · obtain ⟨rfl, rfl⟩ : r' = r ∧ some v = o := by simpa using hp
      exact ho v rfl
theorem HOk.mono {k : ByteArray} {rev r : Int} {h : Hs} (H : HOk k rev h) (hr : rev ≤ r) : HOk k r h := ⟨H.asc, fun p hp => ⟨(H.pos p hp).1, Int.le_trans (H.pos p hp).2 hr⟩, H.kv⟩
theorem thereH_mem {h : Hs} {v : KVd} (e : thereH h = some v) : ∃ r, (r, some v) ∈ h ∧ h.getLast? = some (r, some v) := by
  unfold thereH at e
  split at e
  · rename_i r kv hl
    cases e
    exact ⟨r, List.mem_of_getLast? hl, hl⟩
  · cases e
theorem atH_mem {h : Hs} {rev : Int} {v : KVd} (e : atH h rev = some v) : ∃ r, (r, some v) ∈ h ∧ r ≤ rev := by
  obtain ⟨r, h1, _⟩ := thereH_mem e
  obtain ⟨h2, h3⟩ := List.mem_filter.1 h1
  exact ⟨r, h2, by simpa using h3⟩
end Go.Proofs.Yteeflkkoifgcbaa
