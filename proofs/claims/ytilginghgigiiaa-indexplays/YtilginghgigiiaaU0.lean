/- Texts that come in; keys that are told. -/
import Derived.Test.YtilginghgigiiaaQQ
namespace Go.Proofs.Ytilginghgigiiaa
open Go Go.RowKit

def SeesS (w : World) (v : Value) (zs : List ByteArray) : Prop :=
  (zs = [] ∧ ∃ ao cap, v = .slice ao 0 cap) ∨ ∃ b off cap, v = .slice (some ⟨b, off, none⟩) zs.length cap ∧ 0 < zs.length ∧ b < w.heap.size ∧ ∀ i, i < zs.length → w.cell? ⟨b, off + i, none⟩ = some (.string (zs.getD i ByteArray.empty)) ∧ (zs.getD i ByteArray.empty).size ≤ 9223372036854775807
theorem SeesS.form {w : World} {v : Value} {zs : List ByteArray} (h : SeesS w v zs) : ∃ ao cap, v = .slice ao zs.length cap := by
  rcases h with ⟨rfl, ao, cap, rfl⟩ | ⟨b, off, cap, rfl, _⟩ <;> exact ⟨_, _, rfl⟩
theorem SeesS.at {w : World} {a : Option Addr} {cap : Nat} {zs : List ByteArray} (h : SeesS w (.slice a zs.length cap) zs) {j : Nat} (hj : j < zs.length) : ∃ b off, a = some ⟨b, off, none⟩ ∧ b < w.heap.size ∧ w.cell? ⟨b, off + j, none⟩ = some (.string (zs.getD j ByteArray.empty)) ∧ (zs.getD j ByteArray.empty).size ≤ 9223372036854775807 := by
  rcases h with ⟨h, _⟩ | ⟨b, off, c, he, _, hb, hc⟩
  · subst h; simp at hj
  · cases he; exact ⟨b, off, rfl, hb, (hc j hj).1, (hc j hj).2⟩
/-- A row of texts that the program made. -/
structure Row (w : World) (v : Value) (ks : List ByteArray) : Prop where
  form : ∃ p c, v = .slice p ks.length c
  at_ : ∀ j k, ks[j]? = some k → ∃ g c, v = .slice (some ⟨g, 0, none⟩) ks.length c ∧ g < w.heap.size ∧ w.cell? ⟨g, j, none⟩ = some (.string k)
theorem Row.below {w w' : World} (hb : Below w.heap.size w w') {v : Value} {ks : List ByteArray} (h : Row w v ks) : Row w' v ks :=
  ⟨h.form, fun j k hj => by
    obtain ⟨g, c, h1, h2, h3⟩ := h.at_ j k hj
    exact ⟨g, c, h1, Nat.lt_of_lt_of_le h2 hb.size, (hb.cell (p := ⟨g, j, none⟩) h2).trans h3⟩⟩
theorem KeysPost.row {w w' : World} {v : Value} {ks : List ByteArray} (h : KeysPost w w' v ks) : Row w' v ks := by
  refine ⟨owns_formB0 h.1, fun j k hj => ?_⟩
  have hl := (List.getElem?_eq_some_iff.1 hj).1
  obtain ⟨g, c, hv, _, _⟩ := owns_formB h.1 (by omega)
  have hc := h.1.cells (g := g) (by rw [hv]; rfl) j (.string k) (by simp [hj])
  simp only [Addr.add_lit, Nat.zero_add] at hc
  exact ⟨g, c, hv, World.block_lt_of_cell? _ _ hc, hc⟩
theorem keysD_all (D : Dat) : keysD ⟨#[]⟩ ⟨#[]⟩ D = D.map Prod.fst := by
  unfold keysD
  rw [List.filter_eq_self]
  intro k _
  rw [klt_nil]
  rfl
theorem keysD_asc {lo hi : ByteArray} {D : Dat} (h : Asc (D.map Prod.fst)) : Asc (keysD lo hi D) := asc_sublist List.filter_sublist h
theorem lookD_not {D : Dat} (ha : Asc (D.map Prod.fst)) {key : ByteArray} (h : lookD D key = none) : key ∉ D.map Prod.fst := fun hm => by
  obtain ⟨p, hp, rfl⟩ := List.mem_map.1 hm
  obtain ⟨A, B, hAB⟩ := List.append_of_mem hp
  rw [hAB] at ha h
  rw [lookD_at (X := A) (Z := B) (key := p.1) (ms := p.2) ha] at h
  cases h
theorem putD_len {D : Dat} (ha : Asc (D.map Prod.fst)) {key : ByteArray} {rev : Int} {del : Bool} (h : lookD D key = none) (he : putE D key rev del = 0) : (putD D key rev del).length = D.length + 1 := by
  unfold putD
  rw [if_pos he, setD_new (lookD_not ha h)]
  have := congrArg List.length (List.takeWhile_append_dropWhile (p := fun p : ByteArray × List Mk => klt p.1 key) (l := D))
  simp only [List.length_append] at this
  simp; omega
theorem bd_pos {n : Nat} {D : Dat} (h : Bd n D) {key : ByteArray} {ms : List Mk} (hl : lookD D key = some ms) : 0 < ms.length := (h.ms _ (lookD_mem hl)).2.2
end Go.Proofs.Ytilginghgigiiaa
