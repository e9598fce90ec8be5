/- Lists of bytes that came in. -/
import Derived.Test.YtfhdenobldkaiaaRD
import Derived.Test.YtfhdenobldkaiaaRows
import Derived.ProofKit
import Derived.OpenShut
import Derived.SizedLaws
import Derived.Stop.Joined
import Derived.Deep.Grids
import Derived.Deep.Strs
namespace Go.Proofs.Ytfhdenobldkaiaa
open Go Go.ChangeShapes Go.WideShapes Go.ChangeAt Go.RowKit
theorem own : ownKnob Try.prog.godebug = none := by kernel_rfl
theorem laidOut : laidOutB Try.prog = true := by kernel_rfl
theorem bytes5 : Try.prog.bytesOf 5 = 1 := by kernel_rfl
theorem cells35 : Try.prog.cellsOf 35 = 1 := by kernel_rfl
theorem lits_len (k : IntKind) (zs : List Int) {H : Type} : (lits (H := H) k zs).length = zs.length := by simp [lits]
theorem weigh {H : Type} {ts : List TypeId} {ds : List (DataW H)} (h : (DataW.weightsEach Try.prog ts ds).all (· ≤ reachBytes) = true) {j : Nat} {t : TypeId} {d : DataW H} (ht : ts[j]? = some t) (hd : ds[j]? = some d) : ∀ n ∈ d.weights Try.prog t, n ≤ reachBytes := fun n hn => by
  have := List.all_eq_true.1 h _ (DataW.weights_mem_each ht hd n hn)
  simpa using this
section
variable {H : Type} {enc : TypeId × Value → H} {W : World} {base : Nat} {sp : Nat → Bool} {held : Bool}
theorem weightsAll_mem {P : Program} {e : TypeId} {n : Nat} : ∀ {l : List (DataW H)} {d : DataW H}, d ∈ l → n ∈ d.weights P e → n ∈ DataW.weightsAll P e l
  | x :: r, d, hd, hn => by
    simp only [DataW.weightsAll, List.mem_append]
    rcases List.mem_cons.1 hd with rfl | hd
    · exact .inl hn
    · exact .inr (weightsAll_mem hd hn)
theorem add_blk {y : Addr} {u : Value} (h : W.cell? (y.add 0) = some u) : ∃ b off, y = ⟨b, off, none⟩ ∧ b < W.heap.size := by
  obtain ⟨b, off, spot⟩ := y
  have hspot : spot = none := by simpa [Addr.add] using World.cell?_spot h
  subst hspot
  have := World.block_lt_of_cell? _ _ h
  exact ⟨b, off, rfl, by simpa [Addr.add] using this⟩
theorem getElem?_mapRange {α : Type} {f : Nat → α} {len i : Nat} {c : α} (h : ((List.range len).map f)[i]? = some c) : i < len ∧ c = f i := by
  rw [List.getElem?_map] at h
  obtain ⟨k, hk, rfl⟩ := Option.map_eq_some_iff.1 h
  obtain ⟨h1, h2⟩ := List.getElem?_eq_some_iff.1 hk
  simp at h1 h2
  subst h2
  exact ⟨h1, rfl⟩
/-- A slice of bytes that came in. -/
theorem bytes_in {cs : List Value} {x : DataW H × List MemPlace} {fuel : Nat} (hf : DataW.trod enc Try.prog W base sp held fuel 35 cs = some x) (hw : ∀ n ∈ x.1.weights Try.prog 35, n ≤ reachBytes) : ∃ (v : Value) (zs : List Int), cs = [v] ∧ Sees W v zs ∧ zs.length ≤ 140737488355328 := by
  rcases open_ints Try.underlying35 Try.underlying5 (by kernel_rfl) hf with ⟨hcs, _⟩ | ⟨y, len, cap, zs, hcs, _, hl, hm, hz, hx, hcell, hwz⟩
  · exact ⟨_, [], hcs, .inl ⟨rfl, _, _, rfl, (fun _ => rfl), by decide⟩, by decide⟩
  · have hz2 : len ≤ zs.length := by rw [hz]; split <;> omega
    have hlz : (zs.take len).length = len := by simp; omega
    have hbd : len ≤ 140737488355328 := by
      have := hw ((((lits (H := H) .u8 (zs.take len)).length + (lits (H := H) .u8 (zs.drop len)).length)) * Try.prog.bytesOf 5) (by rw [hx]; simp [DataW.weights, Try.underlying35])
      rw [bytes5, lits_len, lits_len] at this
      unfold reachBytes at this
      omega
    refine ⟨_, zs.take len, hcs, ?_, by omega⟩
    by_cases h0 : len = 0
    · subst h0
      exact .inl ⟨by simp, _, _, rfl, (fun e => by cases e), hm⟩
    · obtain ⟨b, off, rfl, hc⟩ := ints_at hcell (by omega)
      refine .inr ⟨b, off, cap, by rw [hlz], by omega, by omega, hm, fun i hi => ?_⟩
      rw [hc i (by omega)]
      have hi' : i < len := by omega
      simp [List.getD_eq_getElem?_getD, hi']
/-- Lists of bytes, seen through a slice. -/
def SeesB (W : World) (v : Value) (ds : List (List Int)) : Prop := ∃ p c, v = .slice p ds.length c ∧ ∀ i zs, ds[i]? = some zs → ∃ b off u, p = some ⟨b, off, none⟩ ∧ b < W.heap.size ∧ W.cell? ⟨b, off + i, none⟩ = some u ∧ Sees W u zs ∧ zs.length ≤ 140737488355328
def InB (W : World) (y : Addr) (i : Nat) (zs : List Int) : Prop := ∃ u, W.cell? (y.add (i * 1)) = some u ∧ Sees W u zs ∧ zs.length ≤ 140737488355328
set_option maxRecDepth 100000 in
theorem lists_in {a : Option Addr} {len cap : Nat} {x : DataW H × List MemPlace} {fuel : Nat}
    (hf : DataW.trod enc Try.prog W base sp held fuel 22 (Value.cells (.slice a len cap)).toList = some x) (hw : ∀ n ∈ x.1.weights Try.prog 22, n ≤ reachBytes) : ∃ ds : List (List Int), SeesB W (.slice a len cap) ds := by
  rcases Deep.open_slice Try.underlying22 hf with ⟨hcs, _⟩ | ⟨y, l, c, m, n, D, Pl, hcs, _, hl, hm, hmm, hx, hel⟩
  · simp [Value.cells] at hcs
    obtain ⟨rfl, rfl, rfl⟩ := hcs
    exact ⟨[], none, 0, rfl, fun i c h => by simp at h⟩
  · simp [Value.cells] at hcs
    obtain ⟨rfl, rfl, rfl⟩ := hcs
    have hlm : len ≤ m := by rw [hmm]; split <;> omega
    have each : ∀ i, i < len → ∃ zs : List Int, InB W y i zs := by
      intro i hi
      obtain ⟨cs', h1, h2⟩ := hel i (by omega)
      have hwi : ∀ q ∈ (D i).weights Try.prog 35, q ≤ reachBytes := fun q hq => hw q (by
        rw [hx]
        simp only [DataW.weights, Try.underlying22, List.mem_cons, List.mem_append]
        exact .inr (.inl (weightsAll_mem (List.mem_map.2 ⟨i, List.mem_range.2 hi, rfl⟩) hq)))
      rw [cells35] at h1
      obtain ⟨v, zs, rfl, hs, hz⟩ := bytes_in h2 hwi
      obtain ⟨_, _, hc⟩ := World.cells?_some h1
      have g0 := hc 0 (by omega)
      rw [Deep.add_add] at g0
      exact ⟨zs, v, by simpa using g0, hs, hz⟩
    obtain ⟨f, hfn⟩ := Deep.choose_lt (α := List Int) (p := fun i c => InB W y i c) each
    have hll : ((List.range len).map f).length = len := by simp
    refine ⟨(List.range len).map f, some y, cap, by rw [hll], fun i zs hi => ?_⟩
    obtain ⟨hi', rfl⟩ := getElem?_mapRange hi
    obtain ⟨u, g0, hs, hz⟩ := hfn i hi'
    obtain ⟨u0, h0, _⟩ := hfn 0 (by omega)
    rw [Nat.zero_mul] at h0
    obtain ⟨b, off, rfl, hbl⟩ := add_blk h0
    rw [Addr.add_lit, Nat.mul_one] at g0
    exact ⟨b, off, u, rfl, hbl, g0, hs, hz⟩
end
end Go.Proofs.Ytfhdenobldkaiaa
