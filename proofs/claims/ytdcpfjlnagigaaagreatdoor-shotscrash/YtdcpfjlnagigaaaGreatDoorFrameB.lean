/- A slice of bytes that came in, and how long it can be. -/
import Derived.Test.YtdcpfjlnagigaaaGreatDoorFrame
import Derived.SizedLaws
namespace Go.Proofs.YtdcpfjlnagigaaaGreatDoor
open Go.ChangeShapes Go.WideShapes Go.ChangeAt Go.RowKit
theorem bytes5 : Tryz.prog.bytesOf 5 = 1 := by kernel_rfl
theorem lits_len (k : IntKind) (zs : List Int) {H : Type} : (lits (H := H) k zs).length = zs.length := by simp [lits]
theorem weigh {H : Type} {ts : List TypeId} {ds : List (DataW H)} (h : (DataW.weightsEach Tryz.prog ts ds).all (· ≤ reachBytes) = true) {j : Nat} {t : TypeId} {d : DataW H} (ht : ts[j]? = some t) (hd : ds[j]? = some d) : ∀ n ∈ d.weights Tryz.prog t, n ≤ reachBytes := fun n hn => by
  have := List.all_eq_true.1 h _ (DataW.weights_mem_each ht hd n hn)
  simpa using this
/-- A slice of bytes that came in. -/
theorem bytes_in {H : Type} {enc : TypeId × Value → H} {W : World} {base : Nat} {sp : Nat → Bool} {held : Bool} {a : Option Addr} {len cap : Nat} {x : DataW H × List MemPlace} {fuel : Nat}
    (hf : DataW.trod enc Tryz.prog W base sp held fuel 35 (Value.cells (.slice a len cap)).toList = some x) (hw : ∀ n ∈ x.1.weights Tryz.prog 35, n ≤ reachBytes) : ∃ zs : List Int, zs.length = len ∧ len ≤ 140737488355328 ∧ isB zs ∧ Sees W (.slice a len cap) zs := by
  rcases open_ints Tryz.underlying35 Tryz.underlying5 (by kernel_rfl) hf with ⟨hcs, _⟩ | ⟨y, l, c, zs, hcs, _, hl, hm, hz, hx, hcell, hwz⟩
  · simp [Value.cells] at hcs
    obtain ⟨rfl, rfl, rfl⟩ := hcs
    exact ⟨[], rfl, by decide, (fun _ h => by cases h), .inl ⟨rfl, _, _, rfl, (fun _ => rfl), by decide⟩⟩
  · simp [Value.cells] at hcs
    obtain ⟨rfl, rfl, rfl⟩ := hcs
    have hz2 : len ≤ zs.length := by rw [hz]; split <;> omega
    have hlz : (zs.take len).length = len := by simp; omega
    have hbd : len ≤ 140737488355328 := by
      have := hw ((((lits (H := H) .u8 (zs.take len)).length + (lits (H := H) .u8 (zs.drop len)).length)) * Tryz.prog.bytesOf 5) (by rw [hx]; simp [DataW.weights, Tryz.underlying35])
      rw [bytes5, lits_len, lits_len] at this
      unfold reachBytes at this
      omega
    refine ⟨zs.take len, hlz, hbd, ?_, ?_⟩
    · intro z hz'
      have := hwz z (List.mem_of_mem_take hz')
      have := bounds_u8 this
      omega
    · by_cases h0 : len = 0
      · subst h0
        exact .inl ⟨by simp, _, _, rfl, (fun e => by cases e), hm⟩
      · obtain ⟨b, off, rfl, hc⟩ := ints_at hcell (by omega)
        refine .inr ⟨b, off, cap, by rw [hlz], by omega, by omega, hm, fun i hi => ?_⟩
        rw [hc i (by omega)]
        have hi' : i < len := by omega
        simp [List.getD_eq_getElem?_getD, hi']
end Go.Proofs.YtdcpfjlnagigaaaGreatDoor
