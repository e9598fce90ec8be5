/- DiskPublish, walked: a file that is written beside, synced and renamed onto an elder one is the elder or the newer one, whole. -/
import Derived.Test.YtmfhfabfhoiegabKnown
namespace Go.Proofs.Ytmfhfabfhoiegab
open Go Go.RowKit
theorem Sees.off {B : Nat} {w wx : World} {d : Nat} {g : Gu} {p : PS} {v : Value} {zs : List Int} (h : Sees w v zs) (hd : Dk B wx d g p) (hB : w.heap.size ≤ B) : ∀ k, v.ownBlock = some k → 0 < zs.length → ¬ Foot d g k := by
  intro k hk h0 hf
  rcases h with ⟨rfl, _⟩ | ⟨b, off, cap, rfl, _, _, _, hc⟩
  · simp at h0
  · have h1 := World.block_lt_of_cell? _ _ (hc 0 h0)
    have h1 : b < w.heap.size := h1
    have hk : b = k := Option.some.inj hk
    have := hd.ge hf
    omega
theorem SeesI.off {B : Nat} {w wx : World} {d : Nat} {g : Gu} {p : PS} {v : Value} {zs : List Int} (h : SeesI w v zs) (hd : Dk B wx d g p) (hB : w.heap.size ≤ B) : ∀ k, v.ownBlock = some k → 0 < zs.length → ¬ Foot d g k := by
  intro k hk h0 hf
  rcases h with ⟨rfl, _⟩ | ⟨b, off, cap, rfl, _, hb, hc⟩
  · simp at h0
  · have hk : b = k := Option.some.inj hk
    have := hd.ge hf
    omega
theorem SeesI.below {w w' : World} {v : Value} {zs : List Int} (h : SeesI w v zs) (hb : Below w.heap.size w w') : SeesI w' v zs := by
  rcases h with h | ⟨b, off, cap, rfl, h0, h1, hc⟩
  · exact .inl h
  · exact .inr ⟨b, off, cap, rfl, h0, by have := hb.size; omega, fun i hi => (hb.cell (p := ⟨b, off + i, none⟩) h1).trans (hc i hi)⟩
/-- Sane numbers, as one finds them in the statements. -/
theorem sane_mk {fs : List PF} {room ops stops : Int} {dead : Bool} (h1 : 0 ≤ room) (h2 : room ≤ 1000000000) (h3 : 0 ≤ stops) (h4 : stops ≤ 1000000000) (h5 : 0 ≤ ops) (h6 : ops ≤ 1000000) (h7 : total fs ≤ 1000000) (h8 : fs.length < 1000000) : (⟨fs, room, ops, stops, dead⟩ : PS).sane :=
  ⟨h1, by show room ≤ _; omega, by show _ ≤ stops; omega, by show stops ≤ _; omega, h5, h6, h7, h8⟩
theorem pb1 (a : List Int) (h : a.length ≤ 1000) : appE (q0 1048576) [102] a.length = 0 ∧ appP (q0 1048576) [102] a = ⟨[⟨[102], a, 0⟩], 1048576, 1, 0, false⟩ := by
  have hE : appE (q0 1048576) [102] a.length = 0 := appE_ok rfl rfl (by simp [q0, total]; omega)
  exact ⟨hE, (appP_yes hE).trans rfl⟩
theorem pb2 (a : List Int) : syncP ⟨[⟨[102], a, 0⟩], 1048576, 1, 0, false⟩ [102] = ⟨[⟨[102], a, a.length⟩], 1048576, 2, 0, false⟩ := rfl
theorem pb3 (a b : List Int) (n : Nat) (st : Int) (h : a.length + b.length ≤ 1000) (hs : st ≠ 1) (_h0 : 0 ≤ st) : appE ⟨[⟨[102], a, n⟩], 1048576, 2, st, false⟩ [103] b.length = 0 ∧ appP ⟨[⟨[102], a, n⟩], 1048576, 2, st, false⟩ [103] b = ⟨[⟨[102], a, n⟩, ⟨[103], b, 0⟩], 1048576, 3, if 0 < st then st - 1 else st, false⟩ := by
  have hst : (⟨[⟨[102], a, n⟩], 1048576, 2, st, false⟩ : PS).stopped = false := by simp [PS.stopped, hs]
  have hE : appE ⟨[⟨[102], a, n⟩], 1048576, 2, st, false⟩ [103] b.length = 0 := appE_ok hst rfl (by simp [total]; omega)
  refine ⟨hE, (appP_yes hE).trans ?_⟩
  unfold PS.begun
  rw [hst]
  rfl
/-- What is left to be walked, once the elder file lies there, and the disk is to stop at the k-th operation. -/
theorem pb_dead (fs : List PF) (R o st : Int) (dd : Bool) (nm : List UInt8) (h : st = 1 ∨ dd = true) : opE ⟨fs, R, o, st, dd⟩ nm = 13 ∧ (∀ n, appE ⟨fs, R, o, st, dd⟩ nm n = 13) ∧ (∀ a, renE ⟨fs, R, o, st, dd⟩ nm a = 13) := by
  have hst : (⟨fs, R, o, st, dd⟩ : PS).stopped = true := by rcases h with h | h <;> simp [PS.stopped, h]
  exact ⟨opE_stop hst, fun n => appE_stop hst, fun a => renE_stop hst⟩
theorem withinF_nat (a : Int) (n : Nat) (hn : 0 < n) : ∃ k : Nat, k < n ∧ withinF a n = k := by
  have := withinF_bd a n hn
  exact ⟨(withinF a n).toNat, by omega, by omega⟩
theorem str_same (zs : List Int) : ((strOfNums zs).toList == (strOfNums zs).toList) = true := by simp
end Go.Proofs.Ytmfhfabfhoiegab
