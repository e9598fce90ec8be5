/- An opened log beside its disk. -/
import Derived.Test.YtecnlfalpfbobaaGreatDoorWL8
namespace Go.Proofs.YtecnlfalpfbobaaGreatDoor
open Go Go.RowKit
/-- A log that was opened lies beside its disk. -/
theorem Loaded.lg {B : Nat} {w w' : World} {l d : Nat} {g : Gu} {s : Sm} {ev : Value} {p : PS} (h : Loaded w.heap.size w' l d s ev p) (hd : Dk B w d g p) (hb : Below w.heap.size w w') (hB : B ≤ w.heap.size) : Lg B w' l d g p s ev 0 0 :=
  ⟨h.c0, h.sm.low hB, h.c8, h.c9, h.c10, hd.below hb, fun k hk => ⟨fun e => by have h1 := hd.lt hk; have h2 := h.lnew; omega, fun e => by have h1 := hd.lt hk; have h2 := (h.sm.rest.row.lt e).1; omega⟩,
    fun x hx => (h.new.1 x hx).mono (fun k hk => hd.lt hk), h.new.2.mono (fun k hk => hd.lt hk)⟩
/-- What was told is entries that are seen. -/
theorem Told.seesE {B : Nat} {w : World} {vv ev : Value} {xs : List Ev} {s : Sm} (h : Told B w vv ev xs s) (hi : ∀ x ∈ s.es, i64 x.e.i) : SeesE w ev xs :=
  ⟨⟨B, h.row⟩, fun x hx => ⟨h.ents x hx, by
    have h1 : x.e ∈ s.es.map Ev.e := by rw [← h.same]; exact List.mem_map_of_mem hx
    obtain ⟨y, hy, he⟩ := List.mem_map.1 h1
    rw [← he]; exact hi y hy⟩⟩
end Go.Proofs.YtecnlfalpfbobaaGreatDoor
