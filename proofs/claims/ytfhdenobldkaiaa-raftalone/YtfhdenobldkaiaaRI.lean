/- extend: a node's own entry behind its log. -/
import Derived.Test.YtfhdenobldkaiaaRH
namespace Go.Proofs.Ytfhdenobldkaiaa
open Go Go.RowKit
theorem Laid.from {w W w' : World} {d n : Nat} {a : Nd} {xs : List Value} {t k : Int} {dv : Value} (hb : Below w.heap.size w W) (h : Laid W w' d a n xs t k dv) : Laid w w' d a n xs t k dv := by
  obtain ⟨v', h1, h2, h3, h4⟩ := h
  exact ⟨v', h1, h2, (Upd.ofBelow hb).trans h3 (fun _ _ e => e), h4.imp id (fun ⟨z, e, hz⟩ => ⟨z, e, Nat.le_trans hb.size hz⟩)⟩
set_option maxRecDepth 100000 in
set_option maxHeartbeats 1000000 in
theorem extend_one {w : World} {d n : Nat} {a : Nd} {xs : List Value} {k : Int} {dv : Value} (h : Nod w d a) (ho : w.ownsRow 0 43 4 a.ents n xs) (hdv : ∃ p n c, dv = .slice p n c) (hk : k ≠ 2) (hn : n ≤ 1000) (hold : a.old ≤ n) :
    Calls Try.prog 28 #[ptr d, iv k, dv] w fun e w' => e = .returned (.tuple #[]) ∧ Laid w w' d a n xs a.term k dv := by
  obtain ⟨p, cv, hv⟩ := owns_formB0 ho
  have hl1 : ∀ W, Below w.heap.size w W → Calls Try.prog 20 #[.pointer (some ⟨d, 7, none⟩)] W fun e w' => e = .returned (iv n) ∧ Below W.heap.size W w' := fun W hb => by
    have h' := h.below hb h.lt
    have := last_at W d 7 0 p n cv (h'.cell 7 rfl) (by have := h'.cell 11 (u := a.ents) rfl; rwa [hv] at this) ⟨by decide, by decide⟩ (by omega)
    simp only [Int.zero_add] at this
    exact this
  have HL := Hid.mkW hl1
  have hw : IntKind.i64.wrap ((n : Int) + 1) = (n : Int) + 1 := by rw [IntKind.wrap_i64]; omega
  have hlay : ∀ W x c, Below w.heap.size w W → W.heap[x]? = some (.cells #[.int .i64 (IntKind.i64.wrap ((n : Int) + 1)), iv a.term, iv k, dv] 43 (0, 0)) → Calls Try.prog 38 #[ptrT d, .slice (some ⟨x, 0, none⟩) 1 c] W fun e w' => e = .returned (.tuple #[]) ∧ Laid w w' d a n xs a.term k dv := fun W x c hb hr => by
    rw [hw] at hr
    refine (lay_one (h.below hb h.lt) (ownsRow_upd ho (Upd.ofBelow (S := fun _ => False) hb) (fun _ _ h => h)) ⟨hr, hdv⟩ hk hn hold).mono ?_
    rintro e w' ⟨rfl, hL⟩
    exact ⟨rfl, hL.from hb⟩
  have HY := Hid.mkW hlay
  have c1 : w.cell? ⟨d, 1, none⟩ = some (iv a.term) := h.cell 1 rfl
  have hlt : d < w.heap.size := h.lt
  obtain ⟨dp, dn, dc, rfl⟩ := hdv
  have hlast := hl1 w.drew (Below.refl _ _).drew
  clear h ho hl1 hlay hold hv HL hw
  go_enter Try.func28, Try.ntmps28
  go_region_law (first
    | (go_simp; go_at_call 20; (with_reducible refine hlast.mono ?_); rintro e w1 ⟨rfl, hb1⟩; have hb1' : Below w.heap.size w w1 := (Below.refl w.heap.size w).drew.trans hb1; have c1' : w1.cell? ⟨d, 1, none⟩ = some (iv a.term) := (hb1'.cell (p := ⟨d, 1, none⟩) hlt).trans c1; have hsz1 : w.heap.size ≤ w1.heap.size := hb1'.size; have hlay := HY.out (w1.alloc (.cells #[.int .i64 (IntKind.i64.wrap ((n : Int) + 1)), iv a.term, iv k, .slice dp dn dc] 43)) w1.heap.size 1 (hb1'.alloc hsz1 _) (row_alloc _ _ _); have HB := Hid.mkW hb1'; clear hb1 hb1')
    | (go_simp; go_at_call 38; (with_reducible refine hlay.mono ?_); rintro e w4 ⟨rfl, HA⟩; have HB2 := Hid.mkW HA; clear HA))
  all_goals
    go_wp2
    first | go_end0 | refine bodyPost_ret (results_none rfl _ _ _) rfl ?_
    exact ⟨rfl, HB2.out⟩
end Go.Proofs.Ytfhdenobldkaiaa
