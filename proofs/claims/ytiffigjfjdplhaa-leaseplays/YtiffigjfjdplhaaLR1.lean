/- The document's book in memory: at, Has, Over. -/
import Derived.Test.YtiffigjfjdplhaaLW3
namespace Go.Proofs.Ytiffigjfjdplhaa
open Go Go.RowKit
/-- The document's book lies in memory at block x, v its slice of leases. -/
structure Rb (B : Nat) (w : World) (x : Nat) (v : Value) (L : List Ls) : Prop where
  c0 : w.cell? ⟨x, 0, none⟩ = some v
  f0 : w.frozen? ⟨x, 0, none⟩ = false
  row : w.ownsRow B 46 3 v L.length (lsC L)
  ne : v.ownBlock ≠ some x
  lo : B ≤ x
theorem Rb.lt {B : Nat} {w : World} {x : Nat} {v : Value} {L : List Ls} (h : Rb B w x v L) : x < w.heap.size := World.block_lt_of_cell? _ _ h.c0
theorem Rb.upd {B : Nat} {w w' : World} {x : Nat} {v : Value} {L : List Ls} {S : Nat → Prop} (h : Rb B w x v L) (hu : Upd w w' S) (hx : ¬ S x) (hv : ∀ k, v.ownBlock = some k → ¬ S k) : Rb B w' x v L :=
  ⟨(hu.cell (p := ⟨x, 0, none⟩) h.lt hx).trans h.c0, (hu.frozen (p := ⟨x, 0, none⟩) h.lt hx).trans h.f0, ownsRow_upd h.row hu hv, h.ne, h.lo⟩
theorem Rb.below {B : Nat} {w w' : World} {x : Nat} {v : Value} {L : List Ls} (h : Rb B w x v L) (hb : Below w.heap.size w w') : Rb B w' x v L := h.upd (S := fun _ => False) (Upd.ofBelow hb) (fun h => h) (fun _ _ h => h)
theorem Rb.form {B : Nat} {w : World} {x : Nat} {v : Value} {L : List Ls} (h : Rb B w x v L) : ∃ p c, v = .slice p L.length c ∧ L.length ≤ c := by
  rcases h.row.2 with ⟨rfl, h0⟩ | ⟨g, cap, cur, rfl, _, _, h1, _⟩
  · exact ⟨none, 0, by rw [h0], by omega⟩
  · exact ⟨_, _, rfl, h1⟩
theorem row_rs {w : World} {base : Nat} {p : Option Addr} {n c : Nat} {L : List Ls} (h : w.ownsRow base 46 3 (.slice p n c) n (lsC L)) {i : Nat} {l : Ls} (hi : L[i]? = some l) : ∃ g, p = some ⟨g, 0, none⟩ ∧ w.cell? ⟨g, i * 3, none⟩ = some (.int .i64 l.id) ∧ w.cell? ⟨g, i * 3 + 1, none⟩ = some (.int .i64 l.ttl) ∧ w.cell? ⟨g, i * 3 + 2, none⟩ = some (.int .i64 l.til) ∧ g < w.heap.size ∧ n ≤ c := by
  have hn : (lsC L).length = n * 3 := h.1
  rw [lsC_len] at hn
  have hil : i < L.length := (List.getElem?_eq_some_iff.1 hi).1
  rcases h.2 with ⟨_, h0⟩ | ⟨g, cap, cur, e, hbg, hh, h1, h2, h3, h4⟩
  · omega
  · cases e
    have hc : ∀ r u, r < 3 → (lsL l)[r]? = some u → w.cell? ⟨g, i * 3 + r, none⟩ = some u := fun r u hr hu => by
      have := h.cells (g := g) rfl (i * 3 + r) u (by rw [lsC_at L i l hi r hr]; exact hu)
      rwa [Addr.add_lit, Nat.zero_add] at this
    exact ⟨g, rfl, hc 0 _ (by omega) rfl, hc 1 _ (by omega) rfl, hc 2 _ (by omega) rfl, (Array.getElem?_eq_some_iff.1 hh).1, h1⟩
/-- Where an id stands. -/
def AtIs (L : List Ls) (id k : Int) : Prop := (k = -1 ∧ lookL id L = none) ∨ ∃ (i : Nat) (l : Ls), k = i ∧ L[i]? = some l ∧ l.id = id
set_option maxRecDepth 20000 in
set_option maxHeartbeats 1000000 in
theorem rat_any (B x : Nat) (v : Value) (L : List Ls) (id : Int) (w : World) (h : Rb B w x v L) (few : L.length ≤ 1024) :
    Calls Try.prog 23 #[ptr x, .int .i64 id] w fun e w' => ∃ k, e = .returned (.int .i64 k) ∧ AtIs L id k ∧ w' = w := by
  obtain ⟨p, c, rfl, hc⟩ := h.form
  have c0 := h.c0
  have H := Hid.mk'' h
  clear h
  go_enter Try.func23, Try.ntmps23
  go_wp2
  go_loopg [5] (L.length + 1) (fun kx s5 wq => ∃ (i : Nat), s5 = .int .i64 i ∧ kx + i = L.length + 1 ∧ i ≤ L.length ∧ wq = w ∧ Hid (∀ (j : Nat) (l : Ls), j < i → L[j]? = some l → l.id ≠ id))
  case atStart => exact ⟨0, rfl, rfl, Nat.zero_le _, rfl, fun j l h => by omega⟩
  case round =>
    obtain ⟨i, rfl, hk, hi, rfl, HN⟩ := hrel
    by_cases hlt : i < L.length
    · obtain ⟨l, hl⟩ : ∃ l, L[i]? = some l := ⟨_, List.getElem?_eq_getElem hlt⟩
      obtain ⟨g, hg, h0, _, _, hgl, _⟩ := row_rs H.out.row hl
      subst hg
      have HL := Hid.mk'' hl
      clear hl
      by_cases he : l.id = id
      · have heb : (l.id == id) = true := beq_iff_eq.2 he
        have HE := Hid.mk'' he
        clear he
        go_wp2
        go_ret
        exact ⟨_, rfl, .inr ⟨i, l, rfl, HL.out, HE.out⟩, rfl⟩
      · have heb : (l.id == id) = false := beq_eq_false_iff_ne.2 he
        have HE := Hid.mk'' he
        clear he
        go_wp2
        go_roundg (L.length - i)
        case measure => omega
        case rel =>
          refine ⟨i + 1, by congr 1, by omega, by omega, rfl, fun j l' hj hl' => ?_⟩
          rcases Nat.lt_or_ge j i with hj' | hj'
          · exact HN.out j l' hj' hl'
          · obtain rfl : j = i := by omega
            have := HL.out
            rw [hl'] at this
            cases this
            exact HE.out
    · obtain rfl : i = L.length := by omega
      go_wp2
      go_ret
      refine ⟨_, rfl, .inl ⟨rfl, ?_⟩, rfl⟩
      unfold lookL
      rw [List.find?_eq_none]
      intro l hl
      obtain ⟨j, hj⟩ := List.getElem?_of_mem hl
      have := HN.out j l (List.getElem?_eq_some_iff.1 hj).1 hj
      simpa using this
theorem AtIs.some {L : List Ls} {id k : Int} (h : AtIs L id k) (hs : (lookL id L).isSome = true) : ∃ (i : Nat) (l : Ls), k = i ∧ L[i]? = Option.some l ∧ l.id = id := by
  rcases h with ⟨_, h⟩ | h
  · rw [h] at hs; cases hs
  · exact h
theorem AtIs.none {L : List Ls} {id k : Int} (h : AtIs L id k) (hs : lookL id L = Option.none) : k = -1 := by
  rcases h with ⟨h, _⟩ | ⟨i, l, _, hl, e⟩
  · exact h
  · exact absurd e (look_none hs l (List.mem_of_getElem? hl))
theorem rhas_any (B x : Nat) (v : Value) (L : List Ls) (id : Int) (w : World) (h : Rb B w x v L) (few : L.length ≤ 1024) :
    Calls Try.prog 20 #[ptr x, .int .i64 id] w fun e w' => e = .returned (.bool (lookL id L).isSome) ∧ w' = w := by
  have hat := rat_any B x v L id w h few
  cases hl : lookL id L with
  | none =>
    go_enter Try.func20, Try.ntmps20
    go_wp2_with (go_at_call 23; refine hat.mono ?_; rintro e w1 ⟨k, rfl, hk, hw1⟩; obtain rfl := hw1.symm; obtain rfl := hk.none hl)
    go_ret
    exact ⟨rfl, rfl⟩
  | some l =>
    go_enter Try.func20, Try.ntmps20
    go_wp2_with (go_at_call 23; refine hat.mono ?_; rintro e w1 ⟨k, rfl, hk, hw1⟩; obtain rfl := hw1.symm; obtain ⟨i, l', rfl, _⟩ := hk.some (by rw [hl]; rfl))
    go_ret
    exact ⟨rfl, rfl⟩
end Go.Proofs.Ytiffigjfjdplhaa
