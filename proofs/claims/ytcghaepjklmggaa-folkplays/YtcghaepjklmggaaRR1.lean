/- The document's table in memory: at. -/
import Derived.Test.YtcghaepjklmggaaFK
namespace Go.Proofs.Ytcghaepjklmggaa
open Go Go.RowKit
theorem roC_len (g : Int → Value) : ∀ L : List Ro, (roC g L).length = L.length * 7
  | [] => rfl
  | l :: L => by
    have := roC_len g L
    simp only [roC, List.flatMap_cons, List.length_append, List.length_cons] at this ⊢
    rw [this]
    simp [roL]
    omega
theorem roC_at (g : Int → Value) : ∀ (L : List Ro) (i : Nat) (l : Ro), L[i]? = some l → ∀ r, r < 7 → (roC g L)[i * 7 + r]? = (roL g l)[r]?
  | [], _, _, h, _, _ => by cases h
  | a :: L, 0, l, h, r, hr => by
    cases h
    show (roL g a ++ roC g L)[0 * 7 + r]? = _
    rw [Nat.zero_mul, Nat.zero_add, List.getElem?_append_left (by simpa [roL] using hr)]
  | a :: L, i + 1, l, h, r, hr => by
    show (roL g a ++ roC g L)[(i + 1) * 7 + r]? = _
    rw [List.getElem?_append_right (by simp [roL]; omega)]
    have := roC_at g L i l (by simpa using h) r hr
    rw [← this]
    congr 1
    simp [roL]
    omega
theorem row_ro {w : World} {base e : Nat} {p : Option Addr} {n c : Nat} {L : List Ro} {g : Int → Value} (h : w.ownsRow base e 7 (.slice p n c) n (roC g L)) {i : Nat} {l : Ro} (hi : L[i]? = some l) : ∃ b, p = some ⟨b, 0, none⟩ ∧ (∀ r u, r < 7 → (roL g l)[r]? = some u → w.cell? ⟨b, i * 7 + r, none⟩ = some u) ∧ b < w.heap.size ∧ n ≤ c := by
  have hn : (roC g L).length = n * 7 := h.1
  rw [roC_len] at hn
  have hil : i < L.length := (List.getElem?_eq_some_iff.1 hi).1
  rcases h.2 with ⟨_, h0⟩ | ⟨b, cap, cur, e, hbg, hh, h1, h2, h3, h4⟩
  · omega
  · cases e
    refine ⟨b, rfl, fun r u hr hu => ?_, (Array.getElem?_eq_some_iff.1 hh).1, h1⟩
    have := h.cells (g := b) rfl (i * 7 + r) u (by rw [roC_at g L i l hi r hr]; exact hu)
    rwa [Addr.add_lit, Nat.zero_add] at this
/-- The document's table lies in memory at block x, v its slice of rows; g tells the lists of results. -/
structure Rt (Y : Nat → Prop) (B : Nat) (w : World) (x : Nat) (v : Value) (L : List Ro) (g : Int → Value) : Prop where
  c0 : w.cell? ⟨x, 0, none⟩ = some v
  f0 : w.frozen? ⟨x, 0, none⟩ = false
  row : w.ownsRow B 44 7 v L.length (roC g L)
  ne : v.ownBlock ≠ some x
  lo : B ≤ x
  res : ∀ r ∈ L, RSs Y w (g r.id) r.rs
section
variable {Y : Nat → Prop} {B : Nat} {w w' : World} {x : Nat} {v : Value} {L : List Ro} {g : Int → Value}
theorem Rt.lt (h : Rt Y B w x v L g) : x < w.heap.size := World.block_lt_of_cell? _ _ h.c0
theorem Rt.upd {S : Nat → Prop} (h : Rt Y B w x v L g) (hu : Upd w w' S) (hx : ¬ S x) (hv : ∀ k, v.ownBlock = some k → ¬ S k) (hY : ∀ k, Y k → ¬ S k) : Rt Y B w' x v L g :=
  ⟨(hu.cell (p := ⟨x, 0, none⟩) h.lt hx).trans h.c0, (hu.frozen (p := ⟨x, 0, none⟩) h.lt hx).trans h.f0, ownsRow_upd h.row hu hv, h.ne, h.lo, fun r hr => (h.res r hr).upd hu hY⟩
theorem Rt.below (h : Rt Y B w x v L g) (hb : Below w.heap.size w w') : Rt Y B w' x v L g := h.upd (S := fun _ => False) (Upd.ofBelow hb) (fun h => h) (fun _ _ h => h) (fun _ _ h => h)
theorem Rt.form (h : Rt Y B w x v L g) : ∃ p c, v = .slice p L.length c ∧ L.length ≤ c := by
  rcases h.row.2 with ⟨rfl, h0⟩ | ⟨g, cap, cur, rfl, _, _, h1, _⟩
  · exact ⟨none, 0, by rw [h0], by omega⟩
  · exact ⟨_, _, rfl, h1⟩
end
/-- Where an id stands. -/
def AtIs (L : List Ro) (id k : Int) : Prop := (k = -1 ∧ lookL id L = none) ∨ ∃ (i : Nat) (l : Ro), k = i ∧ L[i]? = some l ∧ l.id = id
set_option maxRecDepth 20000 in
set_option maxHeartbeats 1000000 in
theorem rat_any {Y : Nat → Prop} {B x : Nat} {v : Value} {L : List Ro} {g : Int → Value} (id : Int) (w : World) (h : Rt Y B w x v L g) (few : L.length ≤ 64) :
    Calls Try.prog 16 #[ptr x, .int .i64 id] w fun e w' => ∃ k, e = .returned (.int .i64 k) ∧ AtIs L id k ∧ w' = w := by
  obtain ⟨p, c, rfl, hc⟩ := h.form
  have c0 := h.c0
  have H := Hid.mk'' h
  clear h
  go_enter Try.func16, Try.ntmps16
  go_wp2
  go_loopg [5] (L.length + 1) (fun kx s5 wq => ∃ (i : Nat), s5 = .int .i64 i ∧ kx + i = L.length + 1 ∧ i ≤ L.length ∧ wq = w ∧ Hid (∀ (j : Nat) (l : Ro), j < i → L[j]? = some l → l.id ≠ id))
  case atStart => exact ⟨0, rfl, rfl, Nat.zero_le _, rfl, fun j l h => by omega⟩
  case round =>
    obtain ⟨i, rfl, hk, hi, rfl, HN⟩ := hrel
    by_cases hlt : i < L.length
    · obtain ⟨l, hl⟩ : ∃ l, L[i]? = some l := ⟨_, List.getElem?_eq_getElem hlt⟩
      obtain ⟨gb, hg, hcells, hgl, _⟩ := row_ro H.out.row hl
      have h0 := hcells 0 _ (by omega) rfl
      rw [Nat.add_zero] at h0
      subst hg
      clear hcells
      have HL := Hid.mk'' hl
      clear hl
      by_cases he : l.id = id
      · have heb : (l.id == id) = true := beq_iff_eq.2 he
        have HE := Hid.mk'' he
        clear he
        go_wp2
        go_ret
        exact ⟨_, rfl, .inr ⟨i, l, rfl, HL.out, HE.out⟩, rfl⟩
      · have heb : (l.id == id) = false := beq_eq_false_iff_ne.2 he
        have HE := Hid.mk'' he
        clear he
        go_wp2
        go_roundg (L.length - i)
        case measure => omega
        case rel =>
          refine ⟨i + 1, by congr 1, by omega, by omega, rfl, fun j l' hj hl' => ?_⟩
          rcases Nat.lt_or_ge j i with hj' | hj'
          · exact HN.out j l' hj' hl'
          · obtain rfl : j = i := by omega
            have := HL.out
            rw [hl'] at this
            cases this
            exact HE.out
    · obtain rfl : i = L.length := by omega
      go_wp2
      go_ret
      refine ⟨_, rfl, .inl ⟨rfl, ?_⟩, rfl⟩
      unfold lookL
      rw [List.find?_eq_none]
      intro l hl
      obtain ⟨j, hj⟩ := List.getElem?_of_mem hl
      have := HN.out j l (List.getElem?_eq_some_iff.1 hj).1 hj
      simpa using this
theorem AtIs.some {L : List Ro} {id k : Int} (h : AtIs L id k) (hs : (lookL id L).isSome = true) : ∃ (i : Nat) (l : Ro), k = i ∧ L[i]? = Option.some l ∧ l.id = id := by
  rcases h with ⟨_, h⟩ | h
  · rw [h] at hs; cases hs
  · exact h
theorem AtIs.none {L : List Ro} {id k : Int} (h : AtIs L id k) (hs : lookL id L = Option.none) : k = -1 := by
  rcases h with ⟨h, _⟩ | ⟨i, l, _, hl, e⟩
  · exact h
  · exact absurd e (look_none hs l (List.mem_of_getElem? hl))
end Go.Proofs.Ytcghaepjklmggaa
