/- The document's Note where the client has a row already. -/
import Derived.Test.YtcghaepjklmggaaRR2
namespace Go.Proofs.Ytcghaepjklmggaa
open Go Go.RowKit
variable {Y : Nat → Prop} {B x : Nat} {v : Value} {L : List Ro} {g : Int → Value}
theorem del_at {L : List Ro} (hu : upL L) {i : Nat} {l : Ro} (hl : L[i]? = some l) : delL l.id L = L.take i ++ L.drop (i + 1) := by
  have hi := (List.getElem?_eq_some_iff.1 hl).1
  have e : L = L.take i ++ l :: L.drop (i + 1) := by
    have h1 : L.drop i = l :: L.drop (i + 1) := by rw [List.drop_eq_getElem_cons hi, (List.getElem?_eq_some_iff.1 hl).2]
    rw [← h1, List.take_append_drop]
  have hu' : upL (L.take i ++ l :: L.drop (i + 1)) := by rw [← e]; exact hu
  have h1 := List.pairwise_append.1 hu'
  have h2 := List.pairwise_cons.1 h1.2.1
  conv => lhs; rw [e]
  unfold delL
  rw [List.filter_append, List.filter_cons_of_neg (by simp), List.filter_eq_self.2, List.filter_eq_self.2]
  · intro x hx
    have := h2.1 x hx
    simp; omega
  · intro x hx
    have := h1.2.2 x hx l (by simp)
    simp; omega
theorem ins_at {L : List Ro} {f : Ro} : ∀ {k : Nat}, k ≤ L.length → (∀ j l, j < k → L[j]? = some l → l.id < f.id) → (∀ l, L[k]? = some l → f.id < l.id) → insL f L = L.take k ++ [f] ++ L.drop k := by
  induction L with
  | nil => intro k hk _ _; have : k = 0 := by simpa using hk
           subst this; rfl
  | cons g r ih =>
    intro k hk h1 h2
    cases k with
    | zero =>
      have := h2 g rfl
      unfold insL
      rw [if_pos this]
      rfl
    | succ k =>
      have hg := h1 0 g (by omega) rfl
      unfold insL
      rw [if_neg (by omega), ih (k := k) (by simpa using hk) (fun j l hj hl => h1 (j + 1) l (by omega) (by simpa using hl)) (fun l hl => h2 l (by simpa using hl))]
      rfl
theorem ins_set {f : Ro} : ∀ {L : List Ro} {i : Nat} {l : Ro}, upL L → L[i]? = some l → l.id = f.id → insL f (delL f.id L) = L.set i f
  | [], i, l, _, h, _ => by simp at h
  | a :: L, 0, l, hu, h, e => by
    obtain rfl : a = l := by simpa using h
    obtain ⟨h1, h2⟩ := List.pairwise_cons.1 hu
    have hd : delL f.id (a :: L) = L := by
      unfold delL
      rw [List.filter_cons_of_neg (by simp [e]), List.filter_eq_self.2]
      intro y hy
      have := h1 y hy
      simp; omega
    rw [hd]
    cases L with
    | nil => rfl
    | cons b L =>
      have := h1 b (by simp)
      unfold insL
      rw [if_pos (by omega)]
      rfl
  | a :: L, i + 1, l, hu, h, e => by
    obtain ⟨h1, h2⟩ := List.pairwise_cons.1 hu
    have h' : L[i]? = some l := by simpa using h
    have ha := h1 l (List.mem_of_getElem? h')
    have hd : delL f.id (a :: L) = a :: delL f.id L := by
      unfold delL
      rw [List.filter_cons_of_pos (by simp; omega)]
    rw [hd]
    unfold insL
    rw [if_neg (by omega), ins_set h2 h' e]
    rfl
/-- Six cells of a row are laid anew. -/
theorem roC_put {c s : Int} {rp : Rp} {rs : List Rs} {u : Value} : ∀ {L : List Ro} {k : Nat} {l : Ro}, upL L → L[k]? = some l → l.id = c →
    ((((((roC g L).set (k * 7 + 1) (.int .i64 s)).set (k * 7 + 2) (.int .i64 rp.err)).set (k * 7 + 2 + 1) (.int .i64 rp.rev)).set (k * 7 + 2 + 2) (.bool rp.thn)).set (k * 7 + 2 + 3) u).set (k * 7 + 2 + 4) (.int .i64 rp.tim) = roC (setF g c u) (L.set k ⟨c, s, rp, rs⟩)
  | [], k, l, _, h, _ => by simp at h
  | a :: L, 0, l, hu, h, e => by
    obtain rfl : a = l := by simpa using h
    obtain ⟨h1, h2⟩ := List.pairwise_cons.1 hu
    have hr : roC (setF g c u) L = roC g L := roC_set (fun y hy => by have := h1 y hy; omega)
    show ((((((roL g a ++ roC g L).set 1 _).set 2 _).set 3 _).set 4 _).set 5 _).set 6 _ = roL (setF g c u) _ ++ roC (setF g c u) L
    rw [hr]
    subst e
    simp [roL, setF]
  | a :: L, k + 1, l, hu, h, e => by
    obtain ⟨h1, h2⟩ := List.pairwise_cons.1 hu
    have h' : L[k]? = some l := by simpa using h
    have ha := h1 l (List.mem_of_getElem? h')
    have ih := roC_put (s := s) (rp := rp) (rs := rs) (u := u) h2 h' e
    have hh : roL (setF g c u) a = roL g a := by simp [roL, setF]; intro h3; omega
    show ((((((roL g a ++ roC g L).set _ _).set _ _).set _ _).set _ _).set _ _).set _ _ = roL (setF g c u) a ++ roC (setF g c u) (L.set k _)
    rw [hh, ← ih]
    have hl : (roL g a).length = 7 := rfl
    rw [List.set_append_right _ _ (by rw [hl]; omega), List.set_append_right _ _ (by rw [hl]; omega), List.set_append_right _ _ (by rw [hl]; omega), List.set_append_right _ _ (by rw [hl]; omega), List.set_append_right _ _ (by rw [hl]; omega), List.set_append_right _ _ (by rw [hl]; omega), hl]
    rw [show (k + 1) * 7 + 1 - 7 = k * 7 + 1 by omega, show (k + 1) * 7 + 2 - 7 = k * 7 + 2 by omega, show (k + 1) * 7 + 2 + 1 - 7 = k * 7 + 2 + 1 by omega, show (k + 1) * 7 + 2 + 2 - 7 = k * 7 + 2 + 2 by omega, show (k + 1) * 7 + 2 + 3 - 7 = k * 7 + 2 + 3 by omega, show (k + 1) * 7 + 2 + 4 - 7 = k * 7 + 2 + 4 by omega]
/-- What a call on the document's table leaves. -/
def RtPost (Y : Nat → Prop) (B : Nat) (w w' : World) (x : Nat) (L' : List Ro) : Prop := ∃ v' g', Rt Y B w' x v' L' g' ∧ Upd w w' (fun k => k = x) ∧ ∀ k, v'.ownBlock = some k → w.heap.size ≤ k
theorem roC_cells {Z : Nat → Prop} {w : World} {l : List Ro} {g : Int → Value} (hr : ∀ r ∈ l, RSs Z w (g r.id) r.rs) {u : Value} (hu : u ∈ roC g l) : u.oneCell' = true := by
  obtain ⟨y, hy, h⟩ := List.mem_flatMap.1 hu
  obtain ⟨p, c, hp, _⟩ := hr y hy
  simp [roL] at h
  rcases h with rfl | rfl | rfl | rfl | rfl | rfl | rfl
  all_goals first | rfl | (rw [hp]; rfl)
theorem info44 : (Try.prog.info? 44).map (fun i => (i.zero, i.size, i.bytes)) = some (some (.agg #[.int .i64 0, .int .i64 0, .int .i64 0, .int .i64 0, .bool false, .slice none 0 0, .int .i64 0]), 7, 72) := by kernel_rfl
theorem src_rows {Z : Nat → Prop} {w : World} {B : Nat} {p : Option Addr} {c : Nat} {L : List Ro} {g : Int → Value} (h : w.ownsRow B 44 7 (.slice p L.length c) L.length (roC g L)) (hr : ∀ r ∈ L, RSs Z w (g r.id) r.rs) : Src Try.prog 7 27 (.slice p L.length c) L.length (roC g L) w := by
  rcases h.2 with ⟨e, h0⟩ | ⟨b, cap, cur, e, hbg, hh, h1, h2, h3, h4⟩
  · simp only [Value.slice.injEq] at e
    obtain ⟨rfl, _, rfl⟩ := e
    have : L = [] := List.eq_nil_of_length_eq_zero h0
    subst this
    exact Src.ofNil _ Try.underlying27 0
  · cases e
    refine Src.ofSlice _ Try.underlying27 ⟨b, 0, none⟩ L.length c _ (by rw [roC_len]) (fun j u hj => ?_) (fun u hu => roC_cells hr hu)
    exact h.cells (g := b) rfl j u hj
end Go.Proofs.Ytcghaepjklmggaa
