/- The document's Over and Revoke. -/
import Derived.Test.YtiffigjfjdplhaaLR1
namespace Go.Proofs.Ytiffigjfjdplhaa
open Go Go.RowKit
set_option maxRecDepth 20000 in
set_option maxHeartbeats 1000000 in
theorem rover_any (B x : Nat) (v : Value) (L : List Ls) (now : Int) (w : World) (h : Rb B w x v L) (few : L.length ≤ 1024) :
    Calls Try.prog 17 #[ptr x, .int .i64 now] w fun e w' => ∃ p c, e = .returned (.slice p (overL L now).length c) ∧ w'.ownsRow w.heap.size 3 1 (.slice p (overL L now).length c) (overL L now).length (ints (overL L now)) ∧ Below w.heap.size w w' := by
  obtain ⟨p, c, rfl, hc⟩ := h.form
  have c0 := h.c0
  have hxl := h.lt
  obtain ⟨t3, hti, hz0, hz1, hz2⟩ := info_of info3
  have H := Hid.mk'' h
  clear h
  go_enter Try.func17, Try.ntmps17
  go_wp2
  go_loopg [5, 6] (L.length + 1) (fun kx s5 s6 wq => ∃ (i : Nat) (q : Option Addr) (cq : Nat), s5 = .slice q (overL (L.take i) now).length cq ∧ s6 = .int .i64 i ∧ kx + i = L.length + 1 ∧ i ≤ L.length ∧ (overL (L.take i) now).length ≤ i ∧ Hid (OR w wq (.slice q (overL (L.take i) now).length cq) (overL (L.take i) now)))
  case atStart => exact ⟨0, none, 0, rfl, rfl, rfl, Nat.zero_le _, by simp [overL], ⟨World.ownsRow_nil _ _ _ _, Below.refl _ _⟩⟩
  case round =>
    obtain ⟨i, q, cq, rfl, rfl, hk, hi, hov, HM⟩ := hrel
    by_cases hlt : i < L.length
    · obtain ⟨l, hl⟩ : ∃ l, L[i]? = some l := ⟨_, List.getElem?_eq_getElem hlt⟩
      obtain ⟨g, hg, h0, _, h2, hgl, _⟩ := row_rs H.out.row hl
      subst hg
      have hb := HM.out.bel
      have a0 := (hb.cell (p := ⟨g, i * 3, none⟩) hgl).trans h0
      have a2 := (hb.cell (p := ⟨g, i * 3 + 2, none⟩) hgl).trans h2
      have ac := (hb.cell (p := ⟨x, 0, none⟩) hxl).trans c0
      have htk : L.take (i + 1) = L.take i ++ [l] := by rw [List.take_add_one, hl]; rfl
      have hoa : overL (L.take (i + 1)) now = overL (L.take i) now ++ (if l.til ≤ now then [l.id] else []) := by
        rw [htk]
        unfold overL
        rw [List.filter_append, List.map_append]
        congr 1
        by_cases h : l.til ≤ now <;> simp [h]
      have HOA := Hid.mk'' hoa
      obtain ⟨O, hO⟩ : ∃ O, O = overL (L.take i) now := ⟨_, rfl⟩
      rw [← hO] at HM hov HOA ⊢
      have hsz := hb.size
      clear hoa htk hl h0 h2 hO hb
      by_cases hle : l.til ≤ now
      · have hsrc := src_one wr l.id
        have hb2 : Below wr.heap.size wr (wr.alloc (.cells #[.int .i64 l.id] 3)) := (Below.refl _ _).alloc (Nat.le_refl _) _
        have HO3 : OR w (wr.alloc (.cells #[.int .i64 l.id] 3)) (.slice q O.length cq) O := HM.out.upd (Upd.ofBelow (S := fun _ => False) hb2) (fun _ _ h => h) (fun _ _ h => h)
        have hrow3 := HO3.row
        have HO3' := Hid.mk'' HO3
        have HN : Hid (overL (L.take (i + 1)) now = O ++ [l.id]) := Hid.mk'' (by rw [HOA.out, if_pos hle])
        clear HO3 hb2
        go_wp2_with (at_builtin; refine wpList_appS _ rfl (.tmp 26) (.tmp 35) 39 39 rfl w.heap.size 3 t3 _ 1 Try.underlying39 hti hz0 hz1 rfl (by rw [hz2]; decide) _ O.length (ints O) rfl hrow3 _ rfl 1 (ints [l.id]) hsrc (by omega) (by simp; omega) ?_; intro v' w' q1 q2 q3 q4; obtain ⟨np, nc, hnv⟩ := owns_form q1; subst hnv; clear q3 q4)
        go_roundg (L.length - i)
        case measure => omega
        case rel =>
          refine ⟨i + 1, np, nc, by rw [HN.out]; simp, by congr 1, by omega, by omega, by rw [HN.out]; simp; omega, ?_⟩
          rw [HN.out]
          refine Hid.mk'' ⟨by simpa using q1, HO3'.out.bel.trans (q2.below HO3'.out.bel.size (fun k hk e => ?_))⟩
          have := (HO3'.out.row.lt k e.symm).1
          omega
      · have HN : Hid (overL (L.take (i + 1)) now = O) := Hid.mk'' (by rw [HOA.out, if_neg hle, List.append_nil])
        go_wp2
        go_roundg (L.length - i)
        case measure => omega
        case rel => exact ⟨i + 1, q, cq, by rw [HN.out], by congr 1, by omega, by omega, by rw [HN.out]; omega, by rw [HN.out]; exact HM⟩
    · obtain rfl : i = L.length := by omega
      rw [List.take_length] at HM ⊢
      have ac := (HM.out.bel.cell (p := ⟨x, 0, none⟩) hxl).trans c0
      go_wp2
      go_ret
      exact ⟨q, cq, rfl, HM.out.row, HM.out.bel⟩
end Go.Proofs.Ytiffigjfjdplhaa
