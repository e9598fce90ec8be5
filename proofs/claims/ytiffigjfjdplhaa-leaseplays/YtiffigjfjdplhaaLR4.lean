/- The document's Grant. -/
import Derived.Test.YtiffigjfjdplhaaLR3
namespace Go.Proofs.Ytiffigjfjdplhaa
open Go Go.RowKit
theorem ins_at {L : List Ls} {f : Ls} : ∀ {k : Nat}, k ≤ L.length → (∀ j l, j < k → L[j]? = some l → l.id < f.id) → (∀ l, L[k]? = some l → f.id < l.id) → insL f L = L.take k ++ [f] ++ L.drop k := by
  induction L with
  | nil => intro k hk _ _; have : k = 0 := by simpa using hk
           subst this; rfl
  | cons g r ih =>
    intro k hk h1 h2
    cases k with
    | zero =>
      have := h2 g rfl
      unfold insL
      rw [if_pos this]
      rfl
    | succ k =>
      have hg := h1 0 g (by omega) rfl
      unfold insL
      rw [if_neg (by omega), ih (k := k) (by simpa using hk) (fun j l hj hl => h1 (j + 1) l (by omega) (by simpa using hl)) (fun l hl => h2 l (by simpa using hl))]
      rfl
theorem src_rs (w : World) (l : Ls) : Src Try.prog 3 27 (.slice (some ⟨w.heap.size, 0, none⟩) 1 1) 1 (lsC [l]) (w.alloc (.cells #[.int .i64 l.id, .int .i64 l.ttl, .int .i64 l.til] 46)) := by
  rw [lsC_one]
  refine Src.ofSlice _ Try.underlying27 ⟨w.heap.size, 0, none⟩ 1 1 _ rfl (fun j u hj => ?_) (fun u hu => ?_)
  · rw [Addr.add_lit]
    match j, hj with
    | 0, hj => cases hj; simp
    | 1, hj => cases hj; simp
    | 2, hj => cases hj; simp
  · simp [lsL] at hu
    rcases hu with rfl | rfl | rfl <;> rfl
set_option maxRecDepth 20000 in
set_option maxHeartbeats 1000000 in
theorem rgrant_arg (x : Nat) (id ttl now : Int) (w : World) (h : ¬ (1 ≤ id ∧ id ≤ 2147483647 ∧ 1 ≤ ttl ∧ ttl ≤ 2147483647)) :
    Calls Try.prog 11 #[ptr x, .int .i64 id, .int .i64 ttl, .int .i64 now] w fun e w' => e = .returned (.int .i64 1) ∧ w' = w := by
  by_cases h1 : id < 1
  · go_enter Try.func11, Try.ntmps11
    go_wp2
    go_ret
    exact ⟨rfl, rfl⟩
  by_cases h2 : 2147483647 < id
  · go_enter Try.func11, Try.ntmps11
    go_wp2
    go_ret
    exact ⟨rfl, rfl⟩
  by_cases h3 : ttl < 1
  · go_enter Try.func11, Try.ntmps11
    go_wp2
    go_ret
    exact ⟨rfl, rfl⟩
  have h4 : 2147483647 < ttl := by omega
  clear h
  go_enter Try.func11, Try.ntmps11
  go_wp2
  go_ret
  exact ⟨rfl, rfl⟩
set_option maxRecDepth 20000 in
set_option maxHeartbeats 1000000 in
theorem rgrant_any (B x : Nat) (v : Value) (L : List Ls) (id ttl now : Int) (w : World) (h : Rb B w x v L) (few : L.length ≤ 1024) (hu : upL L) (n1 : 0 ≤ now) (n2 : now ≤ 1099511627776) :
    Calls Try.prog 11 #[ptr x, .int .i64 id, .int .i64 ttl, .int .i64 now] w fun e w' => e = .returned (.int .i64 (grantE L id ttl now)) ∧ ((grantL L id ttl now = L ∧ w' = w) ∨ RbPost B w w' x (grantL L id ttl now)) := by
  have hnow : nowB now = true := by simp [nowB, n1, n2]
  by_cases ha : 1 ≤ id ∧ id ≤ 2147483647 ∧ 1 ≤ ttl ∧ ttl ≤ 2147483647
  · obtain ⟨i1, i2, t1, t2⟩ := ha
    have hb : argB id ttl now = true := by simp [argB, numB, hnow, i1, i2, t1, t2]
    have hat := rat_any B x v L id w h few
    cases hl : lookL id L with
    | some l =>
      have e1 : grantE L id ttl now = 7 := by simp [grantE, hb, hl]
      have e2 : grantL L id ttl now = L := by simp [grantL, e1]
      rw [e1, e2]
      go_enter Try.func11, Try.ntmps11
      go_wp2_with (go_at_call 23; refine hat.mono ?_; rintro e w1 ⟨k, rfl, hk, hw1⟩; obtain rfl := hw1.symm; obtain ⟨i, l', rfl, _⟩ := hk.some (by rw [hl]; rfl))
      go_ret
      exact ⟨rfl, .inl ⟨by simp, rfl⟩⟩
    | none =>
      obtain ⟨p, c, rfl, hc⟩ := h.form
      have c0 := h.c0
      by_cases hf : 1024 ≤ L.length
      · have e1 : grantE L id ttl now = 4 := by simp [grantE, hb, hl, hf]
        have e2 : grantL L id ttl now = L := by simp [grantL, e1]
        rw [e1, e2]
        have hz : (1024 : Int) ≤ (L.length : Int) := by omega
        go_enter Try.func11, Try.ntmps11
        go_wp2_with (go_at_call 23; refine hat.mono ?_; rintro e w1 ⟨k, rfl, hk, hw1⟩; obtain rfl := hw1.symm; obtain rfl := hk.none hl)
        go_ret
        exact ⟨rfl, .inl ⟨by simp, rfl⟩⟩
      · have e1 : grantE L id ttl now = 0 := by simp [grantE, hb, hl, hf]
        have e2 : grantL L id ttl now = insL ⟨id, ttl, now + ttl⟩ L := by simp [grantL, e1]
        rw [e1, e2]
        have hz : ¬ (1024 : Int) ≤ (L.length : Int) := by omega
        have f0 := h.f0
        have hxl := h.lt
        obtain ⟨t3, hti, hz0, hz1, hz2⟩ := info_of info46
        have H := Hid.mk'' h
        have HU := Hid.mk'' hu
        have HNL := Hid.mk'' (look_none hl)
        clear h hu
        go_enter Try.func11, Try.ntmps11
        go_wp2_with (go_at_call 23; refine hat.mono ?_; rintro e w1 ⟨k, rfl, hk, hw1⟩; obtain rfl := hw1.symm; obtain rfl := hk.none hl)
        clear hat hl hk e1 e2 hb hnow
        go_loopg [9] (L.length + 1) (fun kx s9 wq => ∃ (k : Nat), s9 = .int .i64 k ∧ kx + k = L.length + 1 ∧ k ≤ L.length ∧ wq = w ∧ Hid (∀ (j : Nat) (l : Ls), j < k → L[j]? = some l → l.id < id))
        case atStart => exact ⟨0, rfl, rfl, Nat.zero_le _, rfl, fun j l h => by omega⟩
        case round =>
          obtain ⟨k, rfl, hk, hkl, rfl, HN⟩ := hrel
          by_cases hgo : ∃ l, L[k]? = some l ∧ l.id < id
          · obtain ⟨l, hl, hlt⟩ := hgo
            have hkl2 := (List.getElem?_eq_some_iff.1 hl).1
            obtain ⟨g, hg, h0, _, _, hgl, _⟩ := row_rs H.out.row hl
            subst hg
            have HL := Hid.mk'' hl
            clear hl
            go_wp2
            go_roundg (L.length - k)
            case measure => omega
            case rel =>
              refine ⟨k + 1, by congr 1, by omega, by omega, rfl, fun j l' hj hl' => ?_⟩
              rcases Nat.lt_or_ge j k with hj' | hj'
              · exact HN.out j l' hj' hl'
              · obtain rfl : j = k := by omega
                have := HL.out
                rw [hl'] at this
                cases this
                exact hlt
          · have hafter : Hid (∀ l, L[k]? = some l → id < l.id) := fun l hl => by
              have h1 := HNL.out l (List.mem_of_getElem? hl)
              have h2 : ¬ l.id < id := fun h => hgo ⟨l, hl, h⟩
              omega
            have hins : Hid (insL ⟨id, ttl, now + ttl⟩ L = L.take k ++ [⟨id, ttl, now + ttl⟩] ++ L.drop k) := ins_at hkl HN.out hafter.out
            have hsrcT := cut_take H.out.row (k := k) hkl wr (Below.refl _ _)
            obtain ⟨p', hcut, hsrcD⟩ := cut_drop H.out.row (k := k) hkl hc
            have HSD := Hid.mk'' hsrcD
            have hkc : (k : Int) ≤ c := by omega
            have hcase : (∃ (l : Ls) (g : Nat), k < L.length ∧ p = some ⟨g, 0, none⟩ ∧ wr.cell? ⟨g, k * 3, none⟩ = some (.int .i64 l.id) ∧ ¬ l.id < id) ∨ ¬ k < L.length := by
              by_cases hlt : k < L.length
              · obtain ⟨l, hl⟩ : ∃ l, L[k]? = some l := ⟨_, List.getElem?_eq_getElem hlt⟩
                obtain ⟨g, hg, h0, _⟩ := row_rs H.out.row hl
                exact .inl ⟨l, g, hlt, hg, h0, fun h => hgo ⟨l, hl, h⟩⟩
              · exact .inr hlt
            clear hgo hsrcD
            have HEND : Hid (∀ w5 p5 c5 (v0 : Value), w5.cell? ⟨x, 0, none⟩ = some v0 → w5.frozen? ⟨x, 0, none⟩ = false → w5.ownsRow wr.heap.size 46 3 (.slice p5 (k + 1 + (L.length - k)) c5) (k + 1 + (L.length - k)) (lsC (L.take k) ++ lsC [⟨id, ttl, now + ttl⟩] ++ lsC (L.drop k)) → Upd wr w5 (fun k => k = x) → RbPost B wr (w5.setCell ⟨x, 0, none⟩ (.slice p5 (k + 1 + (L.length - k)) c5)) x (insL ⟨id, ttl, now + ttl⟩ L)) := fun w5 p5 c5 v0 a1 a2 a3 a4 => by
              refine rb_stored H.out.lo hxl a1 a2 a3 ?_ ?_ a4
              · rw [length_ins]; omega
              · rw [hins.out, lsC_append, lsC_append]
            clear HN HNL hafter hins
            rcases hcase with ⟨l, g, hlt, rfl, h0, hnl⟩ | hlt
            all_goals
              go_upto_region 12 with (at_builtin; refine wpList_appS _ rfl (.tmp 56) (.tmp 62) 27 27 rfl wr.heap.size 46 t3 _ 3 Try.underlying27 hti hz0 hz1 rfl (by rw [hz2]; decide) (.slice none 0 0) 0 [] rfl (World.ownsRow_nil _ _ _ _) _ rfl k (lsC (L.take k)) hsrcT (by omega) (Nat.le_refl _) ?_; intro v1 w3 q1 q2 q3 q4; obtain ⟨p1, c1, hv1⟩ := owns_form q1; subst hv1; clear q3 q4)
              have hb3 : Below wr.heap.size wr w3 := q2.below (Nat.le_refl _) (fun j _ e => by cases e)
              have q1 : w3.ownsRow wr.heap.size 46 3 (.slice p1 k c1) k (lsC (L.take k)) := by rw [Nat.zero_add, List.nil_append] at q1; exact q1
              have hsz3 := hb3.size
              have hb4 : Below wr.heap.size wr (w3.alloc (.cells #[.int .i64 id, .int .i64 ttl, .int .i64 (now + ttl)] 46)) := hb3.alloc hsz3 _
              have hsrc1 := src_rs w3 ⟨id, ttl, now + ttl⟩
              have q4 : (w3.alloc (.cells #[.int .i64 id, .int .i64 ttl, .int .i64 (now + ttl)] 46)).ownsRow wr.heap.size 46 3 (.slice p1 k c1) k (lsC (L.take k)) := ownsRow_upd q1 (Upd.ofBelow (S := fun _ => False) ((Below.refl _ w3).alloc (Nat.le_refl _) _)) (fun _ _ h => h)
              have HB4 := Hid.mk'' hb4
              have HQ4 := Hid.mk'' q4
              clear q2 hb3 hsrcT q1 hb4 q4
              go_upto_region 13 with (at_builtin; refine wpList_appS _ rfl (.tmp 64) (.tmp 71) 27 27 rfl wr.heap.size 46 t3 _ 3 Try.underlying27 hti hz0 hz1 rfl (by rw [hz2]; decide) (.slice p1 k c1) k (lsC (L.take k)) rfl HQ4.out _ rfl 1 (lsC [⟨id, ttl, now + ttl⟩]) hsrc1 (by omega) (by simp; omega) ?_; intro v2 w4 r1 r2 r3 r4; obtain ⟨p2, c2, hv2⟩ := owns_form r1; subst hv2; clear r3 r4)
              have hb5 : Below wr.heap.size wr w4 := HB4.out.trans (r2.below HB4.out.size (fun k hk e => by have := (HQ4.out.lt k e.symm).1; omega))
              have hsd := HSD.out w4 hb5
              have c4 := (hb5.cell (p := ⟨x, 0, none⟩) hxl).trans c0
              have f4 := (hb5.frozen (p := ⟨x, 0, none⟩) hxl).trans f0
              have hsz5 := hb5.size
              have HB5 := Hid.mk'' hb5
              have HR1 := Hid.mk'' r1
              have hxo : (Value.slice p2 (k + 1) c2).ownBlock ≠ some x := fun e => by have := (r1.lt x e).1; omega
              clear r2 hb5 hsrc1 r1
              go_upto_region 14 with (at_builtin; refine wpList_appS _ rfl (.tmp 74) (.tmp 80) 27 27 rfl wr.heap.size 46 t3 _ 3 Try.underlying27 hti hz0 hz1 rfl (by rw [hz2]; decide) (.slice p2 (k + 1) c2) (k + 1) (lsC (L.take k) ++ lsC [⟨id, ttl, now + ttl⟩]) rfl HR1.out _ rfl (L.length - k) (lsC (L.drop k)) hsd (by omega) hsz5 ?_; intro v5 w5 s1 s2 s3 s4; clear s4; have c5 := (s2.cell (p := ⟨x, 0, none⟩) (Nat.lt_of_lt_of_le hxl hsz5) (fun e => hxo e.symm)).trans c4; have f5 := (s2.frozen (p := ⟨x, 0, none⟩) (Nat.lt_of_lt_of_le hxl hsz5) (fun e => hxo e.symm)).trans f4; obtain ⟨p5, c5', hv5⟩ := owns_form s1; subst hv5)
              have HE := Hid.mk'' (HEND.out w5 p5 c5' _ c5 f5 s1 ((Upd.ofBelow HB5.out).trans s2 (fun k hk e => by have := (HR1.out.lt k e.symm).1; omega)))
              clear s1 s2 s3
              go_wp2
              go_ret
              exact ⟨rfl, .inr HE.out⟩
  · have hb : argB id ttl now = false := by
      cases e : argB id ttl now with
      | false => rfl
      | true =>
        obtain ⟨⟨a1, a2⟩, ⟨a3, a4⟩, _⟩ := grant_arg e
        exact absurd ⟨a1, a2, a3, a4⟩ ha
    have e1 : grantE L id ttl now = 1 := by simp [grantE, hb]
    have e2 : grantL L id ttl now = L := by simp [grantL, e1]
    rw [e1, e2]
    refine (rgrant_arg x id ttl now w ha).mono ?_
    rintro e w' ⟨rfl, rfl⟩
    exact ⟨rfl, .inl ⟨rfl, rfl⟩⟩
end Go.Proofs.Ytiffigjfjdplhaa
