/- Lists are read. -/
import Derived.Test.YtamgoknoapcnjaaDoorNG
import Derived.Deep.LoopGhost
namespace Go.Proofs.YtamgoknoapcnjaaDoor
open Go Go.RowKit
theorem Bs.strong {Z : Nat → Prop} {w : World} {v : Value} {zs : List Int} (h : Bs Z w v zs) : Bs (fun k => Z k ∧ k < w.heap.size) w v zs := by
  refine ⟨h.s, fun k hk h0 => ⟨h.z k hk h0, ?_⟩⟩
  rcases h.s with ⟨rfl, _⟩ | ⟨b, off, cap, rfl, h1, h2, h3, hc⟩
  · simp at h0
  · have : b < w.heap.size := World.block_lt_of_cell? _ _ (hc 0 h1)
    have e : b = k := by simpa [Value.ownBlock] using hk
    omega
theorem src_ent (w : World) (x : Ent) (p : Option Addr) (n c : Nat) : Src Tryd.prog 4 22 (.slice (some ⟨w.heap.size, 0, none⟩) 1 1) 1 [iv x.i, iv x.t, iv x.k, .slice p n c] (w.alloc (.cells #[iv x.i, iv x.t, iv x.k, .slice p n c] 58)) :=
  Src.ofSlice _ Tryd.underlying22 ⟨w.heap.size, 0, none⟩ 1 1 _ rfl (fun j u hj => by
    rw [Addr.add_lit, cell_of_row _ _ _ _ _ _ (row_alloc w _ 58), Nat.zero_add]
    simpa using hj) (fun u hu => by
    simp at hu
    rcases hu with rfl | rfl | rfl | rfl <;> rfl)
/-- An entry behind the others. -/
theorem EsO.push {base : Nat} {wr w3 w5 : World} {v5 : Value} {p p3 : Option Addr} {c c3 : Nat} {L : List Ent} {ds : List Value} {x : Ent} {b : Nat} (h : EsO base wr (.slice p L.length c) L ds) (hb : b < base) (u3 : Upd wr w3 (fun k => k = b)) (hB : base ≤ wr.heap.size)
    (b3 : Bs (fun k => wr.heap.size ≤ k) w3 (.slice p3 x.d.length c3) x.d) (o : Obj)
    (q1 : w5.ownsRow base 58 4 v5 (L.length + 1) (ecells L ds ++ [iv x.i, iv x.t, iv x.k, .slice p3 x.d.length c3])) (q2 : Upd (w3.alloc o) w5 (fun k => some k = (Value.slice p L.length c).ownBlock))
    (q3 : v5.ownBlock = (Value.slice p L.length c).ownBlock ∨ v5.ownBlock = some (w3.alloc o).heap.size) : EsO base w5 v5 (L ++ [x]) (ds ++ [.slice p3 x.d.length c3]) := by
  have hb3 : Below w3.heap.size w3 (w3.alloc o) := (Below.refl _ _).alloc (Nat.le_refl _) _
  have h3 := (h.upd u3 (fun k hk _ e => by omega)).upd (Upd.ofBelow (S := fun _ => False) hb3) (fun _ _ _ h => h)
  refine ⟨by simp [h.len], by simpa [ecells_snoc _ _ _ _ h.len] using q1, fun i e d h1 h2 => ?_⟩
  by_cases hi : i < L.length
  · have h1' : L[i]? = some e := by rw [← h1, List.getElem?_append_left hi]
    have h2' : ds[i]? = some d := by rw [← h2, List.getElem?_append_left (by rw [← h.len]; exact hi)]
    refine ((h3.d i e d h1' h2').upd q2 (fun k hk _ e => hk.2.2 e)).mono (fun k hk => ⟨hk.1, Nat.lt_of_lt_of_le hk.2.1 q2.size, fun e => ?_⟩)
    rcases q3 with q | q
    · exact hk.2.2 (e.trans q)
    · rw [q] at e
      cases e
      exact Nat.lt_irrefl _ hk.2.1
  · have hil : i = L.length := by
      have := (List.getElem?_eq_some_iff.1 h1).1
      simp at this
      omega
    subst hil
    have h1' : x = e := by simpa using h1
    have h2' : Value.slice p3 x.d.length c3 = d := by rw [h.len] at h2; simpa using h2
    subst h1' h2'
    have b4 := (b3.below hb3).strong
    refine (b4.upd q2 (fun k hk _ e => ?_)).mono (fun k hk => ⟨Nat.le_trans hB hk.1, Nat.lt_of_lt_of_le hk.2 q2.size, fun e => ?_⟩)
    · have := (h.own.lt k e.symm).2
      have := hk.1
      omega
    · rcases q3 with q | q
      · rw [q] at e
        have := (h.own.lt k e.symm).2
        have := hk.1
        omega
      · rw [q] at e
        cases e
        exact Nat.lt_irrefl _ hk.2
set_option maxRecDepth 100000 in
set_option maxHeartbeats 1000000 in
theorem readEnts_any {B b : Nat} {w0 W : World} {v : Value} {xs : List Int} {s0 : St} (h : Rd B w0 W b v xs s0) :
    Calls Tryd.prog 69 #[ptr b, .func (.func 70) #[] #[]] W fun e w' => ∃ v', e = .returned v' ∧ Es (fun k => W.heap.size ≤ k) w' v' (rList (rE xs) xs s0).1 ∧ Rd B w0 w' b v xs (rList (rE xs) xs s0).2 ∧ Upd W w' (fun k => k = b) := by
  have hn := rU_bd h.r.bytes s0
  obtain ⟨n, hnn⟩ : ∃ n : Nat, (rU xs s0).1 = (n : Int) := ⟨(rU xs s0).1.toNat, by omega⟩
  have hn255 : n ≤ 255 := by omega
  have HL : Hid (rList (rE xs) xs s0 = rMany (rE xs) n (rU xs s0).2) := by show _ = _; unfold rList; rw [hnn]; rfl
  have HU0 : Hid (w0.heap.size ≤ W.heap.size) := h.u.size
  have HV : Hid (∀ k, v.ownBlock = some k → k < W.heap.size) := fun k hk => (h.r.own.lt k hk).2
  have HBW : Hid (b < W.heap.size) := h.r.lt
  have hc := yU8 h
  rw [hnn] at hc
  obtain ⟨i0, hi, hz0, hz1, hz2⟩ := info_parts infoE
  clear h hn hnn
  go_enter Tryd.func69, Tryd.ntmps69
  go_wp2_with (go_at_call 66; refine hc.mono ?_; rintro e w1 ⟨rfl, h1, u1⟩; have H1 := Hid.mkW (And.intro h1 u1); clear h1 u1)
  have H0 : Hid (Rd B w0 w1 b v xs (rU xs s0).2 ∧ EsO W.heap.size w1 (.slice none 0 0) [] [] ∧ Upd W w1 (fun k => k = b) ∧ rMany (rE xs) n (rU xs s0).2 = ([] ++ (rMany (rE xs) n (rU xs s0).2).1, (rMany (rE xs) n (rU xs s0).2).2) ∧ ([] : List Ent).length + n ≤ 255) :=
    ⟨H1.out.1, EsO.nil _ _, H1.out.2, rfl, by simpa using hn255⟩
  go_loopg [5, 6] (n + 1) (fun kx s5 s6 wq => ∃ (k : Nat) (L : List Ent) (s : St) (ds : List Value) (p : Option Addr) (c : Nat), s6 = .int .i64 k ∧ kx = k + 1 ∧ s5 = .slice p L.length c ∧ Hid (Rd B w0 wq b v xs s ∧ EsO W.heap.size wq (.slice p L.length c) L ds ∧ Upd W wq (fun k => k = b) ∧ rMany (rE xs) n (rU xs s0).2 = (L ++ (rMany (rE xs) k s).1, (rMany (rE xs) k s).2) ∧ L.length + k ≤ 255))
  case atStart => exact ⟨n, [], _, [], none, 0, rfl, rfl, rfl, H0⟩
  case round =>
    obtain ⟨k, L, s, ds, p, c, rfl, hk, rfl, HW⟩ := hrel
    clear H0 H1 hc
    cases k with
    | zero =>
      go_wp2
      go_ret
      obtain ⟨h1, h2, h3, h4, h5⟩ := HW.out
      rw [HL.out, h4]
      simp only [rMany, List.append_nil]
      exact ⟨_, rfl, h2.es, h1, h3⟩
    | succ k =>
      have hkk : k ≤ 255 := by have := HW.out.2.2.2.2; omega
      have hLl : L.length ≤ 255 := by have := HW.out.2.2.2.2; omega
      have hkd : (0 : Int) < ((k + 1 : Nat) : Int) := by omega
      by_cases hs : s.2 = 0
      · have hsd : (s.2 == 0) = true := by simp [hs]
        have he := yErr HW.out.1
        have hbw : b < wr.heap.size := HW.out.1.r.lt
        have hr := readEntry_any HW.out.1 hbw
        obtain ⟨x, hx⟩ : ∃ x, x = rE xs s := ⟨_, rfl⟩
        rw [← hx] at hr
        have HX := Hid.mkW hx
        have HS := Hid.mkW hs
        clear hx hs
        have HP : Hid (∀ w3 p3 c3, Bs (fun k => wr.heap.size ≤ k) w3 (.slice p3 x.1.d.length c3) x.1.d → Rd B w0 w3 b v xs x.2 → Upd wr w3 (fun k => k = b) →
            (w3.alloc (.cells #[iv x.1.i, iv x.1.t, iv x.1.k, .slice p3 x.1.d.length c3] 58)).ownsRow W.heap.size 58 4 (.slice p L.length c) L.length (ecells L ds) ∧
            ∀ v5 w5, w5.ownsRow W.heap.size 58 4 v5 (L.length + 1) (ecells L ds ++ [iv x.1.i, iv x.1.t, iv x.1.k, .slice p3 x.1.d.length c3]) → Upd (w3.alloc (.cells #[iv x.1.i, iv x.1.t, iv x.1.k, .slice p3 x.1.d.length c3] 58)) w5 (fun k => some k = (Value.slice p L.length c).ownBlock) →
              (v5.ownBlock = (Value.slice p L.length c).ownBlock ∨ v5.ownBlock = some (w3.alloc (.cells #[iv x.1.i, iv x.1.t, iv x.1.k, .slice p3 x.1.d.length c3] 58)).heap.size) →
              Rd B w0 w5 b v xs x.2 ∧ EsO W.heap.size w5 v5 (L ++ [x.1]) (ds ++ [.slice p3 x.1.d.length c3]) ∧ Upd W w5 (fun k => k = b)) := by
          intro w3 p3 c3 b3 r3 u3
          have hb3 : Below w3.heap.size w3 (w3.alloc (.cells #[iv x.1.i, iv x.1.t, iv x.1.k, .slice p3 x.1.d.length c3] 58)) := (Below.refl _ _).alloc (Nat.le_refl _) _
          have hbb := HBW.out
          have hlt := HW.out.2.1.own.lt
          refine ⟨((HW.out.2.1.upd u3 (fun k hk _ e => by omega)).upd (Upd.ofBelow (S := fun _ => False) hb3) (fun _ _ _ h => h)).own, fun v5 w5 q1 q2 q3 => ⟨?_, ?_, ?_⟩⟩
          · refine (r3.below hb3).upd q2 (fun e => ?_) (fun k hk e => ?_) (fun k hk e => ?_)
            · have := (hlt _ e.symm).1; omega
            · have := (hlt _ e.symm).1; have := HV.out k hk; omega
            · have := (hlt _ e.symm).1; have := HU0.out; omega
          · exact HW.out.2.1.push hbb u3 HW.out.2.2.1.size b3 _ q1 q2 q3
          · refine ((HW.out.2.2.1.trans u3 (fun _ _ h => h)).trans (Upd.ofBelow (S := fun k => k = b) hb3) (fun _ _ h => h)).trans q2 (fun j hj e => ?_)
            have := (hlt _ e.symm).1
            omega
        have hsz3 : ∀ w3 : World, Upd wr w3 (fun k => k = b) → ∀ o, W.heap.size ≤ (w3.alloc o).heap.size := fun w3 u o => by
          have := HW.out.2.2.1.size
          have := u.size
          simp
          omega
        go_wp2_with (first
          | (go_at_call 67; refine he.mono ?_; rintro e w2 ⟨rfl, hq2⟩; obtain rfl := hq2.symm)
          | (go_at_call 70; refine hr.mono ?_; rintro e w3 ⟨p3, c3, rfl, b3, r3, u3⟩; have HP3 := Hid.mkW (HP.out w3 p3 c3 b3 r3 u3); have HU3 := Hid.mkW u3; clear b3 r3 u3)
          | (at_builtin; refine wpList_appS _ rfl (.tmp 18) (.tmp 22) 22 22 rfl W.heap.size 58 i0 _ 4 Tryd.underlying22 hi hz0 hz1 rfl (by rw [hz2]; decide) _ L.length (ecells L ds) rfl HP3.out.1 _ rfl 1 _ (src_ent w3 x.1 p3 _ c3) (by omega) (hsz3 _ HU3.out _) ?_; intro v5 w5 q1 q2 q3 _q4; have HN := Hid.mkW (HP3.out.2 v5 w5 q1 q2 q3); obtain ⟨np, nc, hnv⟩ := owns_formB0 q1; subst hnv; clear q1 q2 q3 _q4))
        go_roundg (k + 1)
        case measure => omega
        case rel =>
          obtain ⟨n1, n2, n3⟩ := HN.out
          refine ⟨k, L ++ [x.1], x.2, _, np, nc, by congr 1, rfl, by simp, n1, by simpa using n2, n3, ?_, by have := HW.out.2.2.2.2; simp; omega⟩
          rw [HW.out.2.2.2.1]
          simp only [rMany, if_pos HS.out, ← HX.out, List.append_assoc, List.singleton_append]
      · have hsd : (s.2 == 0) = false := by simpa using hs
        have he := yErr HW.out.1
        have HS := Hid.mkW hs
        clear hs
        go_wp2_with (go_at_call 67; refine he.mono ?_; rintro e w2 ⟨rfl, hq2⟩; obtain rfl := hq2.symm)
        go_ret
        obtain ⟨h1, h2, h3, h4, h5⟩ := HW.out
        rw [HL.out, h4]
        simp only [rMany, if_neg HS.out, List.append_nil]
        exact ⟨_, rfl, h2.es, h1, h3⟩
theorem infoI : (Tryd.prog.info? 3).map (fun i => (i.zero, i.size, i.bytes)) = some (some (iv 0), 1, 8) := by kernel_rfl
theorem src_int (w : World) (x : Int) : Src Tryd.prog 1 23 (.slice (some ⟨w.heap.size, 0, none⟩) 1 1) 1 [iv x] (w.alloc (.cells #[iv x] 3)) :=
  Src.ofSlice _ Tryd.underlying23 ⟨w.heap.size, 0, none⟩ 1 1 _ rfl (fun j u hj => by
    rw [Addr.add_lit, cell_of_row _ _ _ _ _ _ (row_alloc w _ 3), Nat.zero_add]
    simpa using hj) (fun u hu => by
    simp at hu
    rcases hu with rfl
    rfl)
theorem is_of {base : Nat} {w : World} {v : Value} {l : List Int} (h : w.ownsRow base 3 1 v l.length (l.map iv)) : Is (fun k => base ≤ k) w v l := by
  rcases h.2 with ⟨rfl, h0⟩ | ⟨g, cap, cur, rfl, hb, hh, h1, h2, h3, h4⟩
  · obtain rfl := List.eq_nil_of_length_eq_zero h0
    exact Is.nil _ _
  · refine ⟨_, _, rfl, h1, h2, fun i x hi => ⟨g, 0, rfl, hb, ?_⟩⟩
    have := h.cells (g := g) rfl i (iv x) (by simp [hi])
    rwa [Addr.add_lit] at this
set_option maxRecDepth 100000 in
set_option maxHeartbeats 1000000 in
theorem readInts_any {B b : Nat} {w0 W : World} {v : Value} {xs : List Int} {s0 : St} (h : Rd B w0 W b v xs s0) :
    Calls Tryd.prog 71 #[ptr b, .func (.func 72) #[] #[]] W fun e w' => ∃ v', e = .returned v' ∧ Is (fun k => W.heap.size ≤ k) w' v' (rList (rI xs) xs s0).1 ∧ Rd B w0 w' b v xs (rList (rI xs) xs s0).2 ∧ Upd W w' (fun k => k = b) := by
  have hn := rU_bd h.r.bytes s0
  obtain ⟨n, hnn⟩ : ∃ n : Nat, (rU xs s0).1 = (n : Int) := ⟨(rU xs s0).1.toNat, by omega⟩
  have hn255 : n ≤ 255 := by omega
  have HL : Hid (rList (rI xs) xs s0 = rMany (rI xs) n (rU xs s0).2) := by show _ = _; unfold rList; rw [hnn]; rfl
  have HU0 : Hid (w0.heap.size ≤ W.heap.size) := h.u.size
  have HV : Hid (∀ k, v.ownBlock = some k → k < W.heap.size) := fun k hk => (h.r.own.lt k hk).2
  have HBW : Hid (b < W.heap.size) := h.r.lt
  have hc := yU8 h
  rw [hnn] at hc
  obtain ⟨i0, hi, hz0, hz1, hz2⟩ := info_parts infoI
  clear h hn hnn
  go_enter Tryd.func71, Tryd.ntmps71
  go_wp2_with (go_at_call 66; refine hc.mono ?_; rintro e w1 ⟨rfl, h1, u1⟩; have H1 := Hid.mkW (And.intro h1 u1); clear h1 u1)
  have H0 : Hid (Rd B w0 w1 b v xs (rU xs s0).2 ∧ w1.ownsRow W.heap.size 3 1 (.slice none 0 0) ([] : List Int).length (([] : List Int).map iv) ∧ Upd W w1 (fun k => k = b) ∧ rMany (rI xs) n (rU xs s0).2 = ([] ++ (rMany (rI xs) n (rU xs s0).2).1, (rMany (rI xs) n (rU xs s0).2).2) ∧ ([] : List Int).length + n ≤ 255) :=
    ⟨H1.out.1, World.ownsRow_nil _ _ _ _, H1.out.2, rfl, by simpa using hn255⟩
  go_loopg [5, 6] (n + 1) (fun kx s5 s6 wq => ∃ (k : Nat) (L : List Int) (s : St) (p : Option Addr) (c : Nat), s6 = .int .i64 k ∧ kx = k + 1 ∧ s5 = .slice p L.length c ∧ Hid (Rd B w0 wq b v xs s ∧ wq.ownsRow W.heap.size 3 1 (.slice p L.length c) L.length (L.map iv) ∧ Upd W wq (fun k => k = b) ∧ rMany (rI xs) n (rU xs s0).2 = (L ++ (rMany (rI xs) k s).1, (rMany (rI xs) k s).2) ∧ L.length + k ≤ 255))
  case atStart => exact ⟨n, [], _, none, 0, rfl, rfl, rfl, H0⟩
  case round =>
    obtain ⟨k, L, s, p, c, rfl, hk, rfl, HW⟩ := hrel
    clear H0 H1 hc
    cases k with
    | zero =>
      go_wp2
      go_ret
      obtain ⟨h1, h2, h3, h4, h5⟩ := HW.out
      rw [HL.out, h4]
      simp only [rMany, List.append_nil]
      exact ⟨_, rfl, is_of h2, h1, h3⟩
    | succ k =>
      have hkk : k ≤ 255 := by have := HW.out.2.2.2.2; omega
      have hLl : L.length ≤ 255 := by have := HW.out.2.2.2.2; omega
      have hkd : (0 : Int) < ((k + 1 : Nat) : Int) := by omega
      by_cases hs : s.2 = 0
      · have hsd : (s.2 == 0) = true := by simp [hs]
        have he := yErr HW.out.1
        have hr := readInt_any HW.out.1
        obtain ⟨x, hx⟩ : ∃ x, x = rI xs s := ⟨_, rfl⟩
        rw [← hx] at hr
        have HX := Hid.mkW hx
        have HS := Hid.mkW hs
        clear hx hs
        have HP : Hid (∀ w3, Rd B w0 w3 b v xs x.2 → Upd wr w3 (fun k => k = b) →
            (w3.alloc (.cells #[iv x.1] 3)).ownsRow W.heap.size 3 1 (.slice p L.length c) L.length (L.map iv) ∧
            ∀ v5 w5, w5.ownsRow W.heap.size 3 1 v5 (L.length + 1) (L.map iv ++ [iv x.1]) → Upd (w3.alloc (.cells #[iv x.1] 3)) w5 (fun k => some k = (Value.slice p L.length c).ownBlock) →
              Rd B w0 w5 b v xs x.2 ∧ w5.ownsRow W.heap.size 3 1 v5 (L ++ [x.1]).length ((L ++ [x.1]).map iv) ∧ Upd W w5 (fun k => k = b)) := by
          intro w3 r3 u3
          have hb3 : Below w3.heap.size w3 (w3.alloc (.cells #[iv x.1] 3)) := (Below.refl _ _).alloc (Nat.le_refl _) _
          have hbb := HBW.out
          have hlt := HW.out.2.1.lt
          refine ⟨ownsRow_upd (ownsRow_upd HW.out.2.1 u3 (fun k hk e => by have := (hlt k hk).1; omega)) (Upd.ofBelow (S := fun _ => False) hb3) (fun _ _ h => h), fun v5 w5 q1 q2 => ⟨?_, ?_, ?_⟩⟩
          · refine (r3.below hb3).upd q2 (fun e => ?_) (fun k hk e => ?_) (fun k hk e => ?_)
            · have := (hlt _ e.symm).1; omega
            · have := (hlt _ e.symm).1; have := HV.out k hk; omega
            · have := (hlt _ e.symm).1; have := HU0.out; omega
          · simpa using q1
          · refine ((HW.out.2.2.1.trans u3 (fun _ _ h => h)).trans (Upd.ofBelow (S := fun k => k = b) hb3) (fun _ _ h => h)).trans q2 (fun j hj e => ?_)
            have := (hlt _ e.symm).1
            omega
        have hsz3 : ∀ w3 : World, Upd wr w3 (fun k => k = b) → ∀ o, W.heap.size ≤ (w3.alloc o).heap.size := fun w3 u o => by
          have := HW.out.2.2.1.size
          have := u.size
          simp
          omega
        go_wp2_with (first
          | (go_at_call 67; refine he.mono ?_; rintro e w2 ⟨rfl, hq2⟩; obtain rfl := hq2.symm)
          | (go_at_call 72; refine hr.mono ?_; rintro e w3 ⟨rfl, r3, u3⟩; have HP3 := Hid.mkW (HP.out w3 r3 u3); have HU3 := Hid.mkW u3; clear r3 u3)
          | (at_builtin; refine wpList_appS _ rfl (.tmp 18) (.tmp 22) 23 23 rfl W.heap.size 3 i0 _ 1 Tryd.underlying23 hi hz0 hz1 rfl (by rw [hz2]; decide) _ L.length (L.map iv) rfl HP3.out.1 _ rfl 1 _ (src_int w3 x.1) (by omega) (hsz3 _ HU3.out _) ?_; intro v5 w5 q1 q2 _q3 _q4; have HN := Hid.mkW (HP3.out.2 v5 w5 q1 q2); obtain ⟨np, nc, hnv⟩ := owns_formB0 q1; subst hnv; clear q1 q2 _q3 _q4))
        go_roundg (k + 1)
        case measure => omega
        case rel =>
          obtain ⟨n1, n2, n3⟩ := HN.out
          refine ⟨k, L ++ [x.1], x.2, np, nc, by congr 1, rfl, by simp, n1, by simpa using n2, n3, ?_, by have := HW.out.2.2.2.2; simp; omega⟩
          rw [HW.out.2.2.2.1]
          simp only [rMany, if_pos HS.out, ← HX.out, List.append_assoc, List.singleton_append]
      · have hsd : (s.2 == 0) = false := by simpa using hs
        have he := yErr HW.out.1
        have HS := Hid.mkW hs
        clear hs
        go_wp2_with (go_at_call 67; refine he.mono ?_; rintro e w2 ⟨rfl, hq2⟩; obtain rfl := hq2.symm)
        go_ret
        obtain ⟨h1, h2, h3, h4, h5⟩ := HW.out
        rw [HL.out, h4]
        simp only [rMany, if_neg HS.out, List.append_nil]
        exact ⟨_, rfl, is_of h2, h1, h3⟩
end Go.Proofs.YtamgoknoapcnjaaDoor
