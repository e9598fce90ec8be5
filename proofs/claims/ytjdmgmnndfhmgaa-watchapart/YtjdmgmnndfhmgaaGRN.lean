/- What a watcher has yet to hear: news. -/
import Derived.Test.YtjdmgmnndfhmgaaGRH
import Derived.Test.YtjdmgmnndfhmgaaGRM
namespace Go.Proofs.Ytjdmgmnndfhmgaa
open Go Go.RowKit

/-- The changes from a revision on. -/
def sinceL (S : Sto) (p : Int) : List Evd := evN S p ((S.rev : Int) + 1 - p).toNat
/-- Those in a range. -/
def heard (lo hi : ByteArray) (e : Evd) : Bool := inR lo hi (evKV e.1 e.2.1 e.2.2).key
def newsL (S : Sto) (lo hi : ByteArray) (p : Int) : List Evd := (sinceL S p).filter (heard lo hi)
/-- A store that can be asked. -/
structure Sk (n : Nat) (w : World) (s : Nat) (S : Sto) (g : Sg) (o : Value) : Prop where
  st : St n w s S g o
  lg : LgOk S g
  rev : S.rev ≤ 100000
  few : ∀ p, 1 ≤ p → (sinceL S p).length ≤ 1000000
theorem Sk.upd {n : Nat} {w w' : World} {s : Nat} {S : Sto} {g : Sg} {o : Value} {T : Nat → Prop} (h : Sk n w s S g o) (hu : Upd w w' T) (hT : ∀ k, ftS s g k → ¬ T k) : Sk n w' s S g o := ⟨h.st.upd hu hT, h.lg, h.rev, h.few⟩
theorem Sk.below {n : Nat} {w w' : World} {s : Nat} {S : Sto} {g : Sg} {o : Value} (h : Sk n w s S g o) (hb : Below w.heap.size w w') : Sk n w' s S g o := ⟨h.st.below hb, h.lg, h.rev, h.few⟩
set_option maxRecDepth 100000 in
set_option maxHeartbeats 1000000 in
theorem news_past {n : Nat} {w : World} {s : Nat} {S : Sto} {g : Sg} {o : Value} (H : Sk n w s S g o) (t b : Nat) (lo hi : ByteArray) (p : Int) (E : Ear w t b lo hi p) (h1 : 1 ≤ p) (hp : p ≤ S.past) :
    Calls Try.prog 32 #[ptr s, .iface t (ptr b)] w fun r w' => ∃ p' c', r = .returned (.tuple #[.slice p' 0 c', .int .i64 16]) ∧ Below w.heap.size w w' := by
  obtain ⟨w1, hw1⟩ : ∃ w1, w1 = w.alloc (.cells #[.iface t (ptr b)] 64) := ⟨_, rfl⟩
  have hb1 : Below w.heap.size w w1 := by rw [hw1]; exact (Below.refl _ w).alloc (Nat.le_refl _) _
  have r1 : w1.heap[w.heap.size]? = some (.cells #[.iface t (ptr b)] 64 (0, 0)) := by rw [hw1]; exact row_alloc w _ _
  have E1 := E.below hb1
  have c0 : w1.cell? ⟨w.heap.size, 0, none⟩ = some (.iface t (ptr b)) := cell_of_row _ _ _ _ _ _ r1
  have hfrom := from_any b p w1 E1.place
  have hsince := since_past (H.below hb1).st p (by omega) hp
  have hdel := deleteFunc_any w1 0 w.heap.size (heard lo hi) (.slice none 0 0) [] (World.ownsRow_nil _ _ _ _) (fun W e hW => deaf_any W t b w.heap.size lo hi p (E1.upd hW (by simp [Value.ownBlock])) ((hW.cell (p := ⟨w.heap.size, 0, none⟩) (World.block_lt_of_cell? _ _ c0) (by simp [Value.ownBlock])).trans c0) _ _ _) (by simp)
  have HB := Hid.mkW hb1
  rcases E.ty with rfl | rfl
  all_goals
    clear H E E1 hb1 r1
    go_enter Try.func32, Try.ntmps32
    go_upto_region 1 with fail
    rw [← hw1]
    obtain ⟨q, hq⟩ : ∃ q, q = w.heap.size := ⟨_, rfl⟩
    rw [← hq] at c0 hdel ⊢
    clear hw1 hq
    go_wp2_with (first | (go_at_call 96; refine hfrom.mono ?_; rintro e w' ⟨rfl, hw'⟩; obtain rfl := hw'.symm) | (go_at_call 39; refine hsince.mono ?_; rintro e w' ⟨rfl, hw'⟩; obtain rfl := hw'.symm) | (go_at_call 40; refine hdel.mono ?_; rintro e w' ⟨p', c', rfl, q1, q2, -⟩))
    refine bodyPost_ret (results_tmp2 rfl _ _ _) rfl ?_
    exact ⟨p', c', rfl, HB.out.trans (q2.below HB.out.size (fun k _ e => by cases e))⟩
set_option maxRecDepth 100000 in
set_option maxHeartbeats 1000000 in
theorem news_ok {n : Nat} {w : World} {s : Nat} {S : Sto} {g : Sg} {o : Value} (H : Sk n w s S g o) (t b : Nat) (lo hi : ByteArray) (p : Int) (E : Ear w t b lo hi p) (h1 : 1 ≤ p) (hp : ¬ p ≤ S.past) (hpm : p ≤ 1000000000) :
    Calls Try.prog 32 #[ptr s, .iface t (ptr b)] w fun r w' => ∃ p' c', r = .returned (.tuple #[.slice p' (newsL S lo hi p).length c', .int .i64 0]) ∧ ER w w' (.slice p' (newsL S lo hi p).length c') (newsL S lo hi p) := by
  obtain ⟨w1, hw1⟩ : ∃ w1, w1 = w.alloc (.cells #[.iface t (ptr b)] 64) := ⟨_, rfl⟩
  have hb1 : Below w.heap.size w w1 := by rw [hw1]; exact (Below.refl _ w).alloc (Nat.le_refl _) _
  have hs1 : w1.heap.size = w.heap.size + 1 := by rw [hw1]; simp
  have r1 : w1.heap[w.heap.size]? = some (.cells #[.iface t (ptr b)] 64 (0, 0)) := by rw [hw1]; exact row_alloc w _ _
  have E1 := E.below hb1
  have c0 : w1.cell? ⟨w.heap.size, 0, none⟩ = some (.iface t (ptr b)) := cell_of_row _ _ _ _ _ _ r1
  have hfrom := from_any b p w1 E1.place
  have hlen := H.few p h1
  have hsince : Calls Try.prog 39 #[ptr s, .int .i64 p] w1 fun e w' => ∃ p' c', e = .returned (.tuple #[.slice p' (sinceL S p).length c', .int .i64 0]) ∧ ER w1 w' (.slice p' (sinceL S p).length c') (sinceL S p) := since_any (H.below hb1).st p (by omega) hp hpm (by have := H.rev; omega) H.lg hlen
  have hbl : b < w.heap.size := World.block_lt_of_cell? _ _ E.lo
  have HDEL : Hid (∀ w2 p' c', ER w1 w2 (.slice p' (sinceL S p).length c') (sinceL S p) → Calls Try.prog 40 #[.slice p' (sinceL S p).length c', .func (.func 41) #[] #[ptr w.heap.size]] w2 fun r w' => ∃ p'' c'', r = .returned (.slice p'' (newsL S lo hi p).length c'') ∧ ER w w' (.slice p'' (newsL S lo hi p).length c'') (newsL S lo hi p)) := fun w2 p' c' hE => by
    have hge : ∀ k, some k = (Value.slice p' (sinceL S p).length c').ownBlock → w1.heap.size ≤ k := fun k hk => (hE.1.lt k hk.symm).1
    have E2 := E1.below hE.2
    have c2 : w2.cell? ⟨w.heap.size, 0, none⟩ = some (.iface t (ptr b)) := (hE.2.cell (p := ⟨w.heap.size, 0, none⟩) (World.block_lt_of_cell? _ _ c0)).trans c0
    refine (deleteFunc_any w2 w1.heap.size w.heap.size (heard lo hi) _ (sinceL S p) hE.1 (fun W e hW => deaf_any W t b w.heap.size lo hi p (E2.upd hW (fun e => by have := hge _ e; omega)) ((hW.cell (p := ⟨w.heap.size, 0, none⟩) (World.block_lt_of_cell? _ _ c2) (fun e => by have := hge _ e; simp at this; omega)).trans c2) _ _ _) hlen).mono ?_
    rintro r w' ⟨p'', c'', rfl, q1, q2, -⟩
    exact ⟨p'', c'', rfl, ownsRow_base q1 (by omega), (hb1.trans (hE.2.mono (by omega))).trans (q2.below (by have := hE.2.size; omega) (fun k hk e => by have := hge _ e; omega))⟩
  rcases E.ty with rfl | rfl
  all_goals
    clear H E E1 hb1 r1 hlen
    go_enter Try.func32, Try.ntmps32
    go_upto_region 1 with fail
    rw [← hw1]
    obtain ⟨q, hq⟩ : ∃ q, q = w.heap.size := ⟨_, rfl⟩
    rw [← hq] at c0 HDEL ⊢
    clear hw1 hq hs1
    go_wp2_with (first | (go_at_call 96; refine hfrom.mono ?_; rintro e w' ⟨rfl, hw'⟩; obtain rfl := hw'.symm) | (go_at_call 39; refine hsince.mono ?_; rintro e w2 ⟨p2, c2, rfl, hE2⟩; have HE2 := Hid.mkW hE2; clear hE2) | (go_at_call 40; refine (HDEL.out _ _ _ HE2.out).mono ?_; rintro e w' ⟨p', c', rfl, q1⟩))
    refine bodyPost_ret (results_tmp2 rfl _ _ _) rfl ?_
    exact ⟨p', c', rfl, q1⟩
end Go.Proofs.Ytjdmgmnndfhmgaa
/- Revisions as whole ones; a watcher that is behind catches up. -/
namespace Go.Proofs.Ytjdmgmnndfhmgaa
open Go Go.RowKit

/-- Is a change its revision's last one? -/
def lastOf (e : Evd) : List Evd → Bool
  | [] => true
  | x :: _ => decide (¬ x.1 = e.1)
def wholeGo (most : Int) : List Evd → Nat → Nat → Nat
  | [], _, n => n
  | e :: r, i, n => if lastOf e r = true then (if 0 < n ∧ most ≤ (i : Int) then n else wholeGo most r (i + 1) (i + 1)) else wholeGo most r (i + 1) n
/-- How many changes the first revisions have, most in all, or the first one. -/
def wholeN (most : Int) (l : List Evd) : Nat := wholeGo most l 0 0
theorem wholeGo_le (most : Int) : ∀ (r : List Evd) (i n : Nat), n ≤ i → wholeGo most r i n ≤ i + r.length
  | [], i, n, h => by simpa [wholeGo] using h
  | e :: r, i, n, h => by
    unfold wholeGo
    have h1 := wholeGo_le most r (i + 1) (i + 1) (Nat.le_refl _)
    have h2 := wholeGo_le most r (i + 1) n (by omega)
    rw [List.length_cons]
    split
    · split <;> omega
    · omega
theorem wholeGo_pos (most : Int) : ∀ (r : List Evd) (i n : Nat), (r = [] → n = i) → wholeGo most r i n = i + r.length ∨ 0 < wholeGo most r i n
  | [], i, n, h => .inl (by simpa [wholeGo] using h rfl)
  | e :: r, i, n, h => by
    unfold wholeGo
    rw [List.length_cons]
    split
    · split
      · rename_i h2; exact .inr h2.1
      · rcases wholeGo_pos most r (i + 1) (i + 1) (fun _ => rfl) with h1 | h1
        · exact .inl (by omega)
        · exact .inr h1
    · rename_i h2
      have hr : r = [] → n = i + 1 := fun e => by subst e; exact absurd rfl h2
      rcases wholeGo_pos most r (i + 1) n hr with h1 | h1
      · exact .inl (by omega)
      · exact .inr h1
theorem wholeN_le (most : Int) (l : List Evd) : wholeN most l ≤ l.length := by have := wholeGo_le most l 0 0 (Nat.le_refl _); unfold wholeN; omega
theorem wholeN_pos (most : Int) (l : List Evd) (h : wholeN most l < l.length) : 0 < wholeN most l := by
  rcases wholeGo_pos most l 0 0 (fun _ => rfl) with h1 | h1
  · unfold wholeN at h; omega
  · exact h1
set_option maxRecDepth 100000 in
set_option maxHeartbeats 2000000 in
theorem whole_any (w : World) (p : Option Addr) (n c : Nat) (l : List Evd) (most : Int) (h : EVs w (.slice p n c) l) (hl : l.length ≤ 1000000) :
    Calls Try.prog 38 #[.slice p n c, .int .i64 most] w fun r w' => r = .returned (.int .i64 (wholeN most l)) ∧ Below w.heap.size w w' := by
  have hn : n = l.length := by obtain ⟨p', c', e, _⟩ := h; cases e; rfl
  subst hn
  obtain ⟨p', c', e, hc, hh⟩ := h
  cases e
  have HH := Hid.mkW hh
  clear hh
  go_enter Try.func38, Try.ntmps38
  go_wp2
  go_loopg [5, 6, 7, 10] (l.length + 1) (fun kx s5 s6 s7 s10 wq => ∃ i m : Nat, s5 = .int .i64 m ∧ s10 = .int .i64 i ∧ kx + i = l.length + 1 ∧ i ≤ l.length ∧ m ≤ i ∧ Hid (Below w.heap.size w wq) ∧ Hid (wholeGo most (l.drop i) i m = wholeN most l))
  case atStart => exact ⟨0, 0, rfl, rfl, rfl, Nat.zero_le _, Nat.le_refl _, Below.refl _ _, rfl⟩
  case round =>
    obtain ⟨i, m, rfl, rfl, hkx, hi, hmi, HB, HW⟩ := hrel
    by_cases hlt : i < l.length
    · obtain ⟨ev, hev⟩ : ∃ ev, l[i]? = some ev := ⟨_, List.getElem?_eq_getElem hlt⟩
      obtain ⟨g, hg, hgl, hcell⟩ := HH.out i ev hev
      subst hg
      have e0 := (HB.out.cell (p := ⟨g, i * 8 + 0, none⟩) hgl).trans (hcell 0 _ (by omega) rfl)
      simp only [Nat.add_zero] at e0
      have hds := drop_step hev
      obtain ⟨la, hla⟩ : ∃ la, la = lastOf ev (l.drop (i + 1)) := ⟨_, rfl⟩
      have HW2 : Hid ((if la = true then (if 0 < m ∧ most ≤ (i : Int) then m else wholeGo most (l.drop (i + 1)) (i + 1) (i + 1)) else wholeGo most (l.drop (i + 1)) (i + 1) m) = wholeN most l) := by
        have := HW.out
        rw [hds, wholeGo, ← hla] at this
        exact this
      have key : (i + 1 = l.length ∧ la = true) ∨ (∃ x : Evd, i + 1 < l.length ∧ wr.cell? ⟨g, (i + 1) * 8, none⟩ = some (.int .i64 x.1) ∧ la = decide (¬ x.1 = ev.1)) := by
        rcases Nat.lt_or_ge (i + 1) l.length with h1 | h1
        · right
          obtain ⟨x, hx⟩ : ∃ x, l[i + 1]? = some x := ⟨_, List.getElem?_eq_getElem h1⟩
          obtain ⟨g', hg', hgl', hcell'⟩ := HH.out (i + 1) x hx
          cases hg'
          have c0 := (HB.out.cell (p := ⟨g, (i + 1) * 8 + 0, none⟩) hgl').trans (hcell' 0 _ (by omega) rfl)
          simp only [Nat.add_zero] at c0
          exact ⟨x, h1, c0, by rw [hla, drop_step hx]; rfl⟩
        · left
          have e : l.drop (i + 1) = [] := List.drop_of_length_le h1
          exact ⟨by omega, by rw [hla, e]; rfl⟩
      have HYES : Hid (la = true → 0 < m → most ≤ (i : Int) → m = wholeN most l) := fun h1 h2 h3 => by have := HW2.out; rw [if_pos h1, if_pos ⟨h2, h3⟩] at this; exact this
      have HNEW : Hid (la = true → ¬ (0 < m ∧ most ≤ (i : Int)) → wholeGo most (l.drop (i + 1)) (i + 1) (i + 1) = wholeN most l) := fun h1 h2 => by have := HW2.out; rw [if_pos h1, if_neg h2] at this; exact this
      have HOLD : Hid (la = false → wholeGo most (l.drop (i + 1)) (i + 1) m = wholeN most l) := fun h1 => by have := HW2.out; rw [h1] at this; exact this
      have HLA : Hid (la = la) := rfl
      clear hla HW hds hcell HW2 hev HH
      rcases key with ⟨h1, hl1⟩ | ⟨x, h1, e8, hxl⟩
      · rw [hl1] at HYES HNEW
        clear HOLD HLA
        subst hl1
        have HY : Hid (0 < m → most ≤ (i : Int) → m = wholeN most l) := HYES.out rfl
        have HN : Hid (¬ (0 < m ∧ most ≤ (i : Int)) → wholeGo most (l.drop (i + 1)) (i + 1) (i + 1) = wholeN most l) := HNEW.out rfl
        clear HYES HNEW
        have hq1 : (((i : Int) + 1) == (l.length : Int)) = true := by simp; omega
        go_upto_region 5 with fail
        go_quiet (fail)
        by_cases hm : 0 < m
        · have hm1 : (0 : Int) < (m : Int) := by omega
          by_cases hmo : most ≤ (i : Int)
          · go_wp2
            go_ret
            exact ⟨by rw [← HY.out hm hmo]; rfl, below_drewN HB.out _⟩
          · go_wp2
            go_roundg (l.length - i)
            case measure => omega
            case rel => exact ⟨i + 1, i + 1, by congr 1, by congr 1, by omega, by omega, Nat.le_refl _, below_drewN HB.out _, HN.out (fun e => by omega)⟩
        · have hm1 : ¬ (0 : Int) < (m : Int) := by omega
          go_wp2
          go_roundg (l.length - i)
          case measure => omega
          case rel => exact ⟨i + 1, i + 1, by congr 1, by congr 1, by omega, by omega, Nat.le_refl _, below_drewN HB.out _, HN.out (fun e => by omega)⟩
      · have hq1 : (((i : Int) + 1) == (l.length : Int)) = false := by simp; omega
        generalize ev.1 = ra at *
        generalize x.1 = rb at *
        by_cases hr : rb = ra
        · subst hr
          have hlf : la = false := by rw [hxl]; simp
          have HO : Hid (wholeGo most (l.drop (i + 1)) (i + 1) m = wholeN most l) := HOLD.out hlf
          clear HYES HNEW HOLD hlf hxl HLA
          go_upto_region 5 with fail
          go_quiet (fail)
          go_wp2
          go_roundg (l.length - i)
          case measure => omega
          case rel => exact ⟨i + 1, m, rfl, by congr 1, by omega, by omega, by omega, below_drewN HB.out _, HO⟩
        · have hlt2 : la = true := by rw [hxl]; simpa using hr
          have HY : Hid (0 < m → most ≤ (i : Int) → m = wholeN most l) := HYES.out hlt2
          have HN : Hid (¬ (0 < m ∧ most ≤ (i : Int)) → wholeGo most (l.drop (i + 1)) (i + 1) (i + 1) = wholeN most l) := HNEW.out hlt2
          have hrb : (rb != ra) = true := by simp [hr]
          clear HYES HNEW HOLD hlt2 hxl HLA
          go_upto_region 5 with fail
          go_quiet (fail)
          by_cases hm : 0 < m
          · have hm1 : (0 : Int) < (m : Int) := by omega
            by_cases hmo : most ≤ (i : Int)
            · go_wp2
              go_ret
              exact ⟨by rw [← HY.out hm hmo]; rfl, below_drewN HB.out _⟩
            · go_wp2
              go_roundg (l.length - i)
              case measure => omega
              case rel => exact ⟨i + 1, i + 1, by congr 1, by congr 1, by omega, by omega, Nat.le_refl _, below_drewN HB.out _, HN.out (fun e => by omega)⟩
          · have hm1 : ¬ (0 : Int) < (m : Int) := by omega
            go_wp2
            go_roundg (l.length - i)
            case measure => omega
            case rel => exact ⟨i + 1, i + 1, by congr 1, by congr 1, by omega, by omega, Nat.le_refl _, below_drewN HB.out _, HN.out (fun e => by omega)⟩
    · obtain rfl : i = l.length := by omega
      go_wp2
      go_ret
      have := HW.out
      rw [List.drop_length] at this
      refine ⟨?_, HB.out⟩
      rw [← this]
      rfl
end Go.Proofs.Ytjdmgmnndfhmgaa
/- A watcher that is behind catches up. -/
namespace Go.Proofs.Ytjdmgmnndfhmgaa
open Go Go.RowKit

theorem run_max (a b : Int) (ty : TypeId) (w : World) : (Builtin.max_ #[3, 3] ty #[.int .i64 a, .int .i64 b]).run Try.prog w = .ok (.int .i64 (max a b)) w := by
  have e : (if b > a then b else a) = max a b := by split <;> omega
  show Result.ok (Value.int .i64 (if b > a then b else a)) w = _
  rw [e]
theorem run_min (a b : Int) (ty : TypeId) (w : World) : (Builtin.min_ #[3, 3] ty #[.int .i64 a, .int .i64 b]).run Try.prog w = .ok (.int .i64 (min a b)) w := by
  have e : (if b < a then b else a) = min a b := by split <;> omega
  show Result.ok (Value.int .i64 (if b < a then b else a)) w = _
  rw [e]
theorem rev_cell (w : World) (s r : Nat) (h : w.cell? ⟨s, 0, none⟩ = some (.int .i64 r)) : Calls Try.prog 42 #[ptr s] w fun e w' => e = .returned (.int .i64 r) ∧ w' = w := by
  go_enter Try.func42, Try.ntmps42
  go_wp2
  go_ret
  exact ⟨rfl, rfl⟩
set_option maxRecDepth 100000 in
set_option maxHeartbeats 2000000 in
theorem pass_any (w : World) (b s r t : Nat) (p : Int) (cs : Array Value) (hb : w.heap[b]? = some (.cells cs t (0, 0))) (h2 : cs[2]? = some (.int .i64 p)) (hs : w.cell? ⟨s, 0, none⟩ = some (.int .i64 r)) (hr : r ≤ 100000) :
    Calls Try.prog 33 #[ptr b, ptr s] w fun e w' => e = .returned (.tuple #[]) ∧ w'.heap[b]? = some (.cells (cs.set! 2 (.int .i64 (max p ((r : Int) + 1)))) t (0, 0)) ∧ Upd w w' (fun k => k = b) := by
  have c2 : w.cell? ⟨b, 2, none⟩ = some (.int .i64 p) := by rw [cell_of_row _ _ _ _ _ _ hb]; exact h2
  have f2 : w.frozen? ⟨b, 2, none⟩ = false := frozen_of_row _ _ _ _ _ hb
  have hrev := rev_cell w.drew s r hs
  have hwr : IntKind.i64.wrap ((r : Int) + 1) = (r : Int) + 1 := by rw [IntKind.wrap_i64]; omega
  have HF : Hid (∀ W v, Upd w W (fun k => k = b) → W.heap[b]? = w.heap[b]? → (W.setCell ⟨b, 2, none⟩ v).heap[b]? = some (.cells (cs.set! 2 v) t (0, 0)) ∧ Upd w (W.setCell ⟨b, 2, none⟩ v) (fun k => k = b)) := fun W v hu hW => ⟨heap_setCell_row (hW.trans hb) v, hu.setCell (.inr rfl) v⟩
  clear hb h2
  go_enter Try.func33, Try.ntmps33
  go_region_with (refine hrev.mono ?_; rintro e w3 ⟨rfl, hw3⟩; obtain rfl := hw3.symm)
  all_goals go_wp2
  all_goals first | go_end0 | refine bodyPost_ret (results_none rfl _ _ _) rfl ?_
  all_goals
    have hv : max p ((r : Int) + 1) = p ∧ (r : Int) + 1 ≤ p ∨ max p ((r : Int) + 1) = (r : Int) + 1 ∧ p < (r : Int) + 1 := by omega
    rcases hv with ⟨hv, hv2⟩ | ⟨hv, hv2⟩
    all_goals
      first
      | (exfalso; omega)
      | (rw [hv]; exact ⟨rfl, (HF.out w _ (Upd.refl _ _) rfl).1, (HF.out w _ (Upd.refl _ _) rfl).2.drew⟩)
      | (rw [hv]; rw [hwr]; exact ⟨rfl, (HF.out w _ (Upd.refl _ _) rfl).1, (HF.out w _ (Upd.refl _ _) rfl).2.drew⟩)
end Go.Proofs.Ytjdmgmnndfhmgaa
/- A watcher that is fed: what it takes. -/
namespace Go.Proofs.Ytjdmgmnndfhmgaa
open Go Go.RowKit

/-- A watcher that is fed. -/
structure Fd (w : World) (b : Nat) (v : Value) (lo hi : ByteArray) (p : Int) (l : List Evd) (fin : Int) : Prop where
  blk : w.heap[b]? = some (.cells #[.string lo, .string hi, .int .i64 p, v, .int .i64 fin] 90 (0, 0))
  row : w.ownsRow 0 37 8 v l.length (evsC l)
theorem Fd.ne {w : World} {b : Nat} {v : Value} {lo hi : ByteArray} {p : Int} {l : List Evd} {fin : Int} (h : Fd w b v lo hi p l fin) : v.ownBlock ≠ some b := fun e => by
  obtain ⟨_, c, f, hh⟩ := ownBlock_ge h.row e
  rw [h.blk] at hh
  cases hh
theorem Fd.ear {w : World} {b : Nat} {v : Value} {lo hi : ByteArray} {p : Int} {l : List Evd} {fin : Int} (h : Fd w b v lo hi p l fin) : Ear w 67 b lo hi p := ⟨.inr rfl, cell_of_row _ _ _ _ _ _ h.blk, cell_of_row _ _ _ _ _ _ h.blk, cell_of_row _ _ _ _ _ _ h.blk⟩
theorem Fd.upd {w w' : World} {T : Nat → Prop} {b : Nat} {v : Value} {lo hi : ByteArray} {p : Int} {l : List Evd} {fin : Int} (h : Fd w b v lo hi p l fin) (hu : Upd w w' T) (hb : ¬ T b) (hv : ∀ k, v.ownBlock = some k → ¬ T k) : Fd w' b v lo hi p l fin :=
  ⟨(hu.block b (Array.getElem?_eq_some_iff.1 h.blk).1 hb).trans h.blk, ownsRow_upd h.row hu hv⟩
theorem Fd.below {w w' : World} {b : Nat} {v : Value} {lo hi : ByteArray} {p : Int} {l : List Evd} {fin : Int} (h : Fd w b v lo hi p l fin) (hb : Below w.heap.size w w') : Fd w' b v lo hi p l fin := h.upd (T := fun _ => False) (Upd.ofBelow hb) (fun e => e) (fun _ _ e => e)
theorem Fd.lt {w : World} {b : Nat} {v : Value} {lo hi : ByteArray} {p : Int} {l : List Evd} {fin : Int} (h : Fd w b v lo hi p l fin) : b < w.heap.size := (Array.getElem?_eq_some_iff.1 h.blk).1
set_option maxRecDepth 100000 in
set_option maxHeartbeats 1000000 in
theorem ftake_none (w : World) (b : Nat) (v : Value) (lo hi : ByteArray) (p fin most : Int) (h : Fd w b v lo hi p [] fin) :
    Calls Try.prog 30 #[ptr b, .int .i64 most] w fun r w' => r = .returned (.tuple #[.slice none 0 0, .int .i64 fin]) ∧ Below w.heap.size w w' := by
  obtain ⟨pv, cv, rfl⟩ := owns_formB0 h.row
  have c3 : w.cell? ⟨b, 3, none⟩ = some (.slice pv 0 cv) := cell_of_row _ _ _ _ _ _ h.blk
  have c4 : w.cell? ⟨b, 4, none⟩ = some (.int .i64 fin) := cell_of_row _ _ _ _ _ _ h.blk
  clear h
  go_enter Try.func30, Try.ntmps30
  go_upto_region 2 with fail
  go_quiet (fail)
  go_wp2
  refine bodyPost_ret (results_tmp2 rfl _ _ _) rfl ?_
  exact ⟨rfl, below_drewN (Below.refl _ _) _⟩
set_option maxRecDepth 100000 in
set_option maxHeartbeats 2000000 in
theorem ftake_some (w : World) (b : Nat) (v : Value) (lo hi : ByteArray) (p fin most : Int) (l : List Evd) (h : Fd w b v lo hi p l fin) (hl0 : 0 < l.length) (hl : l.length ≤ 16) (n : Nat) (hn : (n : Int) = min most l.length) (hn1 : 0 < n) :
    Calls Try.prog 30 #[ptr b, .int .i64 most] w fun r w' => ∃ p' c', r = .returned (.tuple #[.slice p' n c', .int .i64 0]) ∧ w'.ownsRow w.heap.size 37 8 (.slice p' n c') n (evsC (l.take n)) ∧ ∃ v', Fd w' b v' lo hi p (l.drop n) fin ∧ v'.ownBlock = v.ownBlock ∧ Upd w w' (fun k => k = b ∨ v.ownBlock = some k) := by
  obtain ⟨g, cv, hv, hnc, -⟩ := owns_formB h.row hl0
  subst hv
  have c3 : w.cell? ⟨b, 3, none⟩ = some (.slice (some ⟨g, 0, none⟩) l.length cv) := cell_of_row _ _ _ _ _ _ h.blk
  have hif : (if (l.length : Int) < most then (l.length : Int) else most) = (n : Int) := by split <;> omega
  have hnl : n ≤ l.length := by omega
  have hcl := clone_any w (some ⟨g, 0, none⟩) n cv (l.take n) ((EVs.of h.row).take n hnl) (.inr ⟨g, rfl⟩) (by rw [List.length_take]; omega)
  have HH := Hid.mkW h
  have HD : Hid (∀ w2, Below w.heap.size w w2 → w2.cell? ⟨b, 3, none⟩ = some (.slice (some ⟨g, 0, none⟩) l.length cv) ∧ Calls Try.prog 37 #[.slice (some ⟨g, 0, none⟩) l.length cv, .int .i64 0, .int .i64 n] w2 fun e w' => ∃ v', e = .returned v' ∧ Hid (w'.ownsRow 0 37 8 v' (l.drop n).length (evsC (l.drop n)) ∧ Upd w2 w' (fun k => k = g) ∧ v'.ownBlock = some g ∧ w'.heap[b]? = some (.cells #[.string lo, .string hi, .int .i64 p, .slice (some ⟨g, 0, none⟩) l.length cv, .int .i64 fin] 90 (0, 0)))) := fun w2 h2 => by
    have H2 := HH.out.below h2
    refine ⟨cell_of_row _ _ _ _ _ _ H2.blk, ?_⟩
    refine (delE_any _ l.length 0 n _ w2 H2.row hn1 hnl (by omega) (fun u hu => evsC_one hu)).mono ?_
    rintro e w' ⟨v', rfl, q1, q2, q3, q4⟩
    have hbg : b ≠ g := fun e => H2.ne (by rw [e]; rfl)
    refine ⟨v', rfl, ?_, q2.mono (fun k _ e => by have e' : some k = some g := e; cases e'; rfl), q3, (q2.block b H2.lt (fun e => by have e' : some b = some g := e; cases e'; exact hbg rfl)).trans H2.blk⟩
    rw [Nat.zero_mul, List.take_zero, List.nil_append, evsC_drop, Nat.zero_add] at q1
    rw [List.length_drop]
    exact q1
  have hmc : (n : Int) ≤ (cv : Int) := by omega
  have hnl' : (n : Int) ≤ (l.length : Int) := by omega
  have hl1 : ¬ ((l.length : Int) = 0) := by omega
  have HN : Hid (b ≠ g) := fun e => HH.out.ne (by rw [e]; rfl)
  have HGL : Hid (g < w.heap.size) := (h.row.lt g rfl).2
  have HLT : Hid ((l.take n).length = n) := by show _ = _; rw [List.length_take]; omega
  clear h hn
  go_enter Try.func30, Try.ntmps30
  go_upto_region 5 with (go_at_call 36; refine hcl.mono ?_; rintro e w2 ⟨p2, c2, rfl, hE⟩)
  obtain ⟨d3, hdel⟩ := HD.out w2 hE.2
  have HE := Hid.mkW hE
  clear hcl c3 HD hE
  go_upto_region 6 with (go_at_call 37; refine hdel.mono ?_; rintro e w3 ⟨v3, rfl, HQ⟩; obtain ⟨p3, c3, hv3⟩ := owns_formB0 HQ.out.1; subst hv3; have f3 : w3.frozen? ⟨b, 3, none⟩ = false := (frozen_of_row _ _ _ _ _ HQ.out.2.2.2); have y3 : w3.cell? ⟨b, 3, none⟩ = some (.slice (some ⟨g, 0, none⟩) l.length cv) := (cell_of_row _ _ _ _ _ _ HQ.out.2.2.2))
  go_wp2
  refine bodyPost_ret (results_tmp2 rfl _ _ _) rfl ?_
  obtain ⟨q1, q2, q3, q4⟩ := HQ.out
  rw [List.length_drop] at q1 q3
  have hu3 : Upd w w3 (fun k => k = b ∨ (Value.slice (some ⟨g, 0, none⟩) l.length cv).ownBlock = some k) := (Upd.ofBelow HE.out.2).trans q2 (fun k _ e => .inr (by rw [e]; rfl))
  have hu4 : Upd w3 (w3.setCell ⟨b, 3, none⟩ (.slice p3 (l.length - n) c3)) (fun k => k = b) := (Upd.refl w3 (fun k => k = b)).setCell (p := ⟨b, 3, none⟩) (.inr rfl) _
  have hgb : ∀ k, (Value.slice p3 (l.length - n) c3).ownBlock = some k → ¬ k = b := fun k hk e => by rw [q3] at hk; cases hk; exact HN.out e.symm
  refine ⟨p2, c2, rfl, ?_, _, ⟨heap_setCell_row q4 _, by rw [List.length_drop]; exact ownsRow_upd q1 hu4 hgb⟩, q3, hu3.trans hu4 (fun k _ e => .inl e)⟩
  have h1 := HE.out.1
  rw [HLT.out] at h1
  have h2 := ownsRow_upd h1 q2 (fun k hk e => by have := (h1.lt k hk).1; have := HGL.out; omega)
  exact ownsRow_upd h2 hu4 (fun k hk e => by have := (h1.lt k hk).1; have := HH.out.lt; omega)
end Go.Proofs.Ytjdmgmnndfhmgaa
