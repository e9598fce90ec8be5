/- CronSteps, walked. -/
import Derived.Test.YtdojpnhjnhecmabDoorW1
namespace Go.Proofs.YtdojpnhjnhecmabDoor
open Go Go.RowKit
theorem info3 : (Tryd.prog.info? 3).map (fun i => (i.zero, i.size, i.bytes)) = some (some (.int .i64 0), 1, 8) := by kernel_rfl
abbrev i64s (l : List Int) : List Value := l.map (Value.int .i64)
theorem Src_oneI {w : World} {x : Int} : Src Tryd.prog 1 37 (.slice (some ⟨w.heap.size, 0, none⟩) 1 1) 1 [.int .i64 x] (w.alloc (.cells #[.int .i64 x] 3)) := by
  refine Src.ofSlice _ Tryd.underlying37 ⟨w.heap.size, 0, none⟩ 1 1 [.int .i64 x] rfl (fun j u hu => ?_) (fun u hu => by rw [List.mem_singleton.1 hu]; rfl)
  rw [Addr.add_lit, Nat.zero_add]
  exact (cell_of_row _ _ _ _ _ _ (heap_alloc_new w _)).trans (by rw [← hu]; simp)
/-- Minutes that come next, one behind the other, from one on. -/
def Chain (x : Exp) : Int → List Int → Prop
  | _, [] => True
  | a, v :: l => NextIs x a v 0 ∧ Chain x v l
def lastOf : Int → List Int → Int
  | a, [] => a
  | _, b :: l => lastOf b l
theorem Chain.snoc {x : Exp} {a v : Int} {l : List Int} (h : Chain x a l) (hn : NextIs x (lastOf a l) v 0) : Chain x a (l ++ [v]) := by
  induction l generalizing a with
  | nil => exact ⟨hn, trivial⟩
  | cons b l ih =>
    exact ⟨h.1, ih h.2 hn⟩
theorem lastOf_snoc (a v : Int) (l : List Int) : lastOf a (l ++ [v]) = v := by
  induction l generalizing a with
  | nil => rfl
  | cons b l ih => exact ih b
/-- Back: the last one that matches, up to below the next one of the chain, is the one ahead of it. -/
theorem Chain.at_ {x : Exp} {a : Int} {l : List Int} (h : Chain x a l) (i : Nat) (v : Int) (hi : l[i]? = some v) : a < v ∧ Mt x v ∧ NextIs x (lastOf a (l.take i)) v 0 ∧ a ≤ lastOf a (l.take i) := by
  induction l generalizing a i with
  | nil => simp at hi
  | cons b l ih =>
    have hb := h.1
    have hb1 : a < b ∧ Mt x b := by
      rcases hb with g | g
      · exact ⟨g.2.1, g.2.2.2.1⟩
      · exact absurd g.1 (by decide)
    cases i with
    | zero =>
      obtain rfl : b = v := by simpa using hi
      exact ⟨hb1.1, hb1.2, hb, Int.le_refl _⟩
    | succ i =>
      obtain ⟨g1, g2, g3, g4⟩ := ih h.2 i (by simpa using hi)
      have e : lastOf a ((b :: l).take (i + 1)) = lastOf b (l.take i) := rfl
      rw [e]
      exact ⟨by omega, g2, g3, by omega⟩
theorem next_gap {x : Exp} {a v : Int} (h : NextIs x a v 0) : v ≤ a + 4216320 ∧ ∀ k, a < k → k < v → ¬ Mt x k := by
  rcases h with g | g
  · exact ⟨g.2.2.1, g.2.2.2.2⟩
  · exact absurd g.1 (by decide)
theorem EW.upd {x : Exp} {E : Nat} {w W W' : World} (h : EW x E w W) (hb : Below (E + 1) W W') (hE : w.heap.size ≤ E) (h4 : 4 ≤ E) : EW x E w W' :=
  ⟨(hb.block E (Nat.lt_succ_self _)).trans h.row, h.bel.trans (hb.mono (by omega)), h.tab.keep fun b j v hb4 hv => by rw [← hv]; exact hb.cell (p := ⟨b, j, none⟩) (by show b < E + 1; omega)⟩
structure SW (x : Exp) (E : Nat) (w W : World) (a : Int) (u : Value) (ms : List Int) : Prop where
  ew : EW x E w W
  row : RowO W (E + 1) 3 1 u ms.length (i64s ms)
  ch : Chain x a ms
theorem SW.below {x : Exp} {E : Nat} {w W W' : World} {a : Int} {u : Value} {ms : List Int} (h : SW x E w W a u ms) (hb : Below W.heap.size W W') : SW x E w W' a u ms :=
  ⟨h.ew.below hb, h.row.upd (Upd.ofBelow hb : Upd W W' (fun _ => False)) (fun _ _ => id), h.ch⟩
theorem last_get (a : Int) (ms : List Int) (h : 0 < ms.length) : ms[ms.length - 1]? = some (lastOf a ms) := by
  induction ms generalizing a with
  | nil => exact absurd h (by decide)
  | cons b l ih =>
    cases l with
    | nil => rfl
    | cons c l =>
      have := ih b (by simp)
      show _ = some (lastOf b (c :: l))
      rw [← this]
      simp
theorem SW.range {x : Exp} {E : Nat} {w W : World} {a : Int} {u : Value} {ms : List Int} (h : SW x E w W a u ms) (h0 : -1035593280 ≤ a) (h1 : a ≤ 4223371679) : -1035593280 ≤ lastOf a ms ∧ lastOf a ms ≤ 4223371679 ∧ a ≤ lastOf a ms := by
  by_cases hm : 0 < ms.length
  · obtain ⟨g1, g2, _⟩ := h.ch.at_ _ _ (last_get a ms hm)
    exact ⟨g2.1, g2.2.1, by omega⟩
  · have : ms = [] := List.eq_nil_of_length_eq_zero (by omega)
    subst this
    exact ⟨h0, h1, Int.le_refl _⟩
/-- From a minute back the last one that matches is the one of that number. -/
structure PB (x : Exp) (a : Int) (ms : List Int) (i : Nat) (now : Int) (v : Int) : Prop where
  at_ : ms[i]? = some v
  pv : PrevIs x now a v 0
  lt : a < now
  r0 : -1035593280 ≤ now
  r1 : now ≤ 4223371679
theorem PB.first {x : Exp} {a : Int} {ms : List Int} (h : Chain x a ms) (hm : 0 < ms.length) : PB x a ms (ms.length - 1) (lastOf a ms) (lastOf a ms) := by
  have hg := last_get a ms hm
  obtain ⟨g1, g2, _⟩ := h.at_ _ _ hg
  exact ⟨hg, .inl ⟨rfl, g1, Int.le_refl _, by omega, g2, fun k _ _ => by omega⟩, g1, g2.1, g2.2.1⟩
theorem take_last (a : Int) (ms : List Int) (i : Nat) (h : i + 1 ≤ ms.length) : ms[i]? = some (lastOf a (ms.take (i + 1))) := by
  have hl : (ms.take (i + 1)).length = i + 1 := by rw [List.length_take]; omega
  have := last_get a (ms.take (i + 1)) (by omega)
  rw [hl, List.getElem?_take] at this
  simpa using this
theorem PB.back {x : Exp} {a : Int} {ms : List Int} {i : Nat} {now v : Int} (hc : Chain x a ms) (h : PB x a ms (i + 1) now v) (hv : a < v - 1) : ∃ v', PB x a ms i (v - 1) v' := by
  have hlt : i + 1 < ms.length := (List.getElem?_eq_some_iff.1 h.at_).1
  obtain ⟨g1, g2, g3, g4⟩ := hc.at_ _ _ h.at_
  have hl := take_last a ms i (by omega)
  obtain ⟨f1, f2, _⟩ := hc.at_ _ _ hl
  obtain ⟨e1, e2⟩ := next_gap g3
  have e3 : lastOf a (ms.take (i + 1)) < v := by
    rcases g3 with g | g
    · exact g.2.1
    · exact absurd g.1 (by decide)
  have := g2.1
  have := g2.2.1
  exact ⟨_, hl, .inl ⟨rfl, f1, by omega, by omega, f2, fun k k1 k2 => e2 k k1 (by omega)⟩, hv, by have := f2.1; omega, by omega⟩
theorem PB.val {x : Exp} {a : Int} {ms : List Int} {i : Nat} {now v : Int} (hc : Chain x a ms) (h : PB x a ms i now v) : -1035593280 ≤ v ∧ v ≤ 4223371679 ∧ a < v := by
  obtain ⟨g1, g2, _⟩ := hc.at_ _ _ h.at_
  exact ⟨g2.1, g2.2.1, g1⟩
set_option maxRecDepth 100000 in
set_option maxHeartbeats 2000000 in
theorem steps_walk (s : ByteArray) (x1 x2 : Int) (w : World) (hT : HasT w) (hsz : s.size ≤ 9223372036854775807) (_b1 : -9223372036854775808 ≤ x1 ∧ x1 ≤ 9223372036854775807) (_b2 : -9223372036854775808 ≤ x2 ∧ x2 ≤ 9223372036854775807) :
    Calls Tryd.prog 4 #[.string s, .int .i64 x1, .int .i64 x2] w fun e w' => e = .returned (.bool true) ∧ Below w.heap.size w w' := by
  have hkn := known_any w hT
  have HT : Hid (∀ w3, Below w.heap.size w w3 → HasT w3) := fun w3 h => hT.below h
  have h4 := hT.size
  clear hT
  by_cases hl : 100 < s.size
  · have hp : ∀ W, Calls Tryd.prog 7 #[.string s] W _ := fun W => parse_long s W hl hsz
    clear hl hsz
    go_enter Tryd.func4, Tryd.ntmps4
    go_wp2_with fail
    refine hkn.mono ?_
    rintro e w1 ⟨rfl, hb⟩
    have HB1 := Hid.mk'' hb
    clear hkn hb
    go_wp2_with fail
    refine (hp _).mono ?_
    rintro e w2 ⟨rfl, hb2⟩
    have HB2 : Hid (Below w.heap.size w w2) := HB1.out.trans (hb2.mono HB1.out.size)
    clear hp hb2
    go_wp2_with fail
    go_ret
    exact ⟨rfl, HB2.out.alloc HB2.out.size _⟩
  cases hx : parseL (numsOf s) with
  | none =>
    have HP : Hid (∀ W, HasT W → Calls Tryd.prog 7 #[.string s] W _) := fun W hW => parse_no s hx (by omega) W hW
    clear hl hsz hx
    go_enter Tryd.func4, Tryd.ntmps4
    go_wp2_with fail
    refine hkn.mono ?_
    rintro e w1 ⟨rfl, hb⟩
    have HB1 := Hid.mk'' hb
    have hp := HP.out w1 (HT.out _ hb)
    clear hkn hb HP
    go_wp2_with fail
    refine hp.mono ?_
    rintro e w2 ⟨rfl, hb2⟩
    have HB2 : Hid (Below w.heap.size w w2) := HB1.out.trans (hb2.mono HB1.out.size)
    clear hp hb2
    go_wp2_with fail
    go_ret
    exact ⟨rfl, HB2.out.alloc HB2.out.size _⟩
  | some x =>
  obtain ⟨i0, hi0, hz0, hz1, hz2⟩ := info_parts info3
  have HX := Hid.mk'' (parse_okE hx)
  have HP : Hid (∀ W, HasT W → Calls Tryd.prog 7 #[.string s] W _) := fun W hW => parse_yes s x hx (by omega) W hW
  have hm := fun W => minF_any x1 W
  have hmb := minF_bd x1
  generalize minF x1 = a at *
  have hw := fun W => within_any x2 10 W (by decide) (by decide)
  have hwb := withinF_bd x2 10 (by decide)
  obtain ⟨q, hq⟩ : ∃ q : Nat, withinF x2 10 = q := ⟨(withinF x2 10).toNat, by omega⟩
  rw [hq] at hw hwb
  have hq10 : q < 10 := by omega
  clear hl hsz hx hq hwb
  go_enter Tryd.func4, Tryd.ntmps4
  go_wp2_with fail
  refine hkn.mono ?_
  rintro e w1 ⟨rfl, hb⟩
  have HB1 := Hid.mk'' hb
  have hp := HP.out w1 (HT.out _ hb)
  clear hkn hb HP
  unfold expV at hp
  go_wp2_with fail
  refine hp.mono ?_
  rintro e w2 ⟨rfl, hb2⟩
  have hb2' : Below w.heap.size w w2 := HB1.out.trans (hb2.mono HB1.out.size)
  have HE := Hid.mk'' (EW.start (x := x) hb2' (HT.out _ hb2'))
  have hE := hb2'.size
  obtain ⟨V, hV⟩ : ∃ V, V = w2.alloc (.cells #[.int .u64 x.mi, .int .u64 x.ho, .int .u64 x.da, .int .u64 x.mo, .int .u64 x.wk, .bool x.ad, .bool x.aw] 25) := ⟨_, rfl⟩
  rw [← hV] at HE
  clear hp hb2 hb2' HB1
  go_upto_region 4 with (fail)
  rw [← hV]
  clear hV
  generalize w2.heap.size = E at *
  have HS0 : Hid (SW x E w V a (.slice none 0 0) []) := ⟨HE.out, RowO.nil _ _ _ _, trivial⟩
  clear HE
  go_wp2_with (go_at_call 9; refine (hm _).mono ?_; rintro e w3 ⟨rfl, rfl⟩)
  clear hm
  go_loopw [9, 10, 11] (fun l n i W => ∃ (k : Nat) (u : Value) (ms : List Int), i = .int .i64 k ∧ l = u ∧ n = .int .i64 (lastOf a ms) ∧ k ≤ q + 1 ∧ ms.length = k ∧ Hid (SW x E w W a u ms)) (fun _ _ i _ => q + 1 - (intOf i).toNat)
  case atStart => exact ⟨0, _, [], rfl, rfl, rfl, by omega, rfl, HS0⟩
  case round =>
    obtain ⟨k, u, ms, rfl, rfl, rfl, hk, hml, HS⟩ := hrel
    subst hml
    have hrg := HS.out.range (by omega) (by omega)
    have HRG := Hid.mk'' hrg
    obtain ⟨r1, r2, r3⟩ := hrg
    by_cases hkq : ms.length < q + 1
    · have hkq' : (ms.length : Int) < 1 + (q : Int) := by omega
      have nx := next_yes x HX.out (lastOf a ms) wr HS.out.ew.tab r1 r2
      obtain ⟨k0, k1, k2, k3, k4, k5, k6⟩ := HS.out.ew.cells
      unfold expV at nx
      generalize hno : lastOf a ms = now at *
      have HNO := Hid.mk'' hno
      clear hno
      go_wp2_with (go_at_call 12; refine (hw _).mono ?_; rintro e w5 ⟨rfl, rfl⟩)
      refine nx.mono ?_
      rintro e w6 ⟨⟨v, c, rfl, hv⟩, hb6⟩
      have HS6 := Hid.mk'' (HS.out.below hb6)
      clear nx hb6 HS k0 k1 k2 k3 k4 k5 k6
      have hcc : c = 0 ∨ c = 28 := by rcases hv with h | h; exact .inl h.1; exact .inr h.1
      rcases hcc with rfl | rfl
      · have hv1 : now < v := by
          rcases hv with h | h
          · exact h.2.1
          · exact absurd h.1 (by decide)
        have HV := Hid.mk'' hv
        have hrow := HS6.out.row
        have hsrc := Src_oneI (w := w6) (x := v)
        have hb3 : Below w6.heap.size w6 (w6.alloc (.cells #[.int .i64 v] 3)) := (Below.refl _ _).alloc (Nat.le_refl _) _
        have hrow3 := hrow.upd (Upd.ofBelow hb3 : Upd w6 _ (fun _ => False)) (fun _ _ => id)
        obtain ⟨uo, uc, rfl, _, _⟩ := hrow.form
        have HRW := Hid.mk'' hrow
        have hElt := HS6.out.ew.lt
        clear hrow hv
        go_wp2_with (first | (at_builtin; refine wpList_appO _ rfl (.tmp 47) (.tmp 49) 37 37 rfl (E + 1) 3 i0 (.int .i64 0) 1 Tryd.underlying37 hi0 hz0 hz1 rfl (by omega) _ ms.length (i64s ms) rfl hrow3 _ rfl 1 _ hsrc (by omega) (by simp; omega) ?_; intro v8 w8 h1 h2 h3; obtain ⟨a8, c8, rfl, _, _⟩ := h1.form))
        have HS8 : Hid (SW x E w w8 a (.slice a8 (ms.length + 1) c8) (ms ++ [v])) := by
          refine ⟨HS6.out.ew.upd (((hb3.mono (by omega)).trans (h2.below (by simp; omega) (fun j hj e => by have := (HRW.out.lt e.symm).1; omega)))) hE (by omega), ?_, HS6.out.ch.snoc (by rw [HNO.out]; exact HV.out)⟩
          simpa [i64s] using h1
        go_roundw
        case rel => exact ⟨ms.length + 1, _, ms ++ [v], rfl, rfl, by rw [lastOf_snoc], by omega, by simp, HS8⟩
        case measure => simp [intOf]; omega
      · clear hv
        obtain ⟨uo, uc, rfl, _, _⟩ := HS6.out.row.form
        by_cases hm0 : 0 < ms.length
        · obtain ⟨g, off, hgo⟩ : ∃ g off, uo = some ⟨g, off, none⟩ := by
            rcases HS6.out.row.2 with ⟨_, h0⟩ | ⟨g, off, cap, cur, h', _⟩
            · omega
            · simp only [Value.slice.injEq, true_and] at h'
              exact ⟨g, off, h'.1⟩
          subst hgo
          have HP0 := Hid.mk'' (PB.first HS6.out.ch hm0)
          rw [HNO.out] at HP0
          have hms : (ms.length : Int) - 1 = ((ms.length - 1 : Nat) : Int) := by omega
          go_wp2_with fail
          clear hms
          go_loopw [10, 14] (fun n i W => ∃ (k : Nat) (now v : Int), i = .int .i64 k ∧ n = .int .i64 now ∧ Hid (PB x a ms k now v) ∧ Hid (SW x E w W a (.slice (some ⟨g, off, none⟩) ms.length uc) ms)) (fun _ i _ => (intOf i).toNat)
          case atStart => exact ⟨ms.length - 1, now, now, rfl, rfl, HP0, HS6⟩
          case round =>
            obtain ⟨k, nw, v, rfl, rfl, HPB, HSW⟩ := hrel
            clear HP0 HS6
            obtain ⟨p0, p1, p2⟩ := HPB.out.val HSW.out.ch
            have hkl : k < ms.length := (List.getElem?_eq_some_iff.1 HPB.out.at_).1
            have pv := prev_yes x HX.out nw a wr HSW.out.ew.tab HPB.out.r0 HPB.out.r1 HPB.out.lt (by omega)
            obtain ⟨k0, k1, k2, k3, k4, k5, k6⟩ := HSW.out.ew.cells
            unfold expV at pv
            go_wp2_with fail
            refine pv.mono ?_
            rintro e w9 ⟨⟨p, c, rfl, hpv⟩, hb9⟩
            obtain ⟨hpp, rfl⟩ := hpv.uniq HPB.out.pv
            subst hpp
            have HS9 := Hid.mk'' (HSW.out.below hb9)
            have hcell : w9.cell? ⟨g, off + k, none⟩ = some (.int .i64 p) := HS9.out.row.cell k _ (by simp [i64s, HPB.out.at_])
            clear pv hb9 hpv HSW k0 k1 k2 k3 k4 k5 k6
            by_cases hk0 : k = 0
            · subst hk0
              rw [Nat.add_zero] at hcell
              go_wp2_with fail
              go_ret
              exact ⟨rfl, HS9.out.ew.bel⟩
            · have hkz : ((k : Int) == 0) = false := by simp; omega
              by_cases hpa : p - 1 ≤ a
              · go_wp2_with fail
                go_ret
                exact ⟨rfl, HS9.out.ew.bel⟩
              · obtain ⟨v', hv'⟩ := PB.back (i := k - 1) HS9.out.ch (by rw [show k - 1 + 1 = k by omega]; exact HPB.out) (by omega)
                have HPB' := Hid.mk'' hv'
                clear hv'
                go_wp2_with fail
                go_roundw
                case rel => exact ⟨k - 1, p - 1, v', by rw [show ((k - 1 : Nat) : Int) = (k : Int) - 1 by omega], rfl, HPB', HS9⟩
                case measure => simp [intOf]; omega
        · have hme : ms = [] := List.eq_nil_of_length_eq_zero (by omega)
          subst hme
          go_wp2_with fail
          go_loopw [10, 14] (fun _ i W => i = .int .i64 (-1) ∧ Hid (Below w.heap.size w W)) (fun _ _ _ => 0)
          case atStart => exact ⟨rfl, Hid.mk'' HS6.out.ew.bel⟩
          case round =>
            obtain ⟨rfl, HBW⟩ := hrel
            go_wp2_with fail
            go_ret
            exact ⟨rfl, HBW.out⟩
    · have hkq' : ¬ (ms.length : Int) < 1 + (q : Int) := by omega
      generalize hno : lastOf a ms = now at *
      have HNO := Hid.mk'' hno
      clear hno
      obtain ⟨uo, uc, rfl, _, _⟩ := HS.out.row.form
      by_cases hm0 : 0 < ms.length
      · obtain ⟨g, off, hgo⟩ : ∃ g off, uo = some ⟨g, off, none⟩ := by
          rcases HS.out.row.2 with ⟨_, h0⟩ | ⟨g, off, cap, cur, h', _⟩
          · omega
          · simp only [Value.slice.injEq, true_and] at h'
            exact ⟨g, off, h'.1⟩
        subst hgo
        have HP0 := Hid.mk'' (PB.first HS.out.ch hm0)
        rw [HNO.out] at HP0
        have hms : (ms.length : Int) - 1 = ((ms.length - 1 : Nat) : Int) := by omega
        go_wp2_with (go_at_call 12; refine (hw _).mono ?_; rintro e w5 ⟨rfl, rfl⟩)
        clear hms
        go_loopw [10, 14] (fun n i W => ∃ (k : Nat) (now v : Int), i = .int .i64 k ∧ n = .int .i64 now ∧ Hid (PB x a ms k now v) ∧ Hid (SW x E w W a (.slice (some ⟨g, off, none⟩) ms.length uc) ms)) (fun _ i _ => (intOf i).toNat)
        case atStart => exact ⟨ms.length - 1, now, now, rfl, rfl, HP0, HS⟩
        case round =>
          obtain ⟨k, nw, v, rfl, rfl, HPB, HSW⟩ := hrel
          clear HP0 HS
          obtain ⟨p0, p1, p2⟩ := HPB.out.val HSW.out.ch
          have hkl : k < ms.length := (List.getElem?_eq_some_iff.1 HPB.out.at_).1
          have pv := prev_yes x HX.out nw a wr HSW.out.ew.tab HPB.out.r0 HPB.out.r1 HPB.out.lt (by omega)
          obtain ⟨k0, k1, k2, k3, k4, k5, k6⟩ := HSW.out.ew.cells
          unfold expV at pv
          go_wp2_with fail
          refine pv.mono ?_
          rintro e w9 ⟨⟨p, c, rfl, hpv⟩, hb9⟩
          obtain ⟨hpp, rfl⟩ := hpv.uniq HPB.out.pv
          subst hpp
          have HS9 := Hid.mk'' (HSW.out.below hb9)
          have hcell : w9.cell? ⟨g, off + k, none⟩ = some (.int .i64 p) := HS9.out.row.cell k _ (by simp [i64s, HPB.out.at_])
          clear pv hb9 hpv HSW k0 k1 k2 k3 k4 k5 k6
          by_cases hk0 : k = 0
          · subst hk0
            rw [Nat.add_zero] at hcell
            go_wp2_with fail
            go_ret
            exact ⟨rfl, HS9.out.ew.bel⟩
          · have hkz : ((k : Int) == 0) = false := by simp; omega
            by_cases hpa : p - 1 ≤ a
            · go_wp2_with fail
              go_ret
              exact ⟨rfl, HS9.out.ew.bel⟩
            · obtain ⟨v', hv'⟩ := PB.back (i := k - 1) HS9.out.ch (by rw [show k - 1 + 1 = k by omega]; exact HPB.out) (by omega)
              have HPB' := Hid.mk'' hv'
              clear hv'
              go_wp2_with fail
              go_roundw
              case rel => exact ⟨k - 1, p - 1, v', by rw [show ((k - 1 : Nat) : Int) = (k : Int) - 1 by omega], rfl, HPB', HS9⟩
              case measure => simp [intOf]; omega
      · exfalso; omega
end Go.Proofs.YtdojpnhjnhecmabDoor
