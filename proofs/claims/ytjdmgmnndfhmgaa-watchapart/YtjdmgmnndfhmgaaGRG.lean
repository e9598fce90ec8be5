/- New, Len, Marks. -/
import Derived.Test.YtjdmgmnndfhmgaaGRF
import Derived.Test.YtjdmgmnndfhmgaaGRC
import Derived.Test.YtjdmgmnndfhmgaaGRB
namespace Go.Proofs.Ytjdmgmnndfhmgaa
open Go Go.RowKit

theorem new_any (w : World) : Calls Try.prog 18 #[] w fun e w' => e = .returned (ptr w.heap.size) ∧ Ix w' w.heap.size [] [w.heap.size] ∧ Below w.heap.size w w' ∧ w'.heap.size = w.heap.size + 1 := by
  have HI : Hid (Ix (w.alloc (.cells #[.pointer none, .int .i64 0] 84)) w.heap.size [] [w.heap.size]) := ⟨⟨none, [], row_alloc w _ _, .inl ⟨rfl, rfl, rfl⟩, by simp⟩, trivial, by simp, by simp⟩
  go_enter Try.func18, Try.ntmps18
  go_wp2
  go_ret
  exact ⟨rfl, HI.out, (Below.refl _ _).alloc (Nat.le_refl _) _, by simp⟩
/-- What Marks answers: a row of its own. -/
def MarksPost (w w' : World) (v : Value) (ms : List Mk) : Prop := (∃ p c, v = .slice p ms.length c ∧ (∀ g, v.ownBlock = some g → w.heap.size ≤ g)) ∧ Mks w' v ms ∧ Below w.heap.size w w'
set_option maxHeartbeats 1000000 in
theorem marks_no {w : World} {x : Nat} {R : List IM} {F : List Nat} (H : Ix w x R F) (key : ByteArray) (hk : key ∉ keysR R) : Calls Try.prog 47 #[ptr x, .string key] w fun e w' => e = .returned (.slice none 0 0) ∧ Below w.heap.size w w' := by
  obtain ⟨rp, Ft, hx, _, _⟩ := H.ex
  have c0 := hx.c0
  have hf := find_no H hk c0
  clear H hx
  go_enter Try.func47, Try.ntmps47
  go_wp2_with (go_at_call 50; refine hf.mono ?_; rintro e w1 ⟨rfl, hb1⟩)
  go_ret
  exact ⟨rfl, hb1⟩
set_option maxHeartbeats 1000000 in
theorem marks_yes {w : World} {x : Nat} {R : List IM} {F : List Nat} (H : Ix w x R F) (key : ByteArray) (ms : List Mk) (hk : lookD (dat R) key = some ms) (hml : ms.length ≤ 1000000) : Calls Try.prog 47 #[ptr x, .string key] w fun e w' => ∃ v, e = .returned v ∧ MarksPost w w' v ms := by
  obtain ⟨rp, Ft, hx, _, _⟩ := H.ex
  have c0 := hx.c0
  have hf := find_yes H hk c0
  have HF : Hid (∀ w1 mg c, Below w.heap.size w w1 → Mks w (.slice (some ⟨mg, 0, none⟩) ms.length c) ms → 0 < ms.length → Calls Try.prog 53 #[.slice (some ⟨mg, 0, none⟩) ms.length c] w1 fun e w' => e = .returned (.slice (some ⟨w1.heap.size, 0, none⟩) ms.length ms.length) ∧ MarksPost w w' (.slice (some ⟨w1.heap.size, 0, none⟩) ms.length ms.length) ms) := fun w1 mg c hb hM hp => by
    have hM1 : Mks w1 (.slice (some ⟨mg, 0, none⟩) ms.length c) ms := ownsRow_upd hM (Upd.ofBelow (S := fun _ => False) hb) (fun _ _ h => h)
    refine (freshM mg 0 ms.length c (mksC ms) w1 hml hp (mksC_len ms) (fun j v hj => ?_) (mksC_mem ms)).mono ?_
    · have := hM1.cells (g := mg) rfl _ _ hj
      simpa only [Addr.add_lit] using this
    · rintro e w' ⟨rfl, hr, hz, hb'⟩
      refine ⟨rfl, ⟨_, _, rfl, fun g hg => ?_⟩, owns_of_row hr (Nat.le_refl _) (by unfold maxLen; omega) (by simp [mksC_len]) (List.take_of_length_le (by simp [mksC_len])) (mksC_len ms), hb.trans (hb'.mono hb.size)⟩
      simp [Value.ownBlock] at hg
      rw [← hg]; exact hb.size
  clear H hx
  go_enter Try.func47, Try.ntmps47
  go_wp2_with (first | (go_at_call 50; refine hf.mono ?_; rintro e w1 ⟨g, i, mg, c, X, Z, rfl, hb1, hA, hM, hp, hc1⟩) | (go_at_call 53; refine (HF.out _ _ _ hb1 hM.out hp).mono ?_; rintro e w2 ⟨rfl, hP⟩))
  go_ret
  exact ⟨_, rfl, hP⟩
end Go.Proofs.Ytjdmgmnndfhmgaa
/- Rows of a block of their own: their form. -/
namespace Go.Proofs.Ytjdmgmnndfhmgaa
open Go Go.RowKit

abbrev strs (l : List ByteArray) : List Value := l.map Value.string
theorem info9 : (Try.prog.info? 9).map (fun i => (i.zero, i.size, i.bytes)) = some (some (.string ⟨#[]⟩), 1, 16) := by kernel_rfl
theorem owns_formB {w : World} {base e s n : Nat} {v : Value} {xs : List Value} (h : w.ownsRow base e s v n xs) (hn : 0 < n) : ∃ g c, v = .slice (some ⟨g, 0, none⟩) n c ∧ n ≤ c ∧ base ≤ g := by
  rcases h.2 with ⟨rfl, rfl⟩ | ⟨g, cap, cur, rfl, hb, _, h1, _⟩
  · omega
  · exact ⟨_, _, rfl, h1, hb⟩
theorem owns_formB0 {w : World} {base e s n : Nat} {v : Value} {xs : List Value} (h : w.ownsRow base e s v n xs) : ∃ p c, v = .slice p n c := by
  rcases h.2 with ⟨rfl, rfl⟩ | ⟨g, cap, cur, rfl, _⟩
  · exact ⟨_, _, rfl⟩
  · exact ⟨_, _, rfl⟩
theorem ownBlock_ge {w : World} {base e s n : Nat} {v : Value} {xs : List Value} (h : w.ownsRow base e s v n xs) {k : Nat} (hk : v.ownBlock = some k) : base ≤ k ∧ ∃ c f, w.heap[k]? = some (.cells c e f) := by
  rcases h.2 with ⟨rfl, _⟩ | ⟨g, cap, cur, rfl, hb, hh, _⟩
  · cases hk
  · have e' : g = k := by simpa [Value.ownBlock] using hk
    subst e'
    exact ⟨hb, _, _, hh⟩
theorem ownsRow_base {w : World} {base base' e s n : Nat} {v : Value} {xs : List Value} (h : w.ownsRow base e s v n xs) (hb : base' ≤ base) : w.ownsRow base' e s v n xs := by
  obtain ⟨h1, h2⟩ := h
  refine ⟨h1, ?_⟩
  rcases h2 with h2 | ⟨g, cap, cur, rfl, hb', r⟩
  · exact .inl h2
  · exact .inr ⟨g, cap, cur, rfl, Nat.le_trans hb hb', r⟩
end Go.Proofs.Ytjdmgmnndfhmgaa
/- slices.IndexFunc and slices.DeleteFunc of a row of changes. -/
namespace Go.Proofs.Ytjdmgmnndfhmgaa
open Go Go.RowKit

theorem evsC_at : ∀ {l : List Evd} {i : Nat} {e : Evd} (_ : l[i]? = some e) (t : Nat), t < 8 → (evsC l)[i * 8 + t]? = (evL e)[t]?
  | [], i, e, h, t, ht => by simp at h
  | x :: l, 0, e, h, t, ht => by
    have e' : x = e := by simpa using h
    subst e'
    show (evL x ++ evsC l)[0 * 8 + t]? = _
    rw [Nat.zero_mul, Nat.zero_add, List.getElem?_append_left (by simpa [evL, evC] using ht)]
  | x :: l, i + 1, e, h, t, ht => by
    show (evL x ++ evsC l)[(i + 1) * 8 + t]? = _
    have hl : (evL x).length = 8 := by simp [evL, evC]
    rw [List.getElem?_append_right (by omega), hl, ← evsC_at (l := l) (i := i) (by simpa using h) t ht]
    congr 1
    omega
/-- A row of changes that is read. -/
def EVs (w : World) (v : Value) (l : List Evd) : Prop := ∃ p c, v = .slice p l.length c ∧ l.length ≤ c ∧ ∀ i e, l[i]? = some e → ∃ g, p = some ⟨g, 0, none⟩ ∧ g < w.heap.size ∧ ∀ t u, t < 8 → (evL e)[t]? = some u → w.cell? ⟨g, i * 8 + t, none⟩ = some u
theorem EVs.of {w : World} {B : Nat} {v : Value} {l : List Evd} (h : w.ownsRow B 37 8 v l.length (evsC l)) : EVs w v l := by
  rcases h.2 with ⟨rfl, h0⟩ | ⟨g, cap, cur, rfl, hg, hh, h1, h2, h3, h4⟩
  · refine ⟨none, 0, by rw [h0], by omega, fun i e hi => ?_⟩
    have := (List.getElem?_eq_some_iff.1 hi).1
    omega
  · refine ⟨_, cap, rfl, h1, fun i e hi => ⟨g, rfl, (Array.getElem?_eq_some_iff.1 hh).1, fun t u ht hu => ?_⟩⟩
    have := h.cells (g := g) rfl (i * 8 + t) u (by rw [evsC_at hi t ht]; exact hu)
    rwa [Addr.add_lit, Nat.zero_add] at this
theorem EVs.below {w w' : World} {v : Value} {l : List Evd} (h : EVs w v l) {B : Nat} (hb : Below B w w') (hB : w.heap.size ≤ B) : EVs w' v l := by
  obtain ⟨p, c, e, h1, h2⟩ := h
  refine ⟨p, c, e, h1, fun i x hi => ?_⟩
  obtain ⟨g, h3, h4, h5⟩ := h2 i x hi
  exact ⟨g, h3, Nat.lt_of_lt_of_le h4 hb.size, fun t u ht hu => (hb.cell (p := ⟨g, i * 8 + t, none⟩) (by show g < B; omega)).trans (h5 t u ht hu)⟩
/-- A predicate of changes, as it is asked while blocks of T are written. -/
def Asks (w : World) (T : Nat → Prop) (q : Nat) (p : Evd → Bool) : Prop := ∀ W e, Upd w W T → Calls Try.prog 41 #[.agg (evC e.1 e.2.2.isNone (evKV e.1 e.2.1 e.2.2)), ptr q] W fun r w' => r = .returned (.bool (!p e)) ∧ Below W.heap.size W w'
set_option maxRecDepth 100000 in
set_option maxHeartbeats 1000000 in
/-- Where the first one stands that is not of p. -/
theorem indexFunc_any (w : World) (T : Nat → Prop) (q : Nat) (p : Evd → Bool) (v : Value) (l : List Evd) (hE : EVs w v l) (hA : Asks w T q p) (hl : l.length ≤ 1000000) :
    Calls Try.prog 46 #[v, .func (.func 41) #[] #[ptr q]] w fun r w' => ∃ x : Int, r = .returned (.int .i64 x) ∧ ((x = -1 ∧ l.filter p = l) ∨ ∃ i : Nat, x = i ∧ i < l.length ∧ (∀ j e, j < i → l[j]? = some e → p e = true) ∧ ∀ e, l[i]? = some e → p e = false) ∧ Below w.heap.size w w' := by
  have HE := Hid.mkW hE
  obtain ⟨ap, c, rfl, hc, hh⟩ := hE
  have HH := Hid.mkW hh
  have HA := Hid.mkW hA
  clear hh hA
  go_enter Try.func46, Try.ntmps46
  go_wp2
  go_loopg [5, 8] (l.length + 1) (fun kx s5 s8 wq => ∃ i : Nat, s8 = .int .i64 i ∧ kx + i = l.length + 1 ∧ i ≤ l.length ∧ Hid (Below w.heap.size w wq) ∧ Hid (∀ j e, j < i → l[j]? = some e → p e = true))
  case atStart => exact ⟨0, rfl, rfl, Nat.zero_le _, Below.refl _ _, fun j e h => by omega⟩
  case round =>
    obtain ⟨i, rfl, hk, hi, HB, HP⟩ := hrel
    by_cases hlt : i < l.length
    · obtain ⟨ev, hev⟩ : ∃ ev, l[i]? = some ev := ⟨_, List.getElem?_eq_getElem hlt⟩
      obtain ⟨g, hg, hgl, hcell⟩ := HH.out i ev hev
      subst hg
      have hcall := HA.out wr ev (Upd.ofBelow HB.out)
      have hc' : ∀ t u, t < 8 → (evL ev)[t]? = some u → wr.cell? ⟨g, i * 8 + t, none⟩ = some u := fun t u ht hu => (HB.out.cell (p := ⟨g, i * 8 + t, none⟩) hgl).trans (hcell t u ht hu)
      have e0 := hc' 0 _ (by omega) rfl
      have e1 := hc' 1 _ (by omega) rfl
      have e2 := hc' 2 _ (by omega) rfl
      have e3 := hc' 3 _ (by omega) rfl
      have e4 := hc' 4 _ (by omega) rfl
      have e5 := hc' 5 _ (by omega) rfl
      have e6 := hc' 6 _ (by omega) rfl
      have e7 := hc' 7 _ (by omega) rfl
      obtain ⟨pe, hpe⟩ : ∃ pe, pe = p ev := ⟨_, rfl⟩
      rw [← hpe] at hcall
      have HPE := Hid.mkW hpe
      have HEV := Hid.mkW hev
      generalize evKV ev.1 ev.2.1 ev.2.2 = kv at *
      generalize ev.2.2.isNone = dl at *
      generalize ev.1 = r at *
      obtain ⟨xk, xv, xc, xm, xe, xl⟩ := kv
      simp only [Nat.add_zero] at e0
      dsimp only [evC] at hcall
      dsimp only at e2 e3 e4 e5 e6 e7
      clear hc' hcell hev hpe
      cases pe with
      | true =>
        go_wp2_with (go_at_call 41; refine hcall.mono ?_; rintro e w3 ⟨rfl, hb3⟩)
        go_roundg (l.length - i)
        case measure => omega
        case rel =>
          refine ⟨i + 1, by congr 1, by omega, by omega, HB.out.trans (hb3.mono HB.out.size), fun j e hj he => ?_⟩
          rcases Nat.lt_or_ge j i with h1 | h1
          · exact HP.out j e h1 he
          · obtain rfl : j = i := by omega
            rw [HEV.out] at he
            cases he
            exact HPE.out.symm
      | false =>
        go_wp2_with (go_at_call 41; refine hcall.mono ?_; rintro e w3 ⟨rfl, hb3⟩)
        go_ret
        exact ⟨i, rfl, .inr ⟨i, rfl, hlt, HP.out, fun e he => by rw [HEV.out] at he; cases he; exact HPE.out.symm⟩, HB.out.trans (hb3.mono HB.out.size)⟩
    · obtain rfl : i = l.length := by omega
      go_wp2
      go_ret
      refine ⟨-1, rfl, .inl ⟨rfl, List.filter_eq_self.2 fun x hx => ?_⟩, HB.out⟩
      obtain ⟨j, hj, hj'⟩ := List.getElem_of_mem hx
      exact HP.out j x hj (by rw [List.getElem?_eq_getElem hj, hj'])
end Go.Proofs.Ytjdmgmnndfhmgaa
/- slices.Delete and slices.Clone of a row of changes. -/
namespace Go.Proofs.Ytjdmgmnndfhmgaa
open Go Go.RowKit

theorem row_cellsE {w : World} {g : Nat} {cur : Array Value} (hg : w.heap[g]? = some (.cells cur 37 (0, 0))) (j : Nat) (v : Value) (h : cur.toList[j]? = some v) : w.cell? ⟨g, j, none⟩ = some v := by
  rw [cell_of_row w g j cur 37 _ hg]
  simpa using h
set_option maxRecDepth 20000 in
set_option maxHeartbeats 1000000 in
theorem delE_row (g n c i j : Nat) (cur : Array Value) (w : World) (hg : w.heap[g]? = some (.cells cur 37 (0, 0))) (hij : i < j) (hj : j ≤ n) (hnc : n ≤ c) (hcm : c ≤ maxLen) (hcs : cur.size = c * 8) (hn : n ≤ 1000) (h1 : ∀ u ∈ cur.toList.take (n * 8), u.oneCell' = true) :
    Calls Try.prog 37 #[.slice (some ⟨g, 0, none⟩) n c, .int .i64 i, .int .i64 j] w fun e w' => e = .returned (.slice (some ⟨g, 0, none⟩) (i + (n - j)) c) ∧
      w'.ownsRow 0 37 8 (.slice (some ⟨g, 0, none⟩) (i + (n - j)) c) (i + (n - j)) ((cur.toList.take (n * 8)).take (i * 8) ++ (cur.toList.take (n * 8)).drop (j * 8)) ∧ Upd w w' (fun k => k = g) ∧ w'.heap.size = w.heap.size := by
  obtain ⟨ti, hti, hz0, hz1, hz2⟩ := info_parts info85
  have hc63 : c ≤ 9223372036854775807 := by unfold maxLen at hcm; omega
  obtain ⟨L, hL⟩ : ∃ L, L = cur.toList := ⟨_, rfl⟩
  rw [← hL] at h1 ⊢
  have hLl : L.length = c * 8 := by rw [hL]; simpa using hcs
  have hdl : ((L.take (n * 8)).drop (j * 8)).length = (n - j) * 8 := by rw [List.length_drop, List.length_take, hLl]; omega
  obtain ⟨c1, hc1⟩ : ∃ c1, c1 = L.take (i * 8) ++ (L.take (n * 8)).drop (j * 8) ++ L.drop (i * 8 + ((L.take (n * 8)).drop (j * 8)).length) := ⟨_, rfl⟩
  have hc1l : c1.length = L.length := by rw [hc1, List.length_append, List.length_append, hdl, List.length_take, List.length_drop, hLl]; omega
  have hsrc : ∀ (a : Addr) (sc : Nat), (a = ⟨g, j * 8, none⟩ ∨ n - j = 0) → Src Try.prog 8 28 (.slice (some a) (n - j) sc) (n - j) ((L.take (n * 8)).drop (j * 8)) w.drew := fun a sc ha => Src.ofSlice w.drew Try.underlying28 a (n - j) sc _ hdl (fun k u hk => by
    rcases ha with rfl | ha
    · rw [Addr.add_lit]
      refine row_cellsE (w := w.drew) hg _ u ?_
      rw [List.getElem?_drop, List.getElem?_take] at hk
      split at hk
      · rw [← hL]; simpa using hk
      · cases hk
    · rw [ha] at hdl
      have hnil := List.eq_nil_of_length_eq_zero (show ((L.take (n * 8)).drop (j * 8)).length = 0 by omega)
      rw [hnil] at hk
      simp at hk) (fun v hv => h1 v (List.mem_of_mem_drop hv))
  have hap : ∀ ty (a : Addr) (sc : Nat), (a = ⟨g, j * 8, none⟩ ∨ n - j = 0) → (Builtin.append_ #[28, 28] ty #[.slice (some ⟨g, 0, none⟩) i c, .slice (some a) (n - j) sc]).run Try.prog w.drew = .ok (.slice (some ⟨g, 0, none⟩) (i + (n - j)) c) (w.drew.setRow g c1.toArray) := fun ty a sc ha => by
    have := run_appS_room (P := Try.prog) w.drew 28 28 ty 37 ti Try.underlying28 hti g i c cur hg _ (n - j) _ (by rw [hz1]; exact hsrc a sc ha) (by omega) (by rw [hz1, hcs]; omega)
    rw [hz1, ← hL] at this
    rw [this, hc1, hdl]
  obtain ⟨W1, hW1⟩ : ∃ W1, W1 = w.drew.setRow g c1.toArray := ⟨_, rfl⟩
  have hg1 : W1.heap[g]? = some (.cells c1.toArray 37 (0, 0)) := by rw [hW1]; exact setRow_heap w.drew g cur _ 37 _ hg
  obtain ⟨zs, hzl, hcl⟩ := run_clearS (P := Try.prog) W1 28 0 37 37 ti _ Try.underlying28 hti hz0 g ((i + (n - j)) * 8) (j - i) (c - (i + (n - j))) c1.toArray hg1 (by show _ + (j - i) * 8 ≤ _; simp [hc1l, hLl]; omega) (fun v hv => by
    simp only [Builtin.zeroCells, Array.toList_map, List.mem_map] at hv
    obtain ⟨k, _, rfl⟩ := hv
    have hk : k % 8 < 8 := Nat.mod_lt _ (by decide)
    show ((Value.cells (.agg #[.int .i64 0, .bool false, .string ⟨#[]⟩, .string ⟨#[]⟩, .int .i64 0, .int .i64 0, .int .i64 0, .int .i64 0]))[k % 8]!).oneCell' = true
    rcases (show k % 8 = 0 ∨ k % 8 = 1 ∨ k % 8 = 2 ∨ k % 8 = 3 ∨ k % 8 = 4 ∨ k % 8 = 5 ∨ k % 8 = 6 ∨ k % 8 = 7 by omega) with h | h | h | h | h | h | h | h <;> rw [h] <;> rfl)
  have hzl' : zs.length = (j - i) * 8 := hzl
  rw [if_neg (by omega)] at hcl
  obtain ⟨r1, r2⟩ := row_del L zs (i * 8) (j * 8) (n * 8) ((i + (n - j)) * 8) (by omega) (by omega) (by omega) c1 hc1 (by omega) (by omega)
  have hcl' : ∀ ty k, k = c - (i + (n - j)) → (Builtin.clear_ #[28] ty #[.slice (some ⟨g, (i + (n - j)) * 8, none⟩) (j - i) k]).run Try.prog W1 = .ok (.tuple #[]) (W1.setRow g (c1.take ((i + (n - j)) * 8) ++ zs ++ c1.drop ((i + (n - j)) * 8 + zs.length)).toArray) := fun ty k hk => by
    subst hk
    rw [hzl']
    exact hcl
  have HF : Hid (∀ w' : World, w' = W1.setRow g (c1.take ((i + (n - j)) * 8) ++ zs ++ c1.drop ((i + (n - j)) * 8 + zs.length)).toArray →
      w'.ownsRow 0 37 8 (.slice (some ⟨g, 0, none⟩) (i + (n - j)) c) (i + (n - j)) ((L.take (n * 8)).take (i * 8) ++ (L.take (n * 8)).drop (j * 8)) ∧ Upd w w' (fun k => k = g) ∧ w'.heap.size = w.heap.size) := fun w' hw' => by
    subst hw'
    refine ⟨owns_of_row (setRow_heap W1 g _ _ 37 _ hg1) (by omega) hcm ?_ r1 ?_, ?_, ?_⟩
    · rw [List.size_toArray, r2, hLl]
    · rw [List.length_append, hdl, List.length_take, List.length_take, hLl]; omega
    · have u1 : Upd w W1 (fun k => k = g) := by rw [hW1]; exact (Upd.refl w _).drew.trans (upd_setRow w.drew g _ (fun k => k = g) rfl) (fun _ _ h => h)
      exact u1.trans (upd_setRow W1 g _ (fun k => k = g) rfl) (fun _ _ h => h)
    · rw [hW1]; simp
  rw [← hW1] at hap
  have hq1 : IntKind.i64.wrap ((i : Int) - (j : Int)) = (i : Int) - (j : Int) := by rw [IntKind.wrap_i64]; omega
  have hq2 : ¬ ((i : Int) = (j : Int)) := by omega
  have hq3 : (j : Int) ≤ (n : Int) := by omega
  have hq4 : (i : Int) ≤ (j : Int) := by omega
  have hq5 : (i : Int) ≤ (n : Int) := by omega
  have hq6 : (j : Int) ≤ (c : Int) := by omega
  have hq7 : (n : Int) ≤ (c : Int) := by omega
  have hq8 : (i : Int) ≤ (c : Int) := by omega
  have hq9 : n - (i + (n - j)) = j - i := by omega
  clear hL hLl hdl hc1 r1 r2 hc1l hg1 hW1 h1 hcl hzl hzl' hsrc
  have hqa : ¬ (c = i) := by omega
  have hqb : ¬ (c = i + (n - j)) := by omega
  have hqc : ¬ (n = i) := by omega
  have hqd : (0 : Int) ≤ (i : Int) + ((n - j : Nat) : Int) := by omega
  have hqe : i + (n - j) ≤ n := by omega
  by_cases hcj : c = j
  · have hjn : n - j = 0 := by omega
    have hap' := fun ty => hap ty ⟨g, 0, none⟩ 0 (.inr hjn)
    rw [hjn] at hap' hcl' HF hqb hqd hqe hq9 ⊢
    simp only [Nat.add_zero] at hap' hcl' HF hqb hqe hq9 ⊢
    subst hcj
    clear hap
    go_enter Try.func37, Try.ntmps37
    go_wp2
    go_region_law (refine step_append_run rfl _ _ 28 28 rfl _ _ (by simp [Act.eval, Act.put]; first | done | rfl) (by simp [Act.eval, Act.put]; first | done | rfl) (hap' _) ?_)
    go_wp2_with (at_builtin; refine wpList_clear_run _ rfl _ 28 rfl _ rfl (hcl' _ _ (by omega)) ?_)
    go_ret
    exact ⟨rfl, HF.out _ (by simp)⟩
  · have hap' := fun ty => hap ty ⟨g, j * 8, none⟩ (c - j) (.inl rfl)
    clear hap
    go_enter Try.func37, Try.ntmps37
    go_wp2
    go_region_law (refine step_append_run rfl _ _ 28 28 rfl _ _ (by simp [Act.eval, Act.put]; first | done | rfl) (by simp [Act.eval, Act.put]; first | done | rfl) (hap' _) ?_)
    go_wp2_with (at_builtin; refine wpList_clear_run _ rfl _ 28 rfl _ rfl (hcl' _ _ (by omega)) ?_)
    go_ret
    exact ⟨rfl, HF.out _ (by simp)⟩
/-- Delete, of a row that is owned. -/
theorem delE_any (v : Value) (n i j : Nat) (xs : List Value) (w : World) (hown : w.ownsRow 0 37 8 v n xs) (hij : i < j) (hj : j ≤ n) (hn : n ≤ 1000) (h1 : ∀ u ∈ xs, u.oneCell' = true) :
    Calls Try.prog 37 #[v, .int .i64 i, .int .i64 j] w fun e w' => ∃ v', e = .returned v' ∧ w'.ownsRow 0 37 8 v' (i + (n - j)) (xs.take (i * 8) ++ xs.drop (j * 8)) ∧ Upd w w' (fun k => some k = v.ownBlock) ∧ v'.ownBlock = v.ownBlock ∧ w'.heap.size = w.heap.size := by
  rcases hown.2 with ⟨rfl, rfl⟩ | ⟨g, cap, cur, rfl, _, hg, hnc, hcm, hcs, htake⟩
  · omega
  · refine (delE_row g n cap i j cur w hg hij hj hnc hcm hcs hn (by rw [htake]; exact h1)).mono ?_
    rintro e w' ⟨rfl, ho, hu, hz⟩
    rw [htake] at ho
    exact ⟨_, rfl, ho, hu.mono (fun k _ e => by rw [e]; rfl), rfl, hz⟩
end Go.Proofs.Ytjdmgmnndfhmgaa
