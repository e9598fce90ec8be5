/- A hub's Feed. -/
import Derived.Test.YtjdmgmnndfhmgaaGreatGRQ
import Derived.Test.YtjdmgmnndfhmgaaGreatGRD
import Derived.Test.YtjdmgmnndfhmgaaGreatGRF
namespace Go.Proofs.YtjdmgmnndfhmgaaGreat
open Go Go.RowKit
/-- What a Feed does to a watcher. -/
def feedX (S : Sto) (x : Wd) : Wd := if x.fd = true ∧ x.fin = 0 then (if x.place ≤ S.past then { x with fin := 16 } else if 16 < x.buf.length + (newsL S x.lo x.hi x.place).length then { x with fin := 14 } else { x with buf := x.buf ++ newsL S x.lo x.hi x.place, place := max x.place ((S.rev : Int) + 1) }) else x
theorem feedX_fd (S : Sto) (x : Wd) : (feedX S x).fd = x.fd := by
  unfold feedX
  split
  · split
    · rfl
    · split <;> rfl
  · rfl
theorem feedX_ok {S : Sto} {x : Wd} (h : x.Ok) (hr : S.rev ≤ 100000) : (feedX S x).Ok := by
  unfold feedX
  have := h.a
  have := h.b
  have := h.c
  split
  · split
    · exact ⟨h.a, h.b, h.c⟩
    · split
      · exact ⟨h.a, h.b, h.c⟩
      · exact ⟨by dsimp only; omega, by dsimp only; omega, by dsimp only; rw [List.length_append]; omega⟩
  · exact h
section
variable {w w' : World} {h s m last : Nat} {A : List Int} {X : Int → Wd} {G : Int → Nat × Value} {n : Nat} {S : Sto} {g : Sg} {o : Value}
theorem feed_any (HS : Sk n w s S g o) (b : Nat) (v : Value) (x : Wd) (hx : x.fd = true) (F : Fd w b v x.lo x.hi x.place x.buf x.fin) (hok : x.Ok) (sep : ∀ k, ftE (b, v) k → ¬ ftS s g k) :
    Calls Tryz.prog 48 #[ptr b, ptr s] w fun r w' => r = .returned (.tuple #[]) ∧ ∃ v', Hid (WM w' (b, v') (feedX S x) ∧ Upd w w' (ftE (b, v)) ∧ ∀ k, v'.ownBlock = some k → ftE (b, v) k ∨ w.heap.size ≤ k) := by
  have hbs : b ≠ s := fun e => sep b (.inl rfl) (.inl e)
  have hvs : v.ownBlock ≠ some s := fun e => sep s (.inr e) (.inl rfl)
  by_cases hf : x.fin = 0
  · have hif : x.fd = true ∧ x.fin = 0 := ⟨hx, hf⟩
    rw [hf] at F
    by_cases hp : x.place ≤ S.past
    · have e : feedX S x = { x with fin := 16 } := by unfold feedX; rw [if_pos hif, if_pos hp]
      rw [e]
      refine (feed_past HS F hok.a hp).mono ?_
      rintro r w' ⟨rfl, q1, q2⟩
      refine ⟨rfl, v, ?_, q2.mono (fun k _ e => .inl e), fun k hk => .inl (.inr hk)⟩
      unfold WM
      simp only [hx]
      exact q1
    · by_cases hl : 16 < x.buf.length + (newsL S x.lo x.hi x.place).length
      · have e : feedX S x = { x with fin := 14 } := by unfold feedX; rw [if_pos hif, if_neg hp, if_pos hl]
        rw [e]
        refine (feed_full HS F hok.a hp hok.b hok.c hl).mono ?_
        rintro r w' ⟨rfl, q1, q2⟩
        refine ⟨rfl, v, ?_, q2.mono (fun k _ e => .inl e), fun k hk => .inl (.inr hk)⟩
        unfold WM
        simp only [hx]
        exact q1
      · have e : feedX S x = { x with buf := x.buf ++ newsL S x.lo x.hi x.place, place := max x.place ((S.rev : Int) + 1) } := by unfold feedX; rw [if_pos hif, if_neg hp, if_neg hl]
        rw [e]
        refine (feed_ok HS F hbs hvs hok.a hp hok.b hok.c hl).mono ?_
        rintro r w' ⟨rfl, v', q1, q2, q3⟩
        refine ⟨rfl, v', ?_, q2, fun k hk => (q3 k hk).elim (fun e => .inl (.inr e)) .inr⟩
        unfold WM
        simp only [hx, hf]
        exact q1
  · have e : feedX S x = x := by unfold feedX; rw [if_neg (fun h => hf h.2)]
    rw [e]
    refine (feed_done F s hf).mono ?_
    rintro r w' ⟨rfl, hw'⟩
    obtain rfl := hw'.symm
    refine ⟨rfl, v, ?_, Upd.refl _ _, fun k hk => .inl (.inr hk)⟩
    unfold WM
    simp only [hx]
    exact F
theorem Hb.congr {X' : Int → Wd} (H : Hb w h s m last A X G) (hX : ∀ i ∈ A, X' i = X i) : Hb w h s m last A X' G :=
  ⟨H.blk, H.map.congr (fun i hi => by rw [hX i hi]), fun i hi => by rw [hX i hi]; exact H.mem i hi, fun i hi => by rw [hX i hi]; exact H.ok i hi, H.dis, H.neh, H.old, H.few, H.len⟩
theorem ranges_upd {P : Program} {w w' : World} {S : Nat → Prop} {k : TypeId} {R : Value → Option (DataW Value × List MemPlace)} {b r n : Nat} {D : DataW Value} {left : Lit → Bool} {cnt : Nat} (h : w.ranges P k R b r n D left cnt) (hu : Upd w w' S) (hb : ¬ S b) (hr : ¬ S r) : w'.ranges P k R b r n D left cnt := by
  have l1 := h.owns.lt
  have l2 := h.lt
  obtain ⟨es, clock, since, seen, c0, a1, a2, a3, a4, a5, a6⟩ := h
  exact ⟨es, clock, since, seen, c0, (hu.block b l1 hb).trans a1, a2, a3, a4, (hu.block r l2 hr).trans a5, a6⟩
/-- Watchers, as far as the range has come. -/
def mixX (S : Sto) (X : Int → Wd) (left : Lit → Bool) : Int → Wd := fun i => if left (.int .i64 i) = true then X i else feedX S (X i)
theorem mix_step {left : Lit → Bool} {x : Int} : mixX S X (fun z => left z && !z.sameKey (.int .i64 x)) = setX (mixX S X left) x (feedX S (X x)) := by
  funext j
  unfold mixX setX
  dsimp only
  simp only [same_int]
  by_cases e : j = x
  · subst e; simp
  · simp [e]
def FeI (S : Sto) (w wr : World) (h s m last : Nat) (A : List Int) (X : Int → Wd) (G : Int → Nat × Value) (left : Lit → Bool) : Prop :=
  ∃ G', Hb wr h s m last A (mixX S X left) G' ∧ Upd w wr (ftH h m A G) ∧ (∀ k, ftH h m A G' k → ftH h m A G k ∨ w.heap.size < k) ∧ (∀ i ∈ A, (G' i).1 = (G i).1) ∧ w.heap.size < wr.heap.size
set_option maxRecDepth 100000 in
set_option maxHeartbeats 4000000 in
theorem hub_feed (H : Hb w h s m last A X G) (HS : Sk n w s S g o) (sep : ∀ k, ftH h m A G k → ¬ ftS s g k) :
    Calls Tryz.prog 19 #[ptr h] w fun e w' => e = .returned (.tuple #[]) ∧ ∃ G', Hb w' h s m last A (fun i => feedX S (X i)) G' ∧ Kp w w' h m A A G G' := by
  have c1 : w.cell? ⟨h, 1, none⟩ = some (.map (some m)) := cell_of_row _ _ _ _ _ _ H.blk
  have hown := H.map.own
  have HH := Hid.mkW H
  have HHS := Hid.mkW HS
  have HSEP := Hid.mkW sep
  have hhm : h < w.heap.size ∧ m < w.heap.size := ⟨H.lt (.inl rfl), H.lt (.inr (.inl rfl))⟩
  clear H HS sep
  go_enter Tryz.func19, Tryz.ntmps19
  go_wp2_with (first
    | (at_range; refine wpList_range_own _ rfl _ 75 rfl 3 100 keyed3 Tryz.underlying75 RL m A.length _ rfl hown ?_; intro w0 hrg0 hg0 hs0)
    | go_in)
  go_frame
  have hb0 : Below w.heap.size w w0 := ⟨hg0.os, hg0.tape, hg0.output, hg0.size, fun k hk => hg0.block k hk (by simp)⟩
  have HB0 := Hid.mkW hb0
  have HRG := Hid.mkW hrg0
  have HSZ := Hid.mkW hs0
  have HFT : Hid (∀ k, ftH h m A G k → k < w.heap.size) := fun k hk => HH.out.lt hk
  clear hb0 hrg0 hs0 hg0
  go_loopw [3, 4, 5] (fun s3 s4 s5 wr => ∃ (left : Lit → Bool) (cnt : Nat), Hid (wr.ranges Tryz.prog 3 RL m w.heap.size A.length (.map (A.map (ent (fun i => ifv (X i) (G i).1)))) left cnt) ∧ Hid (FeI S w wr h s m last A X G left)) (fun _ _ _ wr => wr.rangeLeft m w.heap.size)
  case atStart =>
    refine ⟨_, _, HRG, G, (HH.out.below HB0.out).congr (fun i hi => ?_), Upd.ofBelow HB0.out, fun k hk => .inl hk, fun i hi => rfl, by have := HSZ.out; omega⟩
    unfold mixX
    rw [has_ents, decide_eq_true hi, if_pos rfl]
  case round =>
    obtain ⟨left, cnt, HR, HI⟩ := hrel
    go_wp2_with (first
      | (at_next; refine wpList_next_ranges _ rfl _ rfl 3 keyed3 RL (Value.int .i64) (fun c : Value => c) (fun key kl hk => by obtain ⟨x, rfl, _⟩ := Maps.keyOf_int_inv Tryz.underlying3 hk; exact ⟨x, rfl⟩) (fun v y hv => ⟨v, rfl⟩) m w.heap.size A.length _ _ _ rfl HR.out ?_ ?_)
      | go_in)
    · intro hc0 hl0
      go_wp2
      first | go_end0 | refine bodyPost_ret (results_none rfl _ _ _) rfl ?_
      obtain ⟨G', q1, q2, q3, -⟩ := HI.out
      have e : mixX S X left = fun i => feedX S (X i) := by funext i; unfold mixX; rw [hl0]; simp
      rw [e] at q1
      exact ⟨rfl, G', q1, ⟨q2, fun k hk => (q3 k hk).elim .inl (fun e => .inr (by omega))⟩⟩
    · intro x c kl yd yp w2 cnt2 hkey hlk hv hat hrg2 hlt hg2 hs2 hen
      obtain ⟨x', ex, rfl, _⟩ := Maps.keyOf_int_inv Tryz.underlying3 hkey
      obtain rfl : x = x' := by cases ex; rfl
      have hy : (yd, yp) = (.held c, []) := by have : RL c = some (yd, yp) := hv; unfold RL at this; exact (Option.some.inj this).symm
      obtain ⟨rfl, rfl⟩ : yd = .held c ∧ yp = [] := by cases hy; exact ⟨rfl, rfl⟩
      have hxA : x ∈ A := by
        by_cases hx : x ∈ A
        · exact hx
        · have h1 := hat .nil
          rw [at_ents, if_neg hx] at h1
          cases h1
      obtain rfl : ifv (X x) (G x).1 = c := by
        have h1 := hat .nil
        rw [at_ents, if_pos hxA] at h1
        cases h1; rfl
      obtain ⟨G', q1, q2, q3, q4, q5⟩ := HI.out
      have hmx : mixX S X left x = X x := by unfold mixX; rw [if_pos hlk]
      have hu2 : Upd wr w2 (fun k => k = w.heap.size) := (Upd.ofGrown hg2).mono (fun k _ e => Option.some.inj e)
      have hnr : ∀ k, ftH h m A G' k → ¬ k = w.heap.size := fun k hk e => by
        rcases q3 k hk with h1 | h1
        · have := HFT.out k h1; omega
        · omega
      have q1' := q1.upd hu2 hnr
      have q2' : Upd w w2 (ftH h m A G) := q2.trans hu2 (fun k hk e => by omega)
      have hS2 : Sk n w2 s S g o := HHS.out.upd q2' (fun k hk e => HSEP.out k e hk)
      have hsep2 : ∀ k, ftH h m A G' k → ¬ ftS s g k := fun k hk e => by
        rcases q3 k hk with h1 | h1
        · exact HSEP.out k h1 e
        · have := HHS.out.st.lt e; omega
      have hs2' : w.heap.size < w2.heap.size := by omega
      have c0 : w2.cell? ⟨h, 0, none⟩ = some (ptr s) := cell_of_row _ _ _ _ _ _ q1'.blk
      have hW := q1'.mem x hxA
      have hok := q1'.ok x hxA
      rw [hmx] at hW hok
      have hG1 := q4 x hxA
      have HLT := Hid.mkW hlt
      have HRG2 := Hid.mkW hrg2
      have HSTEP := Hid.mkW (mix_step (S := S) (X := X) (left := left) (x := x))
      have HQ : Hid (∀ w3 v', Upd w2 w3 (ftE (G' x)) → WM w3 ((G' x).1, v') (feedX S (X x)) → (∀ k, v'.ownBlock = some k → ftE (G' x) k ∨ w2.heap.size ≤ k) → w3.ranges Tryz.prog 3 RL m w.heap.size A.length (.map (A.map (ent (fun i => ifv (X i) (G i).1)))) (fun z => left z && !z.sameKey (.int .i64 x)) cnt2 ∧ FeI S w w3 h s m last A X G (fun z => left z && !z.sameKey (.int .i64 x))) := fun w3 v' z1 z2 z3 => by
        obtain ⟨t1, t2⟩ := q1'.turn1 hxA (feedX S (X x)) v' z1 (by rw [feedX_fd, hmx]) z2 (feedX_ok hok HHS.out.rev) z3
        refine ⟨ranges_upd hrg2 z1 (fun e => (q1'.neh x hxA m e).2 rfl) (fun e => hnr _ (.inr (.inr ⟨x, hxA, e⟩)) rfl), setG G' x ((G' x).1, v'), by rw [mix_step]; exact t1, q2'.trans t2.upd (fun k hk e => ?_), fun k hk => ?_, fun i hi => ?_, ?_⟩
        · rcases q3 k e with h1 | h1
          · exact h1
          · omega
        · rcases t2.foot k hk with h1 | h1
          · exact q3 k h1
          · exact .inr (by omega)
        · by_cases e : i = x
          · subst e; rw [setG_same]; exact q4 i hi
          · rw [setG_other _ _ e]; exact q4 i hi
        · have := z1.size; omega
      clear hrg2 hlt hlk hat hv hkey ex hy q1 q1' q2 q2' q3 q4 q5 hu2 hnr hg2 hs2 hs2'
      cases hx : (X x).fd with
      | false =>
        have hif : ifv (X x) (G x).1 = .iface 108 (ptr (G x).1) := by unfold ifv; rw [hx]; rfl
        rw [hif] at hen ⊢
        have t1 := ta_nfe (ptr (G x).1)
        have hfe : feedX S (X x) = X x := by unfold feedX; rw [if_neg (fun e => by rw [hx] at e; cases e.1)]
        obtain ⟨z1, z2⟩ := HQ.out w2 (G' x).2 (Upd.refl _ _) (by rw [hfe]; exact hW) (fun k hk => .inl (.inr hk))
        have HZ1 := Hid.mkW z1
        have HZ2 := Hid.mkW z2
        clear hW HQ z1 z2 hS2 hsep2 hok hfe hif hx
        go_wp2
        go_roundw
        case rel => exact ⟨_, cnt2, HZ1, HZ2⟩
        case measure =>
          rw [HZ1.out.left_eq, HR.out.left_eq]
          exact HLT.out
      | true =>
        have hif : ifv (X x) (G x).1 = .iface 101 (ptr (G x).1) := by unfold ifv; rw [hx]; rfl
        rw [hif] at hen ⊢
        have t1 := ta_fed (ptr (G x).1)
        have hF : Fd w2 (G' x).1 (G' x).2 (X x).lo (X x).hi (X x).place (X x).buf (X x).fin := by unfold WM at hW; rw [hx] at hW; exact hW
        have hfeed := feed_any hS2 (G' x).1 (G' x).2 (X x) hx hF hok (fun k hk => hsep2 k (.inr (.inr ⟨x, hxA, hk⟩)))
        rw [hG1] at hfeed
        clear hW hF hS2 hsep2 hok hif hx
        go_wp2_with (first | (go_at_call 48; refine hfeed.mono ?_; rintro e w3 ⟨rfl, v3, HV⟩))
        obtain ⟨z1, z2, z3⟩ := HV.out
        obtain ⟨y1, y2⟩ := HQ.out w3 v3 (by rw [← hG1] at z2; exact z2) (by rw [hG1]; exact z1) (by rw [← hG1] at z3; exact z3)
        go_roundw
        case rel => exact ⟨_, cnt2, y1, y2⟩
        case measure =>
          rw [y1.left_eq, HR.out.left_eq]
          exact HLT.out
end
end Go.Proofs.YtjdmgmnndfhmgaaGreat
/- Where a revision stands among marks. -/
namespace Go.Proofs.YtjdmgmnndfhmgaaGreat
open Go Go.RowKit

abbrev MAscH (ms : List Mk) : Prop := ms.Pairwise fun a b => a.1 < b.1
def plm (ms : List Mk) (r : Int) : Nat := (ms.takeWhile fun m => decide (m.1 < r)).length
def hrm (ms : List Mk) (r : Int) : Bool := match ms[plm ms r]? with | some m => decide (m.1 = r) | none => false
theorem plm_le (ms : List Mk) (r : Int) : plm ms r ≤ ms.length := by
  unfold plm
  exact (List.takeWhile_sublist _).length_le
theorem plm_lt {r : Int} : ∀ {ms : List Mk} {j : Nat} {m : Mk}, j < plm ms r → ms[j]? = some m → m.1 < r
  | [], j, m, h, hj => by simp at hj
  | a :: ms, 0, m, h, hj => by
    simp only [List.getElem?_cons_zero, Option.some.injEq] at hj
    subst hj
    unfold plm at h
    rw [List.takeWhile_cons] at h
    split at h
    · rename_i hd; simpa using hd
    · simp at h
  | a :: ms, j + 1, m, h, hj => by
    unfold plm at h
    rw [List.takeWhile_cons] at h
    split at h
    · exact plm_lt (ms := ms) (j := j) (by unfold plm; simpa using h) (by simpa using hj)
    · simp at h
theorem plm_not {r : Int} : ∀ {ms : List Mk} {m : Mk}, ms[plm ms r]? = some m → r ≤ m.1
  | [], m, h => by simp at h
  | a :: ms, m, h => by
    by_cases hk : a.1 < r
    · have e : plm (a :: ms) r = plm ms r + 1 := by simp [plm, hk]
      rw [e, List.getElem?_cons_succ] at h
      exact plm_not h
    · have e : plm (a :: ms) r = 0 := by simp [plm, hk]
      rw [e] at h
      simp at h
      subst h
      omega
theorem masc_get {ms : List Mk} (h : MAscH ms) {i j : Nat} {a b : Mk} (hij : i < j) (ha : ms[i]? = some a) (hb : ms[j]? = some b) : a.1 < b.1 := by
  obtain ⟨hi, rfl⟩ := List.getElem?_eq_some_iff.1 ha
  obtain ⟨hj, rfl⟩ := List.getElem?_eq_some_iff.1 hb
  exact List.pairwise_iff_getElem.1 h i j hi hj hij
theorem plm_ge {ms : List Mk} {r : Int} (hs : MAscH ms) {j : Nat} {m : Mk} (h : plm ms r ≤ j) (hj : ms[j]? = some m) : r ≤ m.1 := by
  rcases Nat.eq_or_lt_of_le h with h | h
  · subst h; exact plm_not hj
  · have hl := (List.getElem?_eq_some_iff.1 hj).1
    have hp : plm ms r < ms.length := by omega
    have h1 := plm_not (r := r) (List.getElem?_eq_getElem hp)
    have h2 := masc_get hs h (List.getElem?_eq_getElem hp) hj
    omega
def cmpN (a b : Int) : Int := if a < b then -1 else if a > b then 1 else 0
set_option maxRecDepth 100000 in
set_option maxHeartbeats 400000 in
theorem nan_any (a : Int) (w : World) : Calls Tryz.prog 114 #[.int .i64 a] w fun e w' => e = .returned (.bool false) ∧ w' = w := by
  go_enter Tryz.func114, Tryz.ntmps114
  go_wp2
  go_ret
  exact ⟨ret_bool (by simp), rfl⟩
set_option maxRecDepth 100000 in
set_option maxHeartbeats 400000 in
theorem cmpN_any (a b : Int) (w : World) : Calls Tryz.prog 101 #[.int .i64 a, .int .i64 b] w fun e w' => e = .returned (.int .i64 (cmpN a b)) ∧ w' = w := by
  have HC : Hid (cmpN a b = if a < b then -1 else if a > b then 1 else 0) := rfl
  go_enter Tryz.func101, Tryz.ntmps101
  by_cases h1 : a < b
  · go_wp2_with (go_at_call 114; refine (nan_any _ _).mono ?_; rintro e w' ⟨rfl, rfl⟩)
    go_ret
    exact ⟨by rw [HC.out, if_pos (by omega)]; rfl, rfl⟩
  · by_cases h2 : a > b
    · go_wp2_with (go_at_call 114; refine (nan_any _ _).mono ?_; rintro e w' ⟨rfl, rfl⟩)
      go_ret
      exact ⟨by rw [HC.out, if_neg (by omega), if_pos (by omega)]; rfl, rfl⟩
    · go_wp2_with (go_at_call 114; refine (nan_any _ _).mono ?_; rintro e w' ⟨rfl, rfl⟩)
      go_ret
      exact ⟨by rw [HC.out, if_neg (by omega), if_neg (by omega)]; rfl, rfl⟩
set_option maxRecDepth 100000 in
set_option maxHeartbeats 400000 in
theorem cmpM (a b : Int) (d : Bool) (w : World) : Calls Tryz.prog 100 #[.agg #[.int .i64 a, .bool d], .int .i64 b] w fun e w' => e = .returned (.int .i64 (cmpN a b)) ∧ Below w.heap.size w w' := by
  go_enter Tryz.func100, Tryz.ntmps100
  go_wp2_with (go_at_call 101; refine (cmpN_any _ _ _).mono ?_; rintro e w' ⟨rfl, rfl⟩)
  go_ret
  exact ⟨rfl, (Below.refl _ _).alloc (Nat.le_refl _) _⟩
theorem cmpN_neg (a b : Int) : decide (cmpN a b < 0) = decide (a < b) := by
  unfold cmpN
  by_cases h : a < b
  · simp [h]
  · rw [if_neg h]; split <;> simp [h]
theorem cmpN_zero (a b : Int) (h : b ≤ a) : (cmpN a b == 0) = decide (a = b) := by
  unfold cmpN
  rw [if_neg (by omega)]
  by_cases e : a = b
  · subst e; simp
  · rw [if_pos (by omega)]; simp [e]
/-- Marks in a row of cells. -/
def MksAtH (w : World) (g : Nat) (ms : List Mk) : Prop := ∀ j m, ms[j]? = some m → w.cell? ⟨g, j * 2, none⟩ = some (.int .i64 m.1) ∧ w.cell? ⟨g, j * 2 + 1, none⟩ = some (.bool m.2)
theorem MksAtH.below {w w' : World} {g : Nat} {ms : List Mk} (h : MksAtH w g ms) (hb : Below w.heap.size w w') : MksAtH w' g ms := fun j it hj => by
  obtain ⟨h1, h2⟩ := h j it hj
  exact ⟨(hb.cell (p := ⟨g, j * 2, none⟩) (World.block_lt_of_cell? _ _ h1)).trans h1, (hb.cell (p := ⟨g, j * 2 + 1, none⟩) (World.block_lt_of_cell? _ _ h2)).trans h2⟩
set_option maxRecDepth 100000 in
set_option maxHeartbeats 1000000 in
theorem searchM (g c : Nat) (ms : List Mk) (r : Int) (w : World) (hc : MksAtH w g ms) (hs : MAscH ms) (hn : ms.length ≤ 1000000) :
    Calls Tryz.prog 99 #[.slice (some ⟨g, 0, none⟩) ms.length c, .int .i64 r, .func (.func 100) #[] #[]] w fun e w' =>
      e = .returned (.tuple #[.int .i64 (plm ms r), .bool (hrm ms r)]) ∧ Below w.heap.size w w' := by
  have HS : Hid (MAscH ms) := hs
  have HC : Hid (MksAtH w g ms) := hc
  have hp := plm_le ms r
  clear hs hc
  go_enter Tryz.func99, Tryz.ntmps99
  go_wp2
  go_loopw [9, 10] (fun a b W => ∃ i j : Nat, a = .int .i64 i ∧ b = .int .i64 j ∧ i ≤ plm ms r ∧ plm ms r ≤ j ∧ j ≤ ms.length ∧ Below w.heap.size w W) (fun a b _ => (intOf b).toNat - (intOf a).toNat)
  case atStart => exact ⟨0, ms.length, rfl, rfl, Nat.zero_le _, hp, Nat.le_refl _, Below.refl _ _⟩
  case round =>
    obtain ⟨i, j, rfl, rfl, h1, h2, h3, hb⟩ := hrel
    by_cases hij : i < j
    · obtain ⟨m, hit⟩ : ∃ m, ms[(i + j) / 2]? = some m := ⟨_, List.getElem?_eq_getElem (by omega)⟩
      have hcc := (HC.out.below hb) _ _ hit
      obtain ⟨c1, c2⟩ := hcc
      have hci := fun W => cmpM m.1 r m.2 W
      have hcn := cmpN_neg m.1 r
      have HI : Hid (ms[(i + j) / 2]? = some m) := hit
      clear hit
      cases hk : decide (m.1 < r)
      rotate_left
      · rw [hk] at hcn
        have hk' : m.1 < r := of_decide_eq_true hk
        have HK : Hid (m.1 < r) := hk'
        clear hk'
        clear hk
        go_wp2_with (go_at_call 100; refine (hci _).mono ?_; rintro e w' ⟨rfl, hb'⟩)
        go_roundw
        case rel =>
          refine ⟨(i + j) / 2 + 1, j, by go_num, rfl, ?_, h2, h3, hb.trans (hb'.mono hb.size)⟩
          refine Nat.le_of_not_lt fun hlt => ?_
          have := plm_ge (r := r) HS.out (by omega) HI.out
          have := HK.out
          omega
        case measure => simp [intOf]; omega
      · rw [hk] at hcn
        have hk' : ¬ m.1 < r := of_decide_eq_false hk
        have HK : Hid (¬ m.1 < r) := hk'
        clear hk'
        clear hk
        go_wp2_with (go_at_call 100; refine (hci _).mono ?_; rintro e w' ⟨rfl, hb'⟩)
        go_roundw
        case rel =>
          refine ⟨i, (i + j) / 2, rfl, rfl, h1, ?_, by omega, hb.trans (hb'.mono hb.size)⟩
          refine Nat.le_of_not_lt fun hlt => ?_
          have h1 := plm_lt hlt HI.out
          have h2 := HK.out
          omega
        case measure => simp [intOf]; omega
    · obtain rfl : i = plm ms r := by omega
      obtain rfl : j = plm ms r := by omega
      clear hij h1 h2 h3
      have HR : Hid (hrm ms r = match ms[plm ms r]? with | some m => decide (m.1 = r) | none => false) := rfl
      by_cases hlt : plm ms r < ms.length
      · obtain ⟨m, hit⟩ : ∃ m, ms[plm ms r]? = some m := ⟨_, List.getElem?_eq_getElem hlt⟩
        have hcc := (HC.out.below hb) _ _ hit
        obtain ⟨c1, c2⟩ := hcc
        have hci := fun W => cmpM m.1 r m.2 W
        have hcz := cmpN_zero m.1 r (plm_not hit)
        have HE : Hid (hrm ms r = decide (m.1 = r)) := by have := HR.out; rw [hit] at this; exact this
        clear HR hit
        go_wp2_with (go_at_call 100; refine (hci _).mono ?_; rintro e w' ⟨rfl, hb'⟩)
        go_ret2
        exact ⟨by rw [HE.out]; rfl, hb.trans (hb'.mono hb.size)⟩
      · have HE : Hid (hrm ms r = false) := by have := HR.out; rw [List.getElem?_eq_none (by omega)] at this; exact this
        clear HR
        go_wp2
        go_ret2
        exact ⟨by rw [HE.out]; rfl, hb⟩
end Go.Proofs.YtjdmgmnndfhmgaaGreat
/- Which marks are needed. -/
namespace Go.Proofs.YtjdmgmnndfhmgaaGreat
open Go Go.RowKit

set_option maxRecDepth 100000 in
set_option maxHeartbeats 1000000 in
/-- fresh of a piece that is empty. -/
theorem freshM0 (g off c : Nat) (w : World) :
    Calls Tryz.prog 96 #[.slice (some ⟨g, off, none⟩) 0 c] w fun e w' => e = .returned (.slice (some ⟨w.heap.size, 0, none⟩) 0 0) ∧ w'.heap[w.heap.size]? = some (.cells #[] 144 (0, 0)) ∧ Below w.heap.size w w' := by
  obtain ⟨i0, hi, hz0, hz1, hz2⟩ := info_parts info35
  obtain ⟨ROW, hRS, hmk⟩ : ∃ ROW : Array Value, ROW.size = 0 * 2 ∧ (Instr.makeSlice 141 (.int .i64 0) (.int .i64 0)).run Tryz.prog w = .ok (.slice (some ⟨w.heap.size, 0, none⟩) 0 0) (w.alloc (.cells ROW 144)) := by
    have := run_make (P := Tryz.prog) w 141 144 i0 _ Tryz.underlying141 hi hz0 .i64 .i64 (0 : Nat) (0 : Nat) (by omega) (by omega) (by rw [hz2]; omega) (by omega)
    simp only [Int.toNat_natCast] at this
    exact ⟨_, by rw [size_madeCells, hz1], this⟩
  have hgn : (w.alloc (.cells ROW 144)).heap[w.heap.size]? = some (.cells ROW 144 (0, 0)) := heap_alloc_new w _
  have hcp : ∀ ty, (Builtin.copy_ #[141, 141] ty #[.slice (some ⟨w.heap.size, 0, none⟩) 0 0, .slice (some ⟨g, off, none⟩) 0 c]).run Tryz.prog (w.alloc (.cells ROW 144)) = .ok (goInt (Nat.min 0 0 : Nat)) ((w.alloc (.cells ROW 144)).setRow w.heap.size ([] : List Value).toArray) := fun ty => by
    have := run_copyS (P := Tryz.prog) (w.alloc (.cells ROW 144)) 141 141 ty 144 144 i0 Tryz.underlying141 hi w.heap.size 0 0 0 ROW hgn ⟨g, off, none⟩ 0 c [] (by simp) (fun j v hj => by simp at hj) (by simp) (by simp)
    rw [List.take_zero, List.drop_eq_nil_of_le (by simpa using hRS), List.nil_append, List.append_nil] at this
    exact this
  go_enter Tryz.func96, Tryz.ntmps96
  go_wp2_with (at_builtin; refine wpList_copy_run _ rfl _ _ 141 141 rfl _ _ rfl rfl (hcp _) ?_)
  go_ret
  refine ⟨rfl, setRow_heap _ _ _ _ _ _ hgn, ?_⟩
  exact ((Below.refl _ w).alloc (Nat.le_refl _) _).trans (upd_setRow _ _ _ (fun k => k = w.heap.size) rfl |>.below (by simp) (fun k hk => by omega))
/-- The place from which on marks are needed at r. -/
def cutA (ms : List Mk) (a : Nat) : Nat := match ms[a]? with | some m => if m.2 then a + 1 else a | none => a
def cutM (ms : List Mk) (r : Int) : Nat := if hrm ms r then cutA ms (plm ms r) else if plm ms r = 0 then 0 else cutA ms (plm ms r - 1)
/-- What needed tells of marks at v. -/
def NeedPost (w w' : World) (v v' : Value) (ms : List Mk) (k : Nat) : Prop :=
  (k = 0 ∧ v' = v ∨ 0 < k ∧ k < ms.length ∧ (∃ b, w.heap.size ≤ b ∧ v' = .slice (some ⟨b, 0, none⟩) (ms.length - k) (ms.length - k) ∧ w'.heap[b]? = some (.cells (mksC (ms.drop k)).toArray 144 (0, 0))) ∨ k = ms.length ∧ (∃ b, w.heap.size ≤ b ∧ v' = .slice (some ⟨b, 0, none⟩) 0 0 ∧ w'.heap[b]? = some (.cells #[] 144 (0, 0)))) ∧ Below w.heap.size w w'
theorem fresh_cut (g c k : Nat) (ms : List Mk) (w : World) (hM : Mks w (.slice (some ⟨g, 0, none⟩) ms.length c) ms) (hn : ms.length ≤ 1000000) (h0 : 0 < k) (hk : k ≤ ms.length) (v : Value) :
    Calls Tryz.prog 96 #[.slice (some ⟨g, k * 2, none⟩) (ms.length - k) (c - k)] w fun e w' => ∃ v', e = .returned v' ∧ NeedPost w w' v v' ms k := by
  rcases Nat.lt_or_ge k ms.length with h | h
  · refine (freshM g (k * 2) (ms.length - k) (c - k) (mksC (ms.drop k)) w (by omega) (by omega) (by rw [mksC_len]; simp) (fun j u hj => ?_) (mksC_mem _)).mono ?_
    · rw [← mksC_drop, List.getElem?_drop] at hj
      have := hM.cells (g := g) rfl _ _ hj
      simpa only [Addr.add_lit, Nat.zero_add] using this
    · rintro e w' ⟨rfl, h1, h2, h3⟩
      exact ⟨_, rfl, .inr (.inl ⟨h0, h, _, Nat.le_refl _, rfl, h1⟩), h3⟩
  · obtain rfl : k = ms.length := by omega
    rw [Nat.sub_self]
    refine (freshM0 g (ms.length * 2) (c - ms.length) w).mono ?_
    rintro e w' ⟨rfl, h2, h3⟩
    exact ⟨_, rfl, .inr (.inr ⟨rfl, _, Nat.le_refl _, rfl, h2⟩), h3⟩
theorem fresh_cut' (g c k : Nat) (ms : List Mk) (w : World) (hM : Mks w (.slice (some ⟨g, 0, none⟩) ms.length c) ms) (hn : ms.length ≤ 1000000) (h0 : 0 < k) (hk : k ≤ ms.length) (hc : ms.length ≤ c) (v : Value) :
    Calls Tryz.prog 96 #[.slice (if c = k then some ⟨g, 0, none⟩ else some ⟨g, k * 2, none⟩) (ms.length - k) (c - k)] w fun e w' => ∃ v', e = .returned v' ∧ NeedPost w w' v v' ms k := by
  split
  · obtain rfl : k = ms.length := by omega
    rw [Nat.sub_self]
    refine (freshM0 g 0 (c - ms.length) w).mono ?_
    rintro e w' ⟨rfl, h2, h3⟩
    exact ⟨_, rfl, .inr (.inr ⟨rfl, _, Nat.le_refl _, rfl, h2⟩), h3⟩
  · exact fresh_cut g c k ms w hM hn h0 hk v
theorem NeedPost.after {w w1 w' : World} {v v' : Value} {ms : List Mk} {k : Nat} (hb : Below w.heap.size w w1) (h : NeedPost w1 w' v v' ms k) : NeedPost w w' v v' ms k := by
  obtain ⟨h1, h2⟩ := h
  refine ⟨?_, hb.trans (h2.mono hb.size)⟩
  rcases h1 with h1 | ⟨a, b, x, c, d⟩ | ⟨a, x, c, d⟩
  · exact .inl h1
  · exact .inr (.inl ⟨a, b, x, Nat.le_trans hb.size c, d⟩)
  · exact .inr (.inr ⟨a, x, Nat.le_trans hb.size c, d⟩)
theorem hrm_lt {ms : List Mk} {r : Int} (h : hrm ms r = true) : plm ms r < ms.length := by
  refine Nat.lt_of_not_le fun hle => ?_
  rw [hrm, List.getElem?_eq_none hle] at h
  cases h

set_option maxRecDepth 100000 in
set_option maxHeartbeats 2000000 in
theorem needed_any (g c : Nat) (ms : List Mk) (r : Int) (w : World) (hM : Mks w (.slice (some ⟨g, 0, none⟩) ms.length c) ms) (hs : MAscH ms) (hn : ms.length ≤ 1000000) :
    Calls Tryz.prog 74 #[.slice (some ⟨g, 0, none⟩) ms.length c, .int .i64 r] w fun e w' => ∃ v', e = .returned v' ∧ NeedPost w w' (.slice (some ⟨g, 0, none⟩) ms.length c) v' ms (cutM ms r) := by
  have hsr := searchM g c ms r w (fun j m hj => hM.cell hj) hs hn
  have hp := plm_le ms r
  have hcap : ms.length ≤ c := by
    rcases hM.2 with ⟨h, _⟩ | ⟨g', cap, cur, h, _, _, h1, _⟩
    · cases h
    · cases h; exact h1
  have HF : Hid (∀ W, Below w.heap.size w W → ∀ k, 0 < k → k ≤ ms.length → Calls Tryz.prog 96 #[.slice (some ⟨g, k * 2, none⟩) (ms.length - k) (c - k)] W fun e w' => ∃ v', e = .returned v' ∧ NeedPost w w' (.slice (some ⟨g, 0, none⟩) ms.length c) v' ms k) := fun W hb k h0 hk =>
    (fresh_cut g c k ms W (ownsRow_upd hM (Upd.ofBelow (S := fun _ => False) hb) (fun _ _ h => h)) hn h0 hk (.slice (some ⟨g, 0, none⟩) ms.length c)).mono (fun e w' ⟨v', h1, h2⟩ => ⟨v', h1, h2.after hb⟩)
  have HG : Hid (∀ W, Below w.heap.size w W → ∀ k, 0 < k → k ≤ ms.length → Calls Tryz.prog 96 #[.slice (if c = k then some ⟨g, 0, none⟩ else some ⟨g, k * 2, none⟩) (ms.length - k) (c - k)] W fun e w' => ∃ v', e = .returned v' ∧ NeedPost w w' (.slice (some ⟨g, 0, none⟩) ms.length c) v' ms k) := fun W hb k h0 hk =>
    (fresh_cut' g c k ms W (ownsRow_upd hM (Upd.ofBelow (S := fun _ => False) hb) (fun _ _ h => h)) hn h0 hk hcap (.slice (some ⟨g, 0, none⟩) ms.length c)).mono (fun e w' ⟨v', h1, h2⟩ => ⟨v', h1, h2.after hb⟩)
  have HM : Hid (∀ W, Below w.heap.size w W → ∀ j m, ms[j]? = some m → W.cell? ⟨g, j * 2, none⟩ = some (.int .i64 m.1) ∧ W.cell? ⟨g, j * 2 + 1, none⟩ = some (.bool m.2)) := fun W hb j m hj => MksAtH.below (fun j m hj => hM.cell hj) hb j m hj
  have HC : Hid (cutM ms r = if hrm ms r then cutA ms (plm ms r) else if plm ms r = 0 then 0 else cutA ms (plm ms r - 1)) := rfl
  have HL : hrm ms r = true → plm ms r < ms.length := hrm_lt
  clear hM hs
  generalize cutM ms r = k at *
  cases hh : hrm ms r
  · rw [hh] at hsr
    rw [hh] at HC
    clear HL
    obtain hp0 | ⟨a, ha⟩ : plm ms r = 0 ∨ ∃ a, plm ms r = a + 1 := by cases plm ms r <;> simp
    · rw [hp0] at hsr
      have hk0 : k = 0 := by have := HC.out; simpa [hp0] using this
      subst hk0
      go_enter Tryz.func74, Tryz.ntmps74
      go_wp2_with (go_at_call 99; refine hsr.mono ?_; rintro e w' ⟨rfl, hb⟩)
      go_ret
      exact ⟨_, rfl, .inl ⟨rfl, rfl⟩, hb⟩
    · rw [ha] at hsr hp
      obtain ⟨m, hm⟩ : ∃ m, ms[a]? = some m := ⟨_, List.getElem?_eq_getElem (by omega)⟩
      have hka : k = if m.2 then a + 1 else a := by have := HC.out; simpa [ha, cutA, hm] using this
      have HX : Hid (∀ W, Below w.heap.size w W → W.cell? ⟨g, a * 2 + 1, none⟩ = some (.bool m.2)) := fun W hb => (HM.out W hb a m hm).2
      clear HM hm HC ha
      cases hd : m.2
      · rw [hd] at hka HX
        obtain rfl : k = a := by simpa using hka
        clear hka
        by_cases hk0 : k = 0
        · subst hk0
          go_enter Tryz.func74, Tryz.ntmps74
          go_wp2_with (go_at_call 99; refine hsr.mono ?_; rintro e w' ⟨rfl, hb⟩; have hx := HX.out _ hb)
          go_ret
          exact ⟨_, rfl, .inl ⟨rfl, rfl⟩, hb⟩
        · go_enter Tryz.func74, Tryz.ntmps74
          go_wp2_with (first | (go_at_call 99; refine hsr.mono ?_; rintro e w' ⟨rfl, hb⟩; have hx := HX.out _ hb) | (go_at_call 96; refine (HF.out _ hb k (by omega) (by omega)).mono ?_; rintro e w1 ⟨v', rfl, hN⟩))
          go_ret
          exact ⟨_, rfl, hN⟩
      · rw [hd] at hka HX
        obtain rfl : k = a + 1 := by simpa using hka
        clear hka
        go_enter Tryz.func74, Tryz.ntmps74
        go_wp2_with (first | (go_at_call 99; refine hsr.mono ?_; rintro e w' ⟨rfl, hb⟩; have hx := HX.out _ hb) | (go_at_call 96; refine (HG.out _ hb (a + 1) (by omega) (by omega)).mono ?_; rintro e w1 ⟨v', rfl, hN⟩))
        all_goals
          go_ret
          first | exact ⟨_, rfl, hN⟩ | exact ⟨_, rfl, by rw [h] at hN; exact hN⟩
  · rw [hh] at hsr
    rw [hh] at HC
    have hp := HL hh
    clear HL hh
    obtain ⟨a, ha⟩ : ∃ a, plm ms r = a := ⟨_, rfl⟩
    rw [ha] at hsr hp
    obtain ⟨m, hm⟩ : ∃ m, ms[a]? = some m := ⟨_, List.getElem?_eq_getElem (by omega)⟩
    have hka : k = if m.2 then a + 1 else a := by have := HC.out; simpa [ha, cutA, hm] using this
    have HX : Hid (∀ W, Below w.heap.size w W → W.cell? ⟨g, a * 2 + 1, none⟩ = some (.bool m.2)) := fun W hb => (HM.out W hb a m hm).2
    clear HM hm HC ha
    cases hd : m.2
    · rw [hd] at hka HX
      obtain rfl : k = a := by simpa using hka
      clear hka
      by_cases hk0 : k = 0
      · subst hk0
        go_enter Tryz.func74, Tryz.ntmps74
        go_wp2_with (go_at_call 99; refine hsr.mono ?_; rintro e w' ⟨rfl, hb⟩; have hx := HX.out _ hb)
        go_ret
        exact ⟨_, rfl, .inl ⟨rfl, rfl⟩, hb⟩
      · go_enter Tryz.func74, Tryz.ntmps74
        go_wp2_with (first | (go_at_call 99; refine hsr.mono ?_; rintro e w' ⟨rfl, hb⟩; have hx := HX.out _ hb) | (go_at_call 96; refine (HF.out _ hb k (by omega) (by omega)).mono ?_; rintro e w1 ⟨v', rfl, hN⟩))
        go_ret
        exact ⟨_, rfl, hN⟩
    · rw [hd] at hka HX
      obtain rfl : k = a + 1 := by simpa using hka
      clear hka
      go_enter Tryz.func74, Tryz.ntmps74
      go_wp2_with (first | (go_at_call 99; refine hsr.mono ?_; rintro e w' ⟨rfl, hb⟩; have hx := HX.out _ hb) | (go_at_call 96; refine (HG.out _ hb (a + 1) (by omega) (by omega)).mono ?_; rintro e w1 ⟨v', rfl, hN⟩))
      all_goals
        go_ret
        first | exact ⟨_, rfl, hN⟩ | exact ⟨_, rfl, by rw [h] at hN; exact hN⟩
/-- What is told are the marks that are needed, in the row that was there, or in a new one. -/
theorem NeedPost.mks {w w' : World} {v v' : Value} {ms : List Mk} {k : Nat} (hM : Mks w v ms) (h : NeedPost w w' v v' ms k) (hn : ms.length ≤ 1000000) : Mks w' v' (ms.drop k) ∧ (v' = v ∨ ∃ b, v'.ownBlock = some b ∧ w.heap.size ≤ b) := by
  obtain ⟨h1, hb⟩ := h
  rcases h1 with ⟨rfl, rfl⟩ | ⟨h0, hk, b, hlb, rfl, hr⟩ | ⟨rfl, b, hlb, rfl, hr⟩
  · exact ⟨by rw [List.drop_zero]; exact ownsRow_upd hM (Upd.ofBelow (S := fun _ => False) hb) (fun _ _ h => h), .inl rfl⟩
  · refine ⟨?_, .inr ⟨b, rfl, hlb⟩⟩
    have := owns_of_row (s := 2) (n := ms.length - k) (xs := mksC (ms.drop k)) hr (Nat.le_refl _) (by unfold maxLen; omega) (by simp [mksC_len]) (by rw [List.take_of_length_le (by simp [mksC_len])]) (by rw [mksC_len]; simp)
    show World.ownsRow _ _ _ _ _ (ms.drop k).length _
    rw [List.length_drop]
    exact this
  · refine ⟨?_, .inr ⟨b, rfl, hlb⟩⟩
    rw [List.drop_length]
    exact owns_of_row (n := 0) (xs := []) hr (Nat.le_refl _) (by unfold maxLen; omega) (by simp) (by simp) (by simp)
end Go.Proofs.YtjdmgmnndfhmgaaGreat
/- A slot of the tree as it was, in the tree as it is. -/
namespace Go.Proofs.YtjdmgmnndfhmgaaGreat
open Go Go.RowKit

theorem SlotA.now {w W : World} {h b n : Nat} {its its' L L' : List Itm} {F : List Nat} (ht : Tre w h b its L F) (ht' : Tre W h b its' L' F) (hnd : F.Nodup) (hK : KpT w F w W) (a : SlotA w h b n L F) : ∃ it', it'.key = a.it.key ∧ Slot W h b its'.length L' F a.g a.i it' := by
  obtain ⟨it', hs⟩ := Slot.of_loc ht' hnd (a.loc.keep ht (fun _ h => h) hK)
  refine ⟨it', ?_, hs⟩
  have h1 := hs.key
  have h2 := ((hK ⟨a.g, a.i * 2, none⟩ a.ok.mem).1 (fun _ => by show a.i * 2 % 2 = 0; omega)).trans a.ok.key
  rw [h2] at h1
  simpa using h1.symm
/-- Of lists with the same rising keys: the item of a key stands at one place. -/
theorem asc_place {X Z : List Itm} {it : Itm} {L : List Itm} {j : Nat} (ha : Asc (keysI L)) (hk : keysI (X ++ it :: Z) = keysI L) (hj : (keysI L)[j]? = some it.key) : X.length = j := by
  have h1 : (keysI L)[X.length]? = some it.key := by rw [← hk]; simp [keysI]
  rcases Nat.lt_trichotomy X.length j with h | h | h
  · have := asc_get ha h h1 hj
    rw [klt_irrefl] at this; cases this
  · exact h
  · have := asc_get ha h hj h1
    rw [klt_irrefl] at this; cases this
/-- One item's marks are set: the tree as it is then. -/
theorem SlotA.turn {w W : World} {h b n : Nat} {its its' L L' : List Itm} {F : List Nat} (ht : Tre w h b its L F) (ht' : Tre W h b its' L' F) (hnd : F.Nodup) (ha : Asc (keysI L)) (hKL : keysI L' = keysI L) (hK : KpT w F w W) (a : SlotA w h b n L F) {j : Nat} (hj : L[j]? = some a.it) :
    (∃ it', L'[j]? = some it' ∧ it'.key = a.it.key ∧ W.cell? ⟨a.g, a.i * 2 + 1, none⟩ = some it'.mv) ∧ W.frozen? ⟨a.g, a.i * 2 + 1, none⟩ = false ∧
    ∀ W' : World, (∀ k ∈ F, W'.heap[k]? = W.heap[k]?) → ∀ mv', isSl mv' → ∃ its2, its2.length = its'.length ∧ Tre (W'.setCell ⟨a.g, a.i * 2 + 1, none⟩ mv') h b its2 (L'.set j ⟨a.it.key, mv'⟩) F := by
  obtain ⟨it', hke, hs⟩ := a.now ht ht' hnd hK
  obtain ⟨X, Z, rfl, hput⟩ := hs.put
  have hX : X.length = j := asc_place ha hKL (by rw [hke]; simp [keysI, hj])
  subst hX
  refine ⟨⟨it', by simp, hke, hs.mv⟩, hs.free, fun W' hW mv' hm => ?_⟩
  obtain ⟨its2, hl, hT⟩ := hput W' hW mv' hm
  exact ⟨its2, hl, by rw [hke] at hT; simpa using hT⟩
end Go.Proofs.YtjdmgmnndfhmgaaGreat
/- Taking away at a leaf. -/
namespace Go.Proofs.YtjdmgmnndfhmgaaGreat
open Go Go.RowKit

theorem size_setCell' (w : World) (p : Addr) (v : Value) : (w.setCell p v).heap.size = w.heap.size := by simp [World.setCell]
set_option maxRecDepth 100000 in
set_option maxHeartbeats 1000000 in
theorem drop_leaf {w : World} {b : Nat} {iv kv : Value} {its : List Itm} (hN : Nod w b iv kv its []) (hs : Asc (keysI its)) (hn : its.length ≤ 100) (key : ByteArray) (hp : plc its key < its.length) :
    Calls Tryz.prog 102 #[ptr b, .string key] w fun e w' => e = .returned (.tuple #[]) ∧ ∃ iv', Nod w' b iv' kv (its.take (plc its key) ++ its.drop (plc its key + 1)) [] ∧ Step w w' (nf b iv kv) (nf b iv' kv) := by
  have hpl := place_node hN hs (by omega) key
  have HC : Hid (∀ W, Below w.heap.size w W → W.cell? ⟨b, 0, none⟩ = some iv) := fun W hb => (hN.below hb).c0
  have HL : Hid (∀ W, Below w.heap.size w W → Calls Tryz.prog 115 #[ptr b] W fun e w' => e = .returned (.bool true) ∧ w' = W) := fun W hb => leaf_node (hN.below hb)
  have HD : Hid (∀ W, Below w.heap.size w W → Calls Tryz.prog 116 #[iv, .int .i64 (plc its key), .int .i64 ((plc its key : Int) + 1)] W fun e w' => ∃ p n c, e = .returned (.slice p n c) ∧ w'.cell? ⟨b, 0, none⟩ = some iv ∧ w'.frozen? ⟨b, 0, none⟩ = false ∧ ∃ iv', Nod (w'.setCell ⟨b, 0, none⟩ (.slice p n c)) b iv' kv (its.take (plc its key) ++ its.drop (plc its key + 1)) [] ∧ Step w (w'.setCell ⟨b, 0, none⟩ (.slice p n c)) (nf b iv kv) (nf b iv' kv)) := fun W hb => by
    have := delI_node (hN.below hb) (plc its key) (plc its key + 1) (by omega) (by omega) (by omega)
    refine this.mono ?_
    rintro e w' ⟨iv', rfl, ⟨p, c, rfl⟩, h1, h2, h3, h4⟩
    exact ⟨p, _, c, rfl, h1, h2, _, h3, Step.from hb h4 hN.nd hN.foot_lt⟩
  obtain ⟨p0, c0, hiv, _⟩ := owns_form hN.items
  clear hN hs
  generalize plc its key = p at *
  subst hiv
  go_enter Tryz.func102, Tryz.ntmps102
  go_wp2_with (first | (go_at_call 113; refine hpl.mono ?_; rintro e w1 ⟨rfl, hb⟩; have hc := HC.out _ hb) | (go_at_call 115; refine (HL.out _ hb).mono ?_; rintro e w2 ⟨rfl, rfl⟩) | (go_at_call 116; refine (HD.out _ hb).mono ?_; rintro e w3 ⟨q, n, c, rfl, d0, d1, hX⟩))
  refine bodyPost_ret (results_none rfl _ _ _) rfl ?_
  exact ⟨rfl, hX⟩

set_option maxRecDepth 100000 in
set_option maxHeartbeats 1000000 in
theorem takeLast_leaf {w : World} {b : Nat} {iv kv : Value} {ini : List Itm} {it : Itm} (hN : Nod w b iv kv (ini ++ [it]) []) (hn : ini.length ≤ 100) :
    Calls Tryz.prog 117 #[ptr b] w fun e w' => e = .returned (.agg #[.string it.key, it.mv]) ∧ ∃ iv', Nod w' b iv' kv ini [] ∧ Step w w' (nf b iv kv) (nf b iv' kv) := by
  have hlen : (ini ++ [it]).length = ini.length + 1 := by simp
  have HL : Hid (∀ W, Below w.heap.size w W → Calls Tryz.prog 115 #[ptr b] W fun e w' => e = .returned (.bool true) ∧ w' = W) := fun W hb => leaf_node (hN.below hb)
  have HD : Hid (∀ W, Below w.heap.size w W → ∀ x y : Nat, w.heap.size ≤ x → w.heap.size ≤ y → ∀ o o', W.heap[x]? = some o → W.heap[y]? = some o' → Calls Tryz.prog 116 #[iv, .int .i64 (ini.length), .int .i64 ((ini.length : Int) + 1)] W fun e w' => ∃ p n c, e = .returned (.slice p n c) ∧ w'.cell? ⟨b, 0, none⟩ = some iv ∧ w'.frozen? ⟨b, 0, none⟩ = false ∧ w'.heap[x]? = some o ∧ w'.heap[y]? = some o' ∧ ∃ iv', x ∉ nf b iv' kv ∧ Nod (w'.setCell ⟨b, 0, none⟩ (.slice p n c)) b iv' kv ini [] ∧ Step w (w'.setCell ⟨b, 0, none⟩ (.slice p n c)) (nf b iv kv) (nf b iv' kv)) := fun W hb x y hx hy o o' ho ho' => by
    have := delI_node (hN.below hb) ini.length (ini.length + 1) (by omega) (by rw [hlen]; omega) (by rw [hlen]; omega)
    refine this.mono ?_
    rintro e w' ⟨iv', rfl, ⟨p, c, rfl⟩, h1, h2, h3, h4⟩
    rw [List.take_left, List.drop_eq_nil_of_le (by rw [hlen]; omega), List.append_nil] at h3
    have hout : ∀ z, w.heap.size ≤ z → ∀ u, W.heap[z]? = some u → w'.heap[z]? = some u := fun z hz u hu => by
      have hzn : z ∉ nf b iv kv := fun h => by have := hN.foot_lt z h; omega
      have h5 := h4.upd.block z (Array.getElem?_eq_some_iff.1 hu).1 hzn
      rw [heap_setCell_other _ _ _ _ _ (fun e => by have := hN.lt; omega)] at h5
      exact h5.trans hu
    exact ⟨p, _, c, rfl, h1, h2, hout x hx _ ho, hout y hy _ ho', _, fun hm => by
      rcases h4.sub x hm with h | h
      · have := hN.foot_lt x h; omega
      · have := (Array.getElem?_eq_some_iff.1 ho).1; omega, h3, Step.from hb h4 hN.nd hN.foot_lt⟩
  have HC : Hid (∀ W, Below w.heap.size w W → W.cell? ⟨b, 0, none⟩ = some iv) := fun W hb => (hN.below hb).c0
  have hbl := hN.lt
  obtain ⟨g, c0, hiv, _, _⟩ := owns_form1 hN.items (by rw [hlen]; omega)
  have HI : Hid (∀ W, Below w.heap.size w W → W.cell? ⟨g, ini.length * 2, none⟩ = some (.string it.key) ∧ W.cell? ⟨g, ini.length * 2 + 1, none⟩ = some it.mv) := fun W hb => by
    exact (hN.below hb).item hiv (by simp)
  obtain ⟨mp, mn, mc, hmv⟩ : isSl it.mv := hN.mvs it (by simp)
  obtain ⟨key, mv⟩ := it
  dsimp only at *
  subst hmv
  rw [hlen] at hiv
  clear hN hlen
  subst hiv
  go_enter Tryz.func117, Tryz.ntmps117
  go_upto_region 1 with (fail)
  have hb0 : Below w.heap.size w (w.alloc (.cells #[.string ⟨#[]⟩, .slice none 0 0] 151)) := (Below.refl _ w).alloc (Nat.le_refl _) _
  have hc := HC.out _ hb0
  obtain ⟨i0, i1⟩ := HI.out _ hb0
  go_wp2_with (go_at_call 115; refine (HL.out _ (by first | assumption | exact hb0)).mono ?_; rintro e w2 ⟨rfl, rfl⟩)
  have rx := row_alloc w #[.string ⟨#[]⟩, .slice none 0 0] 151
  have ry := row_alloc (w.alloc (.cells #[.string ⟨#[]⟩, .slice none 0 0] 151)) #[.string key, .slice mp mn mc] 151
  rw [World.size_alloc] at ry
  have rx' := (Below.heap_alloc (w.alloc (.cells #[.string ⟨#[]⟩, .slice none 0 0] 151)) (.cells #[.string key, .slice mp mn mc] 151) w.heap.size (by simp)).trans rx
  refine (HD.out _ (hb0.alloc (by simp) _) w.heap.size (w.heap.size + 1) (Nat.le_refl _) (by omega) _ _ rx' ry).mono ?_
  rintro e w3 ⟨q, n, c, rfl, d0, d1, d2, d3, hX⟩
  have x0 : w3.cell? ⟨w.heap.size, 0, none⟩ = some (.string ⟨#[]⟩) := by simp [World.cell?, d2]
  have x1 : w3.cell? ⟨w.heap.size, 1, none⟩ = some (.slice none 0 0) := by simp [World.cell?, d2]
  have f0 : w3.frozen? ⟨w.heap.size, 0, none⟩ = false := by simp [World.frozen?, d2]
  have f1 : w3.frozen? ⟨w.heap.size, 1, none⟩ = false := by simp [World.frozen?, d2]
  have y0 : w3.cell? ⟨w.heap.size + 1, 0, none⟩ = some (.string key) := by simp [World.cell?, d3]
  have y1 : w3.cell? ⟨w.heap.size + 1, 1, none⟩ = some (.slice mp mn mc) := by simp [World.cell?, d3]
  clear HD HL HC HI rx ry rx' hb0 i0 i1 hc
  go_wp2
  refine bodyPost_ret (v := .agg #[.string key, .slice mp mn mc]) (by simp [results, Tryz.results117, go_sem, x0, x1]) rfl ⟨rfl, ?_⟩
  obtain ⟨iv', hx, h1, h2⟩ := hX
  refine ⟨iv', (h1.agree fun k hk => ?_), (h2.upd.setCell (p := ⟨w.heap.size, 0, none⟩) (.inl (Nat.le_refl _)) _).setCell (p := ⟨w.heap.size, 1, none⟩) (.inl (Nat.le_refl _)) _, h2.nd, h2.sub, fun k hk => by rw [size_setCell', size_setCell']; exact h2.lt k hk⟩
  have hne : k ≠ w.heap.size := fun e => hx (e ▸ hk)
  rw [heap_setCell_other _ _ _ _ _ hne, heap_setCell_other _ _ _ _ _ hne]
end Go.Proofs.YtjdmgmnndfhmgaaGreat
/- A node's item set; append onto a node's items and kids. -/
namespace Go.Proofs.YtjdmgmnndfhmgaaGreat
open Go Go.RowKit

theorem itsC_set2 : ∀ (its : List Itm) (i : Nat) (it : Itm), i < its.length → ((itsC its).set (i * 2) (.string it.key)).set (i * 2 + 1) it.mv = itsC (its.set i it)
  | [], i, it, h => by simp at h
  | a :: l, 0, it, h => by simp [itsC, itC]
  | a :: l, i + 1, it, h => by
    have ih := itsC_set2 l i it (by simpa using h)
    rw [show (i + 1) * 2 + 1 = (i * 2 + 1) + 1 + 1 by omega, show (i + 1) * 2 = i * 2 + 1 + 1 by omega]
    simp only [itsC, List.flatMap_cons, itC, List.cons_append, List.nil_append, List.set_cons_succ] at ih ⊢
    rw [ih]
/-- n.items[i] = it. -/
theorem Nod.setItem {w : World} {b g c i : Nat} {iv kv : Value} {its : List Itm} {ks : List Nat} (h : Nod w b iv kv its ks) (hiv : iv = .slice (some ⟨g, 0, none⟩) its.length c) (hi : i < its.length) (it : Itm) (hm : isSl it.mv) :
    Nod ((w.setCell ⟨g, i * 2, none⟩ (.string it.key)).setCell ⟨g, i * 2 + 1, none⟩ it.mv) b iv kv (its.set i it) ks ∧ Step w ((w.setCell ⟨g, i * 2, none⟩ (.string it.key)).setCell ⟨g, i * 2 + 1, none⟩ it.mv) (nf b iv kv) (nf b iv kv) := by
  have hnd := h.nd
  have hib : iv.ownBlock = some g := by rw [hiv]; rfl
  have hgm : g ∈ nf b iv kv := by simp [nf, hib]
  simp only [nf, hib, List.nodup_cons, List.mem_append, Option.mem_toList, not_or] at hnd
  obtain ⟨⟨n1, n2⟩, n3⟩ := hnd
  have hbg : b ≠ g := fun e => n1 (by rw [e])
  have hkg : ∀ k, kv.ownBlock = some k → k ≠ g := fun k hk e => by rw [hk, e] at n3; simp at n3
  have hoth : ∀ k, k ≠ g → ((w.setCell ⟨g, i * 2, none⟩ (.string it.key)).setCell ⟨g, i * 2 + 1, none⟩ it.mv).heap[k]? = w.heap[k]? := fun k hk => (heap_setCell_other _ g _ k _ hk).trans (heap_setCell_other w g _ k _ hk)
  refine ⟨⟨(hoth b hbg).trans h.blk, ?_, ownsRow_agree h.kids (fun k hk => hoth k (hkg k hk)), fun x hx => ?_, h.nd⟩, ⟨?_, h.nd, fun k hk => .inl hk, fun k hk => ?_⟩⟩
  · rw [List.length_set]
    rcases h.items.2 with ⟨h1, _⟩ | ⟨g', cap, cur, h1, _, hg, hnc, hcm, hcs, ht⟩
    · rw [hiv] at h1; cases h1
    · rw [hiv] at h1
      cases h1
      rw [hiv]
      refine owns_of_row (heap_setCell_row (heap_setCell_row hg (.string it.key)) it.mv) hnc hcm (by simp [hcs]) ?_ (by rw [itsC_len]; simp)
      rw [Array.set!_eq_setIfInBounds, Array.toList_setIfInBounds, List.take_set, Array.set!_eq_setIfInBounds, Array.toList_setIfInBounds, List.take_set, ht, itsC_set2 its i it hi]
  · rcases List.mem_or_eq_of_mem_set hx with hx | rfl
    · exact h.mvs x hx
    · exact hm
  · exact ((Upd.refl w _).setCell (p := ⟨g, i * 2, none⟩) (.inr hgm) _).setCell (p := ⟨g, i * 2 + 1, none⟩) (.inr hgm) _
  · rw [size_setCell', size_setCell']; exact h.foot_lt k hk
/-- What an append onto a node's items leaves. -/
theorem Nod.appI {w w' : World} {b : Nat} {iv kv v' : Value} {its news : List Itm} {ks : List Nat} {m : Nat} (h : Nod w b iv kv its ks) (ho : w'.ownsRow 0 151 2 v' (its.length + m) (itsC its ++ itsC news)) (hm : news.length = m) (hu : Upd w w' (fun k => some k = iv.ownBlock))
    (hb : v'.ownBlock = iv.ownBlock ∨ v'.ownBlock = some w.heap.size) (hmv : ∀ it ∈ news, isSl it.mv) :
    w'.cell? ⟨b, 0, none⟩ = some iv ∧ w'.frozen? ⟨b, 0, none⟩ = false ∧ Nod (w'.setCell ⟨b, 0, none⟩ v') b v' kv (its ++ news) ks ∧ Step w (w'.setCell ⟨b, 0, none⟩ v') (nf b iv kv) (nf b v' kv) := by
  subst hm
  rw [← List.length_append, ← itsC_append] at ho
  have hs := h.setItems ho hu (hb.imp id (fun h => ⟨_, h, Nat.le_refl _⟩)) (fun x hx => (List.mem_append.1 hx).elim (h.mvs x) (hmv x))
  obtain ⟨d0, d1⟩ := cell_upd hu h.blk (fun e => (nf_iv h.nd).1 e.symm) (j := 0) (v := iv) rfl
  exact ⟨d0, d1, hs.1, hs.2⟩
theorem Nod.appK {w w' : World} {b : Nat} {iv kv v' : Value} {its : List Itm} {ks news : List Nat} {m : Nat} (h : Nod w b iv kv its ks) (ho : w'.ownsRow 0 123 1 v' (ks.length + m) (ks.map ptr ++ news.map ptr)) (hm : news.length = m) (hu : Upd w w' (fun k => some k = kv.ownBlock))
    (hb : v'.ownBlock = kv.ownBlock ∨ v'.ownBlock = some w.heap.size) :
    w'.cell? ⟨b, 1, none⟩ = some kv ∧ w'.frozen? ⟨b, 1, none⟩ = false ∧ Nod (w'.setCell ⟨b, 1, none⟩ v') b iv v' its (ks ++ news) ∧ Step w (w'.setCell ⟨b, 1, none⟩ v') (nf b iv kv) (nf b iv v') := by
  subst hm
  rw [← List.length_append, ← List.map_append] at ho
  have hs := h.setKids ho hu (hb.imp id (fun h => ⟨_, h, Nat.le_refl _⟩))
  obtain ⟨d0, d1⟩ := cell_upd hu h.blk (fun e => (nf_iv h.nd).2 e.symm) (j := 1) (v := kv) rfl
  exact ⟨d0, d1, hs.1, hs.2⟩
end Go.Proofs.YtjdmgmnndfhmgaaGreat
