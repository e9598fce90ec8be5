/- IndexMarks. -/
import Derived.Test.YtilginghgigiiaaQQ
namespace Go.Proofs.Ytilginghgigiiaa
open Go Go.RowKit

/-- What the index holds, and what the statement keeps of it. -/
def MI (D : Dat) (last : Int) (there : Bool) (n : Nat) : Prop :=
  (D = [] ∧ last = 0 ∧ there = false ∧ n = 0) ∨ ∃ ms, D = [(⟨#[107]⟩, ms)] ∧ 0 < ms.length ∧ last = (lastM ms).1 ∧ there = !(lastM ms).2 ∧ n = ms.length
def wantE (r last : Int) (there del : Bool) : Int := if r < 1 then 1 else if r ≤ last then 15 else if del && !there then 2 else 0
theorem look_k (ms : List Mk) : lookD [(⟨#[107]⟩, ms)] ⟨#[107]⟩ = some ms := by simp [lookD]
theorem set_k (ms ms' : List Mk) : setD [(⟨#[107]⟩, ms)] ⟨#[107]⟩ ms' = [(⟨#[107]⟩, ms')] := by simp [setD, klt_irrefl]
theorem MI.putE {D : Dat} {last : Int} {there : Bool} {n : Nat} (h : MI D last there n) (r : Int) (del : Bool) (hl : 0 ≤ last) : Go.Proofs.Ytilginghgigiiaa.putE D ⟨#[107]⟩ r del = wantE r last there del := by
  have h1 : (⟨#[107]⟩ : ByteArray).size = 1 := rfl
  unfold Go.Proofs.Ytilginghgigiiaa.putE wantE
  rw [h1]
  by_cases hr : r < 1
  · rw [if_pos (by omega), if_pos hr]
  · rw [if_neg (by omega), if_neg hr]
    rcases h with ⟨rfl, rfl, rfl, rfl⟩ | ⟨ms, rfl, hp, rfl, rfl, rfl⟩
    · have hz : ¬ r ≤ 0 := by omega
      cases del <;> simp [lookD, hz]
    · rw [look_k]
      cases del <;> simp
theorem MI.put {D : Dat} {last : Int} {there : Bool} {n : Nat} (h : MI D last there n) (r : Int) (del : Bool) (he : Go.Proofs.Ytilginghgigiiaa.putE D ⟨#[107]⟩ r del = 0) : MI (putD D ⟨#[107]⟩ r del) r (!del) (n + 1) := by
  unfold putD
  rw [if_pos he]
  rcases h with ⟨rfl, rfl, rfl, rfl⟩ | ⟨ms, rfl, hp, rfl, rfl, rfl⟩
  · exact .inr ⟨[(r, del)], rfl, by simp, rfl, rfl, rfl⟩
  · refine .inr ⟨ms ++ [(r, del)], ?_, by simp, ?_, ?_, by simp⟩
    · rw [look_k, set_k]; rfl
    · simp [lastM]
    · simp [lastM]
theorem putD_same {D : Dat} {key : ByteArray} {r : Int} {del : Bool} (he : Go.Proofs.Ytilginghgigiiaa.putE D key r del ≠ 0) : putD D key r del = D := by
  unfold putD
  rw [if_neg he]
/-- The statement's state. -/
structure MS (w0 w : World) (x : Nat) (last : Int) (there : Bool) (n i : Nat) (D : Dat) (F : List Nat) : Prop where
  x : Xd w x D F
  m : MI D last there n
  b : Bd n D
  l0 : 0 ≤ last
  l1 : last < 100
  ni : n ≤ i
  below : Below w0.heap.size w0 w
  own : ∀ k ∈ F, w0.heap.size ≤ k
theorem MS.put {w0 w : World} {x : Nat} {last : Int} {there : Bool} {n i : Nat} {D : Dat} {F : List Nat} (h : MS w0 w x last there n i D F) (hi : i < 60) (r : Int) (hr0 : 0 ≤ r) (hr1 : r < 100) (del : Bool) :
    Calls Try.prog 10 #[ptr x, .string ⟨#[107]⟩, .agg #[.int .i64 r, .bool del]] w fun e w' => e = .returned (.int .i64 (wantE r last there del)) ∧
      ∃ D' F', (wantE r last there del ≠ 0 → Hid (MS w0 w' x last there n (i + 1) D' F')) ∧ (wantE r last there del = 0 → Hid (MS w0 w' x r (!del) (n + 1) (i + 1) D' F')) := by
  have hni := h.ni
  refine (put_xd h.x h.b (by omega) ⟨#[107]⟩ r del (by decide) (by omega)).mono ?_
  rintro e w' ⟨rfl, F', hx, hs⟩
  have hE := h.m.putE r del h.l0
  rw [hE]
  have hbl : Below w0.heap.size w0 w' := h.below.trans (hs.upd.below h.below.size (fun k hk hm => by have := h.own k hm; omega))
  have hown : ∀ k ∈ F', w0.heap.size ≤ k := fun k hk => (hs.sub k hk).elim (h.own k) (fun hh => Nat.le_trans h.below.size hh)
  refine ⟨rfl, putD D ⟨#[107]⟩ r del, F', fun hne => ?_, fun he => ?_⟩
  · rw [← hE] at hne
    rw [putD_same hne] at hx ⊢
    exact ⟨hx, h.m, h.b, h.l0, h.l1, by omega, hbl, hown⟩
  · rw [← hE] at he
    exact ⟨hx, h.m.put r del he, h.b.put _ _ _, hr0, hr1, by omega, hbl, hown⟩
theorem MS.len {w0 w : World} {x : Nat} {last : Int} {there : Bool} {n i : Nat} {D : Dat} {F : List Nat} (h : MS w0 w x last there n i D F) : (D.length : Int) = min (n : Int) 1 := by
  rcases h.m with ⟨rfl, rfl, rfl, rfl⟩ | ⟨ms, rfl, hp, rfl, rfl, rfl⟩
  · rfl
  · simp; omega
theorem MS.look {w0 w : World} {x : Nat} {last : Int} {there : Bool} {n i : Nat} {D : Dat} {F : List Nat} (h : MS w0 w x last there n i D F) : ((lookD D ⟨#[107]⟩).getD []).length = n ∧ (lookD D ⟨#[106]⟩).getD [] = [] := by
  rcases h.m with ⟨rfl, rfl, rfl, rfl⟩ | ⟨ms, rfl, hp, rfl, rfl, rfl⟩
  · exact ⟨rfl, rfl⟩
  · rw [look_k]
    refine ⟨rfl, ?_⟩
    have : lookD [(⟨#[107]⟩, ms)] ⟨#[106]⟩ = none := lookD_none (by simp)
    rw [this]; rfl
theorem MS.later {w0 w W : World} {x : Nat} {last : Int} {there : Bool} {n i : Nat} {D : Dat} {F : List Nat} (h : MS w0 w x last there n i D F) (hb : Below w.heap.size w W) : MS w0 W x last there n i D F :=
  ⟨h.x.below hb, h.m, h.b, h.l0, h.l1, h.ni, h.below.trans (hb.mono h.below.size), h.own⟩
theorem want_cases (r last : Int) (there del : Bool) : (r < 1 ∧ wantE r last there del = 1) ∨ (¬ r < 1 ∧ r ≤ last ∧ wantE r last there del = 15) ∨ (¬ r < 1 ∧ ¬ r ≤ last ∧ del = true ∧ there = false ∧ wantE r last there del = 2) ∨ (¬ r < 1 ∧ ¬ r ≤ last ∧ (del = false ∨ there = true) ∧ wantE r last there del = 0) := by
  unfold wantE
  by_cases h1 : r < 1
  · left; exact ⟨h1, by rw [if_pos h1]⟩
  · right
    by_cases h2 : r ≤ last
    · left; exact ⟨h1, h2, by rw [if_neg h1, if_pos h2]⟩
    · right
      rw [if_neg h1, if_neg h2]
      cases del <;> cases there <;> simp [h1, h2]
/-- What the last line asks. -/
theorem MS.marks {w0 w : World} {x : Nat} {last : Int} {there : Bool} {n i : Nat} {D : Dat} {F : List Nat} (h : MS w0 w x last there n i D F) (hi : i ≤ 60) (W : World) (hb : Below w.heap.size w W) :
    (Calls Try.prog 14 #[ptr x, .string ⟨#[107]⟩] W fun e w' => ∃ p c, e = .returned (.slice p n c) ∧ Below w.heap.size w w') ∧ (Calls Try.prog 14 #[ptr x, .string ⟨#[106]⟩] W fun e w' => ∃ p c, e = .returned (.slice p 0 c) ∧ Below w.heap.size w w') ∧ (Calls Try.prog 18 #[ptr x] W fun e w' => e = .returned (.int .i64 (min (n : Int) 1)) ∧ w' = W) := by
  have hni := h.ni
  obtain ⟨l1, l2⟩ := h.look
  refine ⟨(marks_xd (h.x.below hb) h.b (by omega) _).mono ?_, (marks_xd (h.x.below hb) h.b (by omega) _).mono ?_, ?_⟩
  · rintro e w' ⟨v, rfl, ⟨p, c, hv, _⟩, _, hb'⟩
    rw [l1] at hv
    exact ⟨p, c, by rw [hv], hb.trans (hb'.mono hb.size)⟩
  · rintro e w' ⟨v, rfl, ⟨p, c, hv, _⟩, _, hb'⟩
    rw [l2] at hv
    exact ⟨p, c, by rw [hv]; rfl, hb.trans (hb'.mono hb.size)⟩
  · rw [← h.len]
    exact len_xd (h.x.below hb)
theorem min_0 : min ((0 : Nat) : Int) 1 = 0 := by omega
theorem min_1 : min ((1 : Nat) : Int) 1 = 1 := by omega
theorem min_2 {n : Nat} (h : 1 < n) : min (n : Int) 1 = 1 := by omega

set_option maxRecDepth 100000 in
set_option maxHeartbeats 4000000 in
theorem indexMarks_walk (v0 v1 : Value) (revs : List Int) (dels : List Bool) (w : World) (hR : SeesI w v0 revs) (_hl0 : revs.length ≤ 140737488355328) (hD : SeesT w v1 dels) (_hl1 : dels.length ≤ 140737488355328) :
    Calls Try.prog 7 #[v0, v1] w fun e w' => e = .returned (.bool true) ∧ Below w.heap.size w w' := by
  obtain ⟨ra, rc, rfl⟩ := hR.form
  obtain ⟨da, dc, rfl⟩ := hD.form
  have HR := Hid.mk'' hR
  have HD := Hid.mk'' hD
  clear hR hD
  go_enter Try.func7, Try.ntmps7
  go_upto_region 3 with (go_at_call 8; refine (known_any w).mono ?_; rintro e w1 ⟨rfl, hb1⟩)
  go_upto_region 4 with (go_at_call 9; refine (new_xd w1).mono ?_; rintro e w2 ⟨rfl, hx2, hb2, hz2⟩)
  have hb12 : Below w.heap.size w w2 := hb1.trans (hb2.mono hb1.size)
  have HS0 : Hid (MS w w2 w1.heap.size 0 false 0 0 [] [w1.heap.size]) := ⟨hx2, .inl ⟨rfl, rfl, rfl, rfl⟩, Bd.nil, by omega, by omega, Nat.le_refl _, hb12, fun k hk => by
    have : k = w1.heap.size := by simpa using hk
    rw [this]; exact hb1.size⟩
  generalize hX : w1.heap.size = X at *
  clear hX hx2 hb2 hz2 hb12 hb1
  go_wp2
  go_loopg [6, 7, 8, 9] 61 (fun kx s6 s7 s8 s9 wr => ∃ (last : Int) (there : Bool) (n i : Nat) (D : Dat) (F : List Nat), s6 = .int .i64 last ∧ s7 = .bool there ∧ s8 = .int .i64 n ∧ s9 = .int .i64 i ∧ kx + i = 61 ∧ i ≤ 60 ∧ Hid (MS w wr X last there n i D F))
  case atStart => exact ⟨0, false, 0, 0, [], _, rfl, rfl, rfl, rfl, rfl, by omega, HS0⟩
  case round =>
    clear HS0
    obtain ⟨last, there, n, i, D, F, rfl, rfl, rfl, rfl, hk, hi, HM⟩ := hrel
    have hni := HM.out.ni
    have HFIN : ∀ W, Below wr.heap.size wr W → Hid ((Calls Try.prog 14 #[ptr X, .string ⟨#[107]⟩] W fun e w' => ∃ p c, e = .returned (.slice p n c) ∧ Below wr.heap.size wr w') ∧ (Calls Try.prog 14 #[ptr X, .string ⟨#[106]⟩] W fun e w' => ∃ p c, e = .returned (.slice p 0 c) ∧ Below wr.heap.size wr w') ∧ (Calls Try.prog 18 #[ptr X] W fun e w' => e = .returned (.int .i64 (min (n : Int) 1)) ∧ w' = W)) := fun W hb => HM.out.marks (by omega) W hb
    by_cases hc : i < revs.length ∧ i < dels.length ∧ i < 60
    · obtain ⟨c1, c2, c3⟩ := hc
      clear HFIN
      obtain ⟨rb, ro, rfl, hrl, hrc⟩ := HR.out.at c1
      obtain ⟨db, d0, rfl, hdl, hdc⟩ := HD.out.at c2
      have hbw := HM.out.below
      have rcell := (hbw.cell (p := ⟨rb, ro + i, none⟩) hrl).trans hrc
      have dcell := (hbw.cell (p := ⟨db, d0 + i, none⟩) hdl).trans hdc
      generalize hrv : withinF (revs.getD i 0) 100 = r
      obtain ⟨hr0, hr1⟩ := withinF_bd (revs.getD i 0) 100 (by omega)
      have hwi := within_any (revs.getD i 0) 100 wr (by omega) (by omega)
      rw [hrv] at hr0 hr1 hwi
      generalize revs.getD i 0 = z at *
      generalize dels.getD i false = del at *
      have hdc0 := Hid.mk'' hdc
      clear hrv hrc hdc hbw
      have hput0 := HM.out.put c3 r hr0 hr1 del
      have hdw : ∀ w' last' there' n' i' D' F', MS w w' X last' there' n' i' D' F' → w'.cell? ⟨db, d0 + i, none⟩ = some (.bool del) := fun w' _ _ _ _ _ _ h => (h.below.cell (p := ⟨db, d0 + i, none⟩) hdl).trans hdc0.out
      rcases want_cases r last there del with ⟨h1, hE⟩ | ⟨h1, h2, hE⟩ | ⟨h1, h2, hd, ht, hE⟩ | ⟨h1, h2, hdt, hE⟩
      · rw [hE] at hput0
        have hput := hput0.mono (R' := fun e w' => e = .returned (.int .i64 1) ∧ ∃ D' F', Hid (MS w w' X last there n (i + 1) D' F')) (fun e w' ⟨q1, D', F', q2, _⟩ => ⟨q1, D', F', q2 (by omega)⟩)
        clear hput0 HM hE hdw hdc0
        go_wp2_with (first | (go_at_call 19; refine hwi.mono ?_; rintro e w3 ⟨rfl, rfl⟩) | (go_at_call 10; refine hput.mono ?_; rintro e w4 ⟨rfl, D', F', HM'⟩))
        go_roundg (60 - i)
        case measure => omega
        case rel => exact ⟨last, there, n, i + 1, D', F', rfl, rfl, rfl, by congr 1, by omega, by omega, HM'⟩
      · rw [hE] at hput0
        have hput := hput0.mono (R' := fun e w' => e = .returned (.int .i64 15) ∧ ∃ D' F', Hid (MS w w' X last there n (i + 1) D' F')) (fun e w' ⟨q1, D', F', q2, _⟩ => ⟨q1, D', F', q2 (by omega)⟩)
        clear hput0 HM hE hdw hdc0
        go_wp2_with (first | (go_at_call 19; refine hwi.mono ?_; rintro e w3 ⟨rfl, rfl⟩) | (go_at_call 10; refine hput.mono ?_; rintro e w4 ⟨rfl, D', F', HM'⟩))
        go_roundg (60 - i)
        case measure => omega
        case rel => exact ⟨last, there, n, i + 1, D', F', rfl, rfl, rfl, by congr 1, by omega, by omega, HM'⟩
      · subst hd ht
        rw [hE] at hput0
        have hput := hput0.mono (R' := fun e w' => e = .returned (.int .i64 2) ∧ ∃ D' F', Hid (MS w w' X last false n (i + 1) D' F') ∧ w'.cell? ⟨db, d0 + i, none⟩ = some (.bool true)) (fun e w' ⟨q1, D', F', q2, _⟩ => ⟨q1, D', F', q2 (by omega), hdw _ _ _ _ _ _ _ (q2 (by omega)).out⟩)
        clear hput0 HM hE hdw hdc0
        go_wp2_with (first | (go_at_call 19; refine hwi.mono ?_; rintro e w3 ⟨rfl, rfl⟩) | (go_at_call 10; refine hput.mono ?_; rintro e w4 ⟨rfl, D', F', HM', dc4⟩))
        go_roundg (60 - i)
        case measure => omega
        case rel => exact ⟨last, false, n, i + 1, D', F', rfl, rfl, rfl, by congr 1, by omega, by omega, HM'⟩
      · rw [hE] at hput0
        have hput := hput0.mono (R' := fun e w' => e = .returned (.int .i64 0) ∧ ∃ D' F', Hid (MS w w' X r (!del) (n + 1) (i + 1) D' F') ∧ w'.cell? ⟨db, d0 + i, none⟩ = some (.bool del)) (fun e w' ⟨q1, D', F', _, q2⟩ => ⟨q1, D', F', q2 rfl, hdw _ _ _ _ _ _ _ (q2 rfl).out⟩)
        clear hput0 HM hE hdw hdc0
        cases hdel : del
        · subst hdel
          clear hdt
          go_wp2_with (first | (go_at_call 19; refine hwi.mono ?_; rintro e w3 ⟨rfl, rfl⟩) | (go_at_call 10; refine hput.mono ?_; rintro e w4 ⟨rfl, D', F', HM', dc4⟩))
          go_region
          all_goals
            go_wp2
            go_roundg (60 - i)
            case measure => omega
            case rel => exact ⟨r, true, n + 1, i + 1, D', F', rfl, rfl, by congr 1, by congr 1, by omega, by omega, HM'.out.later (Below.refl _ _).drew⟩
        · subst hdel
          obtain rfl : there = true := by simpa using hdt
          clear hdt
          go_wp2_with (first | (go_at_call 19; refine hwi.mono ?_; rintro e w3 ⟨rfl, rfl⟩) | (go_at_call 10; refine hput.mono ?_; rintro e w4 ⟨rfl, D', F', HM', dc4⟩))
          go_region
          all_goals
            go_wp2
            go_roundg (60 - i)
            case measure => omega
            case rel => exact ⟨r, false, n + 1, i + 1, D', F', rfl, rfl, by congr 1, by congr 1, by omega, by omega, HM'.out.later (Below.refl _ _).drew⟩
    · obtain ⟨m1, _, _⟩ := (HFIN _ (Below.refl _ _)).out
      have hbw := HM.out.below
      clear HM
      have hcs : ¬ i < revs.length ∨ (i < revs.length ∧ ¬ i < dels.length) ∨ (i < revs.length ∧ i < dels.length ∧ ¬ i < 60) := by omega
      clear hc
      have hn : n = 0 ∨ n = 1 ∨ 1 < n := by omega
      rcases hn with rfl | rfl | hn
      all_goals
        rcases hcs with c1 | ⟨c1, c2⟩ | ⟨c1, c2, c3⟩
        all_goals
          go_wp2_with (first
            | (go_at_call 14; refine m1.mono ?_; rintro e wa ⟨pa, ca, rfl, ba⟩; obtain ⟨_, m2, m3⟩ := (HFIN _ ba).out; clear m1; first | rw [min_0] at m3 | rw [min_1] at m3 | rw [min_2 hn] at m3)
            | (go_at_call 18; refine m3.mono ?_; rintro e wb ⟨rfl, rfl⟩)
            | (go_at_call 14; refine m2.mono ?_; rintro e wc ⟨pc, cc, rfl, bc⟩))
          go_ret
          exact ⟨rfl, hbw.trans (bc.mono hbw.size)⟩
end Go.Proofs.Ytilginghgigiiaa
