/- A hub's Poll. -/
import Derived.Test.YtjdmgmnndfhmgaaGRO
namespace Go.Proofs.Ytjdmgmnndfhmgaa
open Go Go.RowKit

def setX (X : Int → Wd) (k : Int) (x : Wd) : Int → Wd := fun j => if j = k then x else X j
def setG (G : Int → Nat × Value) (k : Int) (q : Nat × Value) : Int → Nat × Value := fun j => if j = k then q else G j
theorem setX_same (X : Int → Wd) (k : Int) (x : Wd) : setX X k x k = x := if_pos rfl
theorem setX_other (X : Int → Wd) {k j : Int} (x : Wd) (h : ¬ j = k) : setX X k x j = X j := if_neg h
theorem setG_same (G : Int → Nat × Value) (k : Int) (q : Nat × Value) : setG G k q k = q := if_pos rfl
theorem setG_other (G : Int → Nat × Value) {k j : Int} (q : Nat × Value) (h : ¬ j = k) : setG G k q j = G j := if_neg h
section
variable {w w' : World} {h s m last : Nat} {A : List Int} {X : Int → Wd} {G : Int → Nat × Value}
/-- One watcher is turned. -/
theorem Hb.turn (H : Hb w h s m last A X G) {id : Int} (hid : id ∈ A) (x' : Wd) (q' : Nat × Value) (hu : Upd w w' (fun k => ftE (G id) k ∨ k = m)) (hM : MI w' m A (fun i => ifv (setX X id x' i) (setG G id q' i).1)) (hW : WM w' q' x') (hok : x'.Ok) (hq : ∀ k, ftE q' k → ftE (G id) k ∨ w.heap.size ≤ k) :
    Hb w' h s m last A (setX X id x') (setG G id q') ∧ Kp w w' h m A A G (setG G id q') := by
  have hh : ¬ (ftE (G id) h ∨ h = m) := fun e => e.elim (fun e => (H.neh id hid h e).1 rfl) H.ne
  have hfq : ∀ j ∈ A, ¬ j = id → ∀ k, ftE q' k → ¬ ftE (G j) k := fun j hj hji k hk e => by
    rcases hq k hk with h1 | h1
    · exact H.dis id hid j hj (fun e => hji e.symm) k h1 e
    · have := (H.mem j hj).lt e; omega
  refine ⟨⟨(hu.block h (H.lt (.inl rfl)) hh).trans H.blk, hM, fun i hi => ?_, fun i hi => ?_, fun i hi j hj hij k hk => ?_, fun i hi k hk => ?_, H.old, H.few, H.len⟩, ⟨hu.mono (fun k _ e => e.elim (fun e => .inr (.inr ⟨id, hid, e⟩)) (fun e => .inr (.inl e))), fun k hk => ?_⟩⟩
  · by_cases e : i = id
    · subst e; rw [setX_same, setG_same]; exact hW
    · rw [setX_other _ _ e, setG_other _ _ e]
      exact (H.mem i hi).upd hu (fun k hk e2 => e2.elim (fun e2 => H.dis i hi id hid e k hk e2) (fun e2 => (H.neh i hi k hk).2 e2))
  · by_cases e : i = id
    · subst e; rw [setX_same]; exact hok
    · rw [setX_other _ _ e]; exact H.ok i hi
  · by_cases e : i = id
    · subst e
      rw [setG_same] at hk
      rw [setG_other _ _ (fun e => hij e.symm)]
      exact hfq j hj (fun e => hij e.symm) k hk
    · rw [setG_other _ _ e] at hk
      by_cases e2 : j = id
      · subst e2
        rw [setG_same]
        exact fun e3 => hfq i hi e k e3 hk
      · rw [setG_other _ _ e2]
        exact H.dis i hi j hj hij k hk
  · by_cases e : i = id
    · subst e
      rw [setG_same] at hk
      rcases hq k hk with h1 | h1
      · exact H.neh i hi k h1
      · have := H.lt (k := h) (.inl rfl)
        have := H.lt (k := m) (.inr (.inl rfl))
        omega
    · rw [setG_other _ _ e] at hk
      exact H.neh i hi k hk
  · rcases hk with rfl | rfl | ⟨i, hi, hk⟩
    · exact .inl (.inl rfl)
    · exact .inl (.inr (.inl rfl))
    · by_cases e : i = id
      · subst e
        rw [setG_same] at hk
        rcases hq k hk with h1 | h1
        · exact .inl (.inr (.inr ⟨i, hi, h1⟩))
        · exact .inr h1
      · rw [setG_other _ _ e] at hk
        exact .inl (.inr (.inr ⟨i, hi, hk⟩))
/-- The same, where its block is the same. -/
theorem Hb.turn1 (H : Hb w h s m last A X G) {id : Int} (hid : id ∈ A) (x' : Wd) (v' : Value) (hu : Upd w w' (ftE (G id))) (hfd : x'.fd = (X id).fd) (hW : WM w' ((G id).1, v') x') (hok : x'.Ok) (hq : ∀ k, v'.ownBlock = some k → ftE (G id) k ∨ w.heap.size ≤ k) :
    Hb w' h s m last A (setX X id x') (setG G id ((G id).1, v')) ∧ Kp w w' h m A A G (setG G id ((G id).1, v')) := by
  refine H.turn hid x' _ (hu.mono (fun _ _ e => .inl e)) ((H.map.upd hu (fun e => (H.neh id hid m e).2 rfl)).congr (fun i hi => ?_)) hW hok (fun k hk => hk.elim (fun e => .inl (.inl e)) (fun e => hq k e))
  by_cases e : i = id
  · subst e; rw [setX_same, setG_same]; unfold ifv; rw [hfd]
  · rw [setX_other _ _ e, setG_other _ _ e]
theorem setX_id (X : Int → Wd) (id : Int) : setX X id (X id) = X := by funext j; unfold setX; split <;> simp_all
variable {n : Nat} {S : Sto} {g : Sg} {o : Value}
/-- What a poll tells. -/
def pollE (S : Sto) (x : Wd) : Int := match x.fd with
  | false => if x.place ≤ S.past then 16 else 0
  | true => if x.buf = [] then x.fin else 0
def pollL (S : Sto) (x : Wd) (most : Int) : List Evd := match x.fd with
  | false => if x.place ≤ S.past then [] else (newsL S x.lo x.hi x.place).take (wholeN most (newsL S x.lo x.hi x.place))
  | true => x.buf.take most.toNat
def pollX (S : Sto) (x : Wd) (most : Int) : Wd := match x.fd with
  | false => if x.place ≤ S.past then x else if wholeN most (newsL S x.lo x.hi x.place) = (newsL S x.lo x.hi x.place).length then ⟨x.lo, x.hi, max x.place ((S.rev : Int) + 1), true, [], 0⟩ else { x with place := placeN S x.place (newsL S x.lo x.hi x.place) (wholeN most (newsL S x.lo x.hi x.place)) }
  | true => { x with buf := x.buf.drop most.toNat }
/-- What poll leaves. -/
def PolL (w w' : World) (h s m last : Nat) (A : List Int) (X : Int → Wd) (G : Int → Nat × Value) (S : Sto) (id most : Int) (p : Option Addr) (c : Nat) : Prop :=
  w'.ownsRow w.heap.size 37 8 (.slice p (pollL S (X id) most).length c) (pollL S (X id) most).length (evsC (pollL S (X id) most)) ∧ ∃ G', Hb w' h s m last A (setX X id (pollX S (X id) most)) G' ∧ Kp w w' h m A A G G'
theorem ta_beh (v : Value) (W : World) : (Instr.typeAssert (.iface 58 v) 64 58 true).run Try.prog W = .ok (.tuple #[v, .bool true]) W := by kernel_rfl
theorem ta_nbe (v : Value) (W : World) : (Instr.typeAssert (.iface 67 v) 64 58 true).run Try.prog W = .ok (.tuple #[.pointer none, .bool false]) W := by kernel_rfl
theorem ta_fed (v : Value) (W : World) : (Instr.typeAssert (.iface 67 v) 64 67 true).run Try.prog W = .ok (.tuple #[v, .bool true]) W := by kernel_rfl
theorem ta_nfe (v : Value) (W : World) : (Instr.typeAssert (.iface 58 v) 64 67 true).run Try.prog W = .ok (.tuple #[.pointer none, .bool false]) W := by kernel_rfl
theorem ta_fe1 (v : Value) (W : World) : (Instr.typeAssert (.iface 67 v) 64 67 false).run Try.prog W = .ok v W := by kernel_rfl
set_option maxRecDepth 100000 in
set_option maxHeartbeats 2000000 in
theorem poll_fed (H : Hb w h s m last A X G) {id : Int} (hid : id ∈ A) (hx : (X id).fd = true) (most : Int) (hm : 1 ≤ most) :
    Calls Try.prog 21 #[ptr h, .int .i64 id, .iface 67 (ptr (G id).1), .int .i64 most] w fun e w' => ∃ p c, e = .returned (.tuple #[.slice p (pollL S (X id) most).length c, .int .i64 (pollE S (X id))]) ∧ Hid (PolL w w' h s m last A X G S id most p c) := by
  have hF : Fd w (G id).1 (G id).2 (X id).lo (X id).hi (X id).place (X id).buf (X id).fin := by have := H.mem id hid; unfold WM at this; rw [hx] at this; exact this
  have eL : pollL S (X id) most = (X id).buf.take most.toNat := by unfold pollL; rw [hx]
  have eE : pollE S (X id) = if (X id).buf = [] then (X id).fin else 0 := by unfold pollE; rw [hx]
  have eX : pollX S (X id) most = { X id with buf := (X id).buf.drop most.toNat } := by unfold pollX; simp [hx]
  have hok := H.ok id hid
  have HH := Hid.mkW H
  have t1 := ta_nbe (ptr (G id).1)
  have t2 := ta_fe1 (ptr (G id).1)
  by_cases hb : (X id).buf = []
  · rw [hb] at hF
    have htk := ftake_none w (G id).1 (G id).2 (X id).lo (X id).hi (X id).place (X id).fin most hF
    have HFIN : Hid (∀ w', Below w.heap.size w w' → PolL w w' h s m last A X G S id most none 0) := fun w' hw => by
      unfold PolL
      rw [eL, eX, hb]
      refine ⟨by simp; exact World.ownsRow_nil _ _ _ _, _, HH.out.turn1 hid _ (G id).2 (Upd.ofBelow hw) rfl ?_ ⟨hok.a, hok.b, by simp⟩ (fun k hk => .inl (.inr hk))⟩
      unfold WM
      rw [hx]
      dsimp only
      rw [List.drop_nil]
      exact hF.below hw
    have e1 : (pollL S (X id) most).length = 0 := by rw [eL, hb]; simp
    have e2 : pollE S (X id) = (X id).fin := by rw [eE, if_pos hb]
    rw [e1, e2]
    clear H hF eL eE eX hok HH e1 e2
    go_enter Try.func21, Try.ntmps21
    go_wp2_with (first | (go_at_call 30; refine htk.mono ?_; rintro e w2 ⟨rfl, hw2⟩))
    refine bodyPost_ret (results_tmp2 rfl _ _ _) rfl ?_
    exact ⟨none, 0, rfl, HFIN.out w2 hw2⟩
  · have hl0 : 0 < (X id).buf.length := List.length_pos_iff.2 hb
    obtain ⟨n, hn⟩ : ∃ n : Nat, (n : Int) = min most (X id).buf.length := ⟨(min most (X id).buf.length).toNat, by omega⟩
    have htk := ftake_some w (G id).1 (G id).2 (X id).lo (X id).hi (X id).place (X id).fin most (X id).buf hF hl0 hok.c n hn (by omega)
    have hn2 : (X id).buf.take most.toNat = (X id).buf.take n ∧ (X id).buf.drop most.toNat = (X id).buf.drop n := by
      rcases Int.le_total most (X id).buf.length with h1 | h1
      · have : most.toNat = n := by omega
        rw [this]; exact ⟨rfl, rfl⟩
      · have : n = (X id).buf.length := by omega
        rw [this]
        exact ⟨by rw [List.take_length, List.take_of_length_le (by omega)], by rw [List.drop_length, List.drop_of_length_le (by omega)]⟩
    have hnl : ((X id).buf.take n).length = n := by rw [List.length_take]; omega
    have e1 : (pollL S (X id) most).length = n := by rw [eL, hn2.1, hnl]
    have e2 : pollE S (X id) = 0 := by rw [eE, if_neg hb]
    have HFIN : Hid (∀ w' p c v', w'.ownsRow w.heap.size 37 8 (.slice p n c) n (evsC ((X id).buf.take n)) → Fd w' (G id).1 v' (X id).lo (X id).hi (X id).place ((X id).buf.drop n) (X id).fin → v'.ownBlock = (G id).2.ownBlock → Upd w w' (fun k => k = (G id).1 ∨ (G id).2.ownBlock = some k) → PolL w w' h s m last A X G S id most p c) := fun w' p c v' q1 q2 q3 q4 => by
      unfold PolL
      rw [eL, eX, hn2.1, hn2.2, hnl]
      refine ⟨q1, _, HH.out.turn1 hid _ v' q4 rfl ?_ ⟨hok.a, hok.b, by dsimp only; rw [List.length_drop]; have := hok.c; omega⟩ (fun k hk => .inl (.inr (by rw [← q3]; exact hk)))⟩
      unfold WM
      rw [hx]
      exact q2
    rw [e1, e2]
    clear H hF eL eE eX hok HH e1 e2 hn2 hn
    go_enter Try.func21, Try.ntmps21
    go_wp2_with (first | (go_at_call 30; refine htk.mono ?_; rintro e w2 ⟨p2, c2, rfl, q1, v2, q2, q3, q4⟩))
    refine bodyPost_ret (results_tmp2 rfl _ _ _) rfl ?_
    exact ⟨p2, c2, rfl, HFIN.out w2 p2 c2 v2 q1 q2 q3 q4⟩
set_option maxRecDepth 100000 in
set_option maxHeartbeats 2000000 in
theorem poll_past (H : Hb w h s m last A X G) (HS : Sk n w s S g o) {id : Int} (hid : id ∈ A) (hx : (X id).fd = false) (most : Int) (hp : (X id).place ≤ S.past) :
    Calls Try.prog 21 #[ptr h, .int .i64 id, .iface 58 (ptr (G id).1), .int .i64 most] w fun e w' => ∃ p c, e = .returned (.tuple #[.slice p (pollL S (X id) most).length c, .int .i64 (pollE S (X id))]) ∧ Hid (PolL w w' h s m last A X G S id most p c) := by
  have hB : Bh w (G id).1 (X id).lo (X id).hi (X id).place ∧ (G id).2 = .slice none 0 0 ∧ (X id).buf = [] ∧ (X id).fin = 0 := by have := H.mem id hid; unfold WM at this; rw [hx] at this; exact this
  have eL : pollL S (X id) most = [] := by unfold pollL; rw [hx]; simp [hp]
  have eE : pollE S (X id) = 16 := by unfold pollE; rw [hx]; simp [hp]
  have eX : pollX S (X id) most = X id := by unfold pollX; rw [hx]; simp [hp]
  have hok := H.ok id hid
  have HFIN : Hid (∀ w', Below w.heap.size w w' → PolL w w' h s m last A X G S id most none 0) := fun w' hw => by
    unfold PolL
    rw [eL, eX, setX_id]
    exact ⟨World.ownsRow_nil _ _ _ _, G, H.below hw, ⟨Upd.ofBelow hw, fun k hk => .inl hk⟩⟩
  have t1 := ta_beh (ptr (G id).1)
  have hc := catch_past HS (G id).1 (X id).lo (X id).hi (X id).place most hB.1 hok.a hp
  have c0 : w.cell? ⟨h, 0, none⟩ = some (ptr s) := cell_of_row _ _ _ _ _ _ H.blk
  rw [eL, eE]
  clear H HS hB eL eE eX hok
  go_enter Try.func21, Try.ntmps21
  go_wp2_with (first | (go_at_call 31; refine hc.mono ?_; rintro e w2 ⟨rfl, hw2⟩))
  refine bodyPost_ret (results_tmp2 rfl _ _ _) rfl ?_
  exact ⟨none, 0, rfl, HFIN.out w2 hw2⟩
set_option maxRecDepth 100000 in
set_option maxHeartbeats 4000000 in
theorem poll_beh (H : Hb w h s m last A X G) (HS : Sk n w s S g o) (sep : ∀ k, ftH h m A G k → ¬ ftS s g k) {id : Int} (hid : id ∈ A) (hx : (X id).fd = false) (most : Int) (hp : ¬ (X id).place ≤ S.past) :
    Calls Try.prog 21 #[ptr h, .int .i64 id, .iface 58 (ptr (G id).1), .int .i64 most] w fun e w' => ∃ p c, e = .returned (.tuple #[.slice p (pollL S (X id) most).length c, .int .i64 (pollE S (X id))]) ∧ Hid (PolL w w' h s m last A X G S id most p c) := by
  have hB : Bh w (G id).1 (X id).lo (X id).hi (X id).place ∧ (G id).2 = .slice none 0 0 ∧ (X id).buf = [] ∧ (X id).fin = 0 := by have := H.mem id hid; unfold WM at this; rw [hx] at this; exact this
  obtain ⟨L, hL⟩ : ∃ L, L = newsL S (X id).lo (X id).hi (X id).place := ⟨_, rfl⟩
  obtain ⟨k, hk⟩ : ∃ k, k = wholeN most L := ⟨_, rfl⟩
  have hkl : k ≤ L.length := by rw [hk]; exact wholeN_le _ _
  have eL : pollL S (X id) most = L.take k := by unfold pollL; rw [hx]; simp only [if_neg hp]; rw [hk, hL]
  have eE : pollE S (X id) = 0 := by unfold pollE; rw [hx]; simp [hp]
  have hok := H.ok id hid
  have hrev := HS.rev
  have hbs : (G id).1 ≠ s := fun e => sep (G id).1 (.inr (.inr ⟨id, hid, .inl rfl⟩)) (.inl e)
  have hc := catch_ok HS (G id).1 (X id).lo (X id).hi (X id).place most hB.1 hbs hok.a hp hok.b L hL k hk
  have hkt : (L.take k).length = k := by rw [List.length_take]; omega
  have e1 : (pollL S (X id) most).length = k := by rw [eL, hkt]
  have c0 : w.cell? ⟨h, 0, none⟩ = some (ptr s) := cell_of_row _ _ _ _ _ _ H.blk
  have hgh : ¬ h = (G id).1 := fun e => (H.neh id hid h (.inl e)).1 rfl
  have HROW : Hid (∀ W, Upd w W (fun j => j = (G id).1) → W.heap[h]? = some (.cells #[ptr s, .map (some m), .int .i64 last] 56 (0, 0))) := fun W hW => (hW.block h (H.lt (.inl rfl)) hgh).trans H.blk
  have hrv : ∀ e ∈ L, 1 ≤ e.1 ∧ e.1 ≤ 100000 := fun e he => by
    rw [hL] at he
    have h2 := newsL_rev he
    have := hok.a
    omega
  have t1 := ta_beh (ptr (G id).1)
  by_cases hall : k = L.length
  · have eX : pollX S (X id) most = ⟨(X id).lo, (X id).hi, max (X id).place ((S.rev : Int) + 1), true, [], 0⟩ := by unfold pollX; rw [hx]; simp only [if_neg hp]; rw [← hL, ← hk, if_pos hall]
    have epl : placeN S (X id).place L k = max (X id).place ((S.rev : Int) + 1) := by unfold placeN; rw [if_pos hall]
    rw [epl] at hc
    obtain ⟨pl, hpl⟩ : ∃ pl, pl = max (X id).place ((S.rev : Int) + 1) := ⟨_, rfl⟩
    rw [← hpl] at hc eX
    have hd : decide (k = L.length) = true := by simp [hall]
    rw [hd] at hc
    rw [e1, eE]
    have HB' := Hid.mkW hB
    have HH := Hid.mkW H
    have HOK := Hid.mkW hok
    have HEL := Hid.mkW eL
    have HEX := Hid.mkW eX
    have HKT := Hid.mkW hkt
    have HPL := Hid.mkW hpl
    clear H HS hB eL eE eX hok e1 hd epl hall hL hk hkt hpl
    go_enter Try.func21, Try.ntmps21
    go_upto_region 6 with (first | (go_at_call 31; refine hc.mono ?_; rintro e w2 ⟨p2, c2, rfl, q1, q2, q3⟩))
    have r2 := HROW.out w2 q3
    have d1 : w2.cell? ⟨h, 1, none⟩ = some (.map (some m)) := cell_of_row _ _ _ _ _ _ r2
    have y0 : w2.cell? ⟨(G id).1, 0, none⟩ = some (.string (X id).lo) := cell_of_row _ _ _ _ _ _ q2
    have y1 : w2.cell? ⟨(G id).1, 1, none⟩ = some (.string (X id).hi) := cell_of_row _ _ _ _ _ _ q2
    have y2 : w2.cell? ⟨(G id).1, 2, none⟩ = some (.int .i64 pl) := cell_of_row _ _ _ _ _ _ q2
    obtain ⟨w3, hw3⟩ : ∃ w3, w3 = (w2.alloc (.cells #[.string (X id).lo, .string (X id).hi, .int .i64 pl, .slice none 0 0, .int .i64 0] 90)).drew := ⟨_, rfl⟩
    have b3 : Below w2.heap.size w2 w3 := by rw [hw3]; exact ((Below.refl _ w2).alloc (Nat.le_refl _) _).drew
    have r3 : w3.heap[w2.heap.size]? = some (.cells #[.string (X id).lo, .string (X id).hi, .int .i64 pl, .slice none 0 0, .int .i64 0] 90 (0, 0)) := by rw [hw3]; exact row_alloc w2 _ _
    have u3 : Upd w w3 (fun j => j = (G id).1) := q3.trans (Upd.ofBelow (S := fun _ => False) b3) (fun _ _ e => e.elim)
    have hgm : ¬ m = (G id).1 := fun e => (HH.out.neh id hid m (.inl e)).2 rfl
    obtain ⟨w4, hrun, hM4, u4⟩ := (HH.out.map.upd u3 hgm).set hid (.iface 67 (ptr w2.heap.size))
    have HFIN : Hid (PolL w w4 h s m last A X G S id most p2 c2) := by
      unfold PolL
      rw [HEL.out, HEX.out, HKT.out]
      have hml := HH.out.lt (k := m) (.inr (.inl rfl))
      have hw2 : w.heap.size ≤ w2.heap.size := q3.size
      have f4 : Fd w4 w2.heap.size (.slice none 0 0) (X id).lo (X id).hi pl [] 0 := ⟨(u4.block w2.heap.size (Array.getElem?_eq_some_iff.1 r3).1 (fun e => by omega)).trans r3, World.ownsRow_nil _ _ _ _⟩
      refine ⟨ownsRow_upd (ownsRow_upd q1 (Upd.ofBelow (S := fun _ => False) b3) (fun _ _ e => e)) u4 (fun j hj e => by have := (q1.lt j hj).1; omega), _, HH.out.turn hid _ (w2.heap.size, .slice none 0 0) ((u3.mono (fun j _ e => .inl (.inl e))).trans u4 (fun j _ e => .inr e)) (hM4.congr (fun i hi => ?_)) f4 ⟨by dsimp only; have := HOK.out.a; have := HPL.out; omega, by dsimp only; have := HOK.out.b; have := HPL.out; omega, by simp⟩ (fun j hj => .inr ?_)⟩
      · by_cases e : i = id
        · subst e; rw [setX_same, setG_same, setW_same]; rfl
        · rw [setX_other _ _ e, setG_other _ _ e, setW_other _ _ e]
      · rcases hj with e | e
        · simp only at e; omega
        · cases e
    have a1 : (w2.alloc (.cells #[.string (X id).lo, .string (X id).hi, .int .i64 pl, .slice none 0 0, .int .i64 0] 90)).cell? ⟨h, 1, none⟩ = some (.map (some m)) := ((Below.refl _ w2).alloc (Nat.le_refl _) _ |>.cell (p := ⟨h, 1, none⟩) (World.block_lt_of_cell? _ _ d1)).trans d1
    rw [hw3] at hrun
    clear q1 q2 q3 r2 b3 r3 u3 hM4 u4 hw3 HH HROW HEL HEX HB' HKT HPL HOK hgm
    generalize (X id).lo = lo at *
    generalize (X id).hi = hi at *
    generalize (G id).1 = b at *
    go_region
    go_wp2
    refine bodyPost_ret (results_tmp2 rfl _ _ _) rfl ?_
    exact ⟨p2, c2, rfl, HFIN⟩
  · have hlt : k < L.length := by omega
    have eX : pollX S (X id) most = { X id with place := placeN S (X id).place L k } := by unfold pollX; rw [hx]; simp only [if_neg hp]; rw [← hL, ← hk, if_neg hall]; rw [hx]
    have hd : decide (k = L.length) = false := by simp [hall]
    rw [hd] at hc
    rw [e1, eE]
    have hk0 := wholeN_pos most L (by rw [← hk]; exact hlt)
    rw [← hk] at hk0
    obtain ⟨ev, hev⟩ : ∃ ev, L[k - 1]? = some ev := ⟨_, List.getElem?_eq_getElem (by omega)⟩
    have epl : placeN S (X id).place L k = ev.1 + 1 := by unfold placeN; rw [if_neg hall, hev]; rfl
    have hev2 := hrv ev (List.mem_of_getElem? hev)
    have HFIN : Hid (∀ w2 p2 c2, w2.ownsRow w.heap.size 37 8 (.slice p2 k c2) k (evsC (L.take k)) → Bh w2 (G id).1 (X id).lo (X id).hi (placeN S (X id).place L k) → Upd w w2 (fun j => j = (G id).1) → PolL w w2 h s m last A X G S id most p2 c2) := fun w2 p2 c2 q1 q2 q3 => by
      unfold PolL
      rw [eL, eX, hkt]
      refine ⟨q1, _, H.turn1 hid _ (G id).2 (q3.mono (fun j _ e => .inl e)) rfl ?_ ⟨by dsimp only; omega, by dsimp only; omega, hok.c⟩ (fun j hj => .inl (.inr hj))⟩
      unfold WM
      rw [hx]
      exact ⟨q2, hB.2⟩
    clear H HS hB eL eE eX hok e1 hd epl hall hL hk hkt hev hev2 hrv
    go_enter Try.func21, Try.ntmps21
    go_wp2_with (first | (go_at_call 31; refine hc.mono ?_; rintro e w2 ⟨p2, c2, rfl, q1, q2, q3⟩))
    refine bodyPost_ret (results_tmp2 rfl _ _ _) rfl ?_
    exact ⟨p2, c2, rfl, HFIN.out w2 p2 c2 q1 q2 q3⟩
end
end Go.Proofs.Ytjdmgmnndfhmgaa
/- A hub's Poll, whole. -/
namespace Go.Proofs.Ytjdmgmnndfhmgaa
open Go Go.RowKit
section
variable {w w' : World} {h s m last : Nat} {A : List Int} {X : Int → Wd} {G : Int → Nat × Value} {n : Nat} {S : Sto} {g : Sg} {o : Value}
theorem Hb.drop (H : Hb w h s m last A X G) (id : Int) (hM : MI w' m (delN id A) (fun i => ifv (X i) (G i).1)) (hu : Upd w w' (fun k => k = m)) : Hb w' h s m last (delN id A) X G := by
  have hin : ∀ i, i ∈ delN id A → i ∈ A := fun i hi => (mem_delN.1 hi).1
  exact ⟨(hu.block h (H.lt (.inl rfl)) H.ne).trans H.blk, hM, fun i hi => (H.mem i (hin i hi)).upd hu (fun k hk e => (H.neh i (hin i hi) k hk).2 e), fun i hi => H.ok i (hin i hi), fun i hi j hj => H.dis i (hin i hi) j (hin j hj), fun i hi => H.neh i (hin i hi), fun i hi => H.old i (hin i hi), H.few, Nat.le_trans (List.length_filter_le _ _) H.len⟩
/-- Who is there behind a poll. -/
def pollA (S : Sto) (A : List Int) (x : Wd) (id : Int) : List Int := if pollE S x = 0 then A else delN id A
theorem hub_none (H : Hb w h s m last A X G) (id most : Int) (hi : isI id) (hid : id ∉ A) : Calls Try.prog 9 #[ptr h, .int .i64 id, .int .i64 most] w fun e w' => e = .returned (.tuple #[.slice none 0 0, .int .i64 2]) ∧ w' = w := by
  have c1 : w.cell? ⟨h, 1, none⟩ = some (.map (some m)) := cell_of_row _ _ _ _ _ _ H.blk
  have hlook := H.map.look id hi
  rw [if_neg hid, decide_eq_false hid] at hlook
  clear H
  go_enter Try.func9, Try.ntmps9
  go_wp2
  refine bodyPost_ret (results_tmp2 rfl _ _ _) rfl ?_
  exact ⟨rfl, rfl⟩
theorem Kp.trans {w1 w2 w3 : World} {A1 A2 A3 : List Int} {G1 G2 G3 : Int → Nat × Value} (a : Kp w1 w2 h m A1 A2 G1 G2) (b : Kp w2 w3 h m A2 A3 G2 G3) : Kp w1 w3 h m A1 A3 G1 G3 :=
  ⟨a.upd.trans b.upd (fun k hk e => (a.foot k e).elim (fun e => e) (fun e => by omega)), fun k hk => (b.foot k hk).elim (fun e => a.foot k e) (fun e => .inr (Nat.le_trans a.upd.size e))⟩
theorem poll_all (H : Hb w h s m last A X G) (HS : Sk n w s S g o) (sep : ∀ k, ftH h m A G k → ¬ ftS s g k) {id : Int} (hid : id ∈ A) (most : Int) (hm : 1 ≤ most) :
    Calls Try.prog 21 #[ptr h, .int .i64 id, ifv (X id) (G id).1, .int .i64 most] w fun e w' => ∃ p c, e = .returned (.tuple #[.slice p (pollL S (X id) most).length c, .int .i64 (pollE S (X id))]) ∧ Hid (PolL w w' h s m last A X G S id most p c) := by
  unfold ifv
  cases hx : (X id).fd with
  | true => exact poll_fed H hid hx most hm
  | false =>
    by_cases hp : (X id).place ≤ S.past
    · exact poll_past H HS hid hx most hp
    · exact poll_beh H HS sep hid hx most hp
set_option maxRecDepth 100000 in
set_option maxHeartbeats 4000000 in
theorem hub_poll (H : Hb w h s m last A X G) (HS : Sk n w s S g o) (sep : ∀ k, ftH h m A G k → ¬ ftS s g k) {id : Int} (hid : id ∈ A) (most mo : Int) (hmo : mo = max most 1) :
    Calls Try.prog 9 #[ptr h, .int .i64 id, .int .i64 most] w fun e w' => ∃ p c, e = .returned (.tuple #[.slice p (pollL S (X id) mo).length c, .int .i64 (pollE S (X id))]) ∧ Hid (w'.ownsRow w.heap.size 37 8 (.slice p (pollL S (X id) mo).length c) (pollL S (X id) mo).length (evsC (pollL S (X id) mo)) ∧ ∃ G', Hb w' h s m last (pollA S A (X id) id) (setX X id (pollX S (X id) mo)) G' ∧ Kp w w' h m A (pollA S A (X id) id) G G') := by
  have c1 : w.cell? ⟨h, 1, none⟩ = some (.map (some m)) := cell_of_row _ _ _ _ _ _ H.blk
  have hi : isI id := by have := H.map.ok id hid; show _ ∧ _; omega
  have hlook := H.map.look id hi
  rw [if_pos hid, decide_eq_true hid] at hlook
  have hpoll := poll_all H HS sep hid mo (by omega)
  obtain ⟨t, b, hifv⟩ : ∃ t b, ifv (X id) (G id).1 = .iface t b := ⟨_, _, rfl⟩
  rw [hifv] at hpoll hlook
  obtain ⟨er, her⟩ : ∃ er, er = pollE S (X id) := ⟨_, rfl⟩
  obtain ⟨LL, hLL⟩ : ∃ LL, LL = (pollL S (X id) mo).length := ⟨_, rfl⟩
  have HPL : Hid (∀ w2 p c, PolL w w2 h s m last A X G S id mo p c → w2.cell? ⟨h, 1, none⟩ = some (.map (some m)) ∧ ∃ w3, (∀ ty, (Builtin.delete_ #[54, 3] ty #[.map (some m), .int .i64 id]).run Try.prog w2 = .ok (.tuple #[]) w3) ∧ (er ≠ 0 → w3.ownsRow w.heap.size 37 8 (.slice p LL c) LL (evsC (pollL S (X id) mo)) ∧ ∃ G', Hb w3 h s m last (pollA S A (X id) id) (setX X id (pollX S (X id) mo)) G' ∧ Kp w w3 h m A (pollA S A (X id) id) G G')) := fun w2 p c hP => by
    obtain ⟨q1, G', q2, q3⟩ := hP
    obtain ⟨w3, hrun, hM3, u3⟩ := q2.map.del id hi 0
    refine ⟨cell_of_row _ _ _ _ _ _ q2.blk, w3, fun ty => hrun, fun he => ?_⟩
    have hA : pollA S A (X id) id = delN id A := by unfold pollA; rw [if_neg (by rw [← her]; exact he)]
    rw [hA, hLL]
    have hmn : m < w.heap.size := H.lt (.inr (.inl rfl))
    refine ⟨ownsRow_upd q1 u3 (fun k hk e => by have := (q1.lt k hk).1; omega), G', q2.drop id hM3 u3, ⟨q3.upd.trans u3 (fun k _ e => .inr (.inl e)), fun k hk => ?_⟩⟩
    rcases hk with e | e | ⟨i, hi, hk⟩
    · exact .inl (.inl e)
    · exact .inl (.inr (.inl e))
    · exact q3.foot k (.inr (.inr ⟨i, (mem_delN.1 hi).1, hk⟩))
  have HPE : Hid (er = 0 → pollA S A (X id) id = A) := fun e => by unfold pollA; rw [if_pos (by rw [← her]; exact e)]
  have HLL := Hid.mkW hLL
  rw [← her, ← hLL] at hpoll ⊢
  clear H HS her hLL hifv
  by_cases hm1 : most < 1
  · obtain rfl : mo = 1 := by omega
    clear hmo
    go_enter Try.func9, Try.ntmps9
    go_upto_region 7 with (first | (go_at_call 21; refine hpoll.mono ?_; rintro e w2 ⟨p2, c2, rfl, HP⟩))
    obtain ⟨d1, w3, hdel, hfin⟩ := HPL.out w2 p2 c2 HP.out
    have HF := Hid.mkW hfin
    clear hfin HPL hpoll hlook c1
    by_cases he : er = 0
    · have hq : (er != 0) = false := by simp [he]
      go_wp2
      refine bodyPost_ret (results_tmp2 rfl _ _ _) rfl ?_
      refine ⟨p2, c2, rfl, ?_⟩
      have := HP.out
      unfold PolL at this
      rw [HLL.out, HPE.out he]
      exact this
    · have hq : (er != 0) = true := by simp [he]
      go_wp2
      refine bodyPost_ret (results_tmp2 rfl _ _ _) rfl ?_
      exact ⟨p2, c2, rfl, HF.out he⟩
  · obtain rfl : mo = most := by omega
    clear hmo
    go_enter Try.func9, Try.ntmps9
    go_upto_region 7 with (first | (go_at_call 21; refine hpoll.mono ?_; rintro e w2 ⟨p2, c2, rfl, HP⟩))
    obtain ⟨d1, w3, hdel, hfin⟩ := HPL.out w2 p2 c2 HP.out
    have HF := Hid.mkW hfin
    clear hfin HPL hpoll hlook c1
    by_cases he : er = 0
    · have hq : (er != 0) = false := by simp [he]
      go_wp2
      refine bodyPost_ret (results_tmp2 rfl _ _ _) rfl ?_
      refine ⟨p2, c2, rfl, ?_⟩
      have := HP.out
      unfold PolL at this
      rw [HLL.out, HPE.out he]
      exact this
    · have hq : (er != 0) = true := by simp [he]
      go_wp2
      refine bodyPost_ret (results_tmp2 rfl _ _ _) rfl ?_
      exact ⟨p2, c2, rfl, HF.out he⟩
end
end Go.Proofs.Ytjdmgmnndfhmgaa
/- A hub's Feed. -/
namespace Go.Proofs.Ytjdmgmnndfhmgaa
open Go Go.RowKit
/-- What a Feed does to a watcher. -/
def feedX (S : Sto) (x : Wd) : Wd := if x.fd = true ∧ x.fin = 0 then (if x.place ≤ S.past then { x with fin := 16 } else if 16 < x.buf.length + (newsL S x.lo x.hi x.place).length then { x with fin := 14 } else { x with buf := x.buf ++ newsL S x.lo x.hi x.place, place := max x.place ((S.rev : Int) + 1) }) else x
theorem feedX_fd (S : Sto) (x : Wd) : (feedX S x).fd = x.fd := by
  unfold feedX
  split
  · split
    · rfl
    · split <;> rfl
  · rfl
theorem feedX_ok {S : Sto} {x : Wd} (h : x.Ok) (hr : S.rev ≤ 100000) : (feedX S x).Ok := by
  unfold feedX
  have := h.a
  have := h.b
  have := h.c
  split
  · split
    · exact ⟨h.a, h.b, h.c⟩
    · split
      · exact ⟨h.a, h.b, h.c⟩
      · exact ⟨by dsimp only; omega, by dsimp only; omega, by dsimp only; rw [List.length_append]; omega⟩
  · exact h
section
variable {w w' : World} {h s m last : Nat} {A : List Int} {X : Int → Wd} {G : Int → Nat × Value} {n : Nat} {S : Sto} {g : Sg} {o : Value}
theorem feed_any (HS : Sk n w s S g o) (b : Nat) (v : Value) (x : Wd) (hx : x.fd = true) (F : Fd w b v x.lo x.hi x.place x.buf x.fin) (hok : x.Ok) (sep : ∀ k, ftE (b, v) k → ¬ ftS s g k) :
    Calls Try.prog 22 #[ptr b, ptr s] w fun r w' => r = .returned (.tuple #[]) ∧ ∃ v', Hid (WM w' (b, v') (feedX S x) ∧ Upd w w' (ftE (b, v)) ∧ ∀ k, v'.ownBlock = some k → ftE (b, v) k ∨ w.heap.size ≤ k) := by
  have hbs : b ≠ s := fun e => sep b (.inl rfl) (.inl e)
  have hvs : v.ownBlock ≠ some s := fun e => sep s (.inr e) (.inl rfl)
  by_cases hf : x.fin = 0
  · have hif : x.fd = true ∧ x.fin = 0 := ⟨hx, hf⟩
    rw [hf] at F
    by_cases hp : x.place ≤ S.past
    · have e : feedX S x = { x with fin := 16 } := by unfold feedX; rw [if_pos hif, if_pos hp]
      rw [e]
      refine (feed_past HS F hok.a hp).mono ?_
      rintro r w' ⟨rfl, q1, q2⟩
      refine ⟨rfl, v, ?_, q2.mono (fun k _ e => .inl e), fun k hk => .inl (.inr hk)⟩
      unfold WM
      simp only [hx]
      exact q1
    · by_cases hl : 16 < x.buf.length + (newsL S x.lo x.hi x.place).length
      · have e : feedX S x = { x with fin := 14 } := by unfold feedX; rw [if_pos hif, if_neg hp, if_pos hl]
        rw [e]
        refine (feed_full HS F hok.a hp hok.b hok.c hl).mono ?_
        rintro r w' ⟨rfl, q1, q2⟩
        refine ⟨rfl, v, ?_, q2.mono (fun k _ e => .inl e), fun k hk => .inl (.inr hk)⟩
        unfold WM
        simp only [hx]
        exact q1
      · have e : feedX S x = { x with buf := x.buf ++ newsL S x.lo x.hi x.place, place := max x.place ((S.rev : Int) + 1) } := by unfold feedX; rw [if_pos hif, if_neg hp, if_neg hl]
        rw [e]
        refine (feed_ok HS F hbs hvs hok.a hp hok.b hok.c hl).mono ?_
        rintro r w' ⟨rfl, v', q1, q2, q3⟩
        refine ⟨rfl, v', ?_, q2, fun k hk => (q3 k hk).elim (fun e => .inl (.inr e)) .inr⟩
        unfold WM
        simp only [hx, hf]
        exact q1
  · have e : feedX S x = x := by unfold feedX; rw [if_neg (fun h => hf h.2)]
    rw [e]
    refine (feed_done F s hf).mono ?_
    rintro r w' ⟨rfl, hw'⟩
    obtain rfl := hw'.symm
    refine ⟨rfl, v, ?_, Upd.refl _ _, fun k hk => .inl (.inr hk)⟩
    unfold WM
    simp only [hx]
    exact F
theorem Hb.congr {X' : Int → Wd} (H : Hb w h s m last A X G) (hX : ∀ i ∈ A, X' i = X i) : Hb w h s m last A X' G :=
  ⟨H.blk, H.map.congr (fun i hi => by rw [hX i hi]), fun i hi => by rw [hX i hi]; exact H.mem i hi, fun i hi => by rw [hX i hi]; exact H.ok i hi, H.dis, H.neh, H.old, H.few, H.len⟩
theorem ranges_upd {P : Program} {w w' : World} {S : Nat → Prop} {k : TypeId} {R : Value → Option (DataW Value × List MemPlace)} {b r n : Nat} {D : DataW Value} {left : Lit → Bool} {cnt : Nat} (h : w.ranges P k R b r n D left cnt) (hu : Upd w w' S) (hb : ¬ S b) (hr : ¬ S r) : w'.ranges P k R b r n D left cnt := by
  have l1 := h.owns.lt
  have l2 := h.lt
  obtain ⟨es, clock, since, seen, c0, a1, a2, a3, a4, a5, a6⟩ := h
  exact ⟨es, clock, since, seen, c0, (hu.block b l1 hb).trans a1, a2, a3, a4, (hu.block r l2 hr).trans a5, a6⟩
/-- Watchers, as far as the range has come. -/
def mixX (S : Sto) (X : Int → Wd) (left : Lit → Bool) : Int → Wd := fun i => if left (.int .i64 i) = true then X i else feedX S (X i)
theorem mix_step {left : Lit → Bool} {x : Int} : mixX S X (fun z => left z && !z.sameKey (.int .i64 x)) = setX (mixX S X left) x (feedX S (X x)) := by
  funext j
  unfold mixX setX
  dsimp only
  simp only [same_int]
  by_cases e : j = x
  · subst e; simp
  · simp [e]
def FeI (S : Sto) (w wr : World) (h s m last : Nat) (A : List Int) (X : Int → Wd) (G : Int → Nat × Value) (left : Lit → Bool) : Prop :=
  ∃ G', Hb wr h s m last A (mixX S X left) G' ∧ Upd w wr (ftH h m A G) ∧ (∀ k, ftH h m A G' k → ftH h m A G k ∨ w.heap.size < k) ∧ (∀ i ∈ A, (G' i).1 = (G i).1) ∧ w.heap.size < wr.heap.size
set_option maxRecDepth 100000 in
set_option maxHeartbeats 4000000 in
theorem hub_feed (H : Hb w h s m last A X G) (HS : Sk n w s S g o) (sep : ∀ k, ftH h m A G k → ¬ ftS s g k) :
    Calls Try.prog 12 #[ptr h] w fun e w' => e = .returned (.tuple #[]) ∧ ∃ G', Hb w' h s m last A (fun i => feedX S (X i)) G' ∧ Kp w w' h m A A G G' := by
  have c1 : w.cell? ⟨h, 1, none⟩ = some (.map (some m)) := cell_of_row _ _ _ _ _ _ H.blk
  have hown := H.map.own
  have HH := Hid.mkW H
  have HHS := Hid.mkW HS
  have HSEP := Hid.mkW sep
  have hhm : h < w.heap.size ∧ m < w.heap.size := ⟨H.lt (.inl rfl), H.lt (.inr (.inl rfl))⟩
  clear H HS sep
  go_enter Try.func12, Try.ntmps12
  go_wp2_with (first
    | (at_range; refine wpList_range_own _ rfl _ 54 rfl 3 64 keyed3 Try.underlying54 RL m A.length _ rfl hown ?_; intro w0 hrg0 hg0 hs0)
    | go_in)
  go_frame
  have hb0 : Below w.heap.size w w0 := ⟨hg0.os, hg0.tape, hg0.output, hg0.size, fun k hk => hg0.block k hk (by simp)⟩
  have HB0 := Hid.mkW hb0
  have HRG := Hid.mkW hrg0
  have HSZ := Hid.mkW hs0
  have HFT : Hid (∀ k, ftH h m A G k → k < w.heap.size) := fun k hk => HH.out.lt hk
  clear hb0 hrg0 hs0 hg0
  go_loopw [3, 4, 5] (fun s3 s4 s5 wr => ∃ (left : Lit → Bool) (cnt : Nat), Hid (wr.ranges Try.prog 3 RL m w.heap.size A.length (.map (A.map (ent (fun i => ifv (X i) (G i).1)))) left cnt) ∧ Hid (FeI S w wr h s m last A X G left)) (fun _ _ _ wr => wr.rangeLeft m w.heap.size)
  case atStart =>
    refine ⟨_, _, HRG, G, (HH.out.below HB0.out).congr (fun i hi => ?_), Upd.ofBelow HB0.out, fun k hk => .inl hk, fun i hi => rfl, by have := HSZ.out; omega⟩
    unfold mixX
    rw [has_ents, decide_eq_true hi, if_pos rfl]
  case round =>
    obtain ⟨left, cnt, HR, HI⟩ := hrel
    go_wp2_with (first
      | (at_next; refine wpList_next_ranges _ rfl _ rfl 3 keyed3 RL (Value.int .i64) (fun c : Value => c) (fun key kl hk => by obtain ⟨x, rfl, _⟩ := Maps.keyOf_int_inv Try.underlying3 hk; exact ⟨x, rfl⟩) (fun v y hv => ⟨v, rfl⟩) m w.heap.size A.length _ _ _ rfl HR.out ?_ ?_)
      | go_in)
    · intro hc0 hl0
      go_wp2
      first | go_end0 | refine bodyPost_ret (results_none rfl _ _ _) rfl ?_
      obtain ⟨G', q1, q2, q3, -⟩ := HI.out
      have e : mixX S X left = fun i => feedX S (X i) := by funext i; unfold mixX; rw [hl0]; simp
      rw [e] at q1
      exact ⟨rfl, G', q1, ⟨q2, fun k hk => (q3 k hk).elim .inl (fun e => .inr (by omega))⟩⟩
    · intro x c kl yd yp w2 cnt2 hkey hlk hv hat hrg2 hlt hg2 hs2 hen
      obtain ⟨x', ex, rfl, _⟩ := Maps.keyOf_int_inv Try.underlying3 hkey
      obtain rfl : x = x' := by cases ex; rfl
      have hy : (yd, yp) = (.held c, []) := by have : RL c = some (yd, yp) := hv; unfold RL at this; exact (Option.some.inj this).symm
      obtain ⟨rfl, rfl⟩ : yd = .held c ∧ yp = [] := by cases hy; exact ⟨rfl, rfl⟩
      have hxA : x ∈ A := by
        by_cases hx : x ∈ A
        · exact hx
        · have h1 := hat .nil
          rw [at_ents, if_neg hx] at h1
          cases h1
      obtain rfl : ifv (X x) (G x).1 = c := by
        have h1 := hat .nil
        rw [at_ents, if_pos hxA] at h1
        cases h1; rfl
      obtain ⟨G', q1, q2, q3, q4, q5⟩ := HI.out
      have hmx : mixX S X left x = X x := by unfold mixX; rw [if_pos hlk]
      have hu2 : Upd wr w2 (fun k => k = w.heap.size) := (Upd.ofGrown hg2).mono (fun k _ e => Option.some.inj e)
      have hnr : ∀ k, ftH h m A G' k → ¬ k = w.heap.size := fun k hk e => by
        rcases q3 k hk with h1 | h1
        · have := HFT.out k h1; omega
        · omega
      have q1' := q1.upd hu2 hnr
      have q2' : Upd w w2 (ftH h m A G) := q2.trans hu2 (fun k hk e => by omega)
      have hS2 : Sk n w2 s S g o := HHS.out.upd q2' (fun k hk e => HSEP.out k e hk)
      have hsep2 : ∀ k, ftH h m A G' k → ¬ ftS s g k := fun k hk e => by
        rcases q3 k hk with h1 | h1
        · exact HSEP.out k h1 e
        · have := HHS.out.st.lt e; omega
      have hs2' : w.heap.size < w2.heap.size := by omega
      have c0 : w2.cell? ⟨h, 0, none⟩ = some (ptr s) := cell_of_row _ _ _ _ _ _ q1'.blk
      have hW := q1'.mem x hxA
      have hok := q1'.ok x hxA
      rw [hmx] at hW hok
      have hG1 := q4 x hxA
      have HLT := Hid.mkW hlt
      have HRG2 := Hid.mkW hrg2
      have HSTEP := Hid.mkW (mix_step (S := S) (X := X) (left := left) (x := x))
      have HQ : Hid (∀ w3 v', Upd w2 w3 (ftE (G' x)) → WM w3 ((G' x).1, v') (feedX S (X x)) → (∀ k, v'.ownBlock = some k → ftE (G' x) k ∨ w2.heap.size ≤ k) → w3.ranges Try.prog 3 RL m w.heap.size A.length (.map (A.map (ent (fun i => ifv (X i) (G i).1)))) (fun z => left z && !z.sameKey (.int .i64 x)) cnt2 ∧ FeI S w w3 h s m last A X G (fun z => left z && !z.sameKey (.int .i64 x))) := fun w3 v' z1 z2 z3 => by
        obtain ⟨t1, t2⟩ := q1'.turn1 hxA (feedX S (X x)) v' z1 (by rw [feedX_fd, hmx]) z2 (feedX_ok hok HHS.out.rev) z3
        refine ⟨ranges_upd hrg2 z1 (fun e => (q1'.neh x hxA m e).2 rfl) (fun e => hnr _ (.inr (.inr ⟨x, hxA, e⟩)) rfl), setG G' x ((G' x).1, v'), by rw [mix_step]; exact t1, q2'.trans t2.upd (fun k hk e => ?_), fun k hk => ?_, fun i hi => ?_, ?_⟩
        · rcases q3 k e with h1 | h1
          · exact h1
          · omega
        · rcases t2.foot k hk with h1 | h1
          · exact q3 k h1
          · exact .inr (by omega)
        · by_cases e : i = x
          · subst e; rw [setG_same]; exact q4 i hi
          · rw [setG_other _ _ e]; exact q4 i hi
        · have := z1.size; omega
      clear hrg2 hlt hlk hat hv hkey ex hy q1 q1' q2 q2' q3 q4 q5 hu2 hnr hg2 hs2 hs2'
      cases hx : (X x).fd with
      | false =>
        have hif : ifv (X x) (G x).1 = .iface 58 (ptr (G x).1) := by unfold ifv; rw [hx]; rfl
        rw [hif] at hen ⊢
        have t1 := ta_nfe (ptr (G x).1)
        have hfe : feedX S (X x) = X x := by unfold feedX; rw [if_neg (fun e => by rw [hx] at e; cases e.1)]
        obtain ⟨z1, z2⟩ := HQ.out w2 (G' x).2 (Upd.refl _ _) (by rw [hfe]; exact hW) (fun k hk => .inl (.inr hk))
        have HZ1 := Hid.mkW z1
        have HZ2 := Hid.mkW z2
        clear hW HQ z1 z2 hS2 hsep2 hok hfe hif hx
        go_wp2
        go_roundw
        case rel => exact ⟨_, cnt2, HZ1, HZ2⟩
        case measure =>
          rw [HZ1.out.left_eq, HR.out.left_eq]
          exact HLT.out
      | true =>
        have hif : ifv (X x) (G x).1 = .iface 67 (ptr (G x).1) := by unfold ifv; rw [hx]; rfl
        rw [hif] at hen ⊢
        have t1 := ta_fed (ptr (G x).1)
        have hF : Fd w2 (G' x).1 (G' x).2 (X x).lo (X x).hi (X x).place (X x).buf (X x).fin := by unfold WM at hW; rw [hx] at hW; exact hW
        have hfeed := feed_any hS2 (G' x).1 (G' x).2 (X x) hx hF hok (fun k hk => hsep2 k (.inr (.inr ⟨x, hxA, hk⟩)))
        rw [hG1] at hfeed
        clear hW hF hS2 hsep2 hok hif hx
        go_wp2_with (first | (go_at_call 22; refine hfeed.mono ?_; rintro e w3 ⟨rfl, v3, HV⟩))
        obtain ⟨z1, z2, z3⟩ := HV.out
        obtain ⟨y1, y2⟩ := HQ.out w3 v3 (by rw [← hG1] at z2; exact z2) (by rw [hG1]; exact z1) (by rw [← hG1] at z3; exact z3)
        go_roundw
        case rel => exact ⟨_, cnt2, y1, y2⟩
        case measure =>
          rw [y1.left_eq, HR.out.left_eq]
          exact HLT.out
end
end Go.Proofs.Ytjdmgmnndfhmgaa
/- A store that is put to, one key a revision. -/
namespace Go.Proofs.Ytjdmgmnndfhmgaa
open Go Go.RowKit
/-- A store of single puts: its changes. -/
structure PE (S : Sto) (E : List Evd) : Prop where
  rev : S.rev = E.length
  past : S.past = 0
  lg : ∀ (i : Nat) (e : Evd), E[i]? = some e → e.1 = (i : Int) + 1 ∧ S.lg ((i : Int) + 1) = [e.2.1] ∧ (∃ kv, e.2.2 = some kv) ∧ chgAt (S.kh e.2.1) ((i : Int) + 1) = e.2.2
  nth : S.nth ≤ E.length
theorem PE.none_ : PE noS [] := ⟨rfl, rfl, fun i e h => (by simp at h), Nat.le_refl _⟩
theorem PE.at_ {S : Sto} {E : List Evd} (h : PE S E) {i : Nat} {e : Evd} (hi : E[i]? = some e) : evAt S ((i : Int) + 1) = [e] := by
  obtain ⟨h1, h2, _, h4⟩ := h.lg i e hi
  unfold evAt
  rw [h2, List.map_cons, List.map_nil, h4, ← h1]
theorem PE.evs {S : Sto} {E : List Evd} (h : PE S E) (p : Nat) : ∀ j, p + j ≤ E.length → evN S ((p : Int) + 1) j = (E.drop p).take j
  | 0, _ => by simp [evN]
  | j + 1, hj => by
    rw [evN_succ, h.evs p j (by omega)]
    have hlt : p + j < E.length := by omega
    have e1 : ((p : Int) + 1 + (j : Int)) = ((p + j : Nat) : Int) + 1 := by omega
    rw [e1, h.at_ (List.getElem?_eq_getElem hlt), List.take_add_one]
    congr 1
    rw [List.getElem?_drop, List.getElem?_eq_getElem hlt]
    rfl
theorem PE.since {S : Sto} {E : List Evd} (h : PE S E) (p : Int) (hp : 1 ≤ p) : sinceL S p = E.drop (p - 1).toNat := by
  unfold sinceL
  obtain ⟨q, hq⟩ : ∃ q : Nat, p = (q : Int) + 1 := ⟨(p - 1).toNat, by omega⟩
  subst hq
  have e1 : ((q : Int) + 1 - 1).toNat = q := by omega
  rw [e1, h.rev]
  rcases Nat.le_total q E.length with hl | hl
  · have e2 : ((E.length : Int) + 1 - ((q : Int) + 1)).toNat = E.length - q := by omega
    rw [e2, h.evs q _ (by omega), List.take_of_length_le (by rw [List.length_drop]; omega)]
  · have e2 : ((E.length : Int) + 1 - ((q : Int) + 1)).toNat = 0 := by omega
    rw [e2, List.drop_of_length_le hl]
    simp [evN]
theorem chg_old {h : Hs} {r r' : Int} {c : Option KVd} {kv : KVd} (e : chgAt h r = some kv) : chgAt (h ++ [(r', c)]) r = some kv := by
  unfold chgAt at e ⊢
  rw [List.find?_append]
  cases hf : h.find? (fun q => decide (q.1 = r)) with
  | none => rw [hf] at e; cases e
  | some q => rw [hf] at e; exact e
theorem chg_new {h : Hs} {r : Int} {c : Option KVd} (hn : ∀ p ∈ h, p.1 < r) : chgAt (h ++ [(r, c)]) r = c := by
  unfold chgAt
  rw [List.find?_append, List.find?_eq_none.2 (fun p hp => by have := hn p hp; simp; omega)]
  simp
theorem PE.put {S : Sto} {E : List Evd} (h : PE S E) (hok : ∀ k, HOk k S.rev (S.kh k)) (k : ByteArray) (kv : KVd) : PE (layS (nextS S [k]) ((S.rev : Int) + 1) k (some kv)) (E ++ [((S.rev : Int) + 1, k, some kv)]) where
  rev := by show S.rev + 1 = _; rw [h.rev, List.length_append]; rfl
  past := h.past
  lg := fun i e hi => by
    have hlg : ∀ x, (layS (nextS S [k]) ((S.rev : Int) + 1) k (some kv)).lg x = if x = (S.rev : Int) + 1 then [k] else S.lg x := fun x => rfl
    rw [hlg]
    rcases Nat.lt_or_ge i E.length with hl | hl
    · rw [List.getElem?_append_left hl] at hi
      obtain ⟨h1, h2, ⟨kv', h3⟩, h4⟩ := h.lg i e hi
      refine ⟨h1, ?_, ⟨kv', h3⟩, ?_⟩
      · rw [if_neg (by rw [h.rev]; omega)]; exact h2
      · by_cases ek : e.2.1 = k
        · rw [ek, layS_same]
          show chgAt (S.kh k ++ _) _ = _
          rw [h3]
          rw [ek, h3] at h4
          exact chg_old h4
        · rw [layS_other _ _ _ ek]; exact h4
    · have hi2 : i = E.length := by
        have := (List.getElem?_eq_some_iff.1 hi).1
        rw [List.length_append] at this
        simp at this
        omega
      subst hi2
      rw [List.getElem?_append_right (Nat.le_refl _), Nat.sub_self] at hi
      simp at hi
      subst hi
      have er : (S.rev : Int) = (E.length : Int) := by rw [h.rev]
      refine ⟨by dsimp only; omega, by rw [if_pos (by omega)], ⟨kv, rfl⟩, ?_⟩
      dsimp only
      rw [layS_same, ← er]
      show chgAt (S.kh k ++ _) _ = _
      exact chg_new (fun p hp => by have := ((hok k).pos p hp).2; omega)
  nth := by
    rw [List.length_append]
    have := h.nth
    have e : (layS (nextS S [k]) ((S.rev : Int) + 1) k (some kv)).nth ≤ S.nth + 1 := by
      unfold layS
      dsimp only
      have e2 : (nextS S [k]).nth = S.nth := rfl
      rw [e2]
      split <;> split <;> omega
    simp only [List.length_cons, List.length_nil]
    omega
/-- Such a store in memory. -/
structure SS (n : Nat) (w : World) (s : Nat) (S : Sto) (g : Sg) (o : Value) (E : List Evd) : Prop where
  sk : Sk n w s S g o
  pe : PE S E
  n : n ≤ E.length
theorem SS.upd {n : Nat} {w w' : World} {s : Nat} {S : Sto} {g : Sg} {o : Value} {E : List Evd} {T : Nat → Prop} (h : SS n w s S g o E) (hu : Upd w w' T) (hT : ∀ k, ftS s g k → ¬ T k) : SS n w' s S g o E := ⟨h.sk.upd hu hT, h.pe, h.n⟩
/-- What a write of a store leaves. -/
structure Wo (w w' : World) (n s b : Nat) (S : Sto) (g : Sg) (W : Wri) : Prop where
  ex : ∃ hh, Ow n w' s b S W g hh ∧ Upd w w' (ftS s g) ∧ (∀ k, ftW b hh k → w.heap.size ≤ k)
/-- What a put leaves, when it is done. -/
def Pu (w w' : World) (s : Nat) (g : Sg) (E : List Evd) (k : ByteArray) : Prop :=
  ∃ n S g' o kv, SS n w' s S g' o (E ++ [((E.length : Int) + 1, k, some kv)]) ∧ kv.key = k ∧ Upd w w' (ftS s g) ∧ ∀ j, ftS s g' j → ftS s g j ∨ w.heap.size ≤ j
section
variable {n : Nat} {w : World} {s : Nat} {S : Sto} {g : Sg} {o : Value} {E : List Evd}
theorem ss_new (w : World) : Calls Try.prog 6 #[] w fun e w' => ∃ s g, e = .returned (ptr s) ∧ Hid (SS 0 w' s noS g (.pointer none) [] ∧ Below w.heap.size w w' ∧ ∀ k, ftS s g k → w.heap.size ≤ k) := by
  refine (new_st w).mono ?_
  rintro e w' ⟨s, g, rfl, h1, h2, h3⟩
  refine ⟨s, g, rfl, ⟨⟨h1, fun r h4 h5 => ?_, Nat.zero_le _, fun p hp => ?_⟩, PE.none_, Nat.le_refl _⟩, h2, h3⟩
  · exfalso
    have : (noS.past : Int) = 0 := rfl
    have : (noS.rev : Int) = 0 := rfl
    omega
  · rw [PE.none_.since p hp]; simp
theorem ss_write (H : SS n w s S g o E) : Calls Try.prog 15 #[ptr s] w fun e w' => ∃ b, e = .returned (ptr b) ∧ Hid (Wo w w' n s b S g (noW S.nth)) := by
  refine (write_st H.sk.st).mono ?_
  rintro e w' ⟨rfl, hO, hu⟩
  refine ⟨_, rfl, ⟨_, hO, hu.mono (fun k _ e => .inl e), ?_⟩⟩
  rintro j (rfl | rfl | hj)
  · exact Nat.le_succ _
  · exact Nat.le_refl _
  · cases hj
/-- The write that puts one key. -/
def Ow1 (S : Sto) (W : Wri) (k : ByteArray) : Prop := W.keys = [k] ∧ ∃ kv, W.ch k = some (some kv) ∧ kv.key = k ∧ Wok S W
theorem ss_put (H : SS n w s S g o E) {w1 : World} {b : Nat} (hW : Wo w w1 n s b S g (noW S.nth)) (hE : E.length ≤ 1000) (k v : ByteArray) (hk : 0 < k.size ∧ k.size ≤ 100) (hv : ¬ 4096 < v.size) :
    Calls Try.prog 16 #[ptr b, .string k, .string v, .int .i64 0] w1 fun e w' => e = .returned (.int .i64 0) ∧ Hid (∃ W, Wo w w' n s b S g W ∧ Ow1 S W k) := by
  obtain ⟨hh, h1, h2, h3⟩ := hW.ex
  have hrev : S.rev ≤ 1000 := by rw [H.pe.rev]; exact hE
  have hnth : S.nth ≤ 1000 := Nat.le_trans H.pe.nth hE
  have fin : ∀ (w' : World) (h' : Wg) (W : Wri) (kv : KVd), (W = (noW S.nth).note k (some kv) ∨ W = ({ (noW S.nth) with count := (noW S.nth).count + 1 } : Wri).note k (some kv)) → kv.key = k → kv.mod = (S.rev : Int) + 1 → 1 ≤ kv.version → kv.version ≤ (S.rev : Int) + 1 → Ow n w' s b S W g h' → KpW w1 w' b hh h' → ∃ W, Wo w w' n s b S g W ∧ Ow1 S W k := by
    intro w' h' W kv hW a1 a2 a3 a4 hO hK
    have hch : W.keys = [k] ∧ W.ch k = some (some kv) ∧ ∀ j, ¬ j = k → W.ch j = none := by
      rcases hW with rfl | rfl
      · exact ⟨by simp [Wri.note, noW], by simp [Wri.note], fun j hj => by simp [Wri.note, hj, noW]⟩
      · exact ⟨by simp [Wri.note, noW], by simp [Wri.note], fun j hj => by simp [Wri.note, hj, noW]⟩
    refine ⟨W, ⟨h', hO, h2.trans hK.1 (fun j hj e => absurd (h3 j e) (by omega)), fun j hj => (hK.2 j hj).elim (h3 j) (fun e => Nat.le_trans h2.size e)⟩, hch.1, kv, hch.2.1, a1, fun j c hc => ?_⟩
    by_cases e : j = k
    · subst e
      rw [hch.2.1] at hc
      cases hc
      exact ⟨hk, fun v hv => (by cases hv; exact ⟨a1, a2, a3, a4⟩), fun hv => (by cases hv)⟩
    · rw [hch.2.2 j e] at hc; cases hc
  cases e : thereH (S.kh k) with
  | none =>
    refine (wput_new h1 k v 0 hk hv (by decide) rfl (by simp [noW]) (by omega) e (by show (S.nth : Int) < 4096 ∧ _ ≤ (S.nth : Int); omega)).mono ?_
    rintro e' w' ⟨rfl, h', q1, q2⟩
    exact ⟨rfl, fin w' h' _ _ (.inr rfl) rfl rfl (by dsimp only; omega) (by dsimp only; omega) q1 q2⟩
  | some kv =>
    obtain ⟨r, hm, _⟩ := thereH_mem e
    obtain ⟨_, _, p1, p2⟩ := (h1.st.hok k).kv r kv hm
    have p3 := ((h1.st.hok k).pos _ hm).2
    dsimp only at p3
    refine (wput_there h1 k v 0 hk hv (by decide) rfl (by simp [noW]) (by omega) e (by omega)).mono ?_
    rintro e' w' ⟨rfl, h', q1, q2⟩
    exact ⟨rfl, fin w' h' _ _ (.inl rfl) rfl rfl (by dsimp only; omega) (by dsimp only; omega) q1 q2⟩
theorem ss_done (H : SS n w s S g o E) {w1 : World} {b : Nat} {W : Wri} (hW : Wo w w1 n s b S g W) (hE : E.length ≤ 1000) (k : ByteArray) (h1 : Ow1 S W k) :
    Calls Try.prog 17 #[ptr b] w1 fun e w' => ∃ r, e = .returned (.int .i64 r) ∧ Hid (Pu w w' s g E k) := by
  obtain ⟨hh, a1, a2, a3⟩ := hW.ex
  obtain ⟨b1, kv, b2, b3, b4⟩ := h1
  have hrev : S.rev ≤ 1000 := by rw [H.pe.rev]; exact hE
  have hn := H.n
  refine (done_lg a1 b4 (by rw [b1]; simp; omega) (by omega)).mono ?_
  rintro e w' ⟨rfl, g', q1, ⟨q2, q3⟩, q4⟩
  have e1 : doneS S W = layS (nextS S [k]) ((S.rev : Int) + 1) k (some kv) := by
    unfold doneS
    rw [if_neg (by rw [b1]; simp)]
    unfold takeS layAll chG
    rw [b1]
    show layS (nextS S [k]) ((S.rev : Int) + 1) k ((W.ch k).getD none) = _
    rw [b2]
    rfl
  have hP := H.pe.put H.sk.st.hok k kv
  have hL := H.sk.lg.done a1.wr.nd q4
  rw [e1] at q1 hL
  have er : (S.rev : Int) = (E.length : Int) := by rw [H.pe.rev]
  rw [er] at hP q1 hL
  refine ⟨_, rfl, _, _, g', _, kv, ⟨⟨q1, hL, ?_, fun p hp => ?_⟩, hP, ?_⟩, b3, a2.trans q2 (fun j hj e => ?_), fun j hj => ?_⟩
  · rw [hP.rev, List.length_append]; simp; omega
  · rw [hP.since p hp, List.length_drop, List.length_append]; simp; omega
  · rw [b1, List.length_append]; simp; omega
  · rcases e with e | e
    · exact e
    · have := a3 j e; omega
  · rcases q3 j hj with (e | e) | e
    · exact .inl e
    · exact .inr (a3 j e)
    · exact .inr (Nat.le_trans a2.size e)
end
end Go.Proofs.Ytjdmgmnndfhmgaa
