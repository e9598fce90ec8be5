/- A store and a hub, in the laws' words. -/
import Derived.Test.YtjdmgmnndfhmgaaGreatGRX
namespace Go.Proofs.YtjdmgmnndfhmgaaGreat
open Go Go.RowKit
/-- What a watcher has yet to hear, of a store with these changes. -/
def newsE (E : List Evd) (x : Wd) : List Evd := (E.drop (x.place - 1).toNat).filter (heard x.lo x.hi)
def feedE (E : List Evd) (a : Nat) (x : Wd) : Wd := if x.fd = true ∧ x.fin = 0 then (if x.place ≤ (a : Int) then { x with fin := 16 } else if 16 < x.buf.length + (newsE E x).length then { x with fin := 14 } else { x with buf := x.buf ++ newsE E x, place := max x.place ((E.length : Int) + 1) }) else x
def endE (a : Nat) (x : Wd) : Int := match x.fd with
  | false => if x.place ≤ (a : Int) then 16 else 0
  | true => if x.buf = [] then x.fin else 0
def tellE (E : List Evd) (a : Nat) (x : Wd) (most : Int) : List Evd := match x.fd with
  | false => if x.place ≤ (a : Int) then [] else (newsE E x).take (wholeN most (newsE E x))
  | true => x.buf.take most.toNat
def nextE (E : List Evd) (a : Nat) (x : Wd) (most : Int) : Wd := match x.fd with
  | false => if x.place ≤ (a : Int) then x else if wholeN most (newsE E x) = (newsE E x).length then ⟨x.lo, x.hi, max x.place ((E.length : Int) + 1), true, [], 0⟩ else { x with place := (((newsE E x)[wholeN most (newsE E x) - 1]?.map (·.1)).getD 0) + 1 }
  | true => { x with buf := x.buf.drop most.toNat }
section
variable {S : Sto} {E : List Evd} {a : Nat} {x : Wd}
theorem news_pe (h : PE S E a) (hx : ¬ x.place ≤ (a : Int)) : newsL S x.lo x.hi x.place = newsE E x := by unfold newsL newsE; rw [h.since _ (by omega)]
theorem past_pe (h : PE S E a) : (S.past : Int) = a := by rw [h.past]
theorem rev_pe (h : PE S E a) : (S.rev : Int) = E.length := by rw [h.rev]
theorem feed_pe (h : PE S E a) : feedX S x = feedE E a x := by
  unfold feedX feedE
  rw [rev_pe h, past_pe h]
  by_cases hp : x.place ≤ (a : Int)
  · simp only [if_pos hp]
  · simp only [if_neg hp]
    rw [news_pe h hp]
theorem end_pe (h : PE S E a) : pollE S x = endE a x := by
  unfold pollE endE
  rw [past_pe h]
  cases x.fd <;> rfl
theorem tell_pe (h : PE S E a) (most : Int) : pollL S x most = tellE E a x most := by
  unfold pollL tellE
  rw [past_pe h]
  by_cases hp : x.place ≤ (a : Int)
  · simp only [if_pos hp]
    cases x.fd <;> rfl
  · simp only [if_neg hp]
    rw [news_pe h hp]
    cases x.fd <;> rfl
theorem next_pe (h : PE S E a) (most : Int) : pollX S x most = nextE E a x most := by
  unfold pollX nextE
  rw [past_pe h, rev_pe h]
  cases x.fd with
  | true => rfl
  | false =>
    dsimp only
    by_cases hp : x.place ≤ (a : Int)
    · rw [if_pos hp, if_pos hp]
    · rw [if_neg hp, if_neg hp, news_pe h hp]
      split
      · rfl
      · rename_i hn
        unfold placeN
        rw [if_neg hn]
end
/-- A store. -/
def LS (w0 w : World) (s : Nat) (E : List Evd) (a : Nat) : Prop := ∃ n S g o, SS n w s S g o E a ∧ Below w0.heap.size w0 w ∧ ∀ k, ftS s g k → w0.heap.size ≤ k
/-- A store, and a hub of it. -/
def LW (w0 w : World) (s h : Nat) (E : List Evd) (a : Nat) (last : Nat) (A : List Int) (X : Int → Wd) : Prop :=
  ∃ n S g o m G, SS n w s S g o E a ∧ Hb w h s m last A X G ∧ (∀ k, ftH h m A G k → ¬ ftS s g k) ∧ Below w0.heap.size w0 w ∧ (∀ k, ftS s g k → w0.heap.size ≤ k) ∧ ∀ k, ftH h m A G k → w0.heap.size ≤ k
/-- A put under way. -/
def LO (w0 w : World) (s h b : Nat) (E : List Evd) (a : Nat) (last : Nat) (A : List Int) (X : Int → Wd) (k : Option ByteArray) : Prop :=
  ∃ w1 n S g o m G W, (SS n w1 s S g o E a ∧ Hb w1 h s m last A X G ∧ (∀ k, ftH h m A G k → ¬ ftS s g k) ∧ Below w0.heap.size w0 w1 ∧ (∀ k, ftS s g k → w0.heap.size ≤ k) ∧ ∀ k, ftH h m A G k → w0.heap.size ≤ k) ∧ Wo w1 w n s b S g W ∧ (match k with | none => W = noW S.nth | some k => Ow1 S W k)
/-- The change that a put makes. -/
def evP (E : List Evd) (k : ByteArray) (e : Evd) : Prop := ∃ kv : KVd, e = ((E.length : Int) + 1, k, some kv) ∧ kv.key = k
section
variable {w0 w : World} {s h : Nat} {E : List Evd} {a : Nat} {last : Nat} {A : List Int} {X : Int → Wd}
theorem ls_new (w0 w : World) (hb : Below w0.heap.size w0 w) : Calls Tryz.prog 7 #[] w fun e w' => ∃ s, e = .returned (ptr s) ∧ Hid (LS w0 w' s [] 0) := by
  refine (ss_new w).mono ?_
  rintro e w' ⟨s, g, rfl, h1, h2, h3⟩
  exact ⟨s, rfl, _, _, g, _, h1, hb.trans (h2.mono hb.size), fun k hk => Nat.le_trans hb.size (h3 k hk)⟩
theorem LS.hub (H : LS w0 w s E a) (X : Int → Wd) : Calls Tryz.prog 8 #[ptr s] w fun e w' => ∃ h, e = .returned (ptr h) ∧ Hid (LW w0 w' s h E a 0 [] X) := by
  obtain ⟨n, S, g, o, h1, h2, h3⟩ := H
  refine (hub_new w s X (fun _ => (0, .slice none 0 0))).mono ?_
  rintro e w' ⟨h, m, rfl, q1, q2, q3, q4⟩
  have hf : ∀ k, ftH h m [] (fun _ => ((0, .slice none 0 0) : Nat × Value)) k → w.heap.size ≤ k := by
    rintro k (rfl | rfl | ⟨i, hi, _⟩)
    · exact q3
    · exact q4
    · cases hi
  exact ⟨h, rfl, n, S, g, o, m, _, h1.upd (T := fun _ => False) (Upd.ofBelow q2) (fun _ _ e => e), q1, fun k hk e => by have := hf k hk; have := h1.sk.st.lt e; omega, h2.trans (q2.mono h2.size), h3, fun k hk => Nat.le_trans h2.size (hf k hk)⟩
theorem LW.write (H : LW w0 w s h E a last A X) : Calls Tryz.prog 11 #[ptr s] w fun e w' => ∃ b, e = .returned (ptr b) ∧ Hid (LO w0 w' s h b E a last A X none) := by
  obtain ⟨n, S, g, o, m, G, h1, h2⟩ := H
  refine (ss_write h1).mono ?_
  rintro e w' ⟨b, rfl, q1⟩
  exact ⟨b, rfl, w, n, S, g, o, m, G, _, ⟨h1, h2⟩, q1.out, rfl⟩
theorem LO.put {b : Nat} (H : LO w0 w s h b E a last A X none) (hE : E.length ≤ 1000) (k v : ByteArray) (hk : 0 < k.size ∧ k.size ≤ 100) (hv : ¬ 4096 < v.size) : Calls Tryz.prog 15 #[ptr b, .string k, .string v, .int .i64 0] w fun e w' => e = .returned (.int .i64 0) ∧ Hid (LO w0 w' s h b E a last A X (some k)) := by
  obtain ⟨w1, n, S, g, o, m, G, W, h1, h2, h3⟩ := H
  have h3 : W = noW S.nth := h3
  subst h3
  refine (ss_put h1.1 h2 hE k v hk hv).mono ?_
  rintro e w' ⟨rfl, q1⟩
  obtain ⟨W', q2, q3⟩ := q1.out
  exact ⟨rfl, w1, n, S, g, o, m, G, W', h1, q2, q3⟩
theorem LO.done {b : Nat} {k : ByteArray} (H : LO w0 w s h b E a last A X (some k)) (hE : E.length ≤ 1000) : Calls Tryz.prog 17 #[ptr b] w fun e w' => ∃ r, e = .returned (.int .i64 r) ∧ Hid (∃ ev, LW w0 w' s h (E ++ [ev]) a last A X ∧ evP E k ev) := by
  obtain ⟨w1, n, S, g, o, m, G, W, ⟨a1, a2, a3, a4, a5, a6⟩, h2, h3⟩ := H
  refine (ss_done a1 h2 hE k h3).mono ?_
  rintro e w' ⟨r, rfl, q1⟩
  obtain ⟨n', S', g', o', kv, q2, q3, q4, q5⟩ := q1.out
  refine ⟨r, rfl, _, ⟨n', S', g', o', m, G, q2, a2.upd q4 a3, fun j hj e => ?_, a4.trans (q4.below a4.size (fun j hj e => by have := a5 j e; omega)), fun j hj => ?_, a6⟩, kv, rfl, q3⟩
  · rcases q5 j e with h | h
    · exact a3 j hj h
    · have := a2.lt hj; omega
  · rcases q5 j hj with h | h
    · exact a5 j h
    · exact Nat.le_trans a4.size h
set_option maxRecDepth 100000 in
theorem LW.put (H : LW w0 w s h E a last A X) (hE : E.length ≤ 1000) (k : ByteArray) (hk : 0 < k.size ∧ k.size ≤ 100) : Calls Tryz.prog 34 #[ptr s, .string k] w fun e w' => e = .returned (.tuple #[]) ∧ Hid (∃ ev, LW w0 w' s h (E ++ [ev]) a last A X ∧ evP E k ev) := by
  have hw := H.write
  clear H
  go_enter Tryz.func34, Tryz.ntmps34
  go_wp2_with (first
    | (go_at_call 11; refine hw.mono ?_; rintro e w1 ⟨b, rfl, HW⟩; have hp := HW.out.put hE k ⟨#[118]⟩ hk (by decide))
    | (go_at_call 15; refine hp.mono ?_; rintro e w2 ⟨rfl, HP⟩; have hd := HP.out.done hE)
    | (go_at_call 17; refine hd.mono ?_; rintro e w3 ⟨r, rfl, HD⟩))
  first | go_end0 | refine bodyPost_ret (results_none rfl _ _ _) rfl ?_
  exact ⟨rfl, HD⟩
theorem LW.watch (H : LW w0 w s h E a last A X) (hl : last < 900) (lo hi : ByteArray) (from_ : Int) (hls : lo.size ≤ 1000000) (hhs : hi.size ≤ 1000000) (hf : from_ ≤ 1000000000) :
    Calls Tryz.prog 21 #[ptr h, .string lo, .string hi, .int .i64 from_] w fun e w' => e = .returned (.int .i64 ((last : Int) + 1)) ∧ Hid (LW w0 w' s h E a (last + 1) (A ++ [(last : Int) + 1]) (setX X ((last : Int) + 1) ⟨lo, hi, max from_ 1, false, [], 0⟩)) := by
  obtain ⟨n, S, g, o, m, G, a1, a2, a3, a4, a5, a6⟩ := H
  refine (watch_any a2 hl lo hi from_ hls hhs hf).mono ?_
  rintro e w' ⟨rfl, G', q1, q2⟩
  exact ⟨rfl, n, S, g, o, m, G', a1.upd q2.upd (fun k hk e => a3 k e hk), q1, fun k hk e => (q2.foot k hk).elim (fun f => a3 k f e) (fun f => by have := a1.sk.st.lt e; omega), a4.trans (q2.upd.below a4.size (fun k hk e => by have := a6 k e; omega)), a5, fun k hk => (q2.foot k hk).elim (a6 k) (fun f => Nat.le_trans a4.size f)⟩
theorem LW.len (H : LW w0 w s h E a last A X) : Calls Tryz.prog 30 #[ptr h] w fun e w' => e = .returned (.int .i64 A.length) ∧ w' = w := by
  obtain ⟨n, S, g, o, m, G, a1, a2, -⟩ := H
  exact len_any a2
theorem LW.none_ (H : LW w0 w s h E a last A X) (id most : Int) (hi : isI id) (hid : id ∉ A) : Calls Tryz.prog 23 #[ptr h, .int .i64 id, .int .i64 most] w fun e w' => e = .returned (.tuple #[.slice none 0 0, .int .i64 2]) ∧ w' = w := by
  obtain ⟨n, S, g, o, m, G, a1, a2, -⟩ := H
  exact hub_none a2 id most hi hid
theorem LW.feed (H : LW w0 w s h E a last A X) : Calls Tryz.prog 19 #[ptr h] w fun e w' => e = .returned (.tuple #[]) ∧ Hid (LW w0 w' s h E a last A (fun i => feedE E a (X i))) := by
  obtain ⟨n, S, g, o, m, G, a1, a2, a3, a4, a5, a6⟩ := H
  refine (hub_feed a2 a1.sk a3).mono ?_
  rintro e w' ⟨rfl, G', q1, q2⟩
  exact ⟨rfl, n, S, g, o, m, G', a1.upd q2.upd (fun k hk e => a3 k e hk), q1.congr (fun i hi => (feed_pe a1.pe).symm), fun k hk e => (q2.foot k hk).elim (fun f => a3 k f e) (fun f => by have := a1.sk.st.lt e; omega), a4.trans (q2.upd.below a4.size (fun k hk e => by have := a6 k e; omega)), a5, fun k hk => (q2.foot k hk).elim (a6 k) (fun f => Nat.le_trans a4.size f)⟩
theorem LW.poll (H : LW w0 w s h E a last A X) {id : Int} (hid : id ∈ A) (most mo : Int) (hmo : mo = max most 1) :
    Calls Tryz.prog 23 #[ptr h, .int .i64 id, .int .i64 most] w fun e w' => ∃ p c, e = .returned (.tuple #[.slice p (tellE E a (X id) mo).length c, .int .i64 (endE a (X id))]) ∧ Hid (EVs w' (.slice p (tellE E a (X id) mo).length c) (tellE E a (X id) mo) ∧ LW w0 w' s h E a last (if endE a (X id) = 0 then A else delN id A) (setX X id (nextE E a (X id) mo))) := by
  obtain ⟨n, S, g, o, m, G, a1, a2, a3, a4, a5, a6⟩ := H
  have hp := hub_poll a2 a1.sk a3 hid most mo hmo
  unfold pollA at hp
  rw [tell_pe a1.pe, end_pe a1.pe, next_pe a1.pe] at hp
  refine hp.mono ?_
  rintro e w' ⟨p, c, rfl, hq⟩
  obtain ⟨q0, G', q1, q2⟩ := hq.out
  exact ⟨p, c, rfl, EVs.of q0, n, S, g, o, m, G', a1.upd q2.upd (fun k hk e => a3 k e hk), q1, fun k hk e => (q2.foot k hk).elim (fun f => a3 k f e) (fun f => by have := a1.sk.st.lt e; omega), a4.trans (q2.upd.below a4.size (fun k hk e => by have := a6 k e; omega)), a5, fun k hk => (q2.foot k hk).elim (a6 k) (fun f => Nat.le_trans a4.size f)⟩
theorem LW.below (H : LW w0 w s h E a last A X) : Below w0.heap.size w0 w := by
  obtain ⟨n, S, g, o, m, G, a1, a2, a3, a4, -⟩ := H
  exact a4
theorem LW.revs (H : LW w0 w s h E a last A X) {i : Nat} {e : Evd} (hi : E[i]? = some e) : e.1 = (i : Int) + 1 := by
  obtain ⟨n, S, g, o, m, G, a1, -⟩ := H
  exact (a1.pe.ev i e hi).1
theorem LW.compact (H : LW w0 w s h E 0 last A X) (hE : E.length ≤ 1000) (c : Nat) (h1 : 1 ≤ c) (h2 : c ≤ E.length) : Calls Tryz.prog 28 #[ptr s, .int .i64 c] w fun e w' => e = .returned (.int .i64 0) ∧ Hid (LW w0 w' s h E c last A X) := by
  obtain ⟨n, S, g, o, m, G, a1, a2, a3, a4, a5, a6⟩ := H
  have hn := a1.n
  have hrev := a1.pe.rev
  have hpast := a1.pe.past
  have hchg : ∀ j, (chg S j).length ≤ j := fun j => by
    induction j with
    | zero => simp [chg]
    | succ j ih => rw [chg_succ, List.length_append]; have := a1.pe.one ((S.past : Int) + 1 + j); omega
  refine (compact_any a1.sk.st a1.la (by omega) c c (by rw [hpast]; omega) h1 (by omega) (by omega) (Nat.le_trans (hchg c) (by omega))).mono ?_
  rintro e w' ⟨rfl, g', q1, q2, q3⟩
  have hP := a1.pe.comp a1.sk.st.hok c
  refine ⟨rfl, n, compS S c, g', o, m, G, ⟨⟨q1, q3.ok, a1.sk.rev, fun p hp => Nat.le_trans (hP.few p hp) (by omega)⟩, hP, hn, q3⟩, a2.upd q2.1 a3, fun j hj e => ?_, a4.trans (q2.1.below a4.size (fun j hj e => by have := a5 j e; omega)), fun j hj => ?_, a6⟩
  · rcases q2.2 j e with h | h
    · exact a3 j hj h
    · have := a2.lt hj; omega
  · rcases q2.2 j hj with h | h
    · exact a5 j h
    · exact Nat.le_trans a4.size h
end
end Go.Proofs.YtjdmgmnndfhmgaaGreat
