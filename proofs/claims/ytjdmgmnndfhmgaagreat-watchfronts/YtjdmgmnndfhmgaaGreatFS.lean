/- A store of any writes and a hub of one watcher, beside two rows and a call that are not theirs. -/
import Derived.Test.YtjdmgmnndfhmgaaGreatGRX
import Derived.Test.YtjdmgmnndfhmgaaGreatFC
import Derived.Test.YtjdmgmnndfhmgaaGreatOA
import Derived.Test.YtjdmgmnndfhmgaaGreatSE
namespace Go.Proofs.YtjdmgmnndfhmgaaGreat
open Go Go.RowKit
structure FSx (w0 w : World) (s h i : Nat) (S : Sto) (A : List Int) (x : Wd) (K : Nat → Prop) (n : Nat) (g : Sg) (o : Value) (m : Nat) (G : Int → Nat × Value) : Prop where
  gs : GS n w s S g o i
  hb : Hb w h s m 1 A (fun _ => x) G
  sep : ∀ k, ftH h m A G k → ¬ ftS s g k
  lows : ∀ k, ftS s g k → w0.heap.size ≤ k
  lowh : ∀ k, ftH h m A G k → w0.heap.size ≤ k
  kd : ∀ k, K k → ¬ ftS s g k ∧ ¬ ftH h m A G k
  bel : Below w0.heap.size w0 w
  kl : ∀ k, K k → k < w.heap.size
  kg : ∀ k, K k → w0.heap.size ≤ k
def FS (w0 w : World) (s h i : Nat) (S : Sto) (A : List Int) (x : Wd) (K : Nat → Prop) : Prop := ∃ n g o m G, FSx w0 w s h i S A x K n g o m G
/-- Rows of changes, and a call's box. -/
structure RR (w0 w : World) (K : Nat → Prop) (va : Value) (al : List Evd) (vt : Value) (told : List Evd) (c : Option (Nat × Array Value)) : Prop where
  ra : w.ownsRow w0.heap.size 63 8 va al.length (evsC al)
  rt : w.ownsRow w0.heap.size 63 8 vt told.length (evsC told)
  ka : ∀ k, va.ownBlock = some k → K k
  kt : ∀ k, vt.ownBlock = some k → K k
  ne : ∀ k, va.ownBlock = some k → vt.ownBlock ≠ some k
  cb : ∀ q, c = some q → K q.1 ∧ w.heap[q.1]? = some (.cells q.2 39 (0, 0)) ∧ va.ownBlock ≠ some q.1 ∧ vt.ownBlock ≠ some q.1
def Sx (w0 w : World) (s h i : Nat) (S : Sto) (A : List Int) (x : Wd) (va : Value) (al : List Evd) (vt : Value) (told : List Evd) (c : Option (Nat × Array Value)) : Prop := ∃ K, FS w0 w s h i S A x K ∧ RR w0 w K va al vt told c
section
variable {w0 w w' : World} {s h i : Nat} {S : Sto} {A : List Int} {x : Wd} {K K' : Nat → Prop} {n : Nat} {g : Sg} {o : Value} {m : Nat} {G : Int → Nat × Value} {va vt : Value} {al told : List Evd} {c : Option (Nat × Array Value)}
theorem RR.upd (H : RR w0 w K va al vt told c) (hk : ∀ k, K k → k < w.heap.size) (hu : Upd w w' (fun k => ¬ K k)) : RR w0 w' K va al vt told c :=
  ⟨ownsRow_upd H.ra hu (fun k hk e => e (H.ka k hk)), ownsRow_upd H.rt hu (fun k hk e => e (H.kt k hk)), H.ka, H.kt, H.ne, fun q hq => ⟨(H.cb q hq).1, (hu.block q.1 (hk _ (H.cb q hq).1) (fun e => e (H.cb q hq).1)).trans (H.cb q hq).2.1, (H.cb q hq).2.2⟩⟩
theorem RR.swap (H : RR w0 w K va al vt told c) : RR w0 w K vt told va al c := ⟨H.rt, H.ra, H.kt, H.ka, fun k h1 h2 => H.ne k h2 h1, fun q hq => ⟨(H.cb q hq).1, (H.cb q hq).2.1, (H.cb q hq).2.2.2, (H.cb q hq).2.2.1⟩⟩
theorem FSx.free (H : FSx w0 w s h i S A x K n g o m G) {k : Nat} (hk : ftS s g k) : ¬ K k := fun e => (H.kd k e).1 hk
theorem FSx.freeh (H : FSx w0 w s h i S A x K n g o m G) {k : Nat} (hk : ftH h m A G k) : ¬ K k := fun e => (H.kd k e).2 hk
/-- What the law does by itself. -/
theorem FS.own (H : FS w0 w s h i S A x K) (hu : Upd w w' K) : FS w0 w' s h i S A x (fun k => K k ∨ w.heap.size ≤ k ∧ k < w'.heap.size) := by
  obtain ⟨n, g, o, m, G, H⟩ := H
  refine ⟨n, g, o, m, G, H.gs.upd hu (fun k hk => H.free hk), H.hb.upd hu (fun k hk => H.freeh hk), H.sep, H.lows, H.lowh, ?_, H.bel.trans (hu.below H.bel.size (fun k hk e => by have := H.kg k e; omega)), ?_, ?_⟩
  · rintro k (e | ⟨e, _⟩)
    · exact H.kd k e
    · exact ⟨fun hk => by have := H.gs.st.lt hk; omega, fun hk => by have := H.hb.lt hk; omega⟩
  · rintro k (e | ⟨_, e⟩)
    · exact Nat.lt_of_lt_of_le (H.kl k e) hu.size
    · exact e
  · rintro k (e | ⟨e, _⟩)
    · exact H.kg k e
    · exact Nat.le_trans H.bel.size e
theorem FS.kl (H : FS w0 w s h i S A x K) : ∀ k, K k → k < w.heap.size := by
  obtain ⟨n, g, o, m, G, H⟩ := H
  exact H.kl
theorem FS.bel (H : FS w0 w s h i S A x K) : Below w0.heap.size w0 w := by
  obtain ⟨n, g, o, m, G, H⟩ := H
  exact H.bel
theorem RR.grow (H : RR w0 w K va al vt told c) (hK : ∀ k, K k → K' k) : RR w0 w K' va al vt told c := ⟨H.ra, H.rt, fun k e => hK k (H.ka k e), fun k e => hK k (H.kt k e), H.ne, fun q hq => ⟨hK _ (H.cb q hq).1, (H.cb q hq).2⟩⟩
theorem Sx.below (H : Sx w0 w s h i S A x va al vt told c) (hb : Below w.heap.size w w') : Sx w0 w' s h i S A x va al vt told c := by
  obtain ⟨K, H, R⟩ := H
  exact ⟨_, H.own (Upd.ofBelow hb), (R.upd H.kl (Upd.ofBelow hb)).grow (fun k e => .inl e)⟩
theorem Sx.box (H : Sx w0 w s h i S A x va al vt told c) (hb : Below w.heap.size w w') (b : Nat) (r : Array Value) (hbk : w.heap.size ≤ b) (hr : w'.heap[b]? = some (.cells r 39 (0, 0))) : Sx w0 w' s h i S A x va al vt told (some (b, r)) := by
  obtain ⟨K, H, R⟩ := H
  have R' := R.upd H.kl (Upd.ofBelow hb)
  refine ⟨_, H.own (Upd.ofBelow hb), ⟨R'.ra, R'.rt, fun k e => .inl (R.ka k e), fun k e => .inl (R.kt k e), R.ne, ?_⟩⟩
  rintro q rfl'
  cases rfl'
  exact ⟨.inr ⟨hbk, (Array.getElem?_eq_some_iff.1 hr).1⟩, hr, fun e => by have := H.kl _ (R.ka _ e); omega, fun e => by have := H.kl _ (R.kt _ e); omega⟩
theorem Sx.drop (H : Sx w0 w s h i S A x va al vt told c) : Sx w0 w s h i S A x va al vt told none := by
  obtain ⟨K, H, R⟩ := H
  exact ⟨K, H, R.ra, R.rt, R.ka, R.kt, R.ne, fun q hq => by cases hq⟩
theorem Sx.bel (H : Sx w0 w s h i S A x va al vt told c) : Below w0.heap.size w0 w := by
  obtain ⟨K, H, R⟩ := H
  exact H.bel
theorem Sx.app {w2 : World} {v' : Value} {l : List Evd} (H : Sx w0 w s h i S A x va al vt told c) (hb : Below w.heap.size w w2) (q1 : w'.ownsRow w0.heap.size 63 8 v' (al.length + l.length) (evsC al ++ evsC l)) (q2 : Upd w2 w' (fun k => some k = va.ownBlock)) (q3 : v'.ownBlock = va.ownBlock ∨ v'.ownBlock = some w2.heap.size) :
    Sx w0 w' s h i S A x v' (al ++ l) vt told c ∧ Upd w w' (fun k => va.ownBlock = some k) := by
  obtain ⟨K, H, R⟩ := H
  have hu : Upd w w' (fun k => va.ownBlock = some k) := (Upd.ofBelow hb).trans q2 (fun k _ e => e.symm)
  have hK : Upd w w' K := hu.mono (fun k _ e => R.ka k e)
  have hnew : ∀ k, v'.ownBlock = some k → va.ownBlock = some k ∨ w.heap.size ≤ k ∧ k < w'.heap.size := fun k e => by
    rcases q3 with q | q
    · exact .inl (q ▸ e)
    · right
      rw [q] at e
      cases e
      exact ⟨hb.size, (q1.lt _ q).2⟩
  refine ⟨⟨_, H.own hK, ⟨?_, ownsRow_upd R.rt hu (fun k hk e => R.ne k e hk), ?_, fun k e => .inl (R.kt k e), ?_, ?_⟩⟩, hu⟩
  · rw [List.length_append, evsC_app]; exact q1
  · intro k e
    rcases hnew k e with e | e
    · exact .inl (R.ka k e)
    · exact .inr e
  · intro k e e2
    rcases hnew k e with e | e
    · exact R.ne k e e2
    · have := H.kl k (R.kt k e2); omega
  · intro q hq
    obtain ⟨c1, c2, c3, c4⟩ := R.cb q hq
    refine ⟨.inl c1, (hu.block q.1 (H.kl _ c1) c3).trans c2, fun e => ?_, c4⟩
    rcases hnew _ e with e | e
    · exact c3 e
    · have := H.kl _ c1; omega
theorem Sx.appT {w2 : World} {v' : Value} {l : List Evd} (H : Sx w0 w s h i S A x va al vt told c) (hb : Below w.heap.size w w2) (q1 : w'.ownsRow w0.heap.size 63 8 v' (told.length + l.length) (evsC told ++ evsC l)) (q2 : Upd w2 w' (fun k => some k = vt.ownBlock)) (q3 : v'.ownBlock = vt.ownBlock ∨ v'.ownBlock = some w2.heap.size) :
    Sx w0 w' s h i S A x va al v' (told ++ l) c := by
  obtain ⟨K, H, R⟩ := H
  obtain ⟨⟨K', H', R'⟩, _⟩ := Sx.app (va := vt) (vt := va) ⟨K, H, R.swap⟩ hb q1 q2 q3
  exact ⟨K', H', R'.swap⟩
/-- A call of the program's that leaves the law's own alone. -/
theorem Sx.of (R : RR w0 w K va al vt told c) (hk : ∀ k, K k → k < w.heap.size) {i' : Nat} {S' : Sto} {A' : List Int} {x' : Wd} (H : FS w0 w' s h i' S' A' x' K) (hu : Upd w w' (fun k => ¬ K k)) : Sx w0 w' s h i' S' A' x' va al vt told c := ⟨K, H, R.upd hk hu⟩
theorem Sx.past (H : Sx w0 w s h i S A x va al vt told c) : S.past ≤ S.rev ∧ S.rev ≤ i ∧ (∃ g, LgAll S g) ∧ ∀ k, HOk k S.rev (S.kh k) := by
  obtain ⟨K, ⟨n, g, o, m, G, H⟩, R⟩ := H
  exact ⟨H.gs.st.past, H.gs.rev, ⟨g, H.gs.la⟩, H.gs.st.hok⟩
theorem Sx.rev (H : Sx w0 w s h i S A x va al vt told c) : Calls Tryz.prog 31 #[ptr s] w fun e w' => e = .returned (.int .i64 S.rev) ∧ w' = w := by
  obtain ⟨K, ⟨n, g, o, m, G, H⟩, R⟩ := H
  exact rev_st H.gs.st
theorem Sx.more (H : Sx w0 w s h i S A x va al vt told c) : Sx w0 w s h (i + 1) S A x va al vt told c := by
  obtain ⟨K, ⟨n, g, o, m, G, H⟩, R⟩ := H
  exact ⟨K, ⟨n, g, o, m, G, H.gs.more, H.hb, H.sep, H.lows, H.lowh, H.kd, H.bel, H.kl, H.kg⟩, R⟩
theorem FSx.hub {A' : List Int} {x' : Wd} {G' : Int → Nat × Value} (H : FSx w0 w s h i S A x K n g o m G) (hb : Hb w' h s m 1 A' (fun _ => x') G') (hp : Kp w w' h m A A' G G') : FS w0 w' s h i S A' x' K ∧ Upd w w' (fun k => ¬ K k) := by
  refine ⟨⟨n, g, o, m, G', H.gs.upd hp.upd (fun k hk e => H.sep k e hk), hb, fun k hk e => ?_, H.lows, fun k hk => ?_, fun k hk => ⟨(H.kd k hk).1, fun e => ?_⟩, H.bel.trans (hp.upd.below H.bel.size (fun k hk e => by have := H.lowh k e; omega)), fun k hk => Nat.lt_of_lt_of_le (H.kl k hk) hp.upd.size, H.kg⟩, hp.upd.mono (fun k _ e => H.freeh e)⟩
  · rcases hp.foot k hk with f | f
    · exact H.sep k f e
    · have := H.gs.st.lt e; omega
  · rcases hp.foot k hk with f | f
    · exact H.lowh k f
    · exact Nat.le_trans H.bel.size f
  · rcases hp.foot k e with f | f
    · exact (H.kd k hk).2 f
    · have := H.kl k hk; omega
theorem FSx.sto {i' n' : Nat} {S' : Sto} {g' : Sg} {o' : Value} (H : FSx w0 w s h i S A x K n g o m G) (hg : GS n' w' s S' g' o' i') (hp : KpM w w' s g g') : FS w0 w' s h i' S' A x K ∧ Upd w w' (fun k => ¬ K k) := by
  refine ⟨⟨n', g', o', m, G, hg, H.hb.upd hp.1 H.sep, fun k hk e => ?_, fun k hk => ?_, H.lowh, fun k hk => ⟨fun e => ?_, (H.kd k hk).2⟩, H.bel.trans (hp.1.below H.bel.size (fun k hk e => by have := H.lows k e; omega)), fun k hk => Nat.lt_of_lt_of_le (H.kl k hk) hp.1.size, H.kg⟩, hp.1.mono (fun k _ e => H.free e)⟩
  · rcases hp.2 k e with f | f
    · exact H.sep k hk f
    · have := H.hb.lt hk; omega
  · rcases hp.2 k hk with f | f
    · exact H.lows k f
    · exact Nat.le_trans H.bel.size f
  · rcases hp.2 k e with f | f
    · exact (H.kd k hk).1 f
    · have := H.kl k hk; omega
theorem Sx.feed (H : Sx w0 w s h i S A x va al vt told c) (hi : i ≤ 100) : Calls Tryz.prog 19 #[ptr h] w fun e w' => e = .returned (.tuple #[]) ∧ Hid (Sx w0 w' s h i S A (feedX S x) va al vt told c) := by
  obtain ⟨K, ⟨n, g, o, m, G, H⟩, R⟩ := H
  refine (hub_feed H.hb (H.gs.sk hi) H.sep).mono ?_
  rintro e w' ⟨rfl, G', q1, q2⟩
  obtain ⟨f1, f2⟩ := H.hub q1 q2
  exact ⟨rfl, Sx.of R H.kl f1 f2⟩
theorem Sx.none_ (H : Sx w0 w s h i S [] x va al vt told c) (most : Int) : Calls Tryz.prog 23 #[ptr h, .int .i64 1, .int .i64 most] w fun e w' => e = .returned (.tuple #[.slice none 0 0, .int .i64 2]) ∧ w' = w := by
  obtain ⟨K, ⟨n, g, o, m, G, H⟩, R⟩ := H
  exact hub_none H.hb 1 most (by decide) (by simp)
theorem Sx.poll (H : Sx w0 w s h i S [1] x va al vt told c) (hi : i ≤ 100) (most mo : Int) (hmo : mo = max most 1) :
    Calls Tryz.prog 23 #[ptr h, .int .i64 1, .int .i64 most] w fun e w' => ∃ p q, e = .returned (.tuple #[.slice p (pollL S x mo).length q, .int .i64 (pollE S x)]) ∧ Hid (w'.ownsRow w.heap.size 63 8 (.slice p (pollL S x mo).length q) (pollL S x mo).length (evsC (pollL S x mo)) ∧ Sx w0 w' s h i S (if pollE S x = 0 then [1] else []) (pollX S x mo) va al vt told c) := by
  obtain ⟨K, ⟨n, g, o, m, G, H⟩, R⟩ := H
  refine (hub_poll H.hb (H.gs.sk hi) H.sep (id := 1) (by simp) most mo hmo).mono ?_
  rintro e w' ⟨p, q, rfl, hq⟩
  obtain ⟨q0, G', q1, q2⟩ := hq.out
  have eA : pollA S [1] x 1 = (if pollE S x = 0 then [1] else []) := by
    unfold pollA
    split
    · rfl
    · decide
  have q1' : Hb w' h s m 1 (pollA S [1] x 1) (fun _ => pollX S x mo) G' := q1.congr (fun j hj => by
    have : j = 1 := by
      rw [eA] at hj
      split at hj
      · simpa using hj
      · cases hj
    subst this
    rw [setX_same])
  obtain ⟨f1, f2⟩ := H.hub q1' q2
  rw [eA] at f1
  exact ⟨p, q, rfl, q0, Sx.of R H.kl f1 f2⟩
theorem Sx.compact (H : Sx w0 w s h i S A x va al vt told c) (hi : i ≤ 90) (r : Nat) (h1 : 1 ≤ r) (h2 : r ≤ S.rev) (h3 : S.past < r) : Calls Tryz.prog 28 #[ptr s, .int .i64 r] w fun e w' => e = .returned (.int .i64 0) ∧ Hid (Sx w0 w' s h i (compS S r) A x va al vt told c) := by
  obtain ⟨K, ⟨n, g, o, m, G, H⟩, R⟩ := H
  refine (gs_compact H.gs hi r h1 h2 h3).mono ?_
  rintro e w' ⟨rfl, hq⟩
  obtain ⟨g', q1, q2⟩ := hq.out
  obtain ⟨f1, f2⟩ := H.sto q1 q2
  exact ⟨rfl, Sx.of R H.kl f1 f2⟩
theorem Sx.compactNo (H : Sx w0 w s h i S A x va al vt told c) (r : Nat) (h1 : 1 ≤ r) (h2 : r ≤ S.rev) (h3 : ¬ S.past < r) : Calls Tryz.prog 28 #[ptr s, .int .i64 r] w fun e w' => e = .returned (.int .i64 16) ∧ w' = w := by
  obtain ⟨K, ⟨n, g, o, m, G, H⟩, R⟩ := H
  exact compact_past H.gs.st r (by omega) (by omega) (by omega)
theorem Sx.since (H : Sx w0 w s h i S A x va al vt told c) (hi : i ≤ 100) (r : Int) (h1 : (S.past : Int) < r) (h2 : r = S.rev) : Calls Tryz.prog 32 #[ptr s, .int .i64 r] w fun e w' => ∃ p q, e = .returned (.tuple #[.slice p (evAt S r).length q, .int .i64 0]) ∧ Hid (EVs w' (.slice p (evAt S r).length q) (evAt S r) ∧ (∀ k, (Value.slice p (evAt S r).length q).ownBlock = some k → w.heap.size ≤ k ∧ k < w'.heap.size) ∧ Below w.heap.size w w') := by
  obtain ⟨K, ⟨n, g, o, m, G, H⟩, R⟩ := H
  have hr := H.gs.rev
  have e1 : evN S r ((S.rev : Int) + 1 - r).toNat = evAt S r := by
    have : ((S.rev : Int) + 1 - r).toNat = 0 + 1 := by omega
    rw [this, evN_succ]
    simp [evN]
  have hlen : (evAt S r).length ≤ 30 := by unfold evAt; rw [List.length_map]; exact H.gs.lgl r
  have := since_any H.gs.st r (by omega) (by omega) (by omega) (by omega) H.gs.la.ok (by rw [e1]; omega)
  rw [e1] at this
  refine this.mono ?_
  rintro e w' ⟨p, q, rfl, q1, q2⟩
  exact ⟨p, q, rfl, EVs.of q1, fun k hk => q1.lt k hk, q2⟩
end
/-- A write under way. -/
def So (w0 w1 w : World) (s h b i : Nat) (S : Sto) (A : List Int) (x : Wd) (va : Value) (al : List Evd) (vt : Value) (told : List Evd) (c : Option (Nat × Array Value)) (j : Nat) : Prop := ∃ K n g o m G W, FSx w0 w1 s h i S A x K n g o m G ∧ RR w0 w1 K va al vt told c ∧ GW w1 w n s b S g W j
section
variable {w0 w1 w : World} {s h b i j : Nat} {S : Sto} {A : List Int} {x : Wd} {va vt : Value} {al told : List Evd} {c : Option (Nat × Array Value)}
theorem Sx.write (H : Sx w0 w s h i S A x va al vt told c) : Calls Tryz.prog 11 #[ptr s] w fun e w' => ∃ b, e = .returned (ptr b) ∧ Hid (So w0 w w' s h b i S A x va al vt told c 0) := by
  obtain ⟨K, ⟨n, g, o, m, G, H⟩, R⟩ := H
  refine (gw_write H.gs).mono ?_
  rintro e w' ⟨b, rfl, hq⟩
  obtain ⟨W, q⟩ := hq.out
  exact ⟨b, rfl, K, n, g, o, m, G, W, H, R, q⟩
theorem So.upd (H : So w0 w1 w s h b i S A x va al vt told c j) : Below w0.heap.size w0 w ∧ ∀ q, c = some q → w.heap[q.1]? = some (.cells q.2 39 (0, 0)) := by
  obtain ⟨K, n, g, o, m, G, W, H, R, Q⟩ := H
  obtain ⟨hh, h1, h2, h3⟩ := Q.wo.ex
  exact ⟨H.bel.trans (h2.below H.bel.size (fun k hk e => by have := H.lows k e; omega)), fun q hq => (h2.block q.1 (H.kl _ (R.cb q hq).1) (fun e => H.free e (R.cb q hq).1)).trans (R.cb q hq).2.1⟩
theorem So.put (H : So w0 w1 w s h b i S A x va al vt told c j) (hi : i ≤ 90) (hj : j < 30) (key : ByteArray) (hk : key.size ≤ 140737488355328) : Calls Tryz.prog 15 #[ptr b, .string key, .string ⟨#[118]⟩, .int .i64 0] w fun e w' => ∃ r, e = .returned (.int .i64 r) ∧ Hid (So w0 w1 w' s h b i S A x va al vt told c (j + 1)) := by
  obtain ⟨K, n, g, o, m, G, W, H, R, Q⟩ := H
  refine (gw_put H.gs Q hi hj key ⟨#[118]⟩ hk (by decide)).mono ?_
  rintro e w' ⟨r, rfl, hq⟩
  obtain ⟨W', q⟩ := hq.out
  exact ⟨r, rfl, K, n, g, o, m, G, W', H, R, q⟩
theorem So.del (H : So w0 w1 w s h b i S A x va al vt told c j) (hi : i ≤ 90) (hj : j < 30) (key : ByteArray) (hk : key.size ≤ 140737488355328) : Calls Tryz.prog 13 #[ptr b, .string key, .string ⟨#[]⟩] w fun e w' => ∃ r, e = .returned (.int .i64 r) ∧ Hid (So w0 w1 w' s h b i S A x va al vt told c (j + 1)) := by
  obtain ⟨K, n, g, o, m, G, W, H, R, Q⟩ := H
  refine (gw_del H.gs Q hi hj key hk).mono ?_
  rintro e w' ⟨r, rfl, hq⟩
  obtain ⟨W', q⟩ := hq.out
  exact ⟨r, rfl, K, n, g, o, m, G, W', H, R, q⟩
theorem So.rev (H : So w0 w1 w s h b i S A x va al vt told c j) : Calls Tryz.prog 31 #[ptr s] w fun e w' => e = .returned (.int .i64 S.rev) ∧ w' = w := by
  obtain ⟨K, n, g, o, m, G, W, H, R, Q⟩ := H
  obtain ⟨hh, h1, h2, h3⟩ := Q.wo.ex
  exact rev_st h1.st
theorem So.done (H : So w0 w1 w s h b i S A x va al vt told c j) (hi : i ≤ 90) (hj : j ≤ 30) :
    (Calls Tryz.prog 17 #[ptr b] w fun e w' => e = .returned (.int .i64 S.rev) ∧ Hid (Sx w0 w' s h (i + 1) S A x va al vt told c)) ∨
    ∃ S' W g, DF S S' W ∧ LgOk S g ∧ S.past ≤ S.rev ∧ Calls Tryz.prog 17 #[ptr b] w fun e w' => e = .returned (.int .i64 ((S.rev : Int) + 1)) ∧ Hid (Sx w0 w' s h (i + 1) S' A x va al vt told c) := by
  obtain ⟨K, n, g, o, m, G, W, H, R, Q⟩ := H
  have hd := gw_done H.gs Q hi hj
  obtain ⟨hh, h1, h2, h3⟩ := Q.wo.ex
  by_cases hk : W.keys = []
  · left
    rw [doneS_none hk] at hd
    refine hd.mono ?_
    rintro e w' ⟨rfl, hq⟩
    obtain ⟨n', g', q1, q2, q3⟩ := hq.out
    obtain ⟨f1, f2⟩ := H.sto q1 q2
    exact ⟨rfl, Sx.of R H.kl f1 f2⟩
  · right
    have D := doneS_df (S := S) hk h1.wr.nd
    refine ⟨doneS S W, W, g, D, H.gs.la.ok, H.gs.st.past, ?_⟩
    have er : ((doneS S W).rev : Int) = (S.rev : Int) + 1 := by rw [D.rev]; omega
    rw [er] at hd
    refine hd.mono ?_
    rintro e w' ⟨rfl, hq⟩
    obtain ⟨n', g', q1, q2, q3⟩ := hq.out
    obtain ⟨f1, f2⟩ := H.sto q1 q2
    exact ⟨rfl, Sx.of R H.kl f1 f2⟩
end
/-- As it begins. -/
def S0 (w0 w : World) (s : Nat) : Prop := ∃ g, GS 0 w s noS g (.pointer none) 0 ∧ Below w0.heap.size w0 w ∧ ∀ k, ftS s g k → w0.heap.size ≤ k
def S1 (w0 w : World) (s h : Nat) : Prop := ∃ g m X G, GS 0 w s noS g (.pointer none) 0 ∧ Hb w h s m 0 [] X G ∧ (∀ k, ftH h m [] G k → ¬ ftS s g k) ∧ Below w0.heap.size w0 w ∧ (∀ k, ftS s g k → w0.heap.size ≤ k) ∧ ∀ k, ftH h m [] G k → w0.heap.size ≤ k
theorem s0_new (w0 w : World) (hb : Below w0.heap.size w0 w) : Calls Tryz.prog 7 #[] w fun e w' => ∃ s, e = .returned (ptr s) ∧ Hid (S0 w0 w' s) := by
  refine (gs_new w).mono ?_
  rintro e w' ⟨s, g, rfl, hq⟩
  obtain ⟨h1, h2, h3⟩ := hq.out
  exact ⟨s, rfl, g, h1, hb.trans (h2.mono hb.size), fun k hk => Nat.le_trans hb.size (h3 k hk)⟩
theorem S0.hub {w0 w : World} {s : Nat} (H : S0 w0 w s) : Calls Tryz.prog 8 #[ptr s] w fun e w' => ∃ h, e = .returned (ptr h) ∧ Hid (S1 w0 w' s h) := by
  obtain ⟨g, h1, h2, h3⟩ := H
  refine (hub_new w s X0 (fun _ => (0, .slice none 0 0))).mono ?_
  rintro e w' ⟨h, m, rfl, q1, q2, q3, q4⟩
  have hf : ∀ k, ftH h m [] (fun _ => ((0, .slice none 0 0) : Nat × Value)) k → w.heap.size ≤ k := by
    rintro k (rfl | rfl | ⟨i, hi, _⟩)
    · exact q3
    · exact q4
    · cases hi
  exact ⟨h, rfl, g, m, _, _, h1.upd (T := fun _ => False) (Upd.ofBelow q2) (fun _ _ e => e), q1, fun k hk e => by have := hf k hk; have := h1.st.lt e; omega, h2.trans (q2.mono h2.size), h3, fun k hk => Nat.le_trans h2.size (hf k hk)⟩
theorem S1.watch {w0 w : World} {s h : Nat} (H : S1 w0 w s h) (lo hi : ByteArray) (f : Int) (hls : lo.size ≤ 1000000) (hhs : hi.size ≤ 1000000) (hf : f ≤ 1000000000) :
    Calls Tryz.prog 21 #[ptr h, .string lo, .string hi, .int .i64 f] w fun e w' => e = .returned (.int .i64 1) ∧ Hid (Sx w0 w' s h 0 noS [1] ⟨lo, hi, max f 1, false, [], 0⟩ (.slice none 0 0) [] (.slice none 0 0) [] none) := by
  obtain ⟨g, m, X, G, a1, a2, a3, a4, a5, a6⟩ := H
  refine (watch_any a2 (by omega) lo hi f hls hhs hf).mono ?_
  rintro e w' ⟨rfl, G', q1, q2⟩
  refine ⟨rfl, fun _ => False, ⟨0, g, _, m, G', a1.upd q2.upd (fun k hk e => a3 k e hk), q1.congr (fun j hj => ?_), fun k hk e => (q2.foot k hk).elim (fun f => a3 k f e) (fun f => by have := a1.st.lt e; omega), a5, fun k hk => (q2.foot k hk).elim (a6 k) (fun f => Nat.le_trans a4.size f), fun k e => e.elim, a4.trans (q2.upd.below a4.size (fun k hk e => by have := a6 k e; omega)), fun k e => e.elim, fun k e => e.elim⟩, ⟨World.ownsRow_nil _ _ _ _, World.ownsRow_nil _ _ _ _, fun k e => (by cases e), fun k e => (by cases e), fun k e => (by cases e), fun q e => (by cases e)⟩⟩
  have : j = ((0 : Nat) : Int) + 1 := by simpa using hj
  subst this
  exact (if_pos rfl).symm
end Go.Proofs.YtjdmgmnndfhmgaaGreat
