/- A store and two hubs of it, in the laws' words. -/
import Derived.Test.YtjdmgmnndfhmgaaOA
import Derived.Test.YtjdmgmnndfhmgaaSE
namespace Go.Proofs.Ytjdmgmnndfhmgaa
open Go Go.RowKit
structure Tw (w0 w : World) (s h g : Nat) (E : List Evd) (la : Nat) (A : List Int) (X : Int → Wd) (lb : Nat) (B : List Int) (Y : Int → Wd) (n : Nat) (S : Sto) (sg : Sg) (o : Value) (ma : Nat) (Ga : Int → Nat × Value) (mb : Nat) (Gb : Int → Nat × Value) : Prop where
  ss : SS n w s S sg o E
  ha : Hb w h s ma la A X Ga
  hb : Hb w g s mb lb B Y Gb
  sa : ∀ k, ftH h ma A Ga k → ¬ ftS s sg k
  sb : ∀ k, ftH g mb B Gb k → ¬ ftS s sg k
  ab : ∀ k, ftH h ma A Ga k → ¬ ftH g mb B Gb k
  bel : Below w0.heap.size w0 w
  fs : ∀ k, ftS s sg k → w0.heap.size ≤ k
  fa : ∀ k, ftH h ma A Ga k → w0.heap.size ≤ k
  fb : ∀ k, ftH g mb B Gb k → w0.heap.size ≤ k
/-- A store, and two hubs of it. -/
def L2 (w0 w : World) (s h g : Nat) (E : List Evd) (la : Nat) (A : List Int) (X : Int → Wd) (lb : Nat) (B : List Int) (Y : Int → Wd) : Prop := ∃ n S sg o ma Ga mb Gb, Tw w0 w s h g E la A X lb B Y n S sg o ma Ga mb Gb
/-- The same, and a row that was told. -/
def L3 (w0 w : World) (s h g : Nat) (E : List Evd) (la : Nat) (A : List Int) (X : Int → Wd) (lb : Nat) (B : List Int) (Y : Int → Wd) (v : Value) (l : List Evd) : Prop := ∃ n S sg o ma Ga mb Gb, Tw w0 w s h g E la A X lb B Y n S sg o ma Ga mb Gb ∧ w.ownsRow 0 37 8 v l.length (evsC l) ∧ ∀ k, v.ownBlock = some k → ¬ ftH g mb B Gb k
def pE (A : List Int) (X : Int → Wd) (id : Int) : Int := if id ∈ A then endE (X id) else 2
def pL (E : List Evd) (A : List Int) (X : Int → Wd) (id mo : Int) : List Evd := if id ∈ A then tellE E (X id) mo else []
def pA (A : List Int) (X : Int → Wd) (id : Int) : List Int := if id ∈ A then (if endE (X id) = 0 then A else delN id A) else A
def pX (E : List Evd) (A : List Int) (X : Int → Wd) (id mo : Int) : Int → Wd := if id ∈ A then setX X id (nextE E (X id) mo) else X
section
variable {w0 w : World} {s h g : Nat} {E : List Evd} {la : Nat} {A : List Int} {X : Int → Wd} {lb : Nat} {B : List Int} {Y : Int → Wd} {n : Nat} {S : Sto} {sg : Sg} {o : Value} {ma : Nat} {Ga : Int → Nat × Value} {mb : Nat} {Gb : Int → Nat × Value}
theorem Tw.swap (H : Tw w0 w s h g E la A X lb B Y n S sg o ma Ga mb Gb) : Tw w0 w s g h E lb B Y la A X n S sg o mb Gb ma Ga := ⟨H.ss, H.hb, H.ha, H.sb, H.sa, fun k hk e => H.ab k e hk, H.bel, H.fs, H.fb, H.fa⟩
theorem L2.swap (H : L2 w0 w s h g E la A X lb B Y) : L2 w0 w s g h E lb B Y la A X := by
  obtain ⟨n, S, sg, o, ma, Ga, mb, Gb, T⟩ := H
  exact ⟨n, S, sg, o, mb, Gb, ma, Ga, T.swap⟩
theorem L2.below (H : L2 w0 w s h g E la A X lb B Y) : Below w0.heap.size w0 w := by
  obtain ⟨n, S, sg, o, ma, Ga, mb, Gb, T⟩ := H
  exact T.bel
/-- What a call of the first hub leaves. -/
theorem Tw.kp {w' : World} {la' : Nat} {A' : List Int} {X' : Int → Wd} {Ga' : Int → Nat × Value} (T : Tw w0 w s h g E la A X lb B Y n S sg o ma Ga mb Gb) (H : Hb w' h s ma la' A' X' Ga') (K : Kp w w' h ma A A' Ga Ga') : Tw w0 w' s h g E la' A' X' lb B Y n S sg o ma Ga' mb Gb :=
  ⟨T.ss.upd K.upd (fun k hk e => T.sa k e hk), H, T.hb.upd K.upd (fun k hk e => T.ab k e hk), fun k hk e => (K.foot k hk).elim (fun f => T.sa k f e) (fun f => by have := T.ss.sk.st.lt e; omega), T.sb, fun k hk e => (K.foot k hk).elim (fun f => T.ab k f e) (fun f => by have := T.hb.lt e; omega),
   T.bel.trans (K.upd.below T.bel.size (fun k hk e => by have := T.fa k e; omega)), T.fs, fun k hk => (K.foot k hk).elim (T.fa k) (fun f => Nat.le_trans T.bel.size f), T.fb⟩
theorem LW.two (H : LW w0 w s h E la A X) (Y : Int → Wd) : Calls Try.prog 7 #[ptr s] w fun e w' => ∃ g, e = .returned (ptr g) ∧ Hid (L2 w0 w' s h g E la A X 0 [] Y) := by
  obtain ⟨n, S, sg, o, m, G, a1, a2, a3, a4, a5, a6⟩ := H
  refine (hub_new w s Y (fun _ => (0, .slice none 0 0))).mono ?_
  rintro e w' ⟨g, mb, rfl, q1, q2, q3, q4⟩
  have hf : ∀ k, ftH g mb [] (fun _ => ((0, .slice none 0 0) : Nat × Value)) k → w.heap.size ≤ k := by
    rintro k (rfl | rfl | ⟨i, hi, _⟩)
    · exact q3
    · exact q4
    · cases hi
  exact ⟨g, rfl, n, S, sg, o, m, G, mb, _, a1.upd (T := fun _ => False) (Upd.ofBelow q2) (fun _ _ e => e), a2.below q2, q1, a3, fun k hk e => by have := hf k hk; have := a1.sk.st.lt e; omega, fun k hk e => by have := hf k e; have := a2.lt hk; omega, a4.trans (q2.mono a4.size), a5, a6, fun k hk => Nat.le_trans a4.size (hf k hk)⟩
theorem L2.watch (H : L2 w0 w s h g E la A X lb B Y) (hl : la < 900) (lo hi : ByteArray) (from_ : Int) (hls : lo.size ≤ 1000000) (hhs : hi.size ≤ 1000000) (hf : from_ ≤ 1000000000) :
    Calls Try.prog 8 #[ptr h, .string lo, .string hi, .int .i64 from_] w fun e w' => e = .returned (.int .i64 ((la : Int) + 1)) ∧ Hid (L2 w0 w' s h g E (la + 1) (A ++ [(la : Int) + 1]) (setX X ((la : Int) + 1) ⟨lo, hi, max from_ 1, false, [], 0⟩) lb B Y) := by
  obtain ⟨n, S, sg, o, ma, Ga, mb, Gb, T⟩ := H
  refine (watch_any T.ha hl lo hi from_ hls hhs hf).mono ?_
  rintro e w' ⟨rfl, G', q1, q2⟩
  exact ⟨rfl, n, S, sg, o, ma, G', mb, Gb, T.kp q1 q2⟩
theorem L2.feed (H : L2 w0 w s h g E la A X lb B Y) : Calls Try.prog 12 #[ptr h] w fun e w' => e = .returned (.tuple #[]) ∧ Hid (L2 w0 w' s h g E la A (fun i => feedE E (X i)) lb B Y) := by
  obtain ⟨n, S, sg, o, ma, Ga, mb, Gb, T⟩ := H
  refine (hub_feed T.ha T.ss.sk T.sa).mono ?_
  rintro e w' ⟨rfl, G', q1, q2⟩
  exact ⟨rfl, n, S, sg, o, ma, G', mb, Gb, T.kp (q1.congr (fun i hi => (feed_pe T.ss.pe (T.ha.ok i hi)).symm)) q2⟩
set_option maxRecDepth 100000 in
theorem ss_put11 (H : SS n w s S sg o E) (hE : E.length ≤ 1000) (k : ByteArray) (hk : 0 < k.size ∧ k.size ≤ 100) : Calls Try.prog 11 #[ptr s, .string k] w fun e w' => e = .returned (.tuple #[]) ∧ Hid (Pu w w' s sg E k) := by
  have hw := ss_write H
  have HH := Hid.mkW H
  clear H
  go_enter Try.func11, Try.ntmps11
  go_wp2_with (first
    | (go_at_call 15; refine hw.mono ?_; rintro e w1 ⟨b, rfl, HW⟩; have hp := ss_put HH.out HW.out hE k ⟨#[118]⟩ hk (by decide))
    | (go_at_call 16; refine hp.mono ?_; rintro e w2 ⟨rfl, HP⟩; obtain ⟨W2, hW2, hO2⟩ := HP.out; have hd := ss_done HH.out hW2 hE k hO2)
    | (go_at_call 17; refine hd.mono ?_; rintro e w3 ⟨r, rfl, HD⟩))
  first | go_end0 | refine bodyPost_ret (results_none rfl _ _ _) rfl ?_
  exact ⟨rfl, HD⟩
theorem L2.put (H : L2 w0 w s h g E la A X lb B Y) (hE : E.length ≤ 1000) (k : ByteArray) (hk : 0 < k.size ∧ k.size ≤ 100) : Calls Try.prog 11 #[ptr s, .string k] w fun e w' => e = .returned (.tuple #[]) ∧ Hid (∃ ev, L2 w0 w' s h g (E ++ [ev]) la A X lb B Y) := by
  obtain ⟨n, S, sg, o, ma, Ga, mb, Gb, T⟩ := H
  refine (ss_put11 T.ss hE k hk).mono ?_
  rintro e w' ⟨rfl, q⟩
  obtain ⟨n', S', g', o', kv, q2, q3, q4, q5⟩ := q.out
  refine ⟨rfl, _, n', S', g', o', ma, Ga, mb, Gb, q2, T.ha.upd q4 T.sa, T.hb.upd q4 T.sb, fun j hj e => ?_, fun j hj e => ?_, T.ab, T.bel.trans (q4.below T.bel.size (fun j hj e => by have := T.fs j e; omega)), fun j hj => ?_, T.fa, T.fb⟩
  · rcases q5 j e with h | h
    · exact T.sa j hj h
    · have := T.ha.lt hj; omega
  · rcases q5 j e with h | h
    · exact T.sb j hj h
    · have := T.hb.lt hj; omega
  · rcases q5 j hj with h | h
    · exact T.fs j h
    · exact Nat.le_trans T.bel.size h
theorem Tw.poll (T : Tw w0 w s h g E la A X lb B Y n S sg o ma Ga mb Gb) (id : Int) (hi : isI id) (most mo : Int) (hmo : mo = max most 1) :
    Calls Try.prog 9 #[ptr h, .int .i64 id, .int .i64 most] w fun e w' => ∃ p c, e = .returned (.tuple #[.slice p (pL E A X id mo).length c, .int .i64 (pE A X id)]) ∧ Hid (∃ Ga', Tw w0 w' s h g E la (pA A X id) (pX E A X id mo) lb B Y n S sg o ma Ga' mb Gb ∧ w'.ownsRow w.heap.size 37 8 (.slice p (pL E A X id mo).length c) (pL E A X id mo).length (evsC (pL E A X id mo)) ∧ Kp w w' h ma A (pA A X id) Ga Ga') := by
  by_cases hid : id ∈ A
  · have hok := T.ha.ok id hid
    have hp := hub_poll T.ha T.ss.sk T.sa hid most mo hmo
    unfold pollA at hp
    rw [tell_pe T.ss.pe hok, end_pe T.ss.pe hok, next_pe T.ss.pe hok] at hp
    unfold pL pE pA pX
    simp only [if_pos hid]
    refine hp.mono ?_
    rintro e w' ⟨p, c, rfl, hq⟩
    obtain ⟨q0, G', q1, q2⟩ := hq.out
    exact ⟨p, c, rfl, G', T.kp q1 q2, q0, q2⟩
  · unfold pL pE pA pX
    simp only [if_neg hid]
    refine (hub_none T.ha id most hi hid).mono ?_
    rintro e w' ⟨rfl, hw'⟩
    obtain rfl := hw'.symm
    exact ⟨none, 0, rfl, Ga, T, World.ownsRow_nil _ _ _ _, Upd.refl _ _, fun k hk => .inl hk⟩
theorem L2.poll (H : L2 w0 w s h g E la A X lb B Y) (id : Int) (hi : isI id) (most mo : Int) (hmo : mo = max most 1) :
    Calls Try.prog 9 #[ptr h, .int .i64 id, .int .i64 most] w fun e w' => ∃ p c, e = .returned (.tuple #[.slice p (pL E A X id mo).length c, .int .i64 (pE A X id)]) ∧ Hid (L3 w0 w' s h g E la (pA A X id) (pX E A X id mo) lb B Y (.slice p (pL E A X id mo).length c) (pL E A X id mo)) := by
  obtain ⟨n, S, sg, o, ma, Ga, mb, Gb, T⟩ := H
  refine (T.poll id hi most mo hmo).mono ?_
  rintro e w' ⟨p, c, rfl, hq⟩
  obtain ⟨Ga', q1, q2, q3⟩ := hq.out
  refine ⟨p, c, rfl, n, S, sg, o, ma, Ga', mb, Gb, q1, ownsRow_base q2 (Nat.zero_le _), fun k hk e => ?_⟩
  have := (q2.lt k hk).1
  have := T.hb.lt e
  omega
theorem L3.two {v : Value} {l : List Evd} (H : L3 w0 w s h g E la A X lb B Y v l) : L2 w0 w s h g E la A X lb B Y := by
  obtain ⟨n, S, sg, o, ma, Ga, mb, Gb, T, -⟩ := H
  exact ⟨n, S, sg, o, ma, Ga, mb, Gb, T⟩
/-- The other hub is polled: the row stays. -/
theorem L3.poll {v : Value} {l : List Evd} (H : L3 w0 w s h g E la A X lb B Y v l) (id : Int) (hi : isI id) (most mo : Int) (hmo : mo = max most 1) :
    Calls Try.prog 9 #[ptr g, .int .i64 id, .int .i64 most] w fun e w' => ∃ p c, e = .returned (.tuple #[.slice p (pL E B Y id mo).length c, .int .i64 (pE B Y id)]) ∧ Hid (L2 w0 w' s h g E la A X lb (pA B Y id) (pX E B Y id mo) ∧ EVs w' v l ∧ EVs w' (.slice p (pL E B Y id mo).length c) (pL E B Y id mo)) := by
  obtain ⟨n, S, sg, o, ma, Ga, mb, Gb, T, h1, h2⟩ := H
  refine (T.swap.poll id hi most mo hmo).mono ?_
  rintro e w' ⟨p, c, rfl, hq⟩
  obtain ⟨Gb', q1, q2, q3⟩ := hq.out
  exact ⟨p, c, rfl, ⟨n, S, sg, o, ma, Ga, mb, Gb', q1.swap⟩, EVs.of (ownsRow_upd h1 q3.upd (fun k hk e => h2 k hk e)), EVs.of q2⟩
end
end Go.Proofs.Ytjdmgmnndfhmgaa
