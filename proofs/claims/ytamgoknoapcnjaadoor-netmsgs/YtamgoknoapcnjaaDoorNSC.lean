/- Same, decided: metas, messages. -/
import Derived.Test.YtamgoknoapcnjaaDoorNSB
namespace Go.Proofs.YtamgoknoapcnjaaDoor
open Go Go.RowKit
/-- A call that tells whether q. -/
def Tells (fn : Nat) (args : Array Value) (w : World) (q : Prop) : Prop :=
  Calls Tryd.prog fn args w fun e w' => ∃ bo : Bool, e = .returned (.bool bo) ∧ (bo = true ↔ q) ∧ Below w.heap.size w w'
theorem Tells.yes {fn : Nat} {args : Array Value} {w : World} {q : Prop} (h : Tells fn args w q) (hq : q) : Calls Tryd.prog fn args w fun e w' => e = .returned (.bool true) ∧ Below w.heap.size w w' := by
  refine Calls.mono h ?_
  rintro e w' ⟨bo, rfl, hbo, hb⟩
  obtain rfl : bo = true := hbo.2 hq
  exact ⟨rfl, hb⟩
theorem Tells.no {fn : Nat} {args : Array Value} {w : World} {q : Prop} (h : Tells fn args w q) (hq : ¬ q) : Calls Tryd.prog fn args w fun e w' => e = .returned (.bool false) ∧ Below w.heap.size w w' := by
  refine Calls.mono h ?_
  rintro e w' ⟨bo, rfl, hbo, hb⟩
  cases bo
  · exact ⟨rfl, hb⟩
  · exact absurd (hbo.1 rfl) hq
theorem Tells.ofDec {fn : Nat} {args : Array Value} {w : World} {q : Prop} [Decidable q] (h : Calls Tryd.prog fn args w fun e w' => e = .returned (.bool (decide q)) ∧ Below w.heap.size w w') : Tells fn args w q := by
  refine Calls.mono h ?_
  rintro e w' ⟨rfl, hb⟩
  exact ⟨_, rfl, decide_eq_true_iff, hb⟩
theorem sameEnts_dec {Z1 Z2 : Nat → Prop} {w : World} {p q : Option Addr} {c e : Nat} {l l' : List Ent} (h1 : Es Z1 w (.slice p l.length c) l) (h2 : Es Z2 w (.slice q l'.length e) l') (hl : l.length ≤ 1000000) (b1 : ∀ x ∈ l, isB x.d) (b2 : ∀ x ∈ l', isB x.d) :
    Tells 42 #[.slice p l.length c, .slice q l'.length e] w (l = l') := by
  by_cases h : l = l'
  · subst h
    refine (sameEnts_yes h1 h2 hl).mono ?_
    rintro e w' ⟨rfl, hb⟩
    exact ⟨true, rfl, ⟨fun _ => rfl, fun _ => rfl⟩, hb⟩
  · refine (sameEnts_no h1 h2 hl b1 b2 h).mono ?_
    rintro e w' ⟨rfl, hb⟩
    exact ⟨false, rfl, ⟨(fun e => by cases e), fun e => absurd e h⟩, hb⟩
set_option maxRecDepth 100000 in
set_option maxHeartbeats 2000000 in
theorem refMeta_dec {Z1 Z2 : Nat → Prop} {w : World} {p q : Option Addr} {c e : Nat} {l l' : List Int} (a b a' b' : Int) (h1 : Is Z1 w (.slice p l.length c) l) (h2 : Is Z2 w (.slice q l'.length e) l') (hl : l.length ≤ 1000000) :
    Tells 43 #[.agg #[iv a, iv b, .slice p l.length c], .agg #[iv a', iv b', .slice q l'.length e]] w (a = a' ∧ b = b' ∧ l = l') := by
  have hb1 : Below w.heap.size w ((w.alloc (.cells #[iv a, iv b, .slice p l.length c] 25)).alloc (.cells #[iv a', iv b', .slice q l'.length e] 25)) := ((Below.refl _ _).alloc (Nat.le_refl _) _).alloc (by simp) _
  have hc := sameInts_dec (h1.below hb1) (h2.below hb1) hl
  have HB1 := Hid.mkW hb1
  clear hb1 h1 h2
  unfold Tells
  by_cases ea : a = a'
  case neg =>
    have HF : Hid (¬ (a = a' ∧ b = b' ∧ l = l')) := fun h => ea h.1
    have n1 : (a == a') = false := by simpa using ea
    clear ea hc
    go_enter Tryd.func43, Tryd.ntmps43
    go_wp2
    go_ret
    exact ⟨false, rfl, ⟨(fun h => by cases h), fun h => absurd h HF.out⟩, HB1.out⟩
  by_cases eb : b = b'
  case neg =>
    have HF : Hid (¬ (a = a' ∧ b = b' ∧ l = l')) := fun h => eb h.2.1
    have n1 : (a == a') = true := by simpa using ea
    have n2 : (b == b') = false := by simpa using eb
    clear ea eb hc
    go_enter Tryd.func43, Tryd.ntmps43
    go_wp2
    go_ret
    exact ⟨false, rfl, ⟨(fun h => by cases h), fun h => absurd h HF.out⟩, HB1.out⟩
  have HQ : Hid (decide (l = l') = true ↔ (a = a' ∧ b = b' ∧ l = l')) := ⟨fun h => ⟨ea, eb, of_decide_eq_true h⟩, fun h => decide_eq_true h.2.2⟩
  have n1 : (a == a') = true := by simpa using ea
  have n2 : (b == b') = true := by simpa using eb
  generalize decide (l = l') = bo at hc HQ
  clear ea eb
  go_enter Tryd.func43, Tryd.ntmps43
  go_wp2_with (go_at_call 77; refine hc.mono ?_; rintro e w2 ⟨rfl, hb2⟩)
  go_ret
  exact ⟨bo, rfl, HQ.out, HB1.out.trans (hb2.mono HB1.out.size)⟩
set_option maxRecDepth 100000 in
set_option maxHeartbeats 2000000 in
theorem sameMeta_dec {Z1 Z2 : Nat → Prop} {w : World} {p q : Option Addr} {c e : Nat} {l l' : List Int} (a b a' b' : Int) (h1 : Is Z1 w (.slice p l.length c) l) (h2 : Is Z2 w (.slice q l'.length e) l') (hl : l.length ≤ 1000000) :
    Tells 46 #[.agg #[iv a, iv b, .slice p l.length c], .agg #[iv a', iv b', .slice q l'.length e]] w (a = a' ∧ b = b' ∧ l = l') := by
  have hb1 : Below w.heap.size w ((w.alloc (.cells #[iv a, iv b, .slice p l.length c] 25)).alloc (.cells #[iv a', iv b', .slice q l'.length e] 25)) := ((Below.refl _ _).alloc (Nat.le_refl _) _).alloc (by simp) _
  have hc := equalInts_dec (h1.below hb1) (h2.below hb1) hl
  have HB1 := Hid.mkW hb1
  clear hb1 h1 h2
  unfold Tells
  by_cases ea : a = a'
  case neg =>
    have HF : Hid (¬ (a = a' ∧ b = b' ∧ l = l')) := fun h => ea h.1
    have n1 : (a == a') = false := by simpa using ea
    clear ea hc
    go_enter Tryd.func46, Tryd.ntmps46
    go_wp2
    go_ret
    exact ⟨false, rfl, ⟨(fun h => by cases h), fun h => absurd h HF.out⟩, HB1.out⟩
  by_cases eb : b = b'
  case neg =>
    have HF : Hid (¬ (a = a' ∧ b = b' ∧ l = l')) := fun h => eb h.2.1
    have n1 : (a == a') = true := by simpa using ea
    have n2 : (b == b') = false := by simpa using eb
    clear ea eb hc
    go_enter Tryd.func46, Tryd.ntmps46
    go_wp2
    go_ret
    exact ⟨false, rfl, ⟨(fun h => by cases h), fun h => absurd h HF.out⟩, HB1.out⟩
  have HQ : Hid (decide (l = l') = true ↔ (a = a' ∧ b = b' ∧ l = l')) := ⟨fun h => ⟨ea, eb, of_decide_eq_true h⟩, fun h => decide_eq_true h.2.2⟩
  have n1 : (a == a') = true := by simpa using ea
  have n2 : (b == b') = true := by simpa using eb
  generalize decide (l = l') = bo at hc HQ
  clear ea eb
  go_enter Tryd.func46, Tryd.ntmps46
  go_wp2_with (go_at_call 78; refine hc.mono ?_; rintro e w2 ⟨rfl, hb2⟩)
  go_ret
  exact ⟨bo, rfl, HQ.out, HB1.out.trans (hb2.mono HB1.out.size)⟩
theorem md_ext {m o : Md} (h0 : m.kind = o.kind) (h1 : m.src = o.src) (h2 : m.dst = o.dst) (h3 : m.term = o.term) (h4 : m.index = o.index) (h5 : m.lt = o.lt) (h6 : m.es = o.es) (h7 : m.commit = o.commit) (h8 : m.seq = o.seq) (h9 : m.ok = o.ok) (h10 : m.mat = o.mat) (h11 : m.mi = o.mi ∧ m.mt = o.mt ∧ m.vs = o.vs) (h12 : m.data = o.data) : m = o := by
  cases m
  cases o
  simp_all
end Go.Proofs.YtamgoknoapcnjaaDoor
