/- The disk of ShotsNewest: snapshots of one byte, and a file that is none. -/
import Derived.Test.YtdcpfjlnagigaaaGreatDoorSK1
namespace Go.Proofs.YtdcpfjlnagigaaaGreatDoor
open Go Go.RowKit
theorem save_total {p : PS} {n : Nat} {bs : List Int} (h : Calm p) (hr : (bs.length : Int) ≤ p.room - total p.fs) (hno : ∀ f ∈ p.fs, f.name ≠ newName) : total (saveP p n bs).fs ≤ total p.fs + bs.length := by
  have hleft : leftN p = false := by
    unfold leftN
    rw [decide_eq_false_iff_not]
    intro hm
    obtain ⟨f, hf, e⟩ := List.mem_map.1 hm
    exact hno f hf e
  obtain ⟨e1, c1, f1, _⟩ := calm_app h new_ok hr hno
  have hA : layAE p false = 0 := rfl
  have hAP : layA p false = p := rfl
  have hm1 : (⟨newName, bs, 0⟩ : PF) ∈ (appP p newName bs).fs := by rw [f1, mem_ins]; exact .inl rfl
  obtain ⟨e2, c2, _, _⟩ := calm_sync c1 new_ok hm1 rfl
  have hlE : layE p bs false = 0 := by unfold layE; rw [hA, hAP, e1, e2]; rfl
  have hlP : layP p bs false = syncP (appP p newName bs) newName := by unfold layP; rw [hA, hAP, e1]; rfl
  have hsP : saveP p n bs = renP (syncP (appP p newName bs) newName) newName (sname n) := by unfold saveP; rw [h.dead, hleft, hlE, hlP]; rfl
  have t1 := app_total_le (nm := newName) (ys := bs) h.up
  have t2 := (sync_total (nm := newName) c1.up).1
  have t3 := (ren_total (a := newName) (b := sname n) c2.up).1
  rw [hsP]
  omega
/-- A snapshot of one byte. -/
def shN (n t : Nat) : Sh := ⟨n, t, [], [(n : Int)]⟩
theorem shN_len (n t : Nat) : (frameB (shN n t).body).length = 30 := by rw [frameB_len, Sh.body_len]; rfl
theorem shN_ok (n t : Nat) (h0 : 0 < n) (h1 : n ≤ 50) : (shN n t).ok n := ⟨rfl, h0, by omega, by show (0 : Int) ≤ t; omega, by show (0 : Nat) ≤ 7; decide, fun x hx => by
  have hx : x ∈ [(n : Int)] := hx
  rw [List.mem_singleton.1 hx]; omega, by show (1 : Nat) ≤ 2500; decide⟩
theorem shN_fine (n t : Nat) (h0 : 0 < n) (h1 : n ≤ 50) (ht : t ≤ 20) : (shN n t).fine := ⟨by show (1 : Int) ≤ n; omega, by show (n : Int) ≤ _; omega, ⟨by show _ ≤ (t : Int); omega, by show (t : Int) ≤ _; omega⟩, by show (0 : Nat) ≤ 7; decide, (fun v hv => by cases hv), (shN_ok n t h0 h1).db, by show (1 : Nat) ≤ 2500; decide⟩
/-- The disk behind so many Saves. -/
structure Ns (p : PS) (best i : Nat) : Prop where
  calm : Calm p
  room : p.room = 65536
  tot : total p.fs ≤ 30 * i
  all : ∀ f ∈ p.fs, ∃ n t : Nat, 0 < n ∧ n ≤ 50 ∧ t ≤ 20 ∧ n ≤ best ∧ f.name = sname n ∧ f.xs = frameB (shN n t).body
  top : (i = 0 ∧ best = 0) ∨ (0 < best ∧ best ≤ 50 ∧ ∃ f ∈ p.fs, f.name = sname best)
theorem Ns.save {p : PS} {best i n : Nat} (h : Ns p best i) (hi : i < 20) (h0 : 0 < n) (h1 : n ≤ 50) : saveE p n (frameB (shN n i).body) = 0 ∧ Ns (saveP p n (frameB (shN n i).body)) (max best n) (i + 1) := by
  have hno : ∀ f ∈ p.fs, f.name ≠ newName := fun f hf => by
    obtain ⟨n, t, _, _, _, _, e, _⟩ := h.all f hf
    rw [e]; exact sname_new n
  have hl := shN_len n i
  have hr : ((frameB (shN n i).body).length : Int) ≤ p.room - total p.fs := by rw [hl, h.room]; have := h.tot; omega
  obtain ⟨e1, c1, r1, m1⟩ := save_calm (n := n) h.calm (by omega) hr hno
  have t1 := save_total (n := n) h.calm hr hno
  refine ⟨e1, c1, by rw [r1, h.room], by rw [hl] at t1; have := h.tot; omega, fun f hf => ?_, .inr ⟨by omega, ?_, ?_⟩⟩
  · rcases (m1 f).1 hf with rfl | ⟨hf, _⟩
    · exact ⟨n, i, h0, h1, by omega, by omega, rfl, rfl⟩
    · obtain ⟨n', t, a1, a2, a3, a4, a5, a6⟩ := h.all f hf
      exact ⟨n', t, a1, a2, a3, by omega, a5, a6⟩
  · rcases h.top with ⟨_, hb⟩ | ⟨_, hb, _⟩ <;> omega
  · by_cases hb : best ≤ n
    · rw [Nat.max_eq_right hb]
      exact ⟨_, (m1 _).2 (.inl rfl), rfl⟩
    · rw [Nat.max_eq_left (by omega)]
      rcases h.top with ⟨_, hb0⟩ | ⟨hb1, hb2, f, hf, hfn⟩
      · omega
      · exact ⟨f, (m1 f).2 (.inr ⟨hf, by rw [hfn]; exact fun e => by have := sname_inj (by omega) (by omega) e; omega⟩), hfn⟩
def junk : List Int := [110, 111, 32, 115, 110, 97, 112, 115, 104, 111, 116]
theorem junk_isB : isB junk := by intro x hx; simp only [junk, List.mem_cons, List.not_mem_nil, or_false] at hx; omega
theorem junk_no : unfE junk ≠ 0 := by decide
/-- The disk with the file that is none, or without it. -/
structure Nk (p : PS) (best : Nat) : Prop where
  calm : Calm p
  room : p.room = 65536
  best0 : 0 < best
  best1 : best ≤ 50
  all : ∀ f ∈ p.fs, (∃ n t : Nat, 0 < n ∧ n ≤ best ∧ t ≤ 20 ∧ f.name = sname n ∧ f.xs = frameB (shN n t).body) ∨ (∃ k : Nat, 60 ≤ k ∧ k < 70 ∧ f.name = sname k ∧ f.xs = junk)
  top : ∃ f ∈ p.fs, f.name = sname best
theorem Ns.spoil {p : PS} {best i K : Nat} (h : Ns p best i) (hi : 0 < i) (hi2 : i ≤ 20) (h0 : 60 ≤ K) (h1 : K < 70) : appE p (sname K) junk.length = 0 ∧ Nk (appP p (sname K) junk) best := by
  have hno : ∀ f ∈ p.fs, f.name ≠ sname K := fun f hf e => by
    obtain ⟨n, t, a1, a2, _, _, e2, _⟩ := h.all f hf
    have := sname_inj (by omega) (by omega) (e2.symm.trans e)
    omega
  obtain ⟨e1, c1, f1, r1⟩ := calm_app (ys := junk) h.calm (sname_ok K (by omega)) (by rw [h.room]; have := h.tot; show (11 : Int) ≤ _; omega) hno
  rcases h.top with ⟨hb0, _⟩ | ⟨hb1, hb2, f0, hf0, hn0⟩
  · omega
  refine ⟨e1, c1, by rw [r1, h.room], hb1, hb2, fun f hf => ?_, ⟨f0, by rw [f1, mem_ins]; exact .inr hf0, hn0⟩⟩
  rw [f1, mem_ins] at hf
  rcases hf with rfl | hf
  · exact .inr ⟨K, h0, h1, rfl, rfl⟩
  · obtain ⟨n, t, a1, a2, a3, a4, a5, a6⟩ := h.all f hf
    exact .inl ⟨n, t, a1, a4, a3, a5, a6⟩
theorem Nk.names {p : PS} {best : Nat} (h : Nk p best) : ∀ f ∈ p.fs, ShotName f.name := fun f hf => by
  have := h.best1
  rcases h.all f hf with ⟨n, t, a1, a2, _, a4, _⟩ | ⟨k, a1, a2, a3, _⟩
  · exact .inl ⟨n, a1, by omega, a4⟩
  · exact .inl ⟨k, by omega, by omega, a3⟩
/-- What a file tells. -/
noncomputable def gotP (p : PS) (m : Int) : Option Sh := by
  classical
  exact if h : ∃ t : Nat, t ≤ 20 ∧ readB p (sname m.toNat) = frameB (shN m.toNat t).body then some (shN m.toNat h.choose) else none
theorem gotP_some {p : PS} {m : Int} {s : Sh} (h : gotP p m = some s) : ∃ t : Nat, t ≤ 20 ∧ s = shN m.toNat t ∧ readB p (sname m.toNat) = frameB (shN m.toNat t).body := by
  unfold gotP at h
  split at h
  · rename_i hx
    have := hx.choose_spec
    exact ⟨hx.choose, this.1, (Option.some.inj h).symm, this.2⟩
  · cases h
theorem gotP_yes {p : PS} {m : Int} (h : ∃ t : Nat, t ≤ 20 ∧ readB p (sname m.toNat) = frameB (shN m.toNat t).body) : ∃ s, gotP p m = some s := by
  unfold gotP
  rw [dif_pos h]
  exact ⟨_, rfl⟩
theorem gotP_no {p : PS} {m : Int} (h : ¬ ∃ t : Nat, t ≤ 20 ∧ readB p (sname m.toNat) = frameB (shN m.toNat t).body) : gotP p m = none := by
  unfold gotP
  rw [dif_neg h]
theorem Nk.file {p : PS} {best : Nat} (h : Nk p best) : ∀ m ∈ ixs p, FileAt p (gotP p) m := fun m hm => by
  obtain ⟨n, f, hf, hfn, h0, h1, rfl⟩ := (mem_ixs h.names).1 hm
  have hb := h.best1
  obtain ⟨r1, r2⟩ := read_yes h.calm.up h.calm.dead hf (by rw [hfn]; exact sname_ok n h1)
  rw [hfn] at r1 r2
  refine ⟨n, rfl, h1, r1, ?_⟩
  rcases h.all f hf with ⟨n', t, a1, a2, a3, a4, a5⟩ | ⟨k, a1, a2, a3, a4⟩
  · obtain rfl : n' = n := sname_inj (by omega) h1 (a4.symm.trans hfn)
    obtain ⟨s, hs⟩ := gotP_yes (p := p) (m := (n' : Int)) ⟨t, a3, r2.trans a5⟩
    obtain ⟨t', b1, b2, b3⟩ := gotP_some hs
    refine .inl ⟨s, hs, by rw [b2]; exact b3, by rw [b2]; exact shN_fine n' t' a1 (by omega) b1, by rw [b2]; rfl⟩
  · obtain rfl : k = n := sname_inj (by omega) h1 (a3.symm.trans hfn)
    rw [a4] at r2
    refine .inr ⟨gotP_no (fun ⟨t, _, e⟩ => ?_), by rw [r2]; exact junk_no, by rw [r2]; exact junk_isB, by rw [r2]; decide⟩
    have e2 : junk = frameB (shN k t).body := r2.symm.trans e
    have := congrArg List.length e2
    rw [shN_len] at this
    exact absurd this (by decide)
theorem Nk.best_mem {p : PS} {best : Nat} (h : Nk p best) : (best : Int) ∈ ixs p := by
  obtain ⟨f, hf, hn⟩ := h.top
  exact (mem_ixs h.names).2 ⟨best, f, hf, hn, h.best0, by have := h.best1; omega, rfl⟩
theorem Nk.best_got {p : PS} {best : Nat} (h : Nk p best) : gotP p best ≠ none := by
  obtain ⟨f, hf, hn⟩ := h.top
  have hb := h.best1
  obtain ⟨r1, r2⟩ := read_yes h.calm.up h.calm.dead hf (by rw [hn]; exact sname_ok best (by omega))
  rw [hn] at r2
  rcases h.all f hf with ⟨n', t, a1, a2, a3, a4, a5⟩ | ⟨k, a1, a2, a3, a4⟩
  · obtain rfl : n' = best := sname_inj (by omega) (by omega) (a4.symm.trans hn)
    obtain ⟨s, hs⟩ := gotP_yes (p := p) (m := (n' : Int)) ⟨t, a3, r2.trans a5⟩
    rw [hs]; exact fun e => by cases e
  · have := sname_inj (a := k) (b := best) (by omega) (by omega) (a3.symm.trans hn)
    omega
theorem Nk.le {p : PS} {best : Nat} (h : Nk p best) {m : Int} (hm : m ∈ ixs p) (hg : gotP p m ≠ none) : m ≤ best := by
  obtain ⟨n, f, hf, hfn, h0, h1, rfl⟩ := (mem_ixs h.names).1 hm
  have hb := h.best1
  rcases h.all f hf with ⟨n', t, a1, a2, a3, a4, a5⟩ | ⟨k, a1, a2, a3, a4⟩
  · have := sname_inj (a := n') (b := n) (by omega) h1 (a4.symm.trans hfn)
    omega
  · obtain ⟨r1, r2⟩ := read_yes h.calm.up h.calm.dead hf (by rw [hfn]; exact sname_ok n h1)
    rw [hfn, a4] at r2
    refine absurd (gotP_no (fun ⟨t, _, e⟩ => ?_)) hg
    have e2 : junk = frameB (shN n t).body := r2.symm.trans e
    have := congrArg List.length e2
    rw [shN_len] at this
    exact absurd this (by decide)
/-- The one that is found is the best one. -/
theorem Nk.found {p : PS} {best : Nat} (h : Nk p best) (k : Nat) (s : Sh) (hk : k < (ixs p).length) (hg : gotP p (fromBack (ixs p) k).2 = some s) (hj : ∀ j, j < k → gotP p (fromBack (ixs p) j).2 = none) : ∃ t : Nat, t ≤ 20 ∧ s = shN best t := by
  have hm := fromBack_mem (ixs p) hk
  have hle := h.le hm (by rw [hg]; exact fun e => by cases e)
  obtain ⟨i, hi, hib⟩ := List.getElem_of_mem h.best_mem
  have hup := ixs_up h.calm.up h.names
  have e1 : (fromBack (ixs p) k).2 = (ixs p)[(ixs p).length - 1 - k] := by show (ixs p)[(ixs p).length - 1 - k]?.getD 0 = _; rw [List.getElem?_eq_getElem (by omega)]; rfl
  have hik : i = (ixs p).length - 1 - k := by
    rcases Nat.lt_trichotomy i ((ixs p).length - 1 - k) with hlt | he | hgt
    · have := List.pairwise_iff_getElem.1 hup i _ hi (by omega) hlt
      rw [hib, ← e1] at this
      omega
    · exact he
    · have h2 := hj ((ixs p).length - 1 - i) (by omega)
      have e2 : (fromBack (ixs p) ((ixs p).length - 1 - i)).2 = (best : Int) := by show (ixs p)[(ixs p).length - 1 - ((ixs p).length - 1 - i)]?.getD 0 = _; rw [show (ixs p).length - 1 - ((ixs p).length - 1 - i) = i by omega, List.getElem?_eq_getElem hi, hib]; rfl
      rw [e2] at h2
      exact absurd h2 h.best_got
  have e3 : (fromBack (ixs p) k).2 = (best : Int) := by rw [e1]; subst hik; exact hib
  rw [e3] at hg
  obtain ⟨t, b1, b2, _⟩ := gotP_some hg
  exact ⟨t, b1, b2⟩
end Go.Proofs.YtdcpfjlnagigaaaGreatDoor
