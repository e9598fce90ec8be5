/- What Trim leaves on a disk that goes on. -/
import Derived.Test.YtdcpfjlnagigaaaGreatDoorSK2
namespace Go.Proofs.YtdcpfjlnagigaaaGreatDoor
open Go Go.RowKit
theorem trim_mem {p : PS} {keep : Int} {ms : List Int} (h : Calm p) (hms : ∀ m ∈ ms, ∃ n : Nat, m = n ∧ n < 100 ∧ ∃ f ∈ p.fs, f.name = sname n) (hup : ms.Pairwise (· < ·)) :
    Calm (trimP keep p ms) ∧ (trimP keep p ms).room = p.room ∧ (∀ f, f ∈ (trimP keep p ms).fs ↔ f ∈ p.fs ∧ ∀ m ∈ ms, m ≠ keep → f.name ≠ sname m.toNat) := by
  induction ms generalizing p with
  | nil => exact ⟨h, rfl, fun f => ⟨fun hf => ⟨hf, fun m hm => by cases hm⟩, fun hf => hf.1⟩⟩
  | cons m r ih =>
    obtain ⟨hlt, hr⟩ := List.pairwise_cons.1 hup
    show Calm (trimP keep (trim1 keep p m) r) ∧ (trimP keep (trim1 keep p m) r).room = p.room ∧ _
    obtain ⟨n, hn, hn1, f0, hf0, hfn0⟩ := hms m (List.mem_cons_self)
    by_cases hk : m = keep
    · have e : trim1 keep p m = p := by unfold trim1; rw [if_pos hk]
      rw [e]
      obtain ⟨c1, r1, m1⟩ := ih h (fun x hx => hms x (List.mem_cons_of_mem _ hx)) hr
      refine ⟨c1, r1, fun f => ?_⟩
      show f ∈ (trimP keep (trim1 keep p m) r).fs ↔ _
      rw [e, m1 f]
      constructor
      · rintro ⟨hf, hx⟩
        refine ⟨hf, fun x hxm hne => ?_⟩
        rcases List.mem_cons.1 hxm with rfl | hxm
        · exact absurd hk hne
        · exact hx x hxm hne
      · rintro ⟨hf, hx⟩
        exact ⟨hf, fun x hxm hne => hx x (List.mem_cons_of_mem _ hxm) hne⟩
    · have e : trim1 keep p m = remP p (sname n) := by unfold trim1; rw [if_neg hk, hn]; rfl
      obtain ⟨_, c0, f1, r0⟩ := calm_rem h (sname_ok n hn1) hf0 hfn0
      rw [e]
      obtain ⟨c1, r1, m1⟩ := ih c0 (fun x hx => by
        obtain ⟨n', b1, b2, f', hf', b3⟩ := hms x (List.mem_cons_of_mem _ hx)
        refine ⟨n', b1, b2, f', ?_, b3⟩
        rw [f1, mem_delK]
        refine ⟨hf', fun e' => ?_⟩
        have h1 := sname_inj b2 hn1 (b3.symm.trans e')
        have h2 := hlt x hx
        omega) hr
      refine ⟨c1, by rw [r1, r0], fun f => ?_⟩
      show f ∈ (trimP keep (trim1 keep p m) r).fs ↔ _
      rw [e, m1 f, f1, mem_delK]
      constructor
      · rintro ⟨⟨hf, hne⟩, hx⟩
        refine ⟨hf, fun x hxm hxk => ?_⟩
        rcases List.mem_cons.1 hxm with rfl | hxm
        · rw [hn]; exact hne
        · exact hx x hxm hxk
      · rintro ⟨hf, hx⟩
        have h1 := hx m List.mem_cons_self hk
        rw [hn] at h1
        exact ⟨⟨hf, h1⟩, fun x hxm hxk => hx x (List.mem_cons_of_mem _ hxm) hxk⟩
theorem trim_ok {p : PS} {keep : Int} {ms : List Int} (h : Calm p) (hms : ∀ m ∈ ms, ∃ n : Nat, m = n ∧ n < 100 ∧ ∃ f ∈ p.fs, f.name = sname n) (hup : ms.Pairwise (· < ·)) (j : Nat) (hj : j < ms.length) (_hk : ms[j] ≠ keep) :
    opE (trimP keep p (ms.take j)) (sname ms[j].toNat) = 0 := by
  obtain ⟨c1, _, m1⟩ := trim_mem (keep := keep) (ms := ms.take j) h (fun m hm => hms m (List.mem_of_mem_take hm)) (hup.sublist (List.take_sublist _ _))
  obtain ⟨n, hn, hn1, f, hf, hfn⟩ := hms ms[j] (List.getElem_mem hj)
  rw [hn]
  have hmem : f ∈ (trimP keep p (ms.take j)).fs := by
    rw [m1]
    refine ⟨hf, fun m hm _ e => ?_⟩
    obtain ⟨n', b1, b2, _⟩ := hms m (List.mem_of_mem_take hm)
    obtain ⟨i, hi, hie⟩ := List.getElem_of_mem hm
    have hi' : i < j := by rw [List.length_take] at hi; omega
    have h1 := List.pairwise_iff_getElem.1 hup i j (by omega) hj hi'
    have h2 : ms[i] = m := by rw [← hie, List.getElem_take]
    rw [b1] at e
    have h3 := sname_inj hn1 b2 (hfn.symm.trans e)
    omega
  exact (calm_rem c1 (sname_ok n hn1) hmem hfn).1
theorem Nk.mss {p : PS} {best : Nat} (h : Nk p best) : ∀ m ∈ ixs p, ∃ n : Nat, m = n ∧ n < 100 ∧ ∃ f ∈ p.fs, f.name = sname n := fun m hm => by
  obtain ⟨n, f, hf, hfn, h0, h1, rfl⟩ := (mem_ixs h.names).1 hm
  exact ⟨n, rfl, h1, f, hf, hfn⟩
/-- Behind Trim the best one alone is left. -/
theorem Nk.trimmed {p : PS} {best : Nat} (h : Nk p best) : Nk (trimP best p (ixs p)) best ∧ (trimP best p (ixs p)).fs.length = 1 := by
  obtain ⟨c1, r1, m1⟩ := trim_mem (keep := (best : Int)) h.calm h.mss (ixs_up h.calm.up h.names)
  obtain ⟨f0, hf0, hn0⟩ := h.top
  have hb := h.best1
  have hname : ∀ f ∈ (trimP best p (ixs p)).fs, f.name = sname best := fun f hf => by
    obtain ⟨hf1, hx⟩ := (m1 f).1 hf
    have hpos : ∃ n : Nat, 0 < n ∧ n < 100 ∧ f.name = sname n := by
      rcases h.all f hf1 with ⟨n, t, a1, a2, _, a4, _⟩ | ⟨k, a1, a2, a3, _⟩
      · exact ⟨n, a1, by omega, a4⟩
      · exact ⟨k, by omega, by omega, a3⟩
    obtain ⟨n, b0, b1, b2⟩ := hpos
    have hm : (n : Int) ∈ ixs p := (mem_ixs h.names).2 ⟨n, f, hf1, b2, b0, b1, rfl⟩
    by_cases hnb : (n : Int) = best
    · have : n = best := by omega
      rw [b2, this]
    · exact absurd b2 (hx n hm hnb)
  have hm0 : f0 ∈ (trimP best p (ixs p)).fs := by
    rw [m1]
    refine ⟨hf0, fun m hm hne e => ?_⟩
    obtain ⟨n, b1, b2, _⟩ := h.mss m hm
    rw [b1] at e
    have := sname_inj (a := best) (b := n) (by omega) b2 (hn0.symm.trans e)
    omega
  refine ⟨⟨c1, by rw [r1, h.room], h.best0, h.best1, fun f hf => h.all f ((m1 f).1 hf).1, ⟨f0, hm0, hn0⟩⟩, ?_⟩
  have hup := c1.up
  generalize (trimP best p (ixs p)).fs = l at hm0 hname hup ⊢
  match l, hm0, hname, hup with
  | [], h0, _, _ => cases h0
  | [_], _, _, _ => rfl
  | a :: b :: r, _, hnm, hu =>
    exfalso
    have h1 := (List.pairwise_cons.1 hu).1 b List.mem_cons_self
    rw [hnm a List.mem_cons_self, hnm b (List.mem_cons_of_mem _ List.mem_cons_self)] at h1
    have := sname_lt best best (by omega) (by omega) h1
    omega
end Go.Proofs.YtdcpfjlnagigaaaGreatDoor
