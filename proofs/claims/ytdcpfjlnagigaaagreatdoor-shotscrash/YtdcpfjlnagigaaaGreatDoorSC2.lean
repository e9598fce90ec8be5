/- The disk of ShotsCrash: two snapshots at most, and the file beside. -/
import Derived.Test.YtdcpfjlnagigaaaGreatDoorSC1
namespace Go.Proofs.YtdcpfjlnagigaaaGreatDoor
open Go Go.RowKit
abbrev bF (k : Nat) (s : Sh) : PF := ⟨sname k, frameB s.body, (frameB s.body).length⟩
def sA (za : List Int) : Sh := ⟨3, 1, [], za⟩
def sB (zb : List Int) : Sh := ⟨9, 1, [], zb⟩
structure Two (za zb : List Int) : Prop where
  a : isB za
  b : isB zb
  len : za.length + zb.length ≤ 2000
theorem sA_len (za : List Int) : (frameB (sA za).body).length = 29 + za.length := by rw [frameB_len, Sh.body_len]; show 21 + 8 * 0 + za.length + 8 = _; omega
theorem sB_len (zb : List Int) : (frameB (sB zb).body).length = 29 + zb.length := by rw [frameB_len, Sh.body_len]; show 21 + 8 * 0 + zb.length + 8 = _; omega
theorem Two.okA {za zb : List Int} (h : Two za zb) : (sA za).ok 3 := ⟨rfl, by decide, by decide, by show (0 : Int) ≤ 1; decide, by show (0 : Nat) ≤ 7; decide, h.a, by show za.length ≤ 2500; have := h.len; omega⟩
theorem Two.okB {za zb : List Int} (h : Two za zb) : (sB zb).ok 9 := ⟨rfl, by decide, by decide, by show (0 : Int) ≤ 1; decide, by show (0 : Nat) ≤ 7; decide, h.b, by show zb.length ≤ 2500; have := h.len; omega⟩
theorem Two.fineA {za zb : List Int} (h : Two za zb) : (sA za).fine := ⟨by show (1 : Int) ≤ 3; decide, by show (3 : Int) ≤ _; decide, ⟨by show _ ≤ (1 : Int); decide, by show (1 : Int) ≤ _; decide⟩, by show (0 : Nat) ≤ 7; decide, (fun v hv => by cases hv), h.a, by show za.length ≤ 2500; have := h.len; omega⟩
theorem Two.fineB {za zb : List Int} (h : Two za zb) : (sB zb).fine := ⟨by show (1 : Int) ≤ 9; decide, by show (9 : Int) ≤ _; decide, ⟨by show _ ≤ (1 : Int); decide, by show (1 : Int) ≤ _; decide⟩, by show (0 : Nat) ≤ 7; decide, (fun v hv => by cases hv), h.b, by show zb.length ≤ 2500; have := h.len; omega⟩
/-- The disk ahead of the stop. -/
structure Cc (c : Nat) (fst trm : Bool) (za zb : List Int) (p : PS) : Prop where
  calm : Calm p
  room : p.room = 65536
  tot : total p.fs ≤ 2100 * c
  mem : ∀ f, f ∈ p.fs ↔ (fst = true ∧ f = bF 3 (sA za)) ∨ (trm = true ∧ f = bF 9 (sB zb))
theorem cc0 (za zb : List Int) : Cc 0 false false za zb (q0 65536) := ⟨calm0, rfl, by show (0 : Nat) ≤ 0; decide, fun f => ⟨fun h => (by cases h), fun h => (by rcases h with ⟨h, _⟩ | ⟨h, _⟩ <;> cases h)⟩⟩
theorem ne39 {f : PF} (h : f.name = sname 3) : f.name ≠ sname 9 := fun e => by
  have := sname_inj (a := 3) (b := 9) (by decide) (by decide) (h.symm.trans e)
  omega
theorem Cc.noNew {c : Nat} {fst trm : Bool} {za zb : List Int} {p : PS} (h : Cc c fst trm za zb p) : ∀ f ∈ p.fs, f.name ≠ newName := fun f hf => by
  rcases (h.mem f).1 hf with ⟨_, rfl⟩ | ⟨_, rfl⟩
  · exact sname_new 3
  · exact sname_new 9
theorem Cc.save3 {za zb : List Int} {p : PS} (h2 : Two za zb) (h : Cc 0 false false za zb p) : saveE p 3 (frameB (sA za).body) = 0 ∧ Cc 1 true false za zb (saveP p 3 (frameB (sA za).body)) := by
  have hl := sA_len za
  have hr : ((frameB (sA za).body).length : Int) ≤ p.room - total p.fs := by rw [hl, h.room]; have := h.tot; have := h2.len; omega
  obtain ⟨e1, c1, r1, m1⟩ := save_calm (n := 3) h.calm (by decide) hr h.noNew
  have t1 := save_total (n := 3) h.calm hr h.noNew
  refine ⟨e1, c1, by rw [r1, h.room], by have := h.tot; have := h2.len; omega, fun f => ?_⟩
  rw [m1 f]
  constructor
  · rintro (rfl | ⟨hf, _⟩)
    · exact .inl ⟨rfl, rfl⟩
    · rcases (h.mem f).1 hf with ⟨h, _⟩ | ⟨h, _⟩ <;> cases h
  · rintro (⟨_, rfl⟩ | ⟨h, _⟩)
    · exact .inl rfl
    · cases h
theorem Cc.room9 {c : Nat} {fst : Bool} {za zb : List Int} {p : PS} (h2 : Two za zb) (hc : c ≤ 1) (h : Cc c fst false za zb p) : ((frameB (sB zb).body).length : Int) ≤ p.room - total p.fs := by
  rw [sB_len, h.room]
  have := h.tot; have := h2.len
  omega
theorem Cc.save9 {c : Nat} {fst : Bool} {za zb : List Int} {p : PS} (h2 : Two za zb) (hc : c ≤ 1) (h : Cc c fst false za zb p) : saveE p 9 (frameB (sB zb).body) = 0 ∧ Cc (c + 1) fst true za zb (saveP p 9 (frameB (sB zb).body)) := by
  have hl := sB_len zb
  have hr := h.room9 h2 hc
  obtain ⟨e1, c1, r1, m1⟩ := save_calm (n := 9) h.calm (by decide) hr h.noNew
  have t1 := save_total (n := 9) h.calm hr h.noNew
  refine ⟨e1, c1, by rw [r1, h.room], by have := h.tot; have := h2.len; omega, fun f => ?_⟩
  rw [m1 f]
  constructor
  · rintro (rfl | ⟨hf, _⟩)
    · exact .inr ⟨rfl, rfl⟩
    · rcases (h.mem f).1 hf with ⟨h, e⟩ | ⟨h, _⟩
      · exact .inl ⟨h, e⟩
      · cases h
  · rintro (⟨h1, rfl⟩ | ⟨_, rfl⟩)
    · exact .inr ⟨(h.mem _).2 (.inl ⟨h1, rfl⟩), ne39 rfl⟩
    · exact .inl rfl
/-- The disk behind the stop. -/
structure Af (fst trm : Bool) (za zb : List Int) (e : Int) (q : PS) : Prop where
  up : upK PF.name q.fs
  err : e = 0 ∨ e = 13
  all : ∀ f ∈ q.fs, f = bF 9 (sB zb) ∨ (fst = true ∧ f = bF 3 (sA za)) ∨ f.name = newName
  nine : e = 0 ∨ trm = true → bF 9 (sB zb) ∈ q.fs
  three : e = 13 → trm = false → fst = true → bF 3 (sA za) ∈ q.fs
theorem Cc.stop9 {c : Nat} {fst : Bool} {za zb : List Int} {p : PS} (h2 : Two za zb) (hc : c ≤ 1) (h : Cc c fst false za zb p) {n : Int} (hn : 1 ≤ n) : Af fst false za zb (saveE { p with stops := n } 9 (frameB (sB zb).body)) (saveP { p with stops := n } 9 (frameB (sB zb).body)) := by
  have hr := h.room9 h2 hc
  have hno := h.noNew
  obtain ⟨u, hs⟩ := save_stop (p := { p with stops := n }) (n := n) (k := 9) (bs := frameB (sB zb).body) h.calm.dead rfl h.calm.up hn (by decide) hr hno
  rcases hs with ⟨e, m⟩ | ⟨e, m1, m2⟩
  · refine ⟨u, .inl e, fun f hf => ?_, fun _ => (m _).2 (.inl rfl), fun e' => by rw [e] at e'; cases e'⟩
    rcases (m f).1 hf with rfl | ⟨hf, _⟩
    · exact .inl rfl
    · rcases (h.mem f).1 hf with h3 | ⟨h4, _⟩
      · exact .inr (.inl h3)
      · cases h4
  · refine ⟨u, .inr e, fun f hf => ?_, fun h5 => ?_, fun _ _ hf => m1 _ ((h.mem _).2 (.inl ⟨hf, rfl⟩))⟩
    · rcases m2 f hf with hf | hf
      · rcases (h.mem f).1 hf with h3 | ⟨h4, _⟩
        · exact .inr (.inl h3)
        · cases h4
      · exact .inr (.inr hf)
    · rcases h5 with h5 | h5
      · rw [e] at h5; cases h5
      · cases h5
/-- The disk behind the crash. -/
structure Cr (fst : Bool) (za zb : List Int) (p : PS) : Prop where
  calm : Calm p
  all : ∀ f ∈ p.fs, f = bF 9 (sB zb) ∨ (fst = true ∧ f = bF 3 (sA za)) ∨ f.name = newName
theorem Af.crash {fst trm : Bool} {za zb : List Int} {e : Int} {q : PS} (h : Af fst trm za zb e q) (picks : List Int) : Cr fst za zb (crashP q picks) ∧ (e = 0 ∨ trm = true → bF 9 (sB zb) ∈ (crashP q picks).fs) ∧ (e = 13 → trm = false → fst = true → bF 3 (sA za) ∈ (crashP q picks).fs) := by
  refine ⟨⟨crash_calm h.up picks, fun f hf => ?_⟩, fun h1 => crash_keep (h.nine h1) rfl, fun h1 h2 h3 => crash_keep (h.three h1 h2 h3) rfl⟩
  obtain ⟨x, hx, hn, hs⟩ := crash_of (n := 0) (picks := picks) hf
  rcases h.all x hx with rfl | ⟨h1, rfl⟩ | h1
  · exact .inl (hs rfl)
  · exact .inr (.inl ⟨h1, hs rfl⟩)
  · exact .inr (.inr (hn.trans h1))
theorem Cr.names {fst : Bool} {za zb : List Int} {p : PS} (h : Cr fst za zb p) : ∀ f ∈ p.fs, ShotName f.name := fun f hf => by
  rcases h.all f hf with rfl | ⟨_, rfl⟩ | h1
  · exact .inl ⟨9, by decide, by decide, rfl⟩
  · exact .inl ⟨3, by decide, by decide, rfl⟩
  · exact .inr h1
def gotC (za zb : List Int) (m : Int) : Option Sh := if m = 9 then some (sB zb) else if m = 3 then some (sA za) else none
theorem Cr.ix {fst : Bool} {za zb : List Int} {p : PS} (h : Cr fst za zb p) {m : Int} (hm : m ∈ ixs p) : (m = 9 ∧ bF 9 (sB zb) ∈ p.fs) ∨ (m = 3 ∧ fst = true ∧ bF 3 (sA za) ∈ p.fs) := by
  obtain ⟨n, f, hf, hfn, h0, h1, rfl⟩ := (mem_ixs h.names).1 hm
  rcases h.all f hf with rfl | ⟨h2, rfl⟩ | h2
  · obtain rfl : 9 = n := sname_inj (by decide) h1 hfn
    exact .inl ⟨rfl, hf⟩
  · obtain rfl : 3 = n := sname_inj (by decide) h1 hfn
    exact .inr ⟨rfl, h2, hf⟩
  · exact absurd (hfn.symm.trans h2) (sname_new n)
theorem Cr.file {fst : Bool} {za zb : List Int} {p : PS} (h2 : Two za zb) (h : Cr fst za zb p) : ∀ m ∈ ixs p, FileAt p (gotC za zb) m := fun m hm => by
  rcases h.ix hm with ⟨rfl, hf⟩ | ⟨rfl, _, hf⟩
  · obtain ⟨r1, r2⟩ := read_yes h.calm.up h.calm.dead hf (sname_ok 9 (by decide))
    exact ⟨9, rfl, by decide, r1, .inl ⟨sB zb, rfl, r2, h2.fineB, rfl⟩⟩
  · obtain ⟨r1, r2⟩ := read_yes h.calm.up h.calm.dead hf (sname_ok 3 (by decide))
    exact ⟨3, rfl, by decide, r1, .inl ⟨sA za, rfl, r2, h2.fineA, rfl⟩⟩
theorem load_cr (hPY : ParseYes) (B d : Nat) (g : Gu) (w : World) {fst : Bool} {za zb : List Int} {p : PS} (h2 : Two za zb) (h : Cr fst za zb p) (hd : Dk B w d g p) (ht : total p.fs ≤ 1000000) (hl : p.fs.length < 1000000) (hT : HasTab w) :
    Calls Tryz.prog 12 #[ptr d] w fun e w' => ((e = .returned (.tuple #[.agg #[.int .i64 0, .int .i64 0, .slice none 0 0], .slice none 0 0, .int .i64 2]) ∧ bF 9 (sB zb) ∉ p.fs ∧ bF 3 (sA za) ∉ p.fs) ∨
      (∃ vv dv, e = .returned (.tuple #[.agg #[.int .i64 9, .int .i64 1, vv], dv, .int .i64 0]) ∧ SeesI w' vv [] ∧ Sees w' dv zb) ∨
      (fst = true ∧ bF 9 (sB zb) ∉ p.fs ∧ ∃ vv dv, e = .returned (.tuple #[.agg #[.int .i64 3, .int .i64 1, vv], dv, .int .i64 0]) ∧ SeesI w' vv [] ∧ Sees w' dv za)) ∧ Below w.heap.size w w' := by
  have m9 : bF 9 (sB zb) ∈ p.fs → (9 : Int) ∈ ixs p := fun hf => (mem_ixs h.names).2 ⟨9, _, hf, rfl, by decide, by decide, rfl⟩
  have m3 : bF 3 (sA za) ∈ p.fs → (3 : Int) ∈ ixs p := fun hf => (mem_ixs h.names).2 ⟨3, _, hf, rfl, by decide, by decide, rfl⟩
  refine (load_any hPY B d g p w hd ht hl h.calm.dead h.names hT (gotC za zb) (h.file h2)).mono ?_
  rintro e w' ⟨(⟨rfl, hno⟩ | ⟨k, s, vv, dv, hk, hg, hj, rfl, h3, h4, _⟩), hb⟩
  · refine ⟨.inl ⟨rfl, fun hf => ?_, fun hf => ?_⟩, hb⟩
    · exact absurd (hno 9 (m9 hf)) (by unfold gotC; rw [if_pos rfl]; exact fun e => by cases e)
    · exact absurd (hno 3 (m3 hf)) (by unfold gotC; rw [if_neg (by decide), if_pos rfl]; exact fun e => by cases e)
  · have hk0 : k = 0 := by
      rcases Nat.eq_zero_or_pos k with h0 | h0
      · exact h0
      · have hn0 := hj 0 h0
        have hm := fromBack_mem (ixs p) (k := 0) (by omega)
        rcases h.ix hm with ⟨e, _⟩ | ⟨e, _⟩
        · rw [e] at hn0; exact absurd hn0 (by unfold gotC; rw [if_pos rfl]; exact fun e => by cases e)
        · rw [e] at hn0; exact absurd hn0 (by unfold gotC; rw [if_neg (by decide), if_pos rfl]; exact fun e => by cases e)
    subst hk0
    have hm := fromBack_mem (ixs p) hk
    rcases h.ix hm with ⟨e, hf⟩ | ⟨e, hfst, hf⟩
    · rw [e] at hg
      obtain rfl : sB zb = s := Option.some.inj hg
      exact ⟨.inr (.inl ⟨vv, dv, rfl, h3, h4⟩), hb⟩
    · rw [e] at hg
      obtain rfl : sA za = s := Option.some.inj hg
      refine ⟨.inr (.inr ⟨hfst, fun hf9 => ?_, vv, dv, rfl, h3, h4⟩), hb⟩
      obtain ⟨i, hi, hie⟩ := List.getElem_of_mem (m9 hf9)
      have e1 : (ixs p)[(ixs p).length - 1] = 3 := by
        have h5 : (fromBack (ixs p) 0).2 = (ixs p)[(ixs p).length - 1] := by show (ixs p)[(ixs p).length - 1 - 0]?.getD 0 = _; rw [Nat.sub_zero, List.getElem?_eq_getElem (by omega)]; rfl
        rw [← h5]; exact e
      rcases Nat.lt_or_ge i ((ixs p).length - 1) with hlt | hge
      · have := List.pairwise_iff_getElem.1 (ixs_up h.calm.up h.names) i _ hi (by omega) hlt
        omega
      · have h6 : i = (ixs p).length - 1 := by omega
        subst h6
        omega
end Go.Proofs.YtdcpfjlnagigaaaGreatDoor
