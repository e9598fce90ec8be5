/- Records and states of a log as plain data: what a record's bytes are, what bytes are read as records, what records say. -/
import Derived.Test.YtecnlfalpfbobaaGreatDoorPA
namespace Go.Proofs.YtecnlfalpfbobaaGreatDoor
open Go Go.RowKit
/-- An entry. -/
structure En where
  i : Int
  t : Int
  k : Int
  d : List Int
/-- A record: a hard state, an entry, a base. -/
inductive RecG (α β : Type) where
  | hard (t v c : Int)
  | entry (e : α)
  | base (i t : Int) (vs : β)
abbrev Rec := RecG En (List Int)
abbrev q1 (n : Int) : List Int := (be (IntKind.u64.wrap n)).drop 7
abbrev q4 (n : Int) : List Int := (be (IntKind.u64.wrap n)).drop 4
abbrev q8 (n : Int) : List Int := (be (IntKind.u64.wrap n)).drop 0
def vsB (vs : List Int) : List Int := vs.flatMap q8
def RecG.body : RecG En (List Int) → List Int
  | .hard t v c => (((([] ++ q1 1) ++ q8 t) ++ q8 v) ++ q8 c)
  | .entry ⟨i, t, k, d⟩ => ((((([] ++ q1 2) ++ q8 i) ++ q8 t) ++ q1 k) ++ (q4 d.length ++ d))
  | .base i t vs => ((((([] ++ q1 3) ++ q8 i) ++ q8 t) ++ q1 vs.length) ++ vsB vs)
def RecG.enc (r : RecG En (List Int)) : List Int := frameB r.body
def encs (rs : List Rec) : List Int := rs.flatMap RecG.enc
theorem encs_snoc (rs : List Rec) (r : Rec) : encs (rs ++ [r]) = encs rs ++ r.enc := by simp [encs]
theorem encs_cons (r : Rec) (rs : List Rec) : encs (r :: rs) = r.enc ++ encs rs := by simp [encs]
theorem encs_append (a b : List Rec) : encs (a ++ b) = encs a ++ encs b := by simp [encs]
theorem vsB_snoc (vs : List Int) (v : Int) : vsB (vs ++ [v]) = vsB vs ++ q8 v := by simp [vsB]
/-- A reader's place, and the error that it keeps. -/
structure Rs where
  a : Nat
  e : Int
def Rs.go (zs : List Int) (r : Rs) (n : Nat) : Rs := ⟨takeA zs r.a r.e n, takeE zs r.a r.e n⟩
def Rs.num (zs : List Int) (r : Rs) (n : Nat) : Int := wrap64 (rd (takeB zs r.a r.e n))
def Rs.text (zs : List Int) (r : Rs) : List Int := textB zs r.a r.e
def Rs.goT (zs : List Int) (r : Rs) : Rs := ⟨textA zs r.a r.e, textE zs r.a r.e⟩
/-- So many numbers behind a place. -/
def vots (zs : List Int) : Nat → Rs → List Int × Rs
  | 0, r => ([], r)
  | n + 1, r => ((vots zs n r).1 ++ [(vots zs n r).2.num zs 8], (vots zs n r).2.go zs 8)
theorem vots_len (zs : List Int) (r : Rs) : ∀ n, (vots zs n r).1.length = n
  | 0 => rfl
  | n + 1 => by simp [vots, vots_len zs r n]
def Rs.done (zs : List Int) (r : Rs) : Bool := decide (r.e = 0) && decide (r.a = zs.length)
def r1 (zs : List Int) : Rs := (⟨0, 0⟩ : Rs).go zs 1
def parseHard (zs : List Int) : Option Rec :=
  if ((((r1 zs).go zs 8).go zs 8).go zs 8).done zs then some (.hard ((r1 zs).num zs 8) (((r1 zs).go zs 8).num zs 8) ((((r1 zs).go zs 8).go zs 8).num zs 8)) else none
def parseEntry (zs : List Int) : Option Rec :=
  if decide ((((r1 zs).go zs 8).go zs 8).num zs 1 ≤ 2) && (((((r1 zs).go zs 8).go zs 8).go zs 1).goT zs).done zs then
    some (.entry ⟨(r1 zs).num zs 8, ((r1 zs).go zs 8).num zs 8, (((r1 zs).go zs 8).go zs 8).num zs 1, ((((r1 zs).go zs 8).go zs 8).go zs 1).text zs⟩) else none
def votN (zs : List Int) : Nat := ((((r1 zs).go zs 8).go zs 8).num zs 1).toNat
def votP (zs : List Int) : List Int × Rs := vots zs (votN zs) ((((r1 zs).go zs 8).go zs 8).go zs 1)
def parseBaseP (zs : List Int) : Option Rec :=
  if decide (votN zs ≤ 7) && (votP zs).2.done zs then some (.base ((r1 zs).num zs 8) (((r1 zs).go zs 8).num zs 8) (votP zs).1) else none
def kindOf (zs : List Int) : Int := (⟨0, 0⟩ : Rs).num zs 1
/-- The record that bytes are. -/
def parseP (zs : List Int) : Option Rec :=
  if kindOf zs = 1 then parseHard zs else if kindOf zs = 2 then parseEntry zs else if kindOf zs = 3 then parseBaseP zs else none
def recsF : Nat → List Int → List Rec
  | 0, _ => []
  | n + 1, zs => if unfE zs = 0 then (match parseP (unfR zs) with | some r => r :: recsF n (zs.drop (unfN zs)) | none => []) else []
/-- The records of bytes, up to the first that is not whole. -/
def recsOf (zs : List Int) : List Rec := recsF (zs.length + 1) zs
theorem unfE_len {zs : List Int} (h : unfE zs = 0) : 8 + unfL zs ≤ zs.length ∧ unfN zs = 8 + unfL zs ∧ unfR zs = unfB zs := by
  have hN : unfN zs = 8 + unfL zs := by rw [unfN, if_pos h]
  have hR : unfR zs = unfB zs := by rw [unfR, if_pos h]
  refine ⟨?_, hN, hR⟩
  unfold unfE at h
  split at h
  · cases h
  · split at h
    · cases h
    · split at h
      · cases h
      · omega
theorem recsF_enough : ∀ (n m : Nat) (zs : List Int), zs.length < n → zs.length < m → recsF n zs = recsF m zs
  | 0, _, _, h, _ => by omega
  | _, 0, _, _, h => by omega
  | n + 1, m + 1, zs, h1, h2 => by
    simp only [recsF]
    by_cases he : unfE zs = 0
    · rw [if_pos he, if_pos he]
      have := unfE_len he
      have hl : (zs.drop (unfN zs)).length < n ∧ (zs.drop (unfN zs)).length < m := by simp; omega
      rw [recsF_enough n m _ hl.1 hl.2]
    · rw [if_neg he, if_neg he]
theorem recsOf_none {zs : List Int} (h : unfE zs ≠ 0) : recsOf zs = [] := by simp [recsOf, recsF, h]
theorem recsOf_bad {zs : List Int} (h : unfE zs = 0) (hp : parseP (unfR zs) = none) : recsOf zs = [] := by simp [recsOf, recsF, h, hp]
theorem recsOf_cons {zs : List Int} {r : Rec} (h : unfE zs = 0) (hp : parseP (unfR zs) = some r) : recsOf zs = r :: recsOf (zs.drop (unfN zs)) := by
  have := unfE_len h
  unfold recsOf
  rw [recsF, if_pos h, hp]
  simp only
  rw [recsF_enough zs.length ((zs.drop (unfN zs)).length + 1) _ (by simp; omega) (by omega)]

/-! ### Numbers that a record may hold -/
def i64 (n : Int) : Prop := -9223372036854775808 ≤ n ∧ n ≤ 9223372036854775807
def RecG.ok : RecG En (List Int) → Prop
  | .hard t v c => i64 t ∧ i64 v ∧ i64 c
  | .entry ⟨i, t, k, d⟩ => i64 i ∧ i64 t ∧ 0 ≤ k ∧ k ≤ 2 ∧ isB d ∧ d.length ≤ 70000
  | .base i t vs => i64 i ∧ i64 t ∧ vs.length ≤ 7 ∧ ∀ v ∈ vs, i64 v
theorem q8_len (n : Int) : (q8 n).length = 8 := rfl
theorem q4_len (n : Int) : (q4 n).length = 4 := rfl
theorem q1_len (n : Int) : (q1 n).length = 1 := rfl
theorem vsB_len : ∀ vs : List Int, (vsB vs).length = 8 * vs.length
  | [] => rfl
  | v :: r => by have := vsB_len r; simp only [vsB, List.flatMap_cons, List.length_append, q8_len, List.length_cons] at *; omega
theorem body_len : ∀ r : Rec, r.body.length = match r with | .hard _ _ _ => 25 | .entry ⟨_, _, _, d⟩ => 22 + d.length | .base _ _ vs => 18 + 8 * vs.length
  | .hard _ _ _ => rfl
  | .entry ⟨i, t, k, d⟩ => by
    show ((((([] ++ q1 2) ++ q8 i) ++ q8 t) ++ q1 k) ++ (q4 d.length ++ d)).length = _
    have h4 : (q4 d.length ++ d).length = 4 + d.length := by rw [List.length_append]; rfl
    rw [List.length_append, h4]
    show 18 + (4 + d.length) = 22 + d.length
    omega
  | .base i t vs => by
    show ((((([] ++ q1 3) ++ q8 i) ++ q8 t) ++ q1 vs.length) ++ vsB vs).length = _
    rw [List.length_append, vsB_len]
    rfl
theorem enc_len (r : Rec) : r.enc.length = 8 + r.body.length := by unfold RecG.enc; rw [frameB_len]; omega
theorem q_isB (n : Int) (k : Nat) : isB ((be (IntKind.u64.wrap n)).drop k) := fun x hx => be_isB _ (u64_bd _).1 (u64_bd _).2 x (List.mem_of_mem_drop hx)
theorem isB_app {a b : List Int} (ha : isB a) (hb : isB b) : isB (a ++ b) := fun x hx => by rcases List.mem_append.1 hx with h | h; exact ha x h; exact hb x h
theorem vsB_isB (vs : List Int) : isB (vsB vs) := fun x hx => by
  obtain ⟨v, _, h⟩ := List.mem_flatMap.1 hx
  exact q_isB v 0 x h
theorem body_isB : ∀ {r : Rec}, r.ok → isB r.body
  | .hard t v c, _ => by unfold RecG.body; exact isB_app (isB_app (isB_app (isB_app (fun _ h => by cases h) (q_isB _ _)) (q_isB _ _)) (q_isB _ _)) (q_isB _ _)
  | .entry ⟨i, t, k, d⟩, h => by unfold RecG.body; exact isB_app (isB_app (isB_app (isB_app (isB_app (fun _ h => by cases h) (q_isB _ _)) (q_isB _ _)) (q_isB _ _)) (q_isB _ _)) (isB_app (q_isB _ _) h.2.2.2.2.1)
  | .base i t vs, _ => by unfold RecG.body; exact isB_app (isB_app (isB_app (isB_app (isB_app (fun _ h => by cases h) (q_isB _ _)) (q_isB _ _)) (q_isB _ _)) (q_isB _ _)) (vsB_isB vs)
theorem frameB_isB {z : List Int} (h : isB z) (hl : z.length ≤ 100000) : isB (frameB z) := by
  unfold frameB
  refine isB_app ?_ (isB_app ?_ h)
  · exact fun x hx => be_isB _ (by omega) (by omega) x (List.mem_of_mem_drop hx)
  · exact fun x hx => be_isB _ (by omega) (by have := crc_lt z; omega) x (List.mem_of_mem_drop hx)
theorem body_small {r : Rec} (h : r.ok) : r.body.length ≤ 70100 := by
  have := body_len r
  cases r with
  | hard t v c => simp only at this; omega
  | entry e => have := h.2.2.2.2.2; simp only at *; omega
  | base i t vs => have := h.2.2.1; simp only at *; omega
theorem enc_isB {r : Rec} (h : r.ok) : isB r.enc := frameB_isB (body_isB h) (by have := body_small h; omega)
theorem encs_isB {rs : List Rec} (h : ∀ r ∈ rs, r.ok) : isB (encs rs) := fun x hx => by
  obtain ⟨r, hr, h2⟩ := List.mem_flatMap.1 hx
  exact enc_isB (h r hr) x h2

/-! ### A record's bytes are read as that record -/
theorem num8_of {zs A R : List Int} {n : Int} (e : zs = A ++ (q8 n ++ R)) (h : i64 n) : Rs.num zs ⟨A.length, 0⟩ 8 = n := by
  subst e
  unfold Rs.num
  simp only
  rw [show (8 : Nat) = (q8 n).length from rfl, takeB_at]
  exact rd_be0 n h.1 h.2
theorem go8_of {zs A R : List Int} {n : Int} (e : zs = A ++ (q8 n ++ R)) : Rs.go zs ⟨A.length, 0⟩ 8 = ⟨(A ++ q8 n).length, 0⟩ := by
  subst e
  unfold Rs.go
  simp only
  rw [show (8 : Nat) = (q8 n).length from rfl, takeA_at, takeE_at, List.length_append]
theorem num1_of {zs A R : List Int} {n : Int} (e : zs = A ++ (q1 n ++ R)) (h0 : 0 ≤ n) (h1 : n ≤ 255) : Rs.num zs ⟨A.length, 0⟩ 1 = n := by
  subst e
  unfold Rs.num
  simp only
  rw [show (1 : Nat) = (q1 n).length from rfl, takeB_at, rd_be7]
  omega
theorem go1_of {zs A R : List Int} {n : Int} (e : zs = A ++ (q1 n ++ R)) : Rs.go zs ⟨A.length, 0⟩ 1 = ⟨(A ++ q1 n).length, 0⟩ := by
  subst e
  unfold Rs.go
  simp only
  rw [show (1 : Nat) = (q1 n).length from rfl, takeA_at, takeE_at, List.length_append]
theorem strB_nums {d : List Int} (h : isB d) : strB (strOfNums d) = d := by
  unfold strB
  rw [strOfNums_data, List.map_map]
  conv => rhs; rw [← List.map_id d]
  refine List.map_congr_left fun x hx => ?_
  have := h x hx
  simp only [Function.comp, id, UInt8.toNat_ofNat']
  omega
theorem text_of {zs A R d : List Int} (e : zs = A ++ ((q4 d.length ++ d) ++ R)) (hd : isB d) (hl : d.length ≤ 100000) :
    Rs.text zs ⟨A.length, 0⟩ = d ∧ Rs.goT zs ⟨A.length, 0⟩ = ⟨(A ++ (q4 d.length ++ d)).length, 0⟩ := by
  have hs := strB_nums hd
  have hz : (strOfNums d).size = d.length := by rw [← strB_len, hs]
  have h := text_at A R (strOfNums d) (by omega)
  rw [hs, hz] at h
  subst e
  refine ⟨h.1, ?_⟩
  unfold Rs.goT
  simp only
  rw [h.2.1, h.2.2]
  exact congrArg (fun n => (⟨n, 0⟩ : Rs)) List.length_append.symm
theorem vots_of {zs A R vs : List Int} (e : zs = A ++ (vsB vs ++ R)) (h : ∀ v ∈ vs, i64 v) : ∀ n, n ≤ vs.length → vots zs n ⟨A.length, 0⟩ = (vs.take n, ⟨(A ++ vsB (vs.take n)).length, 0⟩)
  | 0, _ => by simp [vots, vsB]
  | n + 1, hn => by
    have ih := vots_of e h n (by omega)
    have hv : vs = vs.take n ++ (vs[n] :: vs.drop (n + 1)) := by rw [List.getElem_cons_drop, List.take_append_drop]
    have e2 : zs = (A ++ vsB (vs.take n)) ++ (q8 vs[n] ++ (vsB (vs.drop (n + 1)) ++ R)) := by
      have hf : vsB vs = vsB (vs.take n) ++ (q8 vs[n] ++ vsB (vs.drop (n + 1))) := by
        conv => lhs; rw [hv]
        unfold vsB; rw [List.flatMap_append, List.flatMap_cons]
      rw [e, hf]
      simp only [List.append_assoc]
    have ht : vs.take (n + 1) = vs.take n ++ [vs[n]] := by rw [List.take_succ_eq_append_getElem (by omega)]
    rw [vots, ih]
    simp only
    rw [num8_of e2 (h _ (List.getElem_mem _)), go8_of e2, ht, vsB_snoc, List.append_assoc]
theorem done_of {zs A : List Int} (e : zs = A) : Rs.done zs ⟨A.length, 0⟩ = true := by subst e; simp [Rs.done]
theorem parse_body {r : Rec} (h : r.ok) : parseP r.body = some r := by
  cases r with
  | hard t v c =>
    obtain ⟨ht, hv, hc⟩ := h
    generalize hz : (RecG.hard t v c : Rec).body = zs
    unfold RecG.body at hz
    have e0 : zs = [] ++ (q1 1 ++ (q8 t ++ q8 v ++ q8 c)) := by rw [← hz]; simp only [List.append_assoc, List.nil_append]
    have e1 : zs = ([] ++ q1 1) ++ (q8 t ++ (q8 v ++ q8 c)) := by rw [← hz]; simp only [List.append_assoc, List.nil_append]
    have e2 : zs = (([] ++ q1 1) ++ q8 t) ++ (q8 v ++ q8 c) := by rw [← hz]; simp only [List.append_assoc, List.nil_append]
    have e3 : zs = ((([] ++ q1 1) ++ q8 t) ++ q8 v) ++ (q8 c ++ []) := by rw [← hz]; simp only [List.append_assoc, List.nil_append, List.append_nil]
    have hk : kindOf zs = 1 := num1_of e0 (by omega) (by omega)
    have hr : r1 zs = ⟨([] ++ q1 1).length, 0⟩ := go1_of e0
    rw [parseP, if_pos hk, parseHard, hr, go8_of e1, go8_of e2, go8_of e3, done_of hz.symm, num8_of e1 ht, num8_of e2 hv, num8_of e3 hc]
    rfl
  | entry e =>
    obtain ⟨i, t, k, d⟩ := e
    obtain ⟨hi, ht, hk0, hk2, hd, hdl⟩ := h
    generalize hz : (RecG.entry ⟨i, t, k, d⟩ : Rec).body = zs
    unfold RecG.body at hz
    have e0 : zs = [] ++ (q1 2 ++ (q8 i ++ q8 t ++ q1 k ++ (q4 d.length ++ d))) := by rw [← hz]; simp only [List.append_assoc, List.nil_append]
    have e1 : zs = ([] ++ q1 2) ++ (q8 i ++ (q8 t ++ q1 k ++ (q4 d.length ++ d))) := by rw [← hz]; simp only [List.append_assoc, List.nil_append]
    have e2 : zs = (([] ++ q1 2) ++ q8 i) ++ (q8 t ++ (q1 k ++ (q4 d.length ++ d))) := by rw [← hz]; simp only [List.append_assoc, List.nil_append]
    have e3 : zs = ((([] ++ q1 2) ++ q8 i) ++ q8 t) ++ (q1 k ++ (q4 d.length ++ d)) := by rw [← hz]; simp only [List.append_assoc, List.nil_append]
    have e4 : zs = (((([] ++ q1 2) ++ q8 i) ++ q8 t) ++ q1 k) ++ ((q4 d.length ++ d) ++ []) := by rw [← hz]; simp only [List.append_assoc, List.nil_append, List.append_nil]
    have hk : kindOf zs = 2 := num1_of e0 (by omega) (by omega)
    have hr : r1 zs = ⟨([] ++ q1 2).length, 0⟩ := go1_of e0
    have hx := text_of e4 hd (by omega)
    rw [parseP, if_neg (by omega), if_pos hk, parseEntry, hr, go8_of e1, go8_of e2, go1_of e3, hx.1, hx.2, done_of hz.symm, num8_of e1 hi, num8_of e2 ht, num1_of e3 hk0 (by omega)]
    simp [hk2]
  | base i t vs =>
    obtain ⟨hi, ht, hl, hv⟩ := h
    generalize hz : (RecG.base i t vs : Rec).body = zs
    unfold RecG.body at hz
    have e0 : zs = [] ++ (q1 3 ++ (q8 i ++ q8 t ++ q1 vs.length ++ vsB vs)) := by rw [← hz]; simp only [List.append_assoc, List.nil_append]
    have e1 : zs = ([] ++ q1 3) ++ (q8 i ++ (q8 t ++ q1 vs.length ++ vsB vs)) := by rw [← hz]; simp only [List.append_assoc, List.nil_append]
    have e2 : zs = (([] ++ q1 3) ++ q8 i) ++ (q8 t ++ (q1 vs.length ++ vsB vs)) := by rw [← hz]; simp only [List.append_assoc, List.nil_append]
    have e3 : zs = ((([] ++ q1 3) ++ q8 i) ++ q8 t) ++ (q1 vs.length ++ vsB vs) := by rw [← hz]; simp only [List.append_assoc, List.nil_append]
    have e4 : zs = (((([] ++ q1 3) ++ q8 i) ++ q8 t) ++ q1 vs.length) ++ (vsB vs ++ []) := by rw [← hz]; simp only [List.append_assoc, List.nil_append, List.append_nil]
    have hk : kindOf zs = 3 := num1_of e0 (by omega) (by omega)
    have hr : r1 zs = ⟨([] ++ q1 3).length, 0⟩ := go1_of e0
    have hN : votN zs = vs.length := by rw [votN, hr, go8_of e1, go8_of e2, num1_of e3 (by omega) (by omega)]; rfl
    have hP : votP zs = (vs, ⟨zs.length, 0⟩) := by
      rw [votP, hN, hr, go8_of e1, go8_of e2, go1_of e3, vots_of e4 hv _ (Nat.le_refl _), List.take_length, ← hz]
    rw [parseP, if_neg (by omega), if_neg (by omega), if_pos hk, parseBaseP, hN, hP, hr, go8_of e1, num8_of e1 hi, num8_of e2 ht]
    simp [hl, Rs.done]
theorem recsOf_enc {r : Rec} (h : r.ok) (R : List Int) : recsOf (r.enc ++ R) = r :: recsOf R := by
  have hb := body_small h
  have hE : unfE (r.enc ++ R) = 0 := unfE_frame r.body R (by omega)
  have hR : unfR (r.enc ++ R) = r.body := unfR_frame r.body R (by omega)
  have hN : unfN (r.enc ++ R) = r.enc.length := by rw [enc_len]; have := unfN_frame r.body R (by omega); unfold RecG.enc; omega
  rw [recsOf_cons hE (by rw [hR]; exact parse_body h), hN, List.drop_left]
theorem recsOf_encs : ∀ {rs : List Rec} (_ : ∀ r ∈ rs, r.ok) (R : List Int), recsOf (encs rs ++ R) = rs ++ recsOf R
  | [], _, R => by simp [encs]
  | r :: rs, h, R => by
    rw [encs_cons, List.append_assoc, recsOf_enc (h r (by simp)), recsOf_encs (fun x hx => h x (by simp [hx])), List.cons_append]
theorem recsOf_nil : recsOf [] = [] := recsOf_none (by decide)
theorem recsOf_all {rs : List Rec} (h : ∀ r ∈ rs, r.ok) : recsOf (encs rs) = rs := by
  have := recsOf_encs h []
  rwa [List.append_nil, recsOf_nil, List.append_nil] at this
/-- A front of records' bytes is read as a front of them. -/
theorem recsOf_front : ∀ {rs : List Rec} (_ : ∀ r ∈ rs, r.ok) (c : Nat), ∃ j, j ≤ rs.length ∧ recsOf ((encs rs).take c) = rs.take j
  | [], _, c => ⟨0, Nat.le_refl _, by simp [encs, recsOf_nil]⟩
  | r :: rs, h, c => by
    by_cases hc : r.enc.length ≤ c
    · obtain ⟨j, hj, e⟩ := recsOf_front (fun x hx => h x (by simp [hx])) (rs := rs) (c - r.enc.length)
      refine ⟨j + 1, by simpa using hj, ?_⟩
      rw [encs_cons, List.take_append, List.take_of_length_le hc, recsOf_enc (h r (by simp)), e, List.take_succ_cons]
    · refine ⟨0, Nat.zero_le _, ?_⟩
      rw [encs_cons, List.take_append_of_le_length (by omega), List.take_zero]
      have hb := body_small (h r (by simp))
      refine recsOf_none ?_
      have := unfE_cut r.body (by omega) c (by unfold RecG.enc at hc; omega)
      unfold RecG.enc
      rw [this]; decide
end Go.Proofs.YtecnlfalpfbobaaGreatDoor
