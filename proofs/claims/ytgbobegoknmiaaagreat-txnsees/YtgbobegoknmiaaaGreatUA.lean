/- TxnSees: the data. -/
import Derived.Test.YtgbobegoknmiaaaGreatLA
namespace Go.Proofs.YtgbobegoknmiaaaGreat
open Go Go.RowKit

def sPut (f : Nat → ByteArray) (i : Nat) : Opd := ⟨0, kn i, ⟨#[]⟩, f i, 0, 0⟩
/-- The transaction's operations: a put and a look, for each value. -/
def sOps (f : Nat → ByteArray) : Nat → List Opd
  | 0 => []
  | n + 1 => sOps f n ++ [sPut f n, rOp 0]
def sKV (f : Nat → ByteArray) (j : Nat) : KVd := newKV noS (sPut f j)
def sKs (f : Nat → ByteArray) (n : Nat) : List KVd := (List.range n).map (sKV f)
def sRs (f : Nat → ByteArray) : Nat → List Rs
  | 0 => []
  | n + 1 => sRs f n ++ [⟨0, []⟩, ⟨((n + 1 : Nat) : Int), sKs f (n + 1)⟩]
theorem kns_asc : ∀ n, n < 17 → Asc ((List.range n).map kn) := by
  have h : ∀ n, n < 17 → ((List.range n).map kn).Pairwise (fun x y => klt x y = true) := by decide +kernel
  intro n hn
  rw [asc_iff]
  exact h n hn
theorem sOps_len (f : Nat → ByteArray) : ∀ n, (sOps f n).length = 2 * n
  | 0 => rfl
  | n + 1 => by simp only [sOps, List.length_append, sOps_len f n, List.length_cons, List.length_nil]; omega
theorem sRs_len (f : Nat → ByteArray) : ∀ n, (sRs f n).length = 2 * n
  | 0 => rfl
  | n + 1 => by simp only [sRs, List.length_append, sRs_len f n, List.length_cons, List.length_nil]; omega
theorem sKs_len (f : Nat → ByteArray) (n : Nat) : (sKs f n).length = n := by unfold sKs; simp
theorem sRs_at (f : Nat → ByteArray) : ∀ {n j : Nat}, j < n → (sRs f n)[2 * j]? = some ⟨0, []⟩ ∧ (sRs f n)[2 * j + 1]? = some ⟨((j + 1 : Nat) : Int), sKs f (j + 1)⟩
  | 0, j, h => by omega
  | n + 1, j, h => by
    have hl := sRs_len f n
    rcases Nat.lt_or_ge j n with h1 | h1
    · obtain ⟨a, b⟩ := sRs_at f h1
      unfold sRs
      rw [List.getElem?_append_left (by omega), List.getElem?_append_left (by omega)]
      exact ⟨a, b⟩
    · obtain rfl : j = n := by omega
      unfold sRs
      rw [List.getElem?_append_right (by omega), List.getElem?_append_right (by omega), hl, show 2 * j - 2 * j = 0 by omega, show 2 * j + 1 - 2 * j = 1 by omega]
      exact ⟨rfl, rfl⟩
theorem sOps_at (f : Nat → ByteArray) : ∀ {n i : Nat} {x : Opd}, (sOps f n)[i]? = some x → (∃ a, i = 2 * a ∧ a < n ∧ x = sPut f a) ∨ x = rOp 0
  | 0, i, x, h => by simp [sOps] at h
  | n + 1, i, x, h => by
    have hl := sOps_len f n
    unfold sOps at h
    rcases Nat.lt_or_ge i (2 * n) with h1 | h1
    · rw [List.getElem?_append_left (by omega)] at h
      rcases sOps_at f h with ⟨a, h1, h2, h3⟩ | h
      · exact .inl ⟨a, h1, by omega, h3⟩
      · exact .inr h
    · rw [List.getElem?_append_right (by omega), hl] at h
      obtain ⟨k, hk⟩ : ∃ k, k = i - 2 * n := ⟨_, rfl⟩
      rw [← hk] at h
      have hk2 := (List.getElem?_eq_some_iff.1 h).1
      simp at hk2
      have : k = 0 ∨ k = 1 := by omega
      rcases this with rfl | rfl
      · exact .inl ⟨n, by omega, by omega, by simpa using h.symm⟩
      · exact .inr (by simpa using h.symm)
theorem first_all {α : Type} {f : α → Int} : ∀ {l : List α}, (∀ x ∈ l, f x = 0) → firstE f l = 0
  | [], _ => rfl
  | x :: l, h => by
    unfold firstE
    rw [if_pos (h x (by simp))]
    exact first_all (fun y hy => h y (by simp [hy]))
theorem sPut_e {f : Nat → ByteArray} {i : Nat} (hi : i < 16) (hf : (f i).size ≤ 500) : opE (sPut f i) = 0 := by
  unfold opE
  rw [if_pos (show (sPut f i).kind = 0 from rfl), if_neg (by rintro (h | h); exact h rfl; exact absurd h (by decide : ¬ (0 : Int) < 0)), if_neg (by rw [show (sPut f i).key = kn i from rfl, (kn_ok i hi).1]; decide), if_neg (by show ¬ 4096 < (f i).size; omega)]
theorem sees_check {f : Nat → ByteArray} {n : Nat} (hn : n ≤ 10) (hf : ∀ j, j < n → (f j).size ≤ 500) : checkE ⟨[], sOps f n, []⟩ = 0 := by
  refine check_small _ (by simp) (by show (sOps f n).length ≤ 32; rw [sOps_len]; omega) (by simp) rfl (first_all (fun x hx => ?_)) rfl (twB_no (fun i j x y hi hj hij h0 => ?_)) rfl
  · obtain ⟨i, hi, e⟩ := List.getElem_of_mem hx
    rcases sOps_at f (x := x) (by rw [List.getElem?_eq_getElem hi, e]) with ⟨a, -, h2, rfl⟩ | rfl
    · exact sPut_e (by omega) (hf a h2)
    · rfl
  · rcases sOps_at f hi with ⟨a, h1, h2, rfl⟩ | rfl
    · rcases sOps_at f hj with ⟨b, h3, h4, rfl⟩ | rfl
      · have hne : ¬ kn a = kn b := fun e => by have := kn_inj (by omega) (by omega) e; omega
        show (if (0 : Int) = 2 then false else inRr (kn b) ⟨#[]⟩ (kn a)) = false
        rw [if_neg (by decide)]
        unfold inRr
        first | exact decide_eq_false hne | (rw [if_pos rfl]; first | exact decide_eq_false hne | exact decide_eq_false (Ne.symm hne)) | (simp [hne, Ne.symm hne])
      · rfl
    · exact absurd h0 (by show ¬ (2 : Int) = 0; decide)
/-- The write behind n rounds. -/
structure SW (f : Nat → ByteArray) (W : Wri) (n : Nat) : Prop where
  keys : W.keys = (List.range n).map kn
  ch : ∀ j, j < n → W.ch (kn j) = some (some (sKV f j))
  ct : W.count ≤ n
  cov : ∀ k, W.ch k ≠ none ↔ k ∈ W.keys
theorem SW.new (f : Nat → ByteArray) : SW f (noW noS.nth) 0 := ⟨rfl, fun j hj => by omega, by show (0 : Int) ≤ 0; omega, noW_cov _⟩
theorem SW.put {f : Nat → ByteArray} {W : Wri} {i : Nat} (H : SW f W i) (L : Int → Bool) (hi : i < 16) (hf : (f i).size ≤ 500) {m : Nat} {w : World} {s : Nat} {g : Sg} {o : Value} (hst : St m w s noS g o) : doE noS L W (sPut f i) = 0 ∧ SW f (doW noS L W (sPut f i)) (i + 1) ∧ doR noS W (sPut f i) = ⟨0, []⟩ := by
  have hn : W.ch (kn i) = none := Classical.byContradiction (fun e => by
    have := (H.cov _).1 e
    rw [H.keys] at this
    obtain ⟨j, hj, e2⟩ := List.mem_map.1 this
    have hj := List.mem_range.1 hj
    have := kn_inj (by omega) hi e2
    omega)
  have hct := H.ct
  have P : PutOk noS L (sPut f i) := ⟨rfl, (kn_ok i hi).1, (by decide : ¬ (0 : Int) < 0), by show ¬ 4096 < (f i).size; omega, by decide, .inl rfl⟩
  obtain ⟨e1, e2⟩ := P.e W hn (by omega)
  obtain ⟨f1, f2, f3⟩ := tputK_f noS W (sPut f i)
  refine ⟨e1, ?_, ?_⟩
  · rw [e2]
    refine ⟨by rw [f1, H.keys, List.range_succ, List.map_append]; rfl, fun j hj => ?_, by omega, fun k => ?_⟩
    · rw [f2]
      rcases Nat.lt_or_ge j i with h | h
      · show (if kn j = kn i then _ else W.ch (kn j)) = _
        rw [if_neg (fun e => by have := kn_inj (by omega) hi e; omega)]
        exact H.ch j h
      · obtain rfl : j = i := by omega
        exact if_pos rfl
    · rw [f1, f2, List.mem_append, List.mem_singleton]
      by_cases h : k = (sPut f i).key
      · simp [h]
      · simp only [h, if_false, or_false]
        exact H.cov k
  · show (⟨(wrV noS W (kn i) ByteArray.empty).length, []⟩ : Rs) = _
    rw [wrV_one (_b := 0) (_h := ⟨0, .slice none 0 0, 0⟩) hst H.cov]
    unfold lookW
    rw [hn]
    rfl
theorem SW.rng {f : Nat → ByteArray} {W : Wri} {i : Nat} (H : SW f W i) (hi : i ≤ 16) : doR noS W (rOp 0) = ⟨(i : Int), sKs f i⟩ := by
  have hs : seenK noS W ⟨#[107]⟩ ⟨#[108]⟩ = (List.range i).map kn := asc_ext (seenK_asc _ _ _ _) (kns_asc i (by omega)) (fun k => by
    rw [seenK_mem, H.keys]
    constructor
    · rintro (h | h)
      · cases h
      · exact h.1
    · intro hk
      obtain ⟨j, hj, rfl⟩ := List.mem_map.1 hk
      exact .inr ⟨hk, (kn_ok j (by have := List.mem_range.1 hj; omega)).2⟩)
  have hv : wrV noS W ⟨#[107]⟩ ⟨#[108]⟩ = sKs f i := by
    unfold wrV
    rw [hs, List.filterMap_map]
    refine fm_map (fun j hj => ?_)
    show lookW noS W (kn j) = _
    unfold lookW
    rw [H.ch j (List.mem_range.1 hj)]
    rfl
  show (⟨(wrV noS W ⟨#[107]⟩ ⟨#[108]⟩).length, toldL 0 (wrV noS W ⟨#[107]⟩ ⟨#[108]⟩)⟩ : Rs) = _
  rw [hv, sKs_len]
  rfl
theorem stp_fst (S : Sto) (L : Int → Bool) : ∀ (l : List Opd) (W : Wri) (r : List Rs), (l.foldl (stp S L) (W, r)).1 = (runP S L W l).1
  | [], _, _ => rfl
  | x :: l, W, r => by
    show (l.foldl (stp S L) (doW S L W x, r ++ [doR S W x])).1 = (l.foldl (stp S L) (doW S L W x, [] ++ [doR S W x])).1
    rw [stp_fst S L l, stp_fst S L l]
theorem runE_app (S : Sto) (L : Int → Bool) (m : List Opd) : ∀ (l : List Opd) (W : Wri), runE S L W l = 0 → runE S L W (l ++ m) = runE S L (runP S L W l).1 m
  | [], _, _ => rfl
  | x :: l, W, h => by
    have h1 : doE S L W x = 0 := Classical.byContradiction (fun e => by
      unfold runE at h
      rw [if_neg e] at h
      exact e h)
    unfold runE at h
    rw [if_pos h1] at h
    show (if doE S L W x = 0 then runE S L (doW S L W x) (l ++ m) else doE S L W x) = _
    rw [if_pos h1, runE_app S L m l _ h]
    show _ = runE S L (l.foldl (stp S L) (doW S L W x, [] ++ [doR S W x])).1 m
    rw [stp_fst]
theorem sees_run {m : Nat} {w : World} {s : Nat} {g : Sg} {o : Value} (hst : St m w s noS g o) (L : Int → Bool) (f : Nat → ByteArray) : ∀ n, n ≤ 10 → (∀ j, j < n → (f j).size ≤ 500) → SW f (runP noS L (noW noS.nth) (sOps f n)).1 n ∧ (runP noS L (noW noS.nth) (sOps f n)).2 = sRs f n ∧ runE noS L (noW noS.nth) (sOps f n) = 0
  | 0, _, _ => ⟨SW.new f, rfl, rfl⟩
  | n + 1, hn, hf => by
    obtain ⟨a, b, c⟩ := sees_run hst L f n (by omega) (fun j hj => hf j (by omega))
    obtain ⟨p1, p2, p3⟩ := a.put L (by omega) (hf n (by omega)) hst
    have hP : runP noS L (noW noS.nth) (sOps f (n + 1)) = stp noS L (stp noS L (runP noS L (noW noS.nth) (sOps f n)) (sPut f n)) (rOp 0) := by
      unfold runP
      rw [show sOps f (n + 1) = sOps f n ++ [sPut f n, rOp 0] from rfl, List.foldl_append]
      rfl
    refine ⟨?_, ?_, ?_⟩
    · rw [hP]; exact p2
    · rw [hP]
      show ((runP noS L (noW noS.nth) (sOps f n)).2 ++ [doR noS _ (sPut f n)]) ++ [doR noS (doW noS L (runP noS L (noW noS.nth) (sOps f n)).1 (sPut f n)) (rOp 0)] = _
      rw [p3, p2.rng (by omega), b, List.append_assoc]
      rfl
    · rw [show sOps f (n + 1) = sOps f n ++ [sPut f n, rOp 0] from rfl, runE_app _ _ _ _ _ c]
      unfold runE
      rw [if_pos p1]
      rfl
theorem sKs_size (f : Nat → ByteArray) : ∀ n, (∀ j, j < n → (f j).size ≤ 500) → sizeK (sKs f n) ≤ n * 542
  | 0, _ => Nat.zero_le _
  | n + 1, h => by
    have h1 := sKs_size f n (fun j hj => h j (by omega))
    have h2 := h n (by omega)
    obtain ⟨f1, f2, -⟩ := newKV_f noS (sPut f n)
    have e : sKs f (n + 1) = sKs f n ++ [sKV f n] := by unfold sKs; rw [List.range_succ, List.map_append]; rfl
    rw [e, sizeK_append]
    show _ + ((newKV noS (sPut f n)).key.size + (newKV noS (sPut f n)).value.size + 40 + 0) ≤ _
    rw [f1, f2]
    show _ + (2 + (f n).size + 40 + 0) ≤ _
    omega
theorem sRs_told (f : Nat → ByteArray) : ∀ n, n ≤ 10 → (∀ j, j < n → (f j).size ≤ 500) → toldN (sRs f n) ≤ n * 5420
  | 0, _, _ => Nat.zero_le _
  | n + 1, hn, h => by
    have h1 := sRs_told f n (by omega) (fun j hj => h j (by omega))
    have h2 := sKs_size f (n + 1) h
    have e : sRs f (n + 1) = (sRs f n ++ [⟨0, []⟩]) ++ [⟨((n + 1 : Nat) : Int), sKs f (n + 1)⟩] := by rw [List.append_assoc]; rfl
    rw [e, toldN_snoc, toldN_snoc]
    show _ + 0 + sizeK (sKs f (n + 1)) ≤ _
    omega
theorem sees_all {m : Nat} {w : World} {s : Nat} {g : Sg} {o : Value} (hst : St m w s noS g o) (L : Int → Bool) (f : Nat → ByteArray) (n : Nat) (hn : n ≤ 10) (hf : ∀ j, j < n → (f j).size ≤ 500) : allE noS L (noW noS.nth) (sOps f n) = 0 := by
  obtain ⟨-, b, c⟩ := sees_run hst L f n hn hf
  have := sRs_told f n hn hf
  unfold allE
  rw [if_pos c, b, if_neg (by omega)]
/-- What the transaction's results are, in memory. -/
def SeesR (w : World) (p : Option Addr) (f : Nat → ByteArray) (n : Nat) : Prop := ∀ j, j < n → ∃ gb oo c g2 o2, p = some ⟨gb, oo, none⟩ ∧ w.cell? ⟨gb, oo + 2 * j * 2, none⟩ = some (.int .i64 0) ∧ w.cell? ⟨gb, oo + (2 * j + 1) * 2, none⟩ = some (.int .i64 ((j : Int) + 1)) ∧ w.cell? ⟨gb, oo + (2 * j + 1) * 2 + 1, none⟩ = some (.slice (some ⟨g2, o2, none⟩) (j + 1) c) ∧ w.cell? ⟨g2, o2 + j * 6 + 1, none⟩ = some (.string (f j)) ∧ w.cell? ⟨g2, o2 + j * 6 + 3, none⟩ = some (.int .i64 1)
/-- The transaction. -/
theorem sees_do {w0 w : World} {s q : Nat} {g : Sg} (H : Q9 w0 w s 0 noS g) (hLP : LsP q [] (fun _ => False) w) (hq : ∀ k, k = q ∨ False → k < w.heap.size ∧ ¬ ftS s g k) (f : Nat → ByteArray) (n : Nat) (hn : n ≤ 10) (hf : ∀ j, j < n → (f j).size ≤ 500) {lo hi tb : Nat} {vi vt ve : Value} (HB : TBx w s g lo hi tb vi vt ve ⟨[], sOps f n, []⟩) :
    Calls Tryz.prog 16 #[ptr s, .iface 45 (ptr q), .agg #[vi, vt, ve]] w fun e w' => ∃ (p : Option Addr) (c : Nat), e = .returned (.tuple #[.bool true, .slice p (2 * n) c, .int .i64 0]) ∧ ∃ S' g', Hid (Q9 w0 w' s n S' g' ∧ S'.rev = min n 1 ∧ SeesR w' p f n) := by
  obtain ⟨o, hst⟩ := H.st
  obtain ⟨a, b, -⟩ := sees_run hst (fun id => decide (id ∈ ([] : List Int))) f n hn hf
  have hall := sees_all hst (fun id => decide (id ∈ ([] : List Int))) f n hn hf
  have hck := sees_check hn hf
  have hops : opsOf noS ⟨[], sOps f n, []⟩ = sOps f n := rfl
  have hz : txE noS (fun id => decide (id ∈ ([] : List Int))) ⟨[], sOps f n, []⟩ = 0 := by unfold txE; rw [if_pos hck, hops]; exact hall
  have hP1 : (txP noS (fun id => decide (id ∈ ([] : List Int))) ⟨[], sOps f n, []⟩).1.keys = (List.range n).map kn := by unfold txP; rw [hops]; exact a.keys
  have hP2 : (txP noS (fun id => decide (id ∈ ([] : List Int))) ⟨[], sOps f n, []⟩).2 = sRs f n := by unfold txP; rw [hops]; exact b
  have hN : txN noS (fun id => decide (id ∈ ([] : List Int))) ⟨[], sOps f n, []⟩ = n := by unfold txN; rw [if_pos hz, hP1]; simp
  have hl := sOps_len f n
  have := H.do [] (fun _ => False) (by simp) hLP hq ⟨[], sOps f n, []⟩ vi vt ve HB.has (by simp) (by show (sOps f n).length ≤ _; omega) (by simp) (by rw [hN]; omega) (by rw [hN]; show 0 + n ≤ _; omega) (by rw [hN]; show 0 + n ≤ _; omega) (by decide)
  rw [hz, hN] at this
  refine this.mono ?_
  rintro e w' ⟨bt, p, mm, c, rfl, g', HT⟩
  obtain ⟨hT, hQ, hD⟩ := HT.out
  have D := hD rfl
  obtain ⟨y1, y2, -, -⟩ := hT.yes hz
  rw [hP2] at y2
  obtain ⟨p2, c2, e2, hh⟩ := y2
  rw [sRs_len] at e2
  cases e2
  have hbt : bt = true := y1
  subst hbt
  have hr := D.rev
  rw [hP1] at hr
  rw [Nat.zero_add] at hQ
  refine ⟨p, c, rfl, _, g', hQ, ?_, fun j hj => ?_⟩
  · rw [hr]
    show 0 + _ = _
    rcases Nat.eq_zero_or_pos n with rfl | h
    · rfl
    · rw [if_neg (by intro e; have := congrArg List.length e; simp at this; omega)]
      omega
  · obtain ⟨r0, r1⟩ := sRs_at f hj
    obtain ⟨gb, oo, rfl, -, -, hy0⟩ := hh _ _ r0
    obtain ⟨gb', oo', e3, -, -, hy1⟩ := hh _ _ r1
    cases e3
    obtain ⟨u, u1, p3, c3, rfl, h3⟩ := hy1.c1
    obtain ⟨f1, f2, f3, -⟩ := newKV_f noS (sPut f j)
    have hk : (sKs f (j + 1))[j]? = some (newKV noS (sPut f j)) := by unfold sKs; rw [List.getElem?_map, List.getElem?_range (by omega)]; rfl
    obtain ⟨g2, o2, rfl, -, -, hz2⟩ := h3 _ _ hk
    have d1 := hz2.c1
    have d3 := hz2.c3
    rw [f2] at d1
    rw [f3] at d3
    dsimp only at u1
    rw [sKs_len] at u1
    exact ⟨gb, oo, c3, g2, o2, rfl, hy0.c0, by have := hy1.c0; simpa using this, u1, d1, d3⟩
end Go.Proofs.YtgbobegoknmiaaaGreat
