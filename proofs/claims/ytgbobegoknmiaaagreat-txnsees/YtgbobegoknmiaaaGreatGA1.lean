/- TxnGuards: of two transactions that ask whether a key is as it was, and put it, the second does not. -/
import Derived.Test.YtgbobegoknmiaaaGreatTK
namespace Go.Proofs.YtgbobegoknmiaaaGreat
open Go Go.RowKit

def gIf (key : ByteArray) (m : Nat) : Ifd := ⟨key, 2, 0, m, ⟨#[]⟩⟩
def gPut (key v : ByteArray) : Opd := ⟨0, key, ⟨#[]⟩, v, 0, 0⟩
def gGet (key : ByteArray) : Opd := ⟨2, key, ⟨#[]⟩, ⟨#[]⟩, 0, 0⟩
structure GI (w0 w : World) (s n : Nat) (S : Sto) (g : Sg) (key : ByteArray) (i : Nat) : Prop where
  q : Q9 w0 w s n S g
  md : (S.rev = 0 ∧ thereH (S.kh key) = none) ∨ ∃ kv, thereH (S.kh key) = some kv ∧ kv.mod = S.rev
  rev : S.rev ≤ i
  n : n ≤ i
  ks : S.ks.length ≤ i
  nth : S.nth ≤ i
theorem cmpN_same (a : Int) : cmpN a a = 0 := by unfold cmpN; rw [if_neg (by omega), if_neg (by omega)]
theorem holds_mod {S : Sto} {key : ByteArray} {m : Nat} {kv : KVd} (h : (thereH (S.kh key)).getD noKV = kv) : holdsC S (gIf key m) = decide (kv.mod = m) := by
  have h2 : compE kv (gIf key m) = (cmpN kv.mod m, true) := by
    unfold compE
    rw [if_neg (show ¬ (gIf key m).target = 0 from (by decide : ¬ (2 : Int) = 0)), if_neg (show ¬ (gIf key m).target = 1 from (by decide : ¬ (2 : Int) = 1)), if_pos (show (gIf key m).target = 2 from rfl)]
    rfl
  unfold holdsC
  dsimp only
  rw [show (gIf key m).key = key from rfl, h, h2]
  rw [if_neg (show ¬ true = false by decide), if_pos (show (gIf key m).sign = 0 from rfl)]
  unfold cmpN
  by_cases e : kv.mod = m
  · rw [if_neg (by omega), if_neg (by omega), decide_eq_true e]; rfl
  · rw [decide_eq_false e]
    by_cases e2 : kv.mod < (m : Int)
    · rw [if_pos e2]; rfl
    · rw [if_neg e2, if_pos (by omega)]; rfl
theorem GI.yes {w0 w : World} {s n : Nat} {S : Sto} {g : Sg} {key : ByteArray} {i : Nat} (H : GI w0 w s n S g key i) : ([gIf key S.rev] : List Ifd).all (holdsC S) = true := by
  have : holdsC S (gIf key S.rev) = true := by
    rcases H.md with ⟨h1, h2⟩ | ⟨kv, h1, h2⟩
    · rw [holds_mod (kv := noKV) (by rw [h2]; rfl), h1]; rfl
    · rw [holds_mod (kv := kv) (by rw [h1]; rfl), h2]; simp
  simp [this]
theorem guard_no {S T : Sto} {key v : ByteArray} (h : thereH (T.kh key) = some (newKV S (gPut key v))) : ([gIf key S.rev] : List Ifd).all (holdsC T) = false := by
  have hm : (newKV S (gPut key v)).mod = (S.rev : Int) + 1 := by unfold newKV; split <;> rfl
  have : holdsC T (gIf key S.rev) = false := by
    rw [holds_mod (kv := newKV S (gPut key v)) (by rw [h]; rfl), hm]
    exact decide_eq_false (by omega)
  simp [this]
theorem newKV_f (S : Sto) (o : Opd) : (newKV S o).key = o.key ∧ (newKV S o).value = o.value ∧ (newKV S o).mod = (S.rev : Int) + 1 ∧ (newKV S o).lease = o.lease := by
  unfold newKV
  split <;> exact ⟨rfl, rfl, rfl, rfl⟩
theorem run_get {n : Nat} {w : World} {s : Nat} {S : Sto} {g : Sg} {o : Value} (H : St n w s S g o) (L : Int → Bool) (key : ByteArray) (kv : KVd) (h : thereH (S.kh key) = some kv) (hs : smallK kv) : allE S L (noW S.nth) [gGet key] = 0 ∧ runP S L (noW S.nth) [gGet key] = (noW S.nth, [⟨1, [kv]⟩]) := by
  have hv : wrV S (noW S.nth) key ByteArray.empty = [kv] := by rw [wrV_one (_b := 0) (_h := ⟨0, .slice none 0 0, 0⟩) H (noW_cov _) key, look_no, h]; rfl
  have hr : doR S (noW S.nth) (gGet key) = ⟨1, [kv]⟩ := by
    show (⟨(wrV S (noW S.nth) key ByteArray.empty).length, toldL 0 (wrV S (noW S.nth) key ByteArray.empty)⟩ : Rs) = _
    rw [hv]
    rfl
  have hp : runP S L (noW S.nth) [gGet key] = (noW S.nth, [⟨1, [kv]⟩]) := by
    show stp S L (noW S.nth, []) (gGet key) = _
    unfold stp
    rw [hr]
    rfl
  refine ⟨?_, hp⟩
  unfold allE
  have h0 : runE S L (noW S.nth) [gGet key] = 0 := rfl
  have hz : toldN [(⟨1, [kv]⟩ : Rs)] ≤ 4236 := by
    unfold smallK at hs
    show kv.key.size + kv.value.size + 40 + 0 + 0 ≤ _
    omega
  rw [if_pos h0, hp, if_neg (by show ¬ 65536 < toldN [(⟨1, [kv]⟩ : Rs)]; omega)]
theorem put_ok {S : Sto} {L : Int → Bool} {key v : ByteArray} (hk : 0 < key.size ∧ key.size ≤ 100) (hv : v.size ≤ 4096) (hn : S.nth < 4096) : PutOk S L (gPut key v) := ⟨rfl, decide_eq_true hk, (by decide : ¬ (0 : Int) < 0), by show ¬ 4096 < v.size; omega, hn, .inl rfl⟩
theorem if_ok {key : ByteArray} (hk : 0 < key.size ∧ key.size ≤ 100) (m : Nat) : ([gIf key m] : List Ifd).length ≤ 32 ∧ firstE ifE [gIf key m] = 0 := by
  refine ⟨by simp, first_one ?_⟩
  unfold ifE
  have : isK (gIf key m).key = true := decide_eq_true hk
  rw [if_neg (by rw [this]; decide), if_neg (by show ¬ ((2 : Int) < 0 ∨ 4 < (2 : Int) ∨ (0 : Int) < 0 ∨ 3 < (0 : Int)); omega)]
theorem opPut_ok {key v : ByteArray} (hk : 0 < key.size ∧ key.size ≤ 100) (hv : v.size ≤ 4096) : opE (gPut key v) = 0 := by
  have : isK (gPut key v).key = true := decide_eq_true hk
  unfold opE
  rw [if_pos (show (gPut key v).kind = 0 from rfl), if_neg (by rintro (h | h); exact h rfl; exact absurd h (by decide : ¬ (0 : Int) < 0)), if_neg (by rw [this]; decide), if_neg (by show ¬ 4096 < v.size; omega)]
theorem opGet_ok {key : ByteArray} (hk : 0 < key.size ∧ key.size ≤ 100) : opE (gGet key) = 0 := by
  have : isK (gGet key).key = true := decide_eq_true hk
  unfold opE
  rw [if_neg (show ¬ (gGet key).kind = 0 from (by decide : ¬ (2 : Int) = 0)), if_pos (show (gGet key).kind = 1 ∨ (gGet key).kind = 2 from .inr rfl), if_neg (by rw [this]; rintro (h | h); cases h; exact h.1 rfl)]
/-- The first one. -/
theorem GI.first {w0 w : World} {s n q : Nat} {S : Sto} {g : Sg} {key : ByteArray} {i : Nat} (H : GI w0 w s n S g key i) (hi : i ≤ 100) (hLP : LsP q [] (fun _ => False) w) (hq : ∀ k, k = q ∨ False → k < w.heap.size ∧ ¬ ftS s g k) (v : ByteArray) (hk : 0 < key.size ∧ key.size ≤ 100) (hv : v.size ≤ 1000) {lo hi' tb : Nat} {vi vt ve : Value} (HB : TBx w s g lo hi' tb vi vt ve ⟨[gIf key S.rev], [gPut key v], [gGet key]⟩) :
    Calls Tryz.prog 16 #[ptr s, .iface 45 (ptr q), .agg #[vi, vt, ve]] w fun e w' => ∃ (p : Option Addr) (c : Nat), e = .returned (.tuple #[.bool true, .slice p 1 c, .int .i64 0]) ∧ ∃ S' g', Hid (GI w0 w' s (n + 1) S' g' key (i + 1) ∧ S'.rev = S.rev + 1 ∧ thereH (S'.kh key) = some (newKV S (gPut key v)) ∧ TBx w' s g' lo hi' tb vi vt ve ⟨[gIf key S.rev], [gPut key v], [gGet key]⟩) := by
  have h1 := H.rev
  have h2 := H.n
  have h3 := H.ks
  have h4 := H.nth
  refine (H.q.first [] (fun _ => False) (by simp) hLP hq [gIf key S.rev] (gPut key v) [gGet key] vi vt ve HB.has (if_ok hk _) H.yes (opPut_ok hk (by omega)) (put_ok hk (by omega) (by omega)) ⟨by simp, first_one (opGet_ok hk), twB_one _⟩ (by omega) (by omega) (by omega)).mono ?_
  rintro e w' ⟨p, c, rfl, S', g', HG⟩
  obtain ⟨G, t1, t2, t3, t4, t5, t6⟩ := HG.out
  refine ⟨p, c, rfl, S', g', ⟨G.q, .inr ⟨_, t1, ?_⟩, by omega, by omega, by omega, by omega⟩, t3, t1, HB.upd G.up G.ft⟩
  rw [(newKV_f S _).2.2.1, t3]
  simp
/-- The second one. -/
theorem GI.second {w0 w : World} {s n q : Nat} {S T : Sto} {g : Sg} {key : ByteArray} {i : Nat} (H : GI w0 w s n T g key i) (hi : i ≤ 100) (hLP : LsP q [] (fun _ => False) w) (hq : ∀ k, k = q ∨ False → k < w.heap.size ∧ ¬ ftS s g k) (v : ByteArray) (hk : 0 < key.size ∧ key.size ≤ 100) (hv : v.size ≤ 1000) (ht : thereH (T.kh key) = some (newKV S (gPut key v))) {lo hi' tb : Nat} {vi vt ve : Value} (HB : TBx w s g lo hi' tb vi vt ve ⟨[gIf key S.rev], [gPut key v], [gGet key]⟩) :
    Calls Tryz.prog 16 #[ptr s, .iface 45 (ptr q), .agg #[vi, vt, ve]] w fun e w' => ∃ (gb oo c c' g2 o2 : Nat), e = .returned (.tuple #[.bool false, .slice (some ⟨gb, oo, none⟩) 1 c, .int .i64 0]) ∧ w'.cell? ⟨gb, oo, none⟩ = some (.int .i64 1) ∧ w'.cell? ⟨gb, oo + 1, none⟩ = some (.slice (some ⟨g2, o2, none⟩) 1 c') ∧ w'.cell? ⟨g2, o2 + 1, none⟩ = some (.string v) ∧ ∃ g', Hid (GI w0 w' s n T g' key i) := by
  have h1 := H.rev
  obtain ⟨o, hst⟩ := H.q.st
  obtain ⟨f1, f2, f3, f4⟩ := newKV_f S (gPut key v)
  have hsm : smallK (newKV S (gPut key v)) := ⟨by rw [f1]; exact hk.2, by rw [f2]; show v.size ≤ _; omega⟩
  obtain ⟨r1, r2⟩ := run_get hst (fun id => decide (id ∈ ([] : List Int))) key _ ht hsm
  have := H.q.second [] (fun _ => False) (by simp) hLP hq [gIf key S.rev] [gPut key v] [gGet key] vi vt ve HB.has (if_ok hk _) (guard_no ht) ⟨by simp, first_one (opPut_ok hk (by omega)), twB_one _⟩ ⟨by simp, first_one (opGet_ok hk), twB_one _⟩ r1 (by rw [r2]) (by omega)
  rw [r2] at this
  refine this.mono ?_
  rintro e w' ⟨p, c, rfl, g', HG⟩
  obtain ⟨G, p2, c2, e2, hh⟩ := HG.out
  cases e2
  obtain ⟨gb, oo, rfl, -, -, hy⟩ := hh 0 _ rfl
  obtain ⟨u, u1, p3, c3, rfl, h3⟩ := hy.c1
  obtain ⟨g2, o2, rfl, -, -, hz⟩ := h3 0 _ rfl
  have d0 := hy.c0
  have d2 := hz.c1
  rw [f2] at d2
  simp only [Nat.zero_mul, Nat.add_zero] at d0 u1 d2
  exact ⟨gb, oo, c, c3, g2, o2, rfl, d0, u1, d2, g', G.q, H.md, H.rev, H.n, H.ks, H.nth⟩
end Go.Proofs.YtgbobegoknmiaaaGreat
