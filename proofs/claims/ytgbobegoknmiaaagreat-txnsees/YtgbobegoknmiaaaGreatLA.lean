/- TxnLong: the data. -/
import Derived.Test.YtgbobegoknmiaaaGreatRD
import Derived.Test.YtgbobegoknmiaaaGreatGA1
namespace Go.Proofs.YtgbobegoknmiaaaGreat
open Go Go.RowKit

def kn (i : Nat) : ByteArray := ⟨#[107, UInt8.ofNat (97 + i)]⟩
def K16 : List ByteArray := (List.range 16).map kn
theorem K16_asc : Asc K16 := by
  rw [asc_iff]
  decide +kernel
theorem kn_ok : ∀ i, i < 16 → isK (kn i) = true ∧ inR ⟨#[107]⟩ ⟨#[108]⟩ (kn i) = true := by decide +kernel
theorem kn_inj {i j : Nat} (hi : i < 16) (hj : j < 16) (h : kn i = kn j) : i = j := by
  have h2 : ∀ a : Fin 16, ∀ b : Fin 16, (kn a).data.toList = (kn b).data.toList → a = b := by decide +kernel
  have := h2 ⟨i, hi⟩ ⟨j, hj⟩ (by show (kn i).data.toList = (kn j).data.toList; rw [h])
  exact congrArg Fin.val this
theorem kn_x : ∀ i, i < 16 → (kn i).data.toList ≠ (⟨#[120]⟩ : ByteArray).data.toList := by decide +kernel
def lPut (i : Nat) : Opd := ⟨0, kn i, ⟨#[]⟩, zb 4000, 0, 0⟩
/-- A write of i keys. -/
structure LI (W : Wri) (i : Nat) : Prop where
  keys : W.keys = (List.range i).map kn
  ch : ∀ j, j < i → W.ch (kn j) = some (some (newKV noS (lPut j)))
  ct : W.count ≤ i
theorem LI.new : LI (noW noS.nth) 0 := ⟨rfl, fun j hj => by omega, by show (0 : Int) ≤ 0; omega⟩
theorem LI.put {W : Wri} {i : Nat} (H : LI W i) (hi : i < 16) (hc : ∀ k, W.ch k ≠ none ↔ k ∈ W.keys) : tputE noS W (lPut i) = 0 ∧ LI (tputW noS W (lPut i)) (i + 1) := by
  have hn : W.ch (kn i) = none := Classical.byContradiction (fun e => by
    have := (hc _).1 e
    rw [H.keys] at this
    obtain ⟨j, hj, e2⟩ := List.mem_map.1 this
    have hj := List.mem_range.1 hj
    have := kn_inj (by omega) hi e2
    omega)
  have hct := H.ct
  have hE : tputE noS W (lPut i) = 0 := by
    unfold tputE
    rw [if_neg (by rw [show (lPut i).key = kn i from rfl, (kn_ok i hi).1]; rintro (h | h); cases h; exact absurd h (by decide : ¬ (0 : Int) < 0)), if_neg (by show ¬ 4096 < (zb 4000).size; rw [zb_size]; decide), if_neg (by show ¬ (W.ch (kn i)).isSome = true; rw [hn]; decide), if_neg (fun h => by omega)]
  obtain ⟨f1, f2, f3⟩ := tputK_f noS W (lPut i)
  refine ⟨hE, ?_⟩
  unfold tputW
  rw [if_pos hE]
  refine ⟨by rw [f1, H.keys, List.range_succ, List.map_append]; rfl, fun j hj => ?_, by omega⟩
  rw [f2]
  rcases Nat.lt_or_ge j i with h | h
  · show (if kn j = kn i then _ else W.ch (kn j)) = _
    rw [if_neg (fun e => by have := kn_inj (by omega) hi e; omega)]
    exact H.ch j h
  · obtain rfl : j = i := by omega
    exact if_pos rfl
/-- The store behind it. -/
structure LS (T : Sto) : Prop where
  rev : T.rev = 1
  past : T.past = 0
  nth : T.nth ≤ 16
  at_ : ∀ j, j < 16 → thereH (T.kh (kn j)) = some (newKV noS (lPut j))
  out : ∀ k, k ∉ K16 → T.kh k = []
theorem LS.of {W : Wri} (H : LI W 16) {T : Sto} (D : Dn noS W T) : LS T := by
  have hk : W.keys = K16 := H.keys
  refine ⟨?_, D.past, ?_, fun j hj => ?_, fun k hk' => (D.out k (by rw [hk]; exact hk')).trans rfl⟩
  · rw [D.rev, if_neg (by rw [hk]; decide)]; rfl
  · have := D.nth
    rw [hk] at this
    exact this
  · rw [D.inn _ (by rw [hk]; exact List.mem_map.2 ⟨j, List.mem_range.2 hj, rfl⟩), thereH_snoc]
    unfold chG
    rw [H.ch j hj]
    rfl
def xOp : Opd := ⟨0, ⟨#[120]⟩, ⟨#[]⟩, ⟨#[]⟩, 0, 0⟩
def rOp (n : Int) : Opd := ⟨2, ⟨#[107]⟩, ⟨#[108]⟩, ⟨#[]⟩, 0, n⟩
def V16 : List KVd := (List.range 16).map fun j => newKV noS (lPut j)
theorem V16_small : ∀ kv ∈ V16, kv.key.size + kv.value.size + 40 = 4042 := fun kv hk => by
  obtain ⟨j, hj, rfl⟩ := List.mem_map.1 hk
  obtain ⟨f1, f2, -⟩ := newKV_f noS (lPut j)
  rw [f1, f2]
  show (kn j).size + (zb 4000).size + 40 = _
  rw [zb_size]
  rfl
theorem sizeK_const : ∀ {l : List KVd}, (∀ kv ∈ l, kv.key.size + kv.value.size + 40 = 4042) → sizeK l = l.length * 4042
  | [], _ => rfl
  | x :: l, h => by
    have h1 := h x (by simp)
    have h2 := sizeK_const (l := l) (fun y hy => h y (by simp [hy]))
    simp only [sizeK, List.length_cons]
    omega
theorem LS.x {T : Sto} (H : LS T) : T.kh ⟨#[120]⟩ = [] := H.out _ (fun h => by
  obtain ⟨j, hj, e⟩ := List.mem_map.1 h
  exact kn_x j (List.mem_range.1 hj) (by rw [e]))
theorem LS.ks {T : Sto} (H : LS T) {n : Nat} {w : World} {s : Nat} {g : Sg} {o : Value} (h : St n w s T g o) : T.ks = K16 := asc_ext h.asc K16_asc (fun k => by
  rw [h.mem]
  constructor
  · intro hk
    exact Classical.byContradiction (fun e => hk (H.out k e))
  · intro hk e
    obtain ⟨j, hj, rfl⟩ := List.mem_map.1 hk
    have := H.at_ j (List.mem_range.1 hj)
    rw [e] at this
    cases this)
theorem fm_map {α β : Type} {f : α → Option β} {g : α → β} : ∀ {l : List α}, (∀ j ∈ l, f j = some (g j)) → l.filterMap f = l.map g
  | [], _ => rfl
  | x :: l, h => by
    rw [List.filterMap_cons, h x (by simp), List.map_cons, fm_map (fun j hj => h j (by simp [hj]))]
theorem LS.wr {T : Sto} (H : LS T) {n : Nat} {w : World} {s : Nat} {g : Sg} {o : Value} (h : St n w s T g o) (W : Wri) (hW : W = tputK T (noW T.nth) xOp) : wrV T W ⟨#[107]⟩ ⟨#[108]⟩ = V16 := by
  obtain ⟨f1, f2, -⟩ := tputK_f T (noW T.nth) xOp
  subst hW
  have hs : seenK T (tputK T (noW T.nth) xOp) ⟨#[107]⟩ ⟨#[108]⟩ = K16 := asc_ext (seenK_asc _ _ _ _) K16_asc (fun k => by
    rw [seenK_mem, f1]
    unfold rangeK
    rw [List.mem_filter, H.ks h]
    constructor
    · rintro (h | ⟨h1, h2⟩)
      · exact h.1
      · have e : k = ⟨#[120]⟩ := by
          rcases List.mem_append.1 h1 with h | h
          · cases h
          · simpa [xOp] using h
        subst e
        exact absurd h2 (by decide +kernel)
    · intro hk
      obtain ⟨j, hj, rfl⟩ := List.mem_map.1 hk
      exact .inl ⟨hk, (kn_ok j (List.mem_range.1 hj)).2⟩)
  unfold wrV
  rw [hs]
  unfold K16 V16
  rw [List.filterMap_map]
  refine fm_map (fun j hj => ?_)
  have hj := List.mem_range.1 hj
  show lookW T _ (kn j) = _
  unfold lookW
  rw [f2]
  have hne : ¬ kn j = xOp.key := fun e => kn_x j hj (by rw [e]; rfl)
  simp only [hne, if_false]
  exact H.at_ j hj
theorem long_run {T : Sto} (H : LS T) {n : Nat} {w : World} {s : Nat} {g : Sg} {o : Value} (h : St n w s T g o) (L : Int → Bool) (m : Nat) (hm : 1 ≤ m ∧ m ≤ 16) :
    allE T L (noW T.nth) [xOp, rOp m] = 0 ∧ runP T L (noW T.nth) [xOp, rOp m] = (tputK T (noW T.nth) xOp, [⟨0, []⟩, ⟨16, V16.take m⟩]) := by
  have hnth := H.nth
  have hp : PutOk T L xOp := ⟨rfl, rfl, by decide, by decide, by omega, .inl rfl⟩
  obtain ⟨a, b⟩ := hp.e (noW T.nth) rfl (by show (T.nth : Int) < 4096; omega)
  have r1 : doR T (noW T.nth) xOp = ⟨0, []⟩ := by
    show (⟨(wrV T (noW T.nth) ⟨#[120]⟩ ByteArray.empty).length, []⟩ : Rs) = _
    rw [wrV_one (_b := 0) (_h := ⟨0, .slice none 0 0, 0⟩) h (noW_cov _), look_no, H.x]
    rfl
  have r2 : doR T (tputK T (noW T.nth) xOp) (rOp m) = ⟨16, V16.take m⟩ := by
    show (⟨(wrV T (tputK T (noW T.nth) xOp) ⟨#[107]⟩ ⟨#[108]⟩).length, toldL m (wrV T (tputK T (noW T.nth) xOp) ⟨#[107]⟩ ⟨#[108]⟩)⟩ : Rs) = _
    rw [H.wr h _ rfl]
    unfold toldL
    rw [if_neg (by omega)]
    rfl
  have hP : runP T L (noW T.nth) [xOp, rOp m] = (tputK T (noW T.nth) xOp, [⟨0, []⟩, ⟨16, V16.take m⟩]) := by
    show stp T L (stp T L (noW T.nth, []) xOp) (rOp m) = _
    unfold stp
    dsimp only
    rw [b, r1, r2]
    rfl
  refine ⟨?_, hP⟩
  have hr : runE T L (noW T.nth) [xOp, rOp m] = 0 := by
    unfold runE
    rw [if_pos a]
    rfl
  have hz : sizeK (V16.take m) = (V16.take m).length * 4042 := sizeK_const (fun kv hk => V16_small kv (List.mem_of_mem_take hk))
  have hl : (V16.take m).length ≤ 16 := by rw [List.length_take]; omega
  unfold allE
  rw [if_pos hr, hP, if_neg (by
    show ¬ 65536 < sizeK [] + (sizeK (V16.take m) + 0)
    rw [hz]
    show ¬ 65536 < 0 + _
    omega)]
theorem long_check (m : Nat) : checkE ⟨[], [xOp, rOp m], []⟩ = 0 := check_small _ (by simp) (by simp) (by simp) rfl (by unfold firstE; rw [if_pos (show opE xOp = 0 from rfl)]; exact first_one (by show opE (rOp m) = 0; rfl)) rfl (twB_no (fun i j x y hi hj hij h0 => by
  have h1 := (List.getElem?_eq_some_iff.1 hi).1
  have h2 := (List.getElem?_eq_some_iff.1 hj).1
  simp at h1 h2
  have : (i = 0 ∧ j = 1) ∨ (i = 1 ∧ j = 0) := by omega
  rcases this with ⟨rfl, rfl⟩ | ⟨rfl, rfl⟩
  · obtain rfl : rOp m = y := by simpa using hj
    rfl
  · obtain rfl : rOp m = x := by simpa using hi
    exact absurd h0 (by show ¬ (2 : Int) = 0; decide))) rfl
end Go.Proofs.YtgbobegoknmiaaaGreat
