/- A branch's operations, one behind the other. -/
import Derived.Test.YtgbobegoknmiaaaGreatGRP
import Derived.Laws.MakeOwn
import Derived.Test.YtgbobegoknmiaaaGreatGRO
namespace Go.Proofs.YtgbobegoknmiaaaGreat
open Go Go.RowKit

def stp (S : Sto) (L : Int → Bool) (p : Wri × List Rs) (o : Opd) : Wri × List Rs := (doW S L p.1 o, p.2 ++ [doR S p.1 o])
def runP (S : Sto) (L : Int → Bool) (W : Wri) (ops : List Opd) : Wri × List Rs := ops.foldl (stp S L) (W, [])
def runE (S : Sto) (L : Int → Bool) : Wri → List Opd → Int
  | _, [] => 0
  | W, o :: l => if doE S L W o = 0 then runE S L (doW S L W o) l else doE S L W o
def toldN : List Rs → Nat
  | [] => 0
  | r :: l => sizeK r.kvs + toldN l
theorem toldN_snoc : ∀ (l : List Rs) (r : Rs), toldN (l ++ [r]) = toldN l + sizeK r.kvs
  | [], r => by simp [toldN]
  | x :: l, r => by simp only [List.cons_append, toldN, toldN_snoc l r]; omega
theorem runP_take {S : Sto} {L : Int → Bool} {W : Wri} {ops : List Opd} {i : Nat} {o : Opd} (h : ops[i]? = some o) : runP S L W (ops.take (i + 1)) = stp S L (runP S L W (ops.take i)) o := by
  unfold runP
  rw [List.take_add_one, h, List.foldl_append]
  rfl
theorem runP_len {S : Sto} {L : Int → Bool} {W : Wri} {ops : List Opd} : ∀ {i : Nat}, i ≤ ops.length → (runP S L W (ops.take i)).2.length = i
  | 0, _ => by rw [List.take_zero]; rfl
  | i + 1, h => by
    rw [runP_take (List.getElem?_eq_getElem (show i < ops.length by omega))]
    unfold stp
    rw [List.length_append, runP_len (by omega)]
    rfl
theorem doR_len (S : Sto) (W : Wri) (o : Opd) : (doR S W o).kvs.length ≤ S.ks.length + W.keys.length := by
  unfold doR
  split
  · exact Nat.zero_le _
  · split
    · exact Nat.zero_le _
    · exact Nat.le_trans (toldL_len _ _) (wrV_len S W _ _)
theorem doR_small {n : Nat} {w : World} {s : Nat} {S : Sto} {W : Wri} {g : Sg} {o : Value} {j : Nat} (h : St n w s S g o) (F : SF n S) (I : WI S W j) (op : Opd) : ∀ kv ∈ (doR S W op).kvs, smallK kv := fun kv hk => by
  unfold doR at hk
  split at hk
  · cases hk
  · split at hk
    · cases hk
    · exact small_wr h F I _ _ kv (told_mem hk)
/-- The error of a branch. -/
def allE (S : Sto) (L : Int → Bool) (W : Wri) (ops : List Opd) : Int := if runE S L W ops = 0 then (if 65536 < toldN (runP S L W ops).2 then 5 else 0) else runE S L W ops
/-- Where a branch stands behind its first operations. -/
structure RI (n : Nat) (w wr : World) (s b j G m : Nat) (S : Sto) (P : Wri × List Rs) (g : Sg) (h hh : Wg) : Prop where
  ow : Ow n wr s b S P.1 g hh
  wi : WI S P.1 j
  kp : KpW w wr b h hh
  row : ∃ cur, wr.heap[G]? = some (.cells cur 60 (0, 0)) ∧ cur.size = m * 2
  gz : w.heap.size ≤ G ∧ ¬ ftW b hh G
  dn : ∀ (t : Nat) (r : Rs), P.2[t]? = some r → wr.cell? ⟨G, t * 2, none⟩ = some (.int .i64 r.n) ∧ r.kvs.length ≤ 2199023255552 ∧ ∃ u, wr.cell? ⟨G, t * 2 + 1, none⟩ = some u ∧ KVz (fun k => w.heap.size ≤ k ∧ ¬ ftW b hh k ∧ ¬ k = G) wr u r.kvs
  tl : toldN P.2 ≤ P.2.length * 100000000
theorem info60 : (Tryz.prog.info? 60).map (fun i => (i.zero, i.size, i.bytes)) = some (some (.agg #[.int .i64 0, .slice none 0 0]), 2, 32) := by kernel_rfl
theorem setAt2 (cur : Array Value) (k j : Nat) (a0 a1 : Value) (hk : k + 2 ≤ cur.size) : ((cur.setIfInBounds k a0).setIfInBounds (k + 1) a1)[j]? = if j < k ∨ k + 2 ≤ j then cur[j]? else [a0, a1][j - k]? := by
  simp only [Array.getElem?_setIfInBounds, Array.size_setIfInBounds]
  by_cases h : j < k ∨ k + 2 ≤ j
  · rw [if_pos h, if_neg (by omega), if_neg (by omega)]
  · rw [if_neg h]
    have : j = k ∨ j = k + 1 := by omega
    rcases this with rfl | rfl
    · rw [if_neg (by omega), if_pos rfl, if_pos (by omega), Nat.sub_self]; rfl
    · rw [if_pos rfl, if_pos (by omega), Nat.add_sub_cancel_left]; rfl
/-- One operation more. -/
theorem RI.put {n : Nat} {w wr w1 w2 w4 : World} {s b j G m i : Nat} {S : Sto} {P : Wri × List Rs} {W' : Wri} {r : Rs} {g : Sg} {h hh h' : Wg} (H : RI n w wr s b j G m S P g h hh) (hi : P.2.length = i) (him : i < m) (hb1 : Below wr.heap.size wr w1) (HO : Ow n w2 s b S W' g h') (HW : WI S W' (j + 1)) (hK : KpW w1 w2 b hh h') (hb4 : Below w2.heap.size w2 w4)
    {u : Value} (hu : KVz (fun k => w1.heap.size ≤ k ∧ ¬ ftW b h' k) w2 u r.kvs) (hl : r.kvs.length ≤ 2199023255552) (hsz : sizeK r.kvs ≤ 100000000) (hS : ∀ k, ftS s g k → k < w.heap.size) :
    RI n w ((w4.setCell ⟨G, i * 2, none⟩ (.int .i64 r.n)).setCell ⟨G, i * 2 + 1, none⟩ u) s b (j + 1) G m S (W', P.2 ++ [r]) g h h' := by
  obtain ⟨cur, hr, hc⟩ := H.row
  have hGl : G < wr.heap.size := (Array.getElem?_eq_some_iff.1 hr).1
  have hG1 : G < w1.heap.size := Nat.lt_of_lt_of_le hGl hb1.size
  have hG' : ¬ ftW b h' G := fun e => by rcases hK.2 G e with e | e; exact H.gz.2 e; omega
  have hup : Upd wr w4 (ftW b hh) := (((Upd.ofBelow hb1 : Upd wr w1 (ftW b hh))).trans hK.1 (fun _ _ e => e)).trans (Upd.ofBelow hb4 : Upd w2 w4 (ftW b hh)) (fun _ _ e => e)
  have hr4 : w4.heap[G]? = some (.cells cur 60 (0, 0)) := (hup.block G hGl H.gz.2).trans hr
  have hus : Upd w4 ((w4.setCell ⟨G, i * 2, none⟩ (.int .i64 r.n)).setCell ⟨G, i * 2 + 1, none⟩ u) (fun k => k = G) := ((Upd.refl w4 (fun k => k = G)).setCell (p := ⟨G, i * 2, none⟩) (.inr rfl) _).setCell (p := ⟨G, i * 2 + 1, none⟩) (.inr rfl) _
  have HQ := heap_setCell_row (j := i * 2 + 1) (heap_setCell_row (j := i * 2) hr4 (.int .i64 r.n)) u
  have hcell := fun t => (cell_of_row _ _ t _ _ _ HQ).trans (setAt2 cur (i * 2) t _ _ (by omega))
  have hwz : w.heap.size ≤ w1.heap.size := Nat.le_trans H.kp.1.size hb1.size
  generalize hWf : (w4.setCell ⟨G, i * 2, none⟩ (.int .i64 r.n)).setCell ⟨G, i * 2 + 1, none⟩ u = Wf at *
  have hgz := H.gz.1
  refine ⟨(HO.below hb4).upd hus (fun k hk e => by have := hS k hk; omega) (fun k hk e => hG' (e ▸ hk)), HW, ⟨?_, fun k hk => ?_⟩, ⟨_, HQ, by simpa using hc⟩, ⟨hgz, hG'⟩, fun t x hx => ?_, ?_⟩
  · exact (H.kp.1.trans hup (fun k hk e => by rcases H.kp.2 k e with e | e; exact e; omega)).trans hus (fun k hk e => by omega)
  · rcases hK.2 k hk with e | e
    · exact H.kp.2 k e
    · exact .inr (by omega)
  · dsimp only at hx
    rcases Nat.lt_or_ge t i with ht | ht
    · rw [List.getElem?_append_left (by omega)] at hx
      obtain ⟨d0, d1, v, d2, d3⟩ := H.dn t x hx
      have q := fun z => cell_of_row _ _ z _ _ _ hr
      refine ⟨by rw [hcell, if_pos (by omega), ← q]; exact d0, d1, v, by rw [hcell, if_pos (by omega), ← q]; exact d2, ?_⟩
      have h3 : KVz (fun k => w.heap.size ≤ k ∧ ¬ ftW b h' k ∧ ¬ k = G) wr v x.kvs := by
        obtain ⟨p, c, rfl, hh'⟩ := d3
        refine ⟨p, c, rfl, fun z kv hz => ?_⟩
        obtain ⟨gg, oo, e, ⟨z1, z2, z3⟩, hl, hk⟩ := hh' z kv hz
        exact ⟨gg, oo, e, ⟨z1, fun e2 => by rcases hK.2 gg e2 with e3 | e3; exact z2 e3; have := hb1.size; omega, z3⟩, hl, hk⟩
      have h4 : KVz (fun k => w.heap.size ≤ k ∧ ¬ ftW b h' k ∧ ¬ k = G) w4 v x.kvs := by
        obtain ⟨p, c, rfl, hh'⟩ := d3
        obtain ⟨p2, c2, e2, hh2⟩ := h3
        cases e2
        refine ⟨p, c, rfl, fun z kv hz => ?_⟩
        obtain ⟨gg, oo, e, ⟨z1, z2, z3⟩, hl, hk⟩ := hh' z kv hz
        obtain ⟨gg2, oo2, e2, zz, hl2, hk2⟩ := hh2 z kv hz
        rw [e] at e2
        cases e2
        exact ⟨gg, oo, e, zz, Nat.lt_of_lt_of_le hl hup.size, hk.same (fun t => hup.cell (p := ⟨gg, t, none⟩) hl z2)⟩
      exact h4.upd hus (fun k hk e => hk.2.2 e)
    · rw [List.getElem?_append_right (by omega)] at hx
      have ht2 : t = i := by
        have := (List.getElem?_eq_some_iff.1 hx).1
        simp at this
        omega
      subst ht2
      rw [hi, Nat.sub_self] at hx
      obtain rfl : r = x := by simpa using hx
      refine ⟨by rw [hcell, if_neg (by omega), Nat.sub_self]; rfl, hl, u, by rw [hcell, if_neg (by omega), Nat.add_sub_cancel_left]; rfl, ?_⟩
      exact ((hu.below hb4).mono (Z' := fun k => w.heap.size ≤ k ∧ ¬ ftW b h' k ∧ ¬ k = G) (fun k hk => ⟨by omega, hk.2, fun e => by omega⟩)).upd hus (fun k hk e => hk.2.2 e)
  · dsimp only
    rw [toldN_snoc, List.length_append]
    have := H.tl
    simp only [List.length_cons, List.length_nil]
    omega
set_option maxRecDepth 100000 in
set_option maxHeartbeats 4000000 in
theorem doAll_any {n : Nat} {w : World} {s b q : Nat} {S : Sto} {W : Wri} {g : Sg} {h : Wg} {L : Int → Bool} {Lz Z : Nat → Prop} {LP : World → Prop} (H : Ow n w s b S W g h) (F : SF n S) (I : WI S W 0) (HL : Lea L Lz q LP) (hLP : LP w) (hLz : ∀ k, Lz k → ¬ ftW b h k) (l : List Opd) (v : Value) (hv : OPs Z w v l) (hZ : ∀ k, Z k → ¬ ftW b h k) (hl : l.length ≤ 100) :
    Calls Tryz.prog 39 #[ptr b, .iface 45 (ptr q), v] w fun e w' => ∃ (p : Option Addr) (m c : Nat), e = .returned (.tuple #[.slice p m c, .int .i64 (allE S L W l)]) ∧ ∃ (W' : Wri) (h' : Wg), Hid (Ow n w' s b S W' g h' ∧ WI S W' 100 ∧ KpW w w' b h h' ∧ (allE S L W l = 0 → W' = (runP S L W l).1 ∧ RSz (fun k => w.heap.size ≤ k ∧ ¬ ftW b h' k) w' (.slice p m c) (runP S L W l).2) ∧ (¬ allE S L W l = 0 → (p, m, c) = (none, 0, 0))) := by
  obtain ⟨p, c, rfl, hh⟩ := hv
  have f0 := F.n
  have f1 := F.ks
  obtain ⟨i0, hi0, hz0, hz1, hz2⟩ := info_parts info60
  obtain ⟨m, hm⟩ : ∃ m, m = l.length := ⟨_, rfl⟩
  rw [← hm] at hl ⊢
  obtain ⟨ROW, hRS, hmk⟩ : ∃ ROW : Array Value, ROW.size = m * 2 ∧ (Instr.makeSlice 42 (.int .i64 m) (.int .i64 m)).run Tryz.prog w = .ok (.slice (some ⟨w.heap.size, 0, none⟩) m m) (w.alloc (.cells ROW 60)) := by
    have := run_make (P := Tryz.prog) w 42 60 i0 _ Tryz.underlying42 hi0 hz0 .i64 .i64 m m (by omega) (by omega) (by rw [hz2]; omega) (by omega)
    simp only [Int.toNat_natCast] at this
    exact ⟨_, by rw [size_madeCells, hz1], this⟩
  have hgn : (w.alloc (.cells ROW 60)).heap[w.heap.size]? = some (.cells ROW 60 (0, 0)) := heap_alloc_new w _
  obtain ⟨w1, hw1⟩ : ∃ w1, w1 = w.alloc (.cells ROW 60) := ⟨_, rfl⟩
  have hb1 : Below w.heap.size w w1 := by rw [hw1]; exact (Below.refl _ _).alloc (Nat.le_refl _) _
  rw [← hw1] at hmk hgn
  have HS : Hid (∀ k, ftS s g k → k < w.heap.size) := fun k hk => H.st.lt hk
  have HM1 : Hid (RI n w w1 s b 0 w.heap.size m S (W, []) g h h) := ⟨H.below hb1, I, KpW.keep hb1, ⟨ROW, hgn, hRS⟩, ⟨Nat.le_refl _, fun e => by have := H.wr.lt e; omega⟩, fun t r ht => by simp at ht, Nat.zero_le _⟩
  have HH : Hid (∀ (wr : World) (hh' : Wg) (i : Nat) (x : Opd), KpW w wr b h hh' → l[i]? = some x → ∃ gg oo, p = some ⟨gg, oo, none⟩ ∧ HasO wr gg (oo + i * 6) x) := fun wr hh' i x hk hx => by
    obtain ⟨gg, oo, e, hz, hgl, hc⟩ := hh i x hx
    exact ⟨gg, oo, e, hc.same (fun t => hk.1.cell (p := ⟨gg, t, none⟩) hgl (hZ gg hz))⟩
  have HLL : Hid (∀ (wr : World) (hh' : Wg), KpW w wr b h hh' → LP wr) := fun wr hh' hk => HL.upd w wr _ hLP hk.1 hLz
  have HLE := Hid.mk'' HL
  have HF := Hid.mk'' F
  obtain ⟨G, hG⟩ : ∃ G, G = w.heap.size := ⟨_, rfl⟩
  rw [← hG] at hmk HM1
  have HG := Hid.mk'' hG
  have HN := Hid.mk'' hm
  have HR0 : Hid (runE S L W l = runE S L (runP S L W (l.take 0)).1 (l.drop 0)) := by show _ = _; rw [List.take_zero, List.drop_zero]; rfl
  have HM0 : Hid (RI n w w1 s b 0 G m S (runP S L W (l.take 0)) g h h) := by rw [List.take_zero]; exact HM1.out
  have HT0 : Hid (toldN (runP S L W (l.take 0)).2 = 0) := by show _ = _; rw [List.take_zero]; rfl
  clear hh hw1 hgn hRS hG hm hz0 hz1 hz2 hi0 hb1 H I F HL hLP hLz hZ HM1
  go_enter Tryz.func39, Tryz.ntmps39
  go_wp2
  go_loopg [9, 19] (m + 1) (fun kx s9 s19 wr => ∃ (i : Nat) (hi : Wg), s9 = .int .i64 (toldN (runP S L W (l.take i)).2) ∧ s19 = .int .i64 i ∧ kx + i = m + 1 ∧ i ≤ m ∧ Hid (RI n w wr s b i G m S (runP S L W (l.take i)) g h hi ∧ runE S L W l = runE S L (runP S L W (l.take i)).1 (l.drop i)))
  case atStart => exact ⟨0, h, by rw [HT0.out]; rfl, rfl, rfl, Nat.zero_le _, HM0.out, HR0.out⟩
  case round =>
    obtain ⟨i, hi', rfl, rfl, hkx, hi, HM⟩ := hrel
    have hpl := runP_len (S := S) (L := L) (W := W) (ops := l) (i := i) (by rw [← HN.out]; exact hi)
    have htl := HM.out.1.tl
    rw [hpl] at htl
    by_cases hlt : i < m
    · obtain ⟨x, hx⟩ : ∃ x, l[i]? = some x := ⟨_, List.getElem?_eq_getElem (by rw [← HN.out]; exact hlt)⟩
      obtain ⟨gg, oo, rfl, hk⟩ := HH.out wr hi' i x HM.out.1.kp hx
      obtain ⟨q0, q1, q2, q3, q4, q5, z0, z1, z2⟩ := hk
      have hst := runP_take (S := S) (L := L) (W := W) hx
      have hdrop : l.drop i = x :: l.drop (i + 1) := by
        have hi3 : i < l.length := (List.getElem?_eq_some_iff.1 hx).1
        rw [List.drop_eq_getElem_cons hi3, (List.getElem?_eq_some_iff.1 hx).2]
      have hre := HM.out.2
      rw [hdrop] at hre
      generalize hP : runP S L W (l.take i) = P at *
      have hba : ∀ o, Below wr.heap.size wr (wr.alloc o) := fun o => (Below.refl _ _).alloc (Nat.le_refl _) _
      have hdo := fun o => do_op (q := q) (HM.out.1.ow.below (hba o)) HF.out HM.out.1.wi (by omega) HLE.out (HLE.out.below (HLL.out wr hi' HM.out.1.kp) (hba o)) x z0 z1 z2
      have hkl := HM.out.1.wi.kl HM.out.1.ow.wr.nd
      have hrl := doR_len S P.1 x
      have HRS := Hid.mk'' (doR_small HM.out.1.ow.st HF.out HM.out.1.wi x)
      have HSZ : Hid (sizeK (doR S P.1 x).kvs ≤ 100000000) := by
        have := sizeK_le HRS.out
        have h2 : (doR S P.1 x).kvs.length * 4236 ≤ 22000 * 4236 := Nat.mul_le_mul_right _ (by omega)
        show _ ≤ _
        omega
      by_cases hE : doE S L P.1 x = 0
      · have hre2 : runE S L W l = runE S L (doW S L P.1 x) (l.drop (i + 1)) := by rw [hre]; exact if_pos hE
        have HRE := Hid.mk'' hre2
        have HST := Hid.mk'' hst
        rw [hE] at hdo
        have HTS : Hid (toldN (stp S L P x).2 = toldN P.2 + sizeK (doR S P.1 x).kvs) := toldN_snoc _ _
        have hsz := HSZ.out
        obtain ⟨R, hR⟩ : ∃ R, R = doR S P.1 x := ⟨_, rfl⟩
        obtain ⟨T, hT⟩ : ∃ T, T = sizeK R.kvs := ⟨_, rfl⟩
        obtain ⟨T0, hT0⟩ : ∃ T0, T0 = toldN P.2 := ⟨_, rfl⟩
        rw [← hR] at hdo hrl HRS HSZ hsz HTS
        rw [← hT] at hsz HTS
        rw [← hT0] at htl HTS ⊢
        have HRR := Hid.mk'' hR
        have HTT := Hid.mk'' hT
        have HSIZ : Hid (∀ (o : Obj) (w2 : World) (o2 : Obj) (h' : Wg) (p2 : Option Addr) (m2 c2 : Nat), KVz (fun k => (wr.alloc o).heap.size ≤ k ∧ ¬ ftW b h' k) w2 (.slice p2 m2 c2) R.kvs → Calls Tryz.prog 67 #[.slice p2 m2 c2] (w2.alloc o2) fun e w' => e = .returned (.int .i64 T) ∧ Below (w2.alloc o2).heap.size (w2.alloc o2) w') := fun o w2 o2 h' p2 m2 c2 hv => by
          have := size_any R.kvs _ (w2.alloc o2) (hv.below ((Below.refl _ _).alloc (Nat.le_refl _) _)) HRS.out (by omega)
          rw [← HTT.out] at this
          exact this
        obtain ⟨cur, hrow, hcs⟩ := HM.out.1.row
        have hGl : G < wr.heap.size := (Array.getElem?_eq_some_iff.1 hrow).1
        have HROW : Hid (∀ (o : Obj) (w2 : World) (h' : Wg) (o2 : Obj) (w4 : World), KpW (wr.alloc o) w2 b hi' h' → Below (w2.alloc o2).heap.size (w2.alloc o2) w4 → w4.heap[G]? = some (.cells cur 60 (0, 0)) ∧ G < w4.heap.size ∧ G < w2.heap.size ∧ w2.heap.size < w4.heap.size) := fun o w2 h' o2 w4 hk hb => by
          have hG2 : G < w2.heap.size := Nat.lt_of_lt_of_le (by simp; omega) hk.1.size
          have e1 := (hk.1.block G (by simp; omega) HM.out.1.gz.2).trans ((heap_alloc_old wr o hGl).trans hrow)
          have e2 := (heap_alloc_old w2 o2 hG2).trans e1
          have h3 := hb.size
          rw [show (w2.alloc o2).heap.size = w2.heap.size + 1 by simp] at h3
          exact ⟨(hb.block G (by simp; omega)).trans e2, by omega, hG2, by omega⟩
        have hci : i * 2 + 2 ≤ cur.size := by omega
        obtain ⟨ka, kb, kc, kd, ke, kf⟩ := x
        dsimp only [encOp] at *
        clear hR hT hT0 hst hx hE hre hre2 hdrop HM0 hrow
        go_wp2_with (first | (go_at_call 66; refine (hdo _).mono ?_; rintro e2 w2 ⟨xn, p2, m2, c2, rfl, h2, HV, HO⟩; obtain ⟨hxn, hkv⟩ := HV.out rfl; subst hxn; have hsize := fun o2 => HSIZ.out _ w2 o2 h2 p2 m2 c2 hkv; have HKV := Hid.mk'' hkv; clear HV hkv) | (go_at_call 67; refine (hsize _).mono ?_; rintro e3 w4 ⟨rfl, hb4⟩; obtain ⟨r4, n4, n5, n6⟩ := HROW.out _ _ _ _ _ HO.out.2.2 hb4; have rb := (hb4.block w2.heap.size (by simp)).trans (row_alloc w2 _ _); obtain ⟨⟨b0, b1⟩, -⟩ := box2 rb; have hne : ¬ G = w2.heap.size := (by omega); have hne' : ¬ w2.heap.size = G := (by omega); obtain ⟨u0, e0⟩ : ∃ u, w4.cell? ⟨G, i * 2, none⟩ = some u := ⟨_, (cell_of_row _ _ _ _ _ _ r4).trans (Array.getElem?_eq_getElem (by omega))⟩; obtain ⟨u1, e1⟩ : ∃ u, w4.cell? ⟨G, i * 2 + 1, none⟩ = some u := ⟨_, (cell_of_row _ _ _ _ _ _ r4).trans (Array.getElem?_eq_getElem (by omega))⟩; have hfx : ∀ t, w4.frozen? ⟨G, t, none⟩ = false := fun t => (by simp [World.frozen?, r4]); have HB4 := Hid.mk'' hb4; clear hb4 rb r4))
        go_roundg (m - i)
        case measure => omega
        case rel =>
          have hbA := HB4.out
          have hbB : Below w2.heap.size w2 w4 := ((Below.refl _ w2).alloc (Nat.le_refl _) _).trans (hbA.mono (by simp))
          have HPUT := HM.out.1.put hpl hlt (hba _) HO.out.1 HO.out.2.1 HO.out.2.2 hbB (r := R) HKV.out (by omega) HSZ.out HS.out
          refine ⟨i + 1, h2, ?_, by congr 1, by omega, by omega, ?_⟩
          · rw [HST.out, HTS.out]
            congr 1
          · rw [HST.out]
            unfold stp
            rw [← HRR.out]
            exact ⟨HPUT, HRE.out⟩
      · have hre2 : runE S L W l = doE S L P.1 x := by rw [hre]; exact if_neg hE
        have hall : allE S L W l = doE S L P.1 x := by unfold allE; rw [hre2, if_neg hE]
        have HAL := Hid.mk'' hall
        obtain ⟨E, hEE⟩ : ∃ E, E = doE S L P.1 x := ⟨_, rfl⟩
        rw [← hEE] at hdo HAL hE
        have hEb : decide (E = 0) = false := decide_eq_false hE
        obtain ⟨ka, kb, kc, kd, ke, kf⟩ := x
        dsimp only [encOp] at *
        clear hst hx hre hre2 hdrop HM0 hall hEE HRS HSZ hrl
        go_wp2_with (go_at_call 66; refine (hdo _).mono ?_; rintro e2 w2 ⟨xn, p2, m2, c2, rfl, h2, HV, HO⟩; clear HV)
        refine bodyPost_ret (results_tmp2 rfl _ _ _) rfl ?_
        have hbB : ∀ o, Below w2.heap.size w2 (w2.alloc o) := fun o => (Below.refl _ w2).alloc (Nat.le_refl _) _
        refine ⟨none, 0, 0, by rw [HAL.out]; rfl, _, h2, HO.out.1.below (hbB _), HO.out.2.1.mono (by omega), ⟨?_, fun k hk => ?_⟩, fun e => absurd (HAL.out ▸ e) hE, fun _ => rfl⟩
        · have hu1 : Upd wr w2 (ftW b hi') := (Upd.ofBelow (hba _) : Upd wr _ (ftW b hi')).trans HO.out.2.2.1 (fun _ _ e => e)
          exact (HM.out.1.kp.1.trans hu1 (fun k hk e => by rcases HM.out.1.kp.2 k e with e | e; exact e; omega)).trans (Upd.ofBelow (hbB _) : Upd w2 _ (ftW b h)) (fun _ _ e => e)
        · rcases HO.out.2.2.2 k hk with e | e
          · exact HM.out.1.kp.2 k e
          · exact .inr (Nat.le_trans HM.out.1.kp.1.size (Nat.le_trans (by simp) e))
    · obtain rfl : i = m := by omega
      have htk : l.take i = l := by rw [HN.out, List.take_length]
      have hdr : l.drop i = [] := by rw [HN.out, List.drop_length]
      have hre := HM.out.2
      rw [hdr] at hre
      have hre2 : runE S L W l = 0 := hre
      rw [htk] at HM hpl htl ⊢
      have HRZ : Hid (RSz (fun k => w.heap.size ≤ k ∧ ¬ ftW b hi' k) wr (.slice (some ⟨G, 0, none⟩) i i) (runP S L W l).2) := by
        refine ⟨some ⟨G, 0, none⟩, i, by rw [hpl], fun t r ht => ?_⟩
        obtain ⟨d0, d1, u, d2, d3⟩ := HM.out.1.dn t r ht
        obtain ⟨cur, hrow, -⟩ := HM.out.1.row
        exact ⟨G, 0, rfl, HM.out.1.gz, (Array.getElem?_eq_some_iff.1 hrow).1, by rw [Nat.zero_add]; exact d0, ⟨u, by rw [Nat.zero_add]; exact d2, d3.mono (fun k hk => ⟨hk.1, hk.2.1⟩)⟩, d1⟩
      by_cases hT : 65536 < toldN (runP S L W l).2
      · have hall : allE S L W l = 5 := by unfold allE; rw [if_pos hre2, if_pos hT]
        have HAL := Hid.mk'' hall
        have hT' : (65536 : Int) < (toldN (runP S L W l).2 : Int) := by omega
        clear hre hre2 hall htk hdr
        go_wp2
        refine bodyPost_ret (results_tmp2 rfl _ _ _) rfl ?_
        exact ⟨none, 0, 0, by rw [HAL.out]; rfl, _, hi', HM.out.1.ow, HM.out.1.wi.mono hl, HM.out.1.kp, fun e => by rw [HAL.out] at e; exact absurd e (by decide), fun _ => rfl⟩
      · have hall : allE S L W l = 0 := by unfold allE; rw [if_pos hre2, if_neg hT]
        have HAL := Hid.mk'' hall
        have hT' : ¬ (65536 : Int) < (toldN (runP S L W l).2 : Int) := by omega
        clear hre hre2 hall htk hdr
        go_wp2
        refine bodyPost_ret (results_tmp2 rfl _ _ _) rfl ?_
        exact ⟨some ⟨G, 0, none⟩, i, i, by rw [HAL.out]; rfl, _, hi', HM.out.1.ow, HM.out.1.wi.mono hl, HM.out.1.kp, fun _ => ⟨rfl, HRZ.out⟩, fun e => absurd HAL.out e⟩
end Go.Proofs.YtgbobegoknmiaaaGreat
/- The changes from a revision on. -/
namespace Go.Proofs.YtgbobegoknmiaaaGreat
open Go Go.RowKit

/-- A change that is told: its revision, its key, what was done. -/
abbrev Evd := Int × ByteArray × Option KVd
def evL (e : Evd) : List Value := (evC e.1 e.2.2.isNone (evKV e.1 e.2.1 e.2.2)).toList
def evsC (l : List Evd) : List Value := l.flatMap evL
theorem evsC_len (l : List Evd) : (evsC l).length = l.length * 8 := by
  unfold evsC
  rw [List.length_flatMap]
  induction l with
  | nil => rfl
  | cons a l ih => simp only [List.map_cons, List.sum_cons, List.length_cons, ih]; simp [evL, evC]; omega
/-- What was done to a key at a revision. -/
def chgAt (h : Hs) (r : Int) : Option KVd := ((h.find? fun q => decide (q.1 = r)).map (·.2)).getD none
theorem chgAt_mem {h : Hs} {r : Int} {c : Option KVd} (ha : h.Pairwise (fun p q => p.1 < q.1)) (hc : (r, c) ∈ h) : chgAt h r = c := by
  unfold chgAt
  rw [find_mem ha hc]
  rfl
def evAt (S : Sto) (r : Int) : List Evd := (S.lg r).map fun k => (r, k, chgAt (S.kh k) r)
def evN (S : Sto) (rev : Int) (j : Nat) : List Evd := (List.range j).flatMap fun (i : Nat) => evAt S (rev + i)
theorem evN_succ (S : Sto) (rev : Int) (j : Nat) : evN S rev (j + 1) = evN S rev j ++ evAt S (rev + j) := by
  unfold evN
  rw [List.range_succ, List.flatMap_append]
  simp
theorem evN_le (S : Sto) (rev : Int) {i j : Nat} (h : i ≤ j) : (evN S rev i).length ≤ (evN S rev j).length := by
  induction j with
  | zero => obtain rfl : i = 0 := by omega
            exact Nat.le_refl _
  | succ j ih =>
    rcases Nat.lt_or_ge i (j + 1) with hlt | hge
    · rw [evN_succ, List.length_append]
      have := ih (by omega)
      omega
    · obtain rfl : i = j + 1 := by omega
      exact Nat.le_refl _
theorem info85 : (Tryz.prog.info? 141).map (fun i => (i.zero, i.size, i.bytes)) = some (some (.agg #[.int .i64 0, .bool false, .string ⟨#[]⟩, .string ⟨#[]⟩, .int .i64 0, .int .i64 0, .int .i64 0, .int .i64 0]), 8, 80) := by kernel_rfl
/-- A row of changes that was told. -/
def ER (w wr : World) (v : Value) (l : List Evd) : Prop := wr.ownsRow w.heap.size 141 8 v l.length (evsC l) ∧ Below w.heap.size w wr
/-- The log has each revision that is not compacted. -/
def LgOk (S : Sto) (g : Sg) : Prop := ∀ r : Int, (S.past : Int) < r → r ≤ S.rev → (∃ v, g.lv r = some v) ∧ ∀ k ∈ S.lg r, ∃ c, (r, c) ∈ S.kh k
set_option maxRecDepth 100000 in
theorem since_arg (w : World) (s : Nat) (rev : Int) (hr : rev < 1) : Calls Tryz.prog 49 #[ptr s, .int .i64 rev] w fun e w' => e = .returned (.tuple #[.slice none 0 0, .int .i64 1]) ∧ w' = w := by
  go_enter Tryz.func49, Tryz.ntmps49
  go_wp2
  refine bodyPost_ret (results_tmp2 rfl _ _ _) rfl ?_
  exact ⟨rfl, rfl⟩
section
variable {n : Nat} {w : World} {s : Nat} {S : Sto} {g : Sg} {o : Value} (h : St n w s S g o)
include h
set_option maxRecDepth 100000 in
theorem since_past (rev : Int) (hr : ¬ rev < 1) (hp : rev ≤ S.past) : Calls Tryz.prog 49 #[ptr s, .int .i64 rev] w fun e w' => e = .returned (.tuple #[.slice none 0 0, .int .i64 16]) ∧ w' = w := by
  obtain ⟨-, c1, -⟩ := h.cells
  clear h
  go_enter Tryz.func49, Tryz.ntmps49
  go_wp2
  refine bodyPost_ret (results_tmp2 rfl _ _ _) rfl ?_
  exact ⟨rfl, rfl⟩
set_option maxRecDepth 100000 in
set_option maxHeartbeats 2000000 in
theorem since_any (rev : Int) (hr : ¬ rev < 1) (hp : ¬ rev ≤ S.past) (hrm : rev ≤ 1000000000) (hS : S.rev ≤ 1000000000) (hl : LgOk S g) (hlen : (evN S rev ((S.rev : Int) + 1 - rev).toNat).length ≤ 1000000) :
    Calls Tryz.prog 49 #[ptr s, .int .i64 rev] w fun e w' => ∃ p c, e = .returned (.tuple #[.slice p (evN S rev ((S.rev : Int) + 1 - rev).toNat).length c, .int .i64 0]) ∧ ER w w' (.slice p (evN S rev ((S.rev : Int) + 1 - rev).toNat).length c) (evN S rev ((S.rev : Int) + 1 - rev).toNat) := by
  obtain ⟨m, hm⟩ : ∃ m, m = ((S.rev : Int) + 1 - rev).toNat := ⟨_, rfl⟩
  rw [← hm] at hlen ⊢
  have hml : ∀ j : Nat, j < m ↔ rev + j ≤ S.rev := fun j => by omega
  have hmb : (m : Int) ≤ 1000000001 := by omega
  obtain ⟨-, c1, -⟩ := h.cells
  have H := Hid.mk'' h
  have HL := Hid.mk'' hl
  have HML := Hid.mk'' hml
  have HSL : Hid (s < w.heap.size) := (Array.getElem?_eq_some_iff.1 h.blk).1
  clear h hl hml hm
  obtain ⟨t9, hti, hz0, hz1, hz2⟩ := info_parts info85
  go_enter Tryz.func49, Tryz.ntmps49
  go_wp2
  go_loopg [6, 7] (m + 1) (fun kx s6 s7 wr => ∃ (j : Nat) (p : Option Addr) (c : Nat), s6 = .slice p (evN S rev j).length c ∧ s7 = .int .i64 (rev + j) ∧ kx + j = m + 1 ∧ j ≤ m ∧ Hid (ER w wr (.slice p (evN S rev j).length c) (evN S rev j)))
  case atStart => exact ⟨0, none, 0, rfl, by simp, rfl, Nat.zero_le _, World.ownsRow_nil _ _ _ _, Below.refl _ _⟩
  case round =>
    obtain ⟨j, p, c, rfl, rfl, hkx, hj, HM⟩ := hrel
    have d0 := (HM.out.2.cell (p := ⟨s, 0, none⟩) HSL.out).trans H.out.cells.1
    by_cases hlt : j < m
    · have hle := (HML.out j).1 hlt
      have hpr : (S.past : Int) < rev + j := by omega
      obtain ⟨⟨v, hv⟩, hks⟩ := HL.out (rev + j) hpr hle
      have hst := H.out.below (HM.out.2.mono (Nat.le_refl _))
      obtain ⟨-, hrow⟩ := H.out.rows _ v hv
      obtain ⟨vp, vc, rfl⟩ := owns_formB0 hrow
      have hlk : (Instr.lookup 76 (.map (some g.bl)) (.int .i64 (rev + j)) false).run Tryz.prog wr = .ok (.slice vp (S.lg (rev + j)).length vc) wr := by
        have := hst.lg.look law61 Tryz.underlying76 (zero66 _) (rev + j) false
        rw [hv] at this
        exact this
      obtain ⟨-, -, -, -, d4, -⟩ := hst.cells
      have hsu := evN_succ S rev j
      have hle2 := evN_le S rev (show j + 1 ≤ m by omega)
      rw [hsu, List.length_append] at hle2
      have hal : (evAt S (rev + j)).length = (S.lg (rev + j)).length := by unfold evAt; rw [List.length_map]
      obtain ⟨K, hK⟩ : ∃ K, K = S.lg (rev + j) := ⟨_, rfl⟩
      obtain ⟨A, hA⟩ : ∃ A, A = evAt S (rev + j) := ⟨_, rfl⟩
      obtain ⟨E, hE⟩ : ∃ E, E = evN S rev j := ⟨_, rfl⟩
      obtain ⟨r, hrr⟩ : ∃ r, r = rev + (j : Int) := ⟨_, rfl⟩
      have HAk : Hid (∀ i k, K[i]? = some k → ∃ c, (r, c) ∈ S.kh k ∧ A[i]? = some (r, k, c)) := fun i k hi => by
        rw [hK] at hi
        rw [hrr]
        obtain ⟨c, hc⟩ := hks k (List.mem_of_getElem? hi)
        refine ⟨c, hc, ?_⟩
        rw [hA]
        unfold evAt
        rw [List.getElem?_map, hi, Option.map_some, chgAt_mem (H.out.hok k).asc hc]
      rw [← hK] at hlk hrow hal
      rw [← hA, ← hE] at hsu hle2
      rw [← hA] at hal
      rw [← hE] at HM ⊢
      rw [← hrr] at hlk hle ⊢
      have HROW := Hid.mk'' hrow
      have HSU := Hid.mk'' hsu
      have HRR := Hid.mk'' hrr
      have hrb : 1 ≤ r ∧ r ≤ 2000000000 := by omega
      clear hks hst hrow hv hK hA hE hsu hrr hpr
      have hAm : A.length ≤ 1000000 := by omega
      go_upto_region 10 with fail
      go_loopg [6, 36] (K.length + 1) (fun kx s6 s36 wq => ∃ (i : Nat) (p : Option Addr) (c : Nat), s6 = .slice p (E ++ A.take i).length c ∧ s36 = .int .i64 i ∧ kx + i = K.length + 1 ∧ i ≤ K.length ∧ Hid (ER w wq (.slice p (E ++ A.take i).length c) (E ++ A.take i)))
      case atStart => exact ⟨0, p, c, by simp, rfl, rfl, Nat.zero_le _, by rw [List.take_zero, List.append_nil]; exact HM.out⟩
      case round =>
        obtain ⟨i, p', c', rfl, rfl, hkx2, hi, HM2⟩ := hrel
        by_cases hlt2 : i < K.length
        · obtain ⟨k, hkk⟩ : ∃ k, K[i]? = some k := ⟨_, List.getElem?_eq_getElem hlt2⟩
          obtain ⟨cc, hmem, hAi⟩ := HAk.out i k hkk
          obtain ⟨gg, cg, hvv, hcell⟩ := row_cell HROW.out hkk
          have hgl : gg < w.heap.size := (HROW.out.lt gg (by rw [hvv]; rfl)).2
          have kcell := (HM2.out.2.cell (p := ⟨gg, i, none⟩) hgl).trans hcell
          have hvp : vp = some ⟨gg, 0, none⟩ := by cases hvv; rfl
          subst hvp
          have hcall := event_any (H.out.below HM2.out.2) k r cc hmem
          have htk : A.take (i + 1) = A.take i ++ [(r, k, cc)] := by rw [List.take_add_one, hAi]; rfl
          have hlt3 : (A.take i).length = i := by rw [List.length_take]; omega
          obtain ⟨B, hB⟩ : ∃ B, B = E ++ A.take i := ⟨_, rfl⟩
          have hBl : B.length = E.length + i := by rw [hB, List.length_append, hlt3]
          have hBs : E ++ A.take (i + 1) = B ++ [(r, k, cc)] := by rw [htk, hB, List.append_assoc]
          obtain ⟨x, hx⟩ : ∃ x, x = evKV r k cc := ⟨_, rfl⟩
          obtain ⟨dl, hdl⟩ : ∃ dl, dl = cc.isNone := ⟨_, rfl⟩
          have hel : evL (r, k, cc) = (evC r dl x).toList := by rw [hx, hdl]; rfl
          unfold encEv at hcall
          rw [← hx, ← hdl] at hcall
          rw [← hB] at HM2 ⊢
          obtain ⟨kk, kvv, kcr, kmo, kve, kle⟩ := x
          dsimp only [evC] at hcall hel
          have HX : Hid (∀ w3, Below wr.heap.size wr w3 → Src Tryz.prog 8 29 (.slice (some ⟨w3.heap.size, 0, none⟩) 1 1) 1 (evL (r, k, cc)) (w3.alloc (.cells #[.int .i64 r, .bool dl, .string kk, .string kvv, .int .i64 kcr, .int .i64 kmo, .int .i64 kve, .int .i64 kle] 141)) ∧ (w3.alloc (.cells #[.int .i64 r, .bool dl, .string kk, .string kvv, .int .i64 kcr, .int .i64 kmo, .int .i64 kve, .int .i64 kle] 141)).ownsRow w.heap.size 141 8 (.slice p' B.length c') B.length (evsC B) ∧ w.heap.size ≤ w3.heap.size ∧ Hid (∀ w', Upd (w3.alloc (.cells #[.int .i64 r, .bool dl, .string kk, .string kvv, .int .i64 kcr, .int .i64 kmo, .int .i64 kve, .int .i64 kle] 141)) w' (fun k => some k = (Value.slice p' B.length c').ownBlock) → Below w.heap.size w w')) := fun w3 hb3 => by
            have hba : Below w3.heap.size w3 (w3.alloc (.cells #[.int .i64 r, .bool dl, .string kk, .string kvv, .int .i64 kcr, .int .i64 kmo, .int .i64 kve, .int .i64 kle] 141)) := (Below.refl _ w3).alloc (Nat.le_refl _) _
            have hwz : w.heap.size ≤ wr.heap.size := HM2.out.2.size
            have hb4 : Below wr.heap.size wr (w3.alloc (.cells #[.int .i64 r, .bool dl, .string kk, .string kvv, .int .i64 kcr, .int .i64 kmo, .int .i64 kve, .int .i64 kle] 141)) := hb3.trans (hba.mono hb3.size)
            have hbw := HM2.out.2.trans (hb4.mono hwz)
            refine ⟨Src.ofSlice _ Tryz.underlying29 ⟨w3.heap.size, 0, none⟩ 1 1 _ (by rw [hel]; rfl) (fun j u hj => ?_) (fun u hu => ?_), ownsRow_upd HM2.out.1 (Upd.ofBelow (S := fun _ => False) hb4) (fun _ _ h => h), Nat.le_trans hwz hb3.size, fun w' hu => hbw.trans (hu.below hbw.size (fun k hk e => by have := (HM2.out.1.lt k e.symm).1; omega))⟩
            · rw [hel] at hj
              rw [Addr.add_lit, Nat.zero_add, cell_of_row _ _ _ _ _ _ (row_alloc w3 _ 141)]
              simpa using hj
            · rw [hel] at hu
              simp at hu
              rcases hu with rfl | rfl | rfl | rfl | rfl | rfl | rfl | rfl <;> rfl
          have HBS := Hid.mk'' hBs
          have hB3 : B.length ≤ 1000000 := by omega
          clear hBs htk hel hx hdl hB hAi hmem hcell hvv hkk hgl hBl hlt3
          go_wp2_with (first | (go_at_call 75; refine hcall.mono ?_; rintro e w3 ⟨rfl, hb3⟩; obtain ⟨hsrc, hown, hwz, HFIN⟩ := HX.out w3 hb3) | (at_builtin; refine wpList_appS _ rfl (.tmp 40) (.tmp 46) 29 29 rfl w.heap.size 141 t9 _ 8 Tryz.underlying29 hti hz0 hz1 rfl (by rw [hz2]; decide) _ B.length (evsC B) rfl hown _ rfl 1 (evL (r, k, cc)) hsrc (by omega) (by simp; omega) ?_; intro v' w' q1 q2 q3 q4; obtain ⟨np, nc, hnv⟩ := owns_formB0 q1; subst hnv; clear q3 q4))
          go_roundg (K.length - i)
          case measure => omega
          case rel => exact ⟨i + 1, np, nc, by rw [HBS.out]; simp, by congr 1, by omega, by omega, by rw [HBS.out]; exact ⟨by simpa [evsC] using q1, HFIN.out _ q2⟩⟩
        · obtain rfl : i = K.length := by omega
          have htl : A.take K.length = A := by rw [← hal, List.take_length]
          rw [htl] at HM2 ⊢
          go_wp2
          go_roundg (m - j)
          case measure => omega
          case rel => exact ⟨j + 1, p', c', by rw [HSU.out], by have := HRR.out; congr 1; omega, by omega, by omega, by rw [HSU.out]; exact HM2.out⟩
    · have hle : ¬ rev + j ≤ S.rev := fun e => hlt ((HML.out j).2 e)
      obtain rfl : j = m := by omega
      go_wp2
      refine bodyPost_ret (results_tmp2 rfl _ _ _) rfl ?_
      exact ⟨p, c, rfl, HM.out⟩
end
end Go.Proofs.YtgbobegoknmiaaaGreat
/- The log behind a Done; the text behind all keys. -/
namespace Go.Proofs.YtgbobegoknmiaaaGreat
open Go Go.RowKit

theorem LgOk.done {S : Sto} {W : Wri} {g g' : Sg} {h : Wg} (H : LgOk S g) (hnd : W.keys.Nodup) (hlv : g'.lv = doneLv S W g h) : LgOk (doneS S W) g' := by
  by_cases hk : W.keys = []
  · have e1 : doneS S W = S := if_pos hk
    have e2 : g'.lv = g.lv := hlv.trans (if_pos hk)
    rw [e1]
    intro r h1 h2
    rw [e2]
    exact H r h1 h2
  · have e1 : doneS S W = takeS S W W.keys.length := if_neg hk
    have e2 : g'.lv = setF g.lv ((S.rev : Int) + 1) h.v := hlv.trans (if_neg hk)
    obtain ⟨t1, t2, t3⟩ := takeS_rev S W W.keys.length
    rw [e1]
    intro r h1 h2
    rw [t2] at h1
    rw [t1] at h2
    rw [e2, t3]
    have hin : ∀ k, k ∈ W.keys → (takeS S W W.keys.length).kh k = S.kh k ++ [((S.rev : Int) + 1, chG W k)] := fun k hm => by
      unfold takeS
      rw [List.take_length]
      exact layAll_in _ _ hnd hm
    have hout : ∀ k, k ∉ W.keys → (takeS S W W.keys.length).kh k = S.kh k := fun k hm => by
      unfold takeS
      rw [List.take_length]
      exact layAll_not _ _ hm
    by_cases hr : r = (S.rev : Int) + 1
    · subst hr
      refine ⟨⟨h.v, setF_same _ _ _⟩, fun k hm => ?_⟩
      rw [nextS_lg] at hm
      rw [hin k hm]
      exact ⟨chG W k, List.mem_append_right _ (List.mem_singleton.2 rfl)⟩
    · have hr2 : r ≤ S.rev := by
        have : r ≤ ((S.rev + 1 : Nat) : Int) := h2
        omega
      obtain ⟨⟨v, hv⟩, hks⟩ := H r h1 hr2
      refine ⟨⟨v, by rw [setF_other _ _ hr]; exact hv⟩, fun k hm => ?_⟩
      have hm2 : k ∈ S.lg r := by
        have e : (nextS S W.keys).lg r = S.lg r := by simp [nextS, hr]
        rwa [e] at hm
      obtain ⟨c, hc⟩ := hks k hm2
      by_cases hkm : k ∈ W.keys
      · rw [hin k hkm]; exact ⟨c, List.mem_append_left _ hc⟩
      · rw [hout k hkm]; exact ⟨c, hc⟩
/-- Bytes behind all keys. -/
def topN (n : Nat) : ByteArray := ⟨(List.replicate n 255).toArray⟩
theorem topN_succ (n : Nat) : topN n ++ ⟨#[255]⟩ = topN (n + 1) := by
  apply bytes_ext
  simp [topN, ByteArray.data_append, List.replicate_succ']
theorem topN_size (n : Nat) : (topN n).size = n := by show (List.replicate n (255 : UInt8)).toArray.size = n; simp
set_option maxRecDepth 100000 in
theorem top_any (w : World) : Calls Tryz.prog 48 #[] w fun e w' => e = .returned (.string (topN 101)) ∧ w' = w := by
  go_enter Tryz.func48, Tryz.ntmps48
  go_wp2
  go_loopg [1, 2] 101 (fun kx s1 s2 wr => ∃ i : Nat, s1 = .string (topN (i + 1)) ∧ s2 = .int .i64 i ∧ kx + i = 101 ∧ i ≤ 100 ∧ wr = w)
  case atStart => exact ⟨0, rfl, rfl, rfl, by omega, rfl⟩
  case round =>
    obtain ⟨i, rfl, rfl, hkx, hi, rfl⟩ := hrel
    by_cases hlt : i < 100
    · have hts := topN_succ (i + 1)
      have hsz := topN_size (i + 1)
      go_wp2
      go_roundg (100 - i)
      case measure => omega
      case rel => exact ⟨i + 1, rfl, by congr 1, by omega, by omega, rfl⟩
    · obtain rfl : i = 100 := by omega
      go_wp2
      go_ret
      exact ⟨rfl, rfl⟩
end Go.Proofs.YtgbobegoknmiaaaGreat
/- A transaction, done. -/
namespace Go.Proofs.YtgbobegoknmiaaaGreat
open Go Go.RowKit

theorem layAll_nth (f : ByteArray → Option KVd) (r : Int) : ∀ (l : List ByteArray) (S : Sto), (layAll f r S l).nth ≤ S.nth + l.length
  | [], S => Nat.le_refl _
  | k :: l, S => by
    have h1 := layAll_nth f r l (layS S r k (f k))
    have h2 : (layS S r k (f k)).nth ≤ S.nth + 1 := by
      unfold layS
      dsimp only
      split <;> split <;> omega
    have h3 : layAll f r S (k :: l) = layAll f r (layS S r k (f k)) l := rfl
    rw [h3, List.length_cons]
    omega
/-- A store behind a write. -/
structure Dn (S : Sto) (W : Wri) (T : Sto) : Prop where
  rev : T.rev = S.rev + (if W.keys = [] then 0 else 1)
  past : T.past = S.past
  nth : T.nth ≤ S.nth + W.keys.length
  inn : ∀ k, k ∈ W.keys → T.kh k = S.kh k ++ [((S.rev : Int) + 1, chG W k)]
  out : ∀ k, k ∉ W.keys → T.kh k = S.kh k
theorem done_dn (S : Sto) (W : Wri) (hnd : W.keys.Nodup) : Dn S W (doneS S W) := by
  by_cases hk : W.keys = []
  · have e1 : doneS S W = S := if_pos hk
    rw [e1]
    exact ⟨by rw [if_pos hk]; rfl, rfl, by omega, fun k h => (by rw [hk] at h; cases h), fun k _ => rfl⟩
  · have e1 : doneS S W = takeS S W W.keys.length := if_neg hk
    obtain ⟨t1, t2, t3⟩ := takeS_rev S W W.keys.length
    rw [e1]
    refine ⟨by rw [if_neg hk, t1], t2, ?_, fun k hm => ?_, fun k hm => ?_⟩
    · have h1 := layAll_nth (chG W) ((S.rev : Int) + 1) (W.keys.take W.keys.length) (nextS S W.keys)
      rw [List.take_length] at h1
      unfold takeS
      rw [List.take_length]
      exact h1
    · unfold takeS
      rw [List.take_length]
      exact layAll_in _ _ hnd hm
    · unfold takeS
      rw [List.take_length]
      exact layAll_not _ _ hm
theorem Dn.small {S T : Sto} {W : Wri} {j : Nat} (D : Dn S W T) (h : ∀ k r v, (r, some v) ∈ S.kh k → smallK v) (I : WI S W j) : ∀ k r v, (r, some v) ∈ T.kh k → smallK v := fun k r v hm => by
  by_cases hk : k ∈ W.keys
  · rw [D.inn k hk] at hm
    rcases List.mem_append.1 hm with hm | hm
    · exact h k r v hm
    · have e : some v = chG W k := by simp at hm; exact hm.2
      unfold chG at e
      cases hc : W.ch k with
      | none => rw [hc] at e; cases e
      | some c => rw [hc] at e; dsimp only [Option.getD_some] at e; subst e; exact I.sm k v hc
  · rw [D.out k hk] at hm
    exact h k r v hm
theorem Dn.ks {S T : Sto} {W : Wri} (D : Dn S W T) {n : Nat} {w : World} {s : Nat} {g : Sg} {o : Value} (h : St n w s T g o) {n' : Nat} {w' : World} {g' : Sg} {o' : Value} (h' : St n' w' s S g' o') : T.ks.length ≤ S.ks.length + W.keys.length := by
  have := nodup_le (m := S.ks ++ W.keys) (asc_nodup h.asc) (fun k hm => by
    have h1 := (h.mem k).1 hm
    by_cases hw : k ∈ W.keys
    · exact List.mem_append_right _ hw
    · rw [D.out k hw] at h1
      exact List.mem_append_left _ ((h'.mem k).2 h1))
  rw [List.length_append] at this
  exact this
theorem KVz.lt {Z : Nat → Prop} {w : World} {v : Value} {l : List KVd} (h : KVz Z w v l) : KVz (fun k => Z k ∧ k < w.heap.size) w v l := by
  obtain ⟨p, c, rfl, hh⟩ := h
  refine ⟨p, c, rfl, fun i kv hi => ?_⟩
  obtain ⟨g, o, e, hz1, hl, hk⟩ := hh i kv hi
  exact ⟨g, o, e, ⟨hz1, hl⟩, hl, hk⟩
theorem RSz.lt {Z : Nat → Prop} {w : World} {v : Value} {l : List Rs} (h : RSz Z w v l) : RSz (fun k => Z k ∧ k < w.heap.size) w v l := by
  obtain ⟨p, c, rfl, hh⟩ := h
  refine ⟨p, c, rfl, fun i kv hi => ?_⟩
  obtain ⟨g, o, e, hz1, hl, hk⟩ := hh i kv hi
  obtain ⟨u, h1, h2⟩ := hk.c1
  exact ⟨g, o, e, ⟨hz1, hl⟩, hl, hk.c0, ⟨u, h1, h2.lt⟩, hk.ln⟩
/-- The branch that is done; its error; the write, the results, the store behind it. -/
def opsOf (S : Sto) (t : Txd) : List Opd := if t.ifs.all (holdsC S) then t.thn else t.els
def txE (S : Sto) (L : Int → Bool) (t : Txd) : Int := if checkE t = 0 then allE S L (noW S.nth) (opsOf S t) else checkE t
def txP (S : Sto) (L : Int → Bool) (t : Txd) : Wri × List Rs := runP S L (noW S.nth) (opsOf S t)
def txS (S : Sto) (L : Int → Bool) (t : Txd) : Sto := if txE S L t = 0 then doneS S (txP S L t).1 else S
def txN (S : Sto) (L : Int → Bool) (t : Txd) : Nat := if txE S L t = 0 then (txP S L t).1.keys.length else 0
/-- What a transaction leaves. -/
structure Tx (n : Nat) (w w' : World) (s : Nat) (S : Sto) (L : Int → Bool) (t : Txd) (g g' : Sg) (bt : Bool) (p : Option Addr) (m c : Nat) : Prop where
  st : ∃ o', St (n + txN S L t) w' s (txS S L t) g' o'
  up : Upd w w' (ftS s g)
  ft : ∀ k, ftS s g' k → ftS s g k ∨ w.heap.size ≤ k
  lg : LgOk S g → LgOk (txS S L t) g'
  yes : txE S L t = 0 → bt = t.ifs.all (holdsC S) ∧ RSz (fun k => w.heap.size ≤ k ∧ ¬ ftS s g' k) w' (.slice p m c) (txP S L t).2 ∧ (txP S L t).1.keys.Nodup ∧ WI S (txP S L t).1 100
  no : ¬ txE S L t = 0 → bt = false ∧ p = none ∧ m = 0 ∧ c = 0
set_option maxRecDepth 100000 in
set_option maxHeartbeats 4000000 in
theorem txn_any {n : Nat} {w : World} {s q : Nat} {S : Sto} {g : Sg} {o : Value} {L : Int → Bool} {Lz Z : Nat → Prop} {LP : World → Prop} (H : St n w s S g o) (F : SF n S) (HL : Lea L Lz q LP) (hLP : LP w) (hLz : ∀ k, Lz k → k < w.heap.size ∧ ¬ ftS s g k) (t : Txd) (vi vt ve : Value) (hv : HasT Z w vi vt ve t) (hZ : ∀ k, Z k → k < w.heap.size ∧ ¬ ftS s g k)
    (h1 : t.ifs.length ≤ 1000000) (h2 : t.thn.length ≤ 1000000) (h3 : t.els.length ≤ 1000000) :
    Calls Tryz.prog 16 #[ptr s, .iface 45 (ptr q), .agg #[vi, vt, ve]] w fun e w' => ∃ (bt : Bool) (p : Option Addr) (m c : Nat), e = .returned (.tuple #[.bool bt, .slice p m c, .int .i64 (txE S L t)]) ∧ ∃ g', Hid (Tx n w w' s S L t g g' bt p m c) := by
  have HV := Hid.mk'' hv
  obtain ⟨pi, ci, rfl, -⟩ := hv.hi
  obtain ⟨pt, ct, rfl, -⟩ := hv.ht
  obtain ⟨pe, ce, rfl, -⟩ := hv.he
  clear hv
  have f0 := F.n
  have f1 := F.ks
  have f3 := F.rev
  obtain ⟨w1, hw1⟩ : ∃ w1, w1 = w.alloc (.cells #[.slice pi t.ifs.length ci, .slice pt t.thn.length ct, .slice pe t.els.length ce] 36) := ⟨_, rfl⟩
  have hb1 : Below w.heap.size w w1 := by rw [hw1]; exact (Below.refl _ _).alloc (Nat.le_refl _) _
  have r1 : w1.heap[w.heap.size]? = some (.cells #[.slice pi t.ifs.length ci, .slice pt t.thn.length ct, .slice pe t.els.length ce] 36 (0, 0)) := by rw [hw1]; exact heap_alloc_new w _
  have hs1 : w.heap.size < w1.heap.size := by rw [hw1]; simp
  obtain ⟨bx, hbx⟩ : ∃ bx, bx = w.heap.size := ⟨_, rfl⟩
  rw [← hbx] at r1 hs1
  have HB1 := Hid.mk'' hb1
  have HR1 := Hid.mk'' r1
  have HS := Hid.mk'' H
  have hck := check_any t _ _ _ w1 (HV.out.below hb1) h1 h2 h3
  have HK : Hid (∀ W W', (W.cell? ⟨bx, 0, none⟩ = some (.slice pi t.ifs.length ci) ∧ W.cell? ⟨bx, 1, none⟩ = some (.slice pt t.thn.length ct) ∧ W.cell? ⟨bx, 2, none⟩ = some (.slice pe t.els.length ce) ∧ Hid (Below w1.heap.size w1 W)) → Below W.heap.size W W' → (W'.cell? ⟨bx, 0, none⟩ = some (.slice pi t.ifs.length ci) ∧ W'.cell? ⟨bx, 1, none⟩ = some (.slice pt t.thn.length ct) ∧ W'.cell? ⟨bx, 2, none⟩ = some (.slice pe t.els.length ce) ∧ Hid (Below w1.heap.size w1 W'))) := fun W W' h hb => by
    obtain ⟨a, b, c, d⟩ := h
    have hl : bx < W.heap.size := Nat.lt_of_lt_of_le hs1 d.out.size
    exact ⟨(hb.cell (p := ⟨bx, 0, none⟩) hl).trans a, (hb.cell (p := ⟨bx, 1, none⟩) hl).trans b, (hb.cell (p := ⟨bx, 2, none⟩) hl).trans c, d.out.trans (hb.mono d.out.size)⟩
  have k1 : ∀ W, (W.cell? ⟨bx, 0, none⟩ = some (.slice pi t.ifs.length ci) ∧ W.cell? ⟨bx, 1, none⟩ = some (.slice pt t.thn.length ct) ∧ W.cell? ⟨bx, 2, none⟩ = some (.slice pe t.els.length ce) ∧ Hid (Below w1.heap.size w1 W)) → Calls Tryz.prog 14 #[ptr s, .slice pi t.ifs.length ci] W fun e W' => e = .returned (.bool (t.ifs.all (holdsC S))) ∧ (W'.cell? ⟨bx, 0, none⟩ = some (.slice pi t.ifs.length ci) ∧ W'.cell? ⟨bx, 1, none⟩ = some (.slice pt t.thn.length ct) ∧ W'.cell? ⟨bx, 2, none⟩ = some (.slice pe t.els.length ce) ∧ Hid (Below w1.heap.size w1 W')) := fun W h => (Holds_any (HS.out.below (HB1.out.trans (h.2.2.2.out.mono HB1.out.size))) (by omega) t.ifs _ (HV.out.hi.below (HB1.out.trans (h.2.2.2.out.mono HB1.out.size))) h1).mono fun e W' h' => ⟨h'.1, HK.out W W' h h'.2⟩
  have HSW : Hid (∀ w2, Below w1.heap.size w1 w2 → (w2.drew.cell? ⟨bx, 0, none⟩ = some (.slice pi t.ifs.length ci) ∧ w2.drew.cell? ⟨bx, 1, none⟩ = some (.slice pt t.thn.length ct) ∧ w2.drew.cell? ⟨bx, 2, none⟩ = some (.slice pe t.els.length ce) ∧ Hid (Below w1.heap.size w1 w2.drew))) := fun w2 hb => by
    have r := (hb.block bx hs1).trans HR1.out
    exact ⟨cell_of_row _ _ _ _ _ _ r, cell_of_row _ _ _ _ _ _ r, cell_of_row _ _ _ _ _ _ r, hb.drew⟩
  by_cases hE : checkE t = 0
  · rw [hE] at hck
    have hxe : txE S L t = allE S L (noW S.nth) (opsOf S t) := if_pos hE
    have HXE := Hid.mk'' hxe
    -- behind the comparisons
    have HAFT : Hid (∀ w9, Below w1.heap.size w1 w9 → ∀ (ops : List Opd) (po : Option Addr) (co : Nat), OPs Z w (.slice po ops.length co) ops → ops.length ≤ 100 → ∀ w10, Ow n w10 s (w9.heap.size + 1) S (noW S.nth) g ⟨w9.heap.size, .slice none 0 0, 0⟩ → Upd w9 w10 (fun k => k = s) → Calls Tryz.prog 39 #[ptr (w9.heap.size + 1), .iface 45 (ptr q), .slice po ops.length co] w10 fun e w' => ∃ (p : Option Addr) (m c : Nat), e = .returned (.tuple #[.slice p m c, .int .i64 (allE S L (noW S.nth) ops)]) ∧ ∃ (W' : Wri) (h' : Wg), Hid (Ow n w' s (w9.heap.size + 1) S W' g h' ∧ WI S W' 100 ∧ KpW w10 w' (w9.heap.size + 1) ⟨w9.heap.size, .slice none 0 0, 0⟩ h' ∧ (allE S L (noW S.nth) ops = 0 → W' = (runP S L (noW S.nth) ops).1 ∧ RSz (fun k => w10.heap.size ≤ k ∧ ¬ ftW (w9.heap.size + 1) h' k) w' (.slice p m c) (runP S L (noW S.nth) ops).2) ∧ (¬ allE S L (noW S.nth) ops = 0 → (p, m, c) = (none, 0, 0)))) := fun w9 hb9 ops po co hops hlen w10 hO hu => by
      have hb09 : Below w.heap.size w w9 := HB1.out.trans (hb9.mono HB1.out.size)
      have hu0 : Upd w w10 (fun k => k = s) := (Upd.ofBelow hb09 : Upd w w9 (fun k => k = s)).trans hu (fun _ _ e => e)
      have hft : ∀ k, k < w.heap.size → ¬ ftW (w9.heap.size + 1) ⟨w9.heap.size, .slice none 0 0, 0⟩ k := fun k hk e => by
        have := hb09.size
        rcases e with rfl | rfl | e
        · omega
        · dsimp only at hk; omega
        · simp [Value.ownBlock] at e
      exact doAll_any hO F (WI.new S) HL (HL.upd w w10 _ hLP hu0 (fun k hk e => (hLz k hk).2 (.inl e))) (fun k hk => hft k (hLz k hk).1) ops _ (hops.upd hu0 (fun k hk e => (hZ k hk).2 (.inl e))) (fun k hk => hft k (hZ k hk).1) hlen
    have HLN : Hid (t.thn.length ≤ 100 ∧ t.els.length ≤ 100) := by
      show _ ∧ _
      unfold checkE at hE
      by_cases hm : 32 < t.ifs.length ∨ 32 < t.thn.length ∨ 32 < t.els.length
      · rw [if_pos hm] at hE; cases hE
      · omega
    have HWR : Hid (∀ w9, Below w1.heap.size w1 w9 → Calls Tryz.prog 22 #[ptr s] w9 fun e w' => e = .returned (ptr (w9.heap.size + 1)) ∧ Ow n w' s (w9.heap.size + 1) S (noW S.nth) g ⟨w9.heap.size, .slice none 0 0, 0⟩ ∧ Upd w9 w' (fun k => k = s)) := fun w9 hb9 => write_st (HS.out.below (HB1.out.trans (hb9.mono HB1.out.size)))
    have HFT : Hid (∀ k, ftS s g k → k < w.heap.size) := fun k hk => HS.out.lt hk
    have HKB : Hid (∀ w9, Below w1.heap.size w1 w9 → Below w.heap.size w w9) := fun w9 hb9 => HB1.out.trans (hb9.mono HB1.out.size)
    have HFB : Hid (∀ (w9 w10 w11 : World) (h' : Wg), Below w.heap.size w w9 → Upd w9 w10 (fun k => k = s) → KpW w10 w11 (w9.heap.size + 1) ⟨w9.heap.size, .slice none 0 0, 0⟩ h' → (∀ k, ftW (w9.heap.size + 1) h' k → w.heap.size ≤ k) ∧ Upd w w11 (ftS s g)) := fun w9 w10 w11 h' hb hu hk => by
      have hft : ∀ k, ftW (w9.heap.size + 1) ⟨w9.heap.size, .slice none 0 0, 0⟩ k → w.heap.size ≤ k := fun k e => by
        have := hb.size
        rcases e with rfl | rfl | e
        · omega
        · exact this
        · simp [Value.ownBlock] at e
      refine ⟨fun k e => ?_, ?_⟩
      · rcases hk.2 k e with e | e
        · exact hft k e
        · exact Nat.le_trans hb.size (Nat.le_trans hu.size e)
      · exact (((Upd.ofBelow hb : Upd w w9 (ftS s g)).trans hu (fun k _ e => .inl e)).trans hk.1 (fun k hk e => by have := hft k e; omega))
    have HDONE : Hid (∀ (w9 w10 w11 : World) (W' : Wri) (h' : Wg), Below w.heap.size w w9 → Upd w9 w10 (fun k => k = s) → KpW w10 w11 (w9.heap.size + 1) ⟨w9.heap.size, .slice none 0 0, 0⟩ h' → Ow n w11 s (w9.heap.size + 1) S W' g h' → WI S W' 100 → Calls Tryz.prog 24 #[ptr (w9.heap.size + 1)] w11 fun e w' => e = .returned (.int .i64 (doneS S W').rev) ∧ ∃ g', Hid (St (n + W'.keys.length) w' s (doneS S W') g' (.pointer none) ∧ DoneP w11 w' s (w9.heap.size + 1) g h' g' ∧ g'.lv = doneLv S W' g h')) := fun w9 w10 w11 W' h' hb hu hk hO hI => by
      have := hI.kl hO.wr.nd
      exact done_lg hO hI.ok (by omega) (by omega)
    have HW2 : Hid (∀ (w11 : World) (b : Nat) (W' : Wri) (h' : Wg), Ow n w11 s b S W' g h' → Calls Tryz.prog 22 #[ptr s] w11 fun e w' => e = .returned (ptr (w11.heap.size + 1)) ∧ Ow n w' s (w11.heap.size + 1) S (noW S.nth) g ⟨w11.heap.size, .slice none 0 0, 0⟩ ∧ Upd w11 w' (fun k => k = s)) := fun w11 b W' h' hO => write_st hO.st
    have HD2 : Hid (∀ (w11 w12 : World), Ow n w12 s (w11.heap.size + 1) S (noW S.nth) g ⟨w11.heap.size, .slice none 0 0, 0⟩ → Calls Tryz.prog 24 #[ptr (w11.heap.size + 1)] w12 fun e w' => e = .returned (.int .i64 S.rev) ∧ ∃ g', Hid (St n w' s S g' (.pointer none) ∧ DoneP w12 w' s (w11.heap.size + 1) g ⟨w11.heap.size, .slice none 0 0, 0⟩ g' ∧ g'.lv = g.lv)) := fun w11 w12 hO => done_lg hO (WI.new S).ok (by show n + 0 ≤ _; omega) (by omega)
    -- the end, done
    have HEND : Hid (∀ (w9 w10 w11 w12 : World) (ops : List Opd) (W' : Wri) (h' : Wg) (g' : Sg) (bt : Bool) (p : Option Addr) (m c : Nat), opsOf S t = ops → t.ifs.all (holdsC S) = bt → allE S L (noW S.nth) ops = 0 → Below w.heap.size w w9 → Upd w9 w10 (fun k => k = s) → KpW w10 w11 (w9.heap.size + 1) ⟨w9.heap.size, .slice none 0 0, 0⟩ h' → Ow n w11 s (w9.heap.size + 1) S W' g h' → WI S W' 100 → (W' = (runP S L (noW S.nth) ops).1 ∧ RSz (fun k => w10.heap.size ≤ k ∧ ¬ ftW (w9.heap.size + 1) h' k) w11 (.slice p m c) (runP S L (noW S.nth) ops).2) → (St (n + W'.keys.length) w12 s (doneS S W') g' (.pointer none) ∧ DoneP w11 w12 s (w9.heap.size + 1) g h' g' ∧ g'.lv = doneLv S W' g h') → txE S L t = 0 ∧ Tx n w w12 s S L t g g' bt p m c) := fun w9 w10 w11 w12 ops W' h' g' bt p m c e1 e2 e3 hb hu hk hO hI hR hD => by
      subst e1
      obtain ⟨rfl, hR⟩ := hR
      have hz : txE S L t = 0 := HXE.out.trans e3
      obtain ⟨hw, hup⟩ := HFB.out w9 w10 w11 h' hb hu hk
      obtain ⟨d1, d2, d3⟩ := hD
      have eS : txS S L t = doneS S (txP S L t).1 := if_pos hz
      have eN : txN S L t = (txP S L t).1.keys.length := if_pos hz
      refine ⟨hz, ⟨_, by rw [eS, eN]; exact d1⟩, hup.trans d2.1 (fun k hk e => e.elim id (fun e => by have := hw k e; omega)), fun k hk => ?_, fun hl => by rw [eS]; exact hl.done hO.wr.nd d3, fun _ => ⟨e2.symm, ?_, hO.wr.nd, hI⟩, fun h => absurd hz h⟩
      · rcases d2.2 k hk with (e | e) | e
        · exact .inl e
        · exact .inr (hw k e)
        · exact .inr (Nat.le_trans hup.size e)
      · have h10 : w.heap.size ≤ w10.heap.size := Nat.le_trans hb.size hu.size
        refine (hR.lt.mono (Z' := fun k => (w10.heap.size ≤ k ∧ ¬ ftW (w9.heap.size + 1) h' k) ∧ k < w11.heap.size) (fun k h => h)).upd d2.1 (fun k hk e => ?_) |>.mono (fun k hk => ⟨by omega, fun e => ?_⟩)
        · rcases e with e | e
          · have := HFT.out k e; omega
          · exact hk.1.2 e
        · rcases d2.2 k e with (e | e) | e
          · have := HFT.out k e; omega
          · exact hk.1.2 e
          · omega
    -- the end, refused
    have HREF : Hid (∀ (w9 w10 w11 w12 w13 : World) (ops : List Opd) (W' : Wri) (h' : Wg) (g' : Sg), opsOf S t = ops → ¬ allE S L (noW S.nth) ops = 0 → Below w.heap.size w w9 → Upd w9 w10 (fun k => k = s) → KpW w10 w11 (w9.heap.size + 1) ⟨w9.heap.size, .slice none 0 0, 0⟩ h' → Upd w11 w12 (fun k => k = s) → (St n w13 s S g' (.pointer none) ∧ DoneP w12 w13 s (w11.heap.size + 1) g ⟨w11.heap.size, .slice none 0 0, 0⟩ g' ∧ g'.lv = g.lv) → txE S L t = allE S L (noW S.nth) ops ∧ Tx n w w13 s S L t g g' false none 0 0) := fun w9 w10 w11 w12 w13 ops W' h' g' e1 e3 hb hu hk hu2 hD => by
      subst e1
      have hz : ¬ txE S L t = 0 := by rw [HXE.out]; exact e3
      obtain ⟨hw, hup⟩ := HFB.out w9 w10 w11 h' hb hu hk
      obtain ⟨d1, d2, d3⟩ := hD
      have eS : txS S L t = S := if_neg hz
      have eN : txN S L t = 0 := if_neg hz
      have hup2 : Upd w w12 (ftS s g) := hup.trans hu2 (fun k _ e => .inl e)
      have h11 := hup.size
      have hft : ∀ k, ftW (w11.heap.size + 1) ⟨w11.heap.size, .slice none 0 0, 0⟩ k → w.heap.size ≤ k := fun k e => by
        rcases e with rfl | rfl | e
        · omega
        · exact h11
        · simp [Value.ownBlock] at e
      refine ⟨HXE.out, ⟨_, by rw [eS, eN]; exact d1⟩, hup2.trans d2.1 (fun k hk e => e.elim id (fun e => by have := hft k e; omega)), fun k hk => ?_, fun hl => ?_, fun h => absurd h hz, fun _ => ⟨rfl, rfl, rfl, rfl⟩⟩
      · rcases d2.2 k hk with (e | e) | e
        · exact .inl e
        · exact .inr (hft k e)
        · exact .inr (Nat.le_trans hup2.size e)
      · rw [eS]
        intro r hr1 hr2
        rw [d3]
        exact hl r hr1 hr2
    have HTH : Hid (OPs Z w (.slice pt t.thn.length ct) t.thn ∧ OPs Z w (.slice pe t.els.length ce) t.els) := ⟨HV.out.ht, HV.out.he⟩
    clear HK HV F HL hLP hLz hZ H h1 h2 h3 hb1 hxe
    cases hA : t.ifs.all (holdsC S) with
    | true =>
      have e1 : Hid (opsOf S t = t.thn) := if_pos hA
      rw [hA] at k1
      have HA := Hid.mk'' hA
      have HALL := Hid.mk'' (fun w9 hb9 => HAFT.out w9 hb9 t.thn pt ct HTH.out.1 HLN.out.1)
      clear HAFT hA
      by_cases hz : allE S L (noW S.nth) t.thn = 0
      · rw [hz] at HALL
        have HZ := Hid.mk'' hz
        clear hz
        go_enter Tryz.func16, Tryz.ntmps16
        go_upto_region 1 with fail
        rw [← hw1, ← hbx]
        have hB0 := cell_of_row _ _ 0 _ _ _ r1
        have hB1 := cell_of_row _ _ 1 _ _ _ r1
        have hB2 := cell_of_row _ _ 2 _ _ _ r1
        clear hw1 hbx
        go_upto_region 4 with (go_at_call 12; refine hck.mono ?_; rintro e w2 ⟨rfl, hb2⟩; have hSW := HSW.out w2 hb2; clear hb2)
        clear hB0 hB1 hB2
        go_region_held_law (fun W => W.cell? ⟨bx, 0, none⟩ = some (.slice pi t.ifs.length ci) ∧ W.cell? ⟨bx, 1, none⟩ = some (.slice pt t.thn.length ct) ∧ W.cell? ⟨bx, 2, none⟩ = some (.slice pe t.els.length ce) ∧ Hid (Below w1.heap.size w1 W)) (first | with_reducible assumption | (show _ ∧ _; with_reducible assumption)) (first | (go_at_call 14; with_reducible refine (k1 _ (by assumption)).mono ?_; rintro r w8 ⟨rfl, hS8⟩))
        all_goals
          obtain ⟨y0, y1, y2, HY⟩ := hS8
          have hwr := HWR.out w8 HY.out
          clear hSW k1 hck
          go_wp2_with (first | (go_at_call 22; refine hwr.mono ?_; rintro e w10 ⟨rfl, hO10, hU10⟩; have hall := HALL.out w8 HY.out w10 hO10 hU10; have HU := Hid.mk'' hU10; clear hO10 hU10 hwr) | (go_at_call 39; refine hall.mono ?_; rintro e w11 ⟨p, m, c, rfl, W', h', HO⟩; have hdone := HDONE.out w8 w10 w11 W' h' (HKB.out _ HY.out) HU.out HO.out.2.2.1 HO.out.1 HO.out.2.1; clear hall) | (go_at_call 24; refine hdone.mono ?_; rintro e w12 ⟨rfl, g', HD⟩; clear hdone))
          refine bodyPost_ret (results_tmp3 rfl _ _ _) rfl ?_
          obtain ⟨hz2, HT⟩ := HEND.out w8 w10 w11 w12 _ W' h' g' true p m c e1.out HA.out HZ.out (HKB.out _ HY.out) HU.out HO.out.2.2.1 HO.out.1 HO.out.2.1 (HO.out.2.2.2.1 (by trivial)) HD.out
          exact ⟨true, p, m, c, by rw [hz2]; rfl, g', HT⟩
      · have HZ := Hid.mk'' hz
        obtain ⟨E, hEE⟩ : ∃ E, E = allE S L (noW S.nth) t.thn := ⟨_, rfl⟩
        rw [← hEE] at HALL hz
        have HEE := Hid.mk'' hEE
        have hEb : decide (E = 0) = false := decide_eq_false hz
        clear hEE
        go_enter Tryz.func16, Tryz.ntmps16
        go_upto_region 1 with fail
        rw [← hw1, ← hbx]
        have hB0 := cell_of_row _ _ 0 _ _ _ r1
        have hB1 := cell_of_row _ _ 1 _ _ _ r1
        have hB2 := cell_of_row _ _ 2 _ _ _ r1
        clear hw1 hbx
        go_upto_region 4 with (go_at_call 12; refine hck.mono ?_; rintro e w2 ⟨rfl, hb2⟩; have hSW := HSW.out w2 hb2; clear hb2)
        clear hB0 hB1 hB2
        go_region_held_law (fun W => W.cell? ⟨bx, 0, none⟩ = some (.slice pi t.ifs.length ci) ∧ W.cell? ⟨bx, 1, none⟩ = some (.slice pt t.thn.length ct) ∧ W.cell? ⟨bx, 2, none⟩ = some (.slice pe t.els.length ce) ∧ Hid (Below w1.heap.size w1 W)) (first | with_reducible assumption | (show _ ∧ _; with_reducible assumption)) (first | (go_at_call 14; with_reducible refine (k1 _ (by assumption)).mono ?_; rintro r w8 ⟨rfl, hS8⟩))
        all_goals
          obtain ⟨y0, y1, y2, HY⟩ := hS8
          have hwr := HWR.out w8 HY.out
          clear hSW k1 hck
          go_upto_region 9 with (first | (go_at_call 22; refine hwr.mono ?_; rintro e w10 ⟨rfl, hO10, hU10⟩; have hall := HALL.out w8 HY.out w10 hO10 hU10; have HU := Hid.mk'' hU10; clear hO10 hU10 hwr) | (go_at_call 39; refine hall.mono ?_; rintro e w11 ⟨p, m, c, rfl, W', h', HO⟩; have hwr2 := HW2.out w11 _ W' h' HO.out.1; clear hall))
          go_wp2_with (first | (go_at_call 22; refine hwr2.mono ?_; rintro e w12 ⟨rfl, hO12, hU12⟩; have hdone := HD2.out w11 w12 hO12; have HU2 := Hid.mk'' hU12; clear hO12 hU12 hwr2) | (go_at_call 24; refine hdone.mono ?_; rintro e w13 ⟨rfl, g', HD⟩; clear hdone))
          refine bodyPost_ret (results_tmp3 rfl _ _ _) rfl ?_
          obtain ⟨hz2, HT⟩ := HREF.out w8 w10 w11 w12 w13 _ W' h' g' e1.out HZ.out (HKB.out _ HY.out) HU.out HO.out.2.2.1 HU2.out HD.out
          exact ⟨false, none, 0, 0, by rw [hz2, ← HEE.out]; rfl, g', HT⟩
    | false =>
      have e1 : Hid (opsOf S t = t.els) := if_neg (by rw [hA]; decide)
      rw [hA] at k1
      have HA := Hid.mk'' hA
      have HALL := Hid.mk'' (fun w9 hb9 => HAFT.out w9 hb9 t.els pe ce HTH.out.2 HLN.out.2)
      clear HAFT hA
      by_cases hz : allE S L (noW S.nth) t.els = 0
      · rw [hz] at HALL
        have HZ := Hid.mk'' hz
        clear hz
        go_enter Tryz.func16, Tryz.ntmps16
        go_upto_region 1 with fail
        rw [← hw1, ← hbx]
        have hB0 := cell_of_row _ _ 0 _ _ _ r1
        have hB1 := cell_of_row _ _ 1 _ _ _ r1
        have hB2 := cell_of_row _ _ 2 _ _ _ r1
        clear hw1 hbx
        go_upto_region 4 with (go_at_call 12; refine hck.mono ?_; rintro e w2 ⟨rfl, hb2⟩; have hSW := HSW.out w2 hb2; clear hb2)
        clear hB0 hB1 hB2
        go_region_held_law (fun W => W.cell? ⟨bx, 0, none⟩ = some (.slice pi t.ifs.length ci) ∧ W.cell? ⟨bx, 1, none⟩ = some (.slice pt t.thn.length ct) ∧ W.cell? ⟨bx, 2, none⟩ = some (.slice pe t.els.length ce) ∧ Hid (Below w1.heap.size w1 W)) (first | with_reducible assumption | (show _ ∧ _; with_reducible assumption)) (first | (go_at_call 14; with_reducible refine (k1 _ (by assumption)).mono ?_; rintro r w8 ⟨rfl, hS8⟩))
        all_goals
          obtain ⟨y0, y1, y2, HY⟩ := hS8
          have hwr := HWR.out w8 HY.out
          clear hSW k1 hck
          go_wp2_with (first | (go_at_call 22; refine hwr.mono ?_; rintro e w10 ⟨rfl, hO10, hU10⟩; have hall := HALL.out w8 HY.out w10 hO10 hU10; have HU := Hid.mk'' hU10; clear hO10 hU10 hwr) | (go_at_call 39; refine hall.mono ?_; rintro e w11 ⟨p, m, c, rfl, W', h', HO⟩; have hdone := HDONE.out w8 w10 w11 W' h' (HKB.out _ HY.out) HU.out HO.out.2.2.1 HO.out.1 HO.out.2.1; clear hall) | (go_at_call 24; refine hdone.mono ?_; rintro e w12 ⟨rfl, g', HD⟩; clear hdone))
          refine bodyPost_ret (results_tmp3 rfl _ _ _) rfl ?_
          obtain ⟨hz2, HT⟩ := HEND.out w8 w10 w11 w12 _ W' h' g' false p m c e1.out HA.out HZ.out (HKB.out _ HY.out) HU.out HO.out.2.2.1 HO.out.1 HO.out.2.1 (HO.out.2.2.2.1 (by trivial)) HD.out
          exact ⟨false, p, m, c, by rw [hz2]; rfl, g', HT⟩
      · have HZ := Hid.mk'' hz
        obtain ⟨E, hEE⟩ : ∃ E, E = allE S L (noW S.nth) t.els := ⟨_, rfl⟩
        rw [← hEE] at HALL hz
        have HEE := Hid.mk'' hEE
        have hEb : decide (E = 0) = false := decide_eq_false hz
        clear hEE
        go_enter Tryz.func16, Tryz.ntmps16
        go_upto_region 1 with fail
        rw [← hw1, ← hbx]
        have hB0 := cell_of_row _ _ 0 _ _ _ r1
        have hB1 := cell_of_row _ _ 1 _ _ _ r1
        have hB2 := cell_of_row _ _ 2 _ _ _ r1
        clear hw1 hbx
        go_upto_region 4 with (go_at_call 12; refine hck.mono ?_; rintro e w2 ⟨rfl, hb2⟩; have hSW := HSW.out w2 hb2; clear hb2)
        clear hB0 hB1 hB2
        go_region_held_law (fun W => W.cell? ⟨bx, 0, none⟩ = some (.slice pi t.ifs.length ci) ∧ W.cell? ⟨bx, 1, none⟩ = some (.slice pt t.thn.length ct) ∧ W.cell? ⟨bx, 2, none⟩ = some (.slice pe t.els.length ce) ∧ Hid (Below w1.heap.size w1 W)) (first | with_reducible assumption | (show _ ∧ _; with_reducible assumption)) (first | (go_at_call 14; with_reducible refine (k1 _ (by assumption)).mono ?_; rintro r w8 ⟨rfl, hS8⟩))
        all_goals
          obtain ⟨y0, y1, y2, HY⟩ := hS8
          have hwr := HWR.out w8 HY.out
          clear hSW k1 hck
          go_upto_region 9 with (first | (go_at_call 22; refine hwr.mono ?_; rintro e w10 ⟨rfl, hO10, hU10⟩; have hall := HALL.out w8 HY.out w10 hO10 hU10; have HU := Hid.mk'' hU10; clear hO10 hU10 hwr) | (go_at_call 39; refine hall.mono ?_; rintro e w11 ⟨p, m, c, rfl, W', h', HO⟩; have hwr2 := HW2.out w11 _ W' h' HO.out.1; clear hall))
          go_wp2_with (first | (go_at_call 22; refine hwr2.mono ?_; rintro e w12 ⟨rfl, hO12, hU12⟩; have hdone := HD2.out w11 w12 hO12; have HU2 := Hid.mk'' hU12; clear hO12 hU12 hwr2) | (go_at_call 24; refine hdone.mono ?_; rintro e w13 ⟨rfl, g', HD⟩; clear hdone))
          refine bodyPost_ret (results_tmp3 rfl _ _ _) rfl ?_
          obtain ⟨hz2, HT⟩ := HREF.out w8 w10 w11 w12 w13 _ W' h' g' e1.out HZ.out (HKB.out _ HY.out) HU.out HO.out.2.2.1 HU2.out HD.out
          exact ⟨false, none, 0, 0, by rw [hz2, ← HEE.out]; rfl, g', HT⟩
  · have hxe : txE S L t = checkE t := if_neg hE
    have HXE := Hid.mk'' hxe
    obtain ⟨E, hEE⟩ : ∃ E, E = checkE t := ⟨_, rfl⟩
    rw [← hEE] at hck hE
    have HEE := Hid.mk'' hEE
    have hEb : decide (E = 0) = false := decide_eq_false hE
    have HTX : Hid (∀ w2, Below w1.heap.size w1 w2 → Tx n w w2 s S L t g g false none 0 0) := fun w2 hb => by
      have hz : ¬ txE S L t = 0 := by rw [HXE.out, ← HEE.out]; exact hE
      have eS : txS S L t = S := if_neg hz
      have eN : txN S L t = 0 := if_neg hz
      have hb' := HB1.out.trans (hb.mono HB1.out.size)
      exact ⟨⟨o, by rw [eS, eN]; exact HS.out.below hb'⟩, Upd.ofBelow hb', fun k hk => .inl hk, fun hl => by rw [eS]; exact hl, fun h => absurd h hz, fun _ => ⟨rfl, rfl, rfl, rfl⟩⟩
    clear hEE hxe HK k1 HSW F HL hLP hLz hZ H hb1
    go_enter Tryz.func16, Tryz.ntmps16
    go_wp2_with (go_at_call 12; rw [← hw1]; refine hck.mono ?_; rintro e w2 ⟨rfl, hb2⟩)
    refine bodyPost_ret (results_tmp3 rfl _ _ _) rfl ?_
    exact ⟨false, none, 0, 0, by rw [HXE.out, ← HEE.out]; rfl, g, HTX.out _ hb2⟩
end Go.Proofs.YtgbobegoknmiaaaGreat
