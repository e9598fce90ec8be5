/- An append within a round. -/
import Derived.Test.YtjdmgmnndfhmgaaGreatGRF
import Derived.Maps.AppendAt
import Derived.Test.YtjdmgmnndfhmgaaGreatGRD
import Derived.Deep.LoopGhost
import Derived.Test.YtjdmgmnndfhmgaaGreatGRA
import Derived.Maps.OwnSet
namespace Go.Proofs.YtjdmgmnndfhmgaaGreat
open Go Go.RowKit Go.Shelf
attribute [local go_sem] Oper.semAt_some
abbrev strs (l : List ByteArray) : List Value := l.map Value.string
theorem info9 : (Tryz.prog.info? 9).map (fun i => (i.zero, i.size, i.bytes)) = some (some (.string ⟨#[]⟩), 1, 16) := by kernel_rfl
theorem stepIn_appS {F : Fence} {fn : Nat} {P : Program} (w : World) {ops : Array Oper} {o : Oper} {a : Act} {K : Act → World → Prop} {Q : Exit → Act → World → Prop} {E : Prop} (hgd : o.guard = none) (sl x : Operand) (t tx : TypeId) (ho : o.op = .call { callee := .builtin .append, args := #[sl, x], argTypes := #[t, tx] })
    (base : Nat) (e : TypeId) (i : TypeInfo) (z : Value) (s : Nat) (ht : P.underlying t = some (.slice e)) (hi : P.info? e = some i) (hz : i.zero = some z) (hsize : i.size = s) (hzs : z.cells.size = s) (hby : i.bytes ≤ 1000)
    (v : Value) (n : Nat) (xs : List Value) (hev : a.eval sl = v) (hown : w.ownsRow base e s v n xs) (vx : Value) (hex : a.eval x = vx) (m : Nat) (news : List Value) (hs : Src P s tx vx m news w) (hb : n + m ≤ 1000000000) (hbase : base ≤ w.heap.size)
    (h : ∀ v' w', w'.ownsRow base e s v' (n + m) (xs ++ news) → Upd w w' (fun k => some k = v.ownBlock) → (v'.ownBlock = v.ownBlock ∨ v'.ownBlock = some w.heap.size) → (v.ownBlock ≠ none ∨ 0 < m → v'.ownBlock ≠ none) → K (a.put o.dst v') w') :
    if Region.wanted o (yielded ops a.tmps) = true then Oper.wpIn F fn P o a w K Q else E := by
  have hw : Region.wanted o (yielded ops a.tmps) = true := by simp [Region.wanted, hgd]
  rw [if_pos hw]
  obtain ⟨v', w', hrun, r1, r2, r3, r4⟩ := run_appS (P := P) w base t tx o.type e i z s ht hi hz hsize hzs hby v n xs hown vx m news hs hb hbase
  unfold Oper.wpIn
  refine ⟨?_, ?_⟩
  · simp [Oper.about, ho, resolve, Target.leads, Sem.run_pure]
  · rw [Oper.semAt_plain F _ _ (by rw [ho]; intro c hc'; cases hc')]
    simp [execOp, ho, resolve, invoke, builtin, hev, hex, hrun, Result.andThen]
    exact h v' w' r1 r2 r3 r4
theorem owns_formB {w : World} {base e s n : Nat} {v : Value} {xs : List Value} (h : w.ownsRow base e s v n xs) (hn : 0 < n) : ∃ g c, v = .slice (some ⟨g, 0, none⟩) n c ∧ n ≤ c ∧ base ≤ g := by
  rcases h.2 with ⟨rfl, rfl⟩ | ⟨g, cap, cur, rfl, hb, _, h1, _⟩
  · omega
  · exact ⟨_, _, rfl, h1, hb⟩
theorem owns_formB0 {w : World} {base e s n : Nat} {v : Value} {xs : List Value} (h : w.ownsRow base e s v n xs) : ∃ p c, v = .slice p n c := by
  rcases h.2 with ⟨rfl, rfl⟩ | ⟨g, cap, cur, rfl, _⟩
  · exact ⟨_, _, rfl⟩
  · exact ⟨_, _, rfl⟩
theorem ownBlock_ge {w : World} {base e s n : Nat} {v : Value} {xs : List Value} (h : w.ownsRow base e s v n xs) {k : Nat} (hk : v.ownBlock = some k) : base ≤ k ∧ ∃ c f, w.heap[k]? = some (.cells c e f) := by
  rcases h.2 with ⟨rfl, _⟩ | ⟨g, cap, cur, rfl, hb, hh, _⟩
  · cases hk
  · have e' : g = k := by simpa [Value.ownBlock] using hk
    subst e'
    exact ⟨hb, _, _, hh⟩
theorem ownsRow_base {w : World} {base base' e s n : Nat} {v : Value} {xs : List Value} (h : w.ownsRow base e s v n xs) (hb : base' ≤ base) : w.ownsRow base' e s v n xs := by
  obtain ⟨h1, h2⟩ := h
  refine ⟨h1, ?_⟩
  rcases h2 with h2 | ⟨g, cap, cur, rfl, hb', r⟩
  · exact .inl h2
  · exact .inr ⟨g, cap, cur, rfl, Nat.le_trans hb hb', r⟩
/-- WHAT A ROUND LEAVES THAT APPENDS TO THE ROW IN THE BOX b (own block from n on, b below n). -/
theorem app_fin {n b : Nat} {t e : TypeId} {W V w' : World} {v nv : Value} {xs zs : List Value} {m m' s : Nat} (q1 : W.heap[b]? = some (.cells #[v] t (0, 0))) (q2 : W.ownsRow n e s v m xs) (hbn : b < n) (q6 : n ≤ W.heap.size) (hV : Below W.heap.size W V)
    (p2 : Upd V w' (fun k => some k = v.ownBlock)) (p1 : w'.ownsRow n e s nv m' zs) (B : Nat) :
    KeepsFrom B W (w'.setCell ⟨b, 0, none⟩ nv) ∧ Below b W (w'.setCell ⟨b, 0, none⟩ nv) ∧ (w'.setCell ⟨b, 0, none⟩ nv).heap[b]? = some (.cells #[nv] t (0, 0)) ∧ (w'.setCell ⟨b, 0, none⟩ nv).ownsRow n e s nv m' zs ∧ (∀ k, k < n → k ≠ b → (w'.setCell ⟨b, 0, none⟩ nv).heap[k]? = W.heap[k]?) := by
  have hsame : ∀ k, k < W.heap.size → some k ≠ v.ownBlock → w'.heap[k]? = W.heap[k]? := fun k hk hne => (p2.block k (Nat.lt_of_lt_of_le hk hV.size) hne).trans (hV.block k hk)
  have hv : ∀ k, k < n → some k ≠ v.ownBlock := fun k hk e => by have := (ownBlock_ge q2 e.symm).1; omega
  have hsz : W.heap.size ≤ (w'.setCell ⟨b, 0, none⟩ nv).heap.size := by rw [size_setCell]; exact Nat.le_trans hV.size p2.size
  refine ⟨⟨hsz, fun k o hB hk ho => ?_⟩, ⟨?_, ?_, ?_, hsz, fun k hk => ?_⟩, ?_, ?_, fun k hk hne => ?_⟩
  · have hlt := (Array.getElem?_eq_some_iff.1 hk).1
    have n1 : k ≠ b := fun e => by
      rw [e, q1] at hk
      cases hk
      cases ho
    rw [heap_setCell_other _ _ _ _ _ n1, hsame k hlt (fun e => by
      obtain ⟨_, c, f, hc⟩ := ownBlock_ge q2 e.symm
      rw [hk] at hc
      cases hc
      cases ho)]
    exact hk
  · exact (show (w'.setCell ⟨b, 0, none⟩ nv).os = w'.os from rfl).trans (p2.os.trans hV.os)
  · exact (show (w'.setCell ⟨b, 0, none⟩ nv).tape = w'.tape from rfl).trans (p2.tape.trans hV.tape)
  · exact (show (w'.setCell ⟨b, 0, none⟩ nv).output = w'.output from rfl).trans (p2.output.trans hV.output)
  · rw [heap_setCell_other _ _ _ _ _ (by omega)]; exact hsame k (by omega) (hv k (by omega))
  · have := heap_setCell_row (j := 0) ((hsame b (by omega) (hv b hbn)).trans q1) nv
    simpa using this
  · refine ownsRow_agree p1 (fun k hk => heap_setCell_other _ _ _ _ _ (fun e => ?_))
    have h := (ownBlock_ge p1 hk).1
    omega
  · rw [heap_setCell_other _ _ _ _ _ hne]; exact hsame k (by omega) (hv k hk)
end Go.Proofs.YtjdmgmnndfhmgaaGreat
/- An index by what it says; texts that come in, keys that are told. -/
namespace Go.Proofs.YtjdmgmnndfhmgaaGreat
open Go Go.RowKit

abbrev MAsc (ms : List Mk) : Prop := ms.Pairwise fun a b => a.1 < b.1
theorem mem_dat {R : List IM} {r : IM} (h : r ∈ R) : (r.it.key, r.ms) ∈ dat R := List.mem_map.2 ⟨r, h, rfl⟩
/-- An index in memory that says D. -/
def Xd (w : World) (x : Nat) (D : Dat) (F : List Nat) : Prop := ∃ R, Ix w x R F ∧ dat R = D
/-- Its keys and marks are at most n; marks rise. -/
structure Bd (n : Nat) (D : Dat) : Prop where
  len : D.length ≤ n
  ms : ∀ p ∈ D, p.2.length ≤ n ∧ MAsc p.2 ∧ 0 < p.2.length
  asc : Asc (D.map Prod.fst)
theorem Xd.upd {w w' : World} {S : Nat → Prop} (hu : Upd w w' S) {x : Nat} {D : Dat} {F : List Nat} (h : Xd w x D F) (hS : ∀ k ∈ F, ¬ S k) : Xd w' x D F := by
  obtain ⟨R, h1, h2⟩ := h
  exact ⟨R, h1.upd hu hS, h2⟩
theorem Xd.below {w w' : World} (hb : Below w.heap.size w w') {x : Nat} {D : Dat} {F : List Nat} (h : Xd w x D F) : Xd w' x D F := h.upd (S := fun _ => False) (Upd.ofBelow hb) (fun _ _ h => h)
theorem Xd.lt {w : World} {x : Nat} {D : Dat} {F : List Nat} (h : Xd w x D F) : ∀ k ∈ F, k < w.heap.size := by
  obtain ⟨R, h1, _⟩ := h
  exact h1.lt
theorem Xd.nd {w : World} {x : Nat} {D : Dat} {F : List Nat} (h : Xd w x D F) : F.Nodup := by
  obtain ⟨R, h1, _⟩ := h
  exact h1.nd
theorem Bd.nil : Bd 0 [] := ⟨Nat.le_refl _, fun p hp => (by cases hp), trivial⟩
theorem Bd.mono {n m : Nat} {D : Dat} (h : Bd n D) (hm : n ≤ m) : Bd m D := ⟨Nat.le_trans h.len hm, fun p hp => ⟨Nat.le_trans (h.ms p hp).1 hm, (h.ms p hp).2⟩, h.asc⟩
theorem setD_mem : ∀ {D : Dat} {key : ByteArray} {ms : List Mk} {p : ByteArray × List Mk}, p ∈ setD D key ms → p = (key, ms) ∨ p ∈ D
  | [], key, ms, p, h => by simp [setD] at h; exact .inl h
  | (k, m) :: D, key, ms, p, h => by
    unfold setD at h
    split at h
    · rcases List.mem_cons.1 h with rfl | h
      · exact .inr (by simp)
      · exact (setD_mem h).imp id (List.mem_cons_of_mem _)
    · split at h
      · rcases List.mem_cons.1 h with rfl | h
        · exact .inl rfl
        · exact .inr (List.mem_cons_of_mem _ h)
      · rcases List.mem_cons.1 h with rfl | h
        · exact .inl rfl
        · exact .inr h
theorem setD_len : ∀ (D : Dat) (key : ByteArray) (ms : List Mk), (setD D key ms).length ≤ D.length + 1
  | [], _, _ => by simp [setD]
  | (k, m) :: D, key, ms => by
    unfold setD
    have := setD_len D key ms
    split
    · simp; omega
    · split <;> simp
theorem setD_asc : ∀ {D : Dat} {key : ByteArray} {ms : List Mk}, Asc (D.map Prod.fst) → Asc ((setD D key ms).map Prod.fst)
  | [], _, _, _ => by simp [setD, Asc]
  | (k, m) :: D, key, ms, h => by
    obtain ⟨h1, h2⟩ : (∀ j ∈ D.map Prod.fst, klt k j = true) ∧ Asc (D.map Prod.fst) := h
    unfold setD
    split
    · rename_i hk
      refine ⟨fun j hj => ?_, setD_asc h2⟩
      obtain ⟨p, hp, rfl⟩ := List.mem_map.1 hj
      rcases setD_mem hp with rfl | hp
      · exact hk
      · exact h1 _ (List.mem_map_of_mem hp)
    · rename_i hk
      split
      · rename_i e
        subst e
        exact ⟨h1, h2⟩
      · rename_i hne
        have hkk : klt key k = true := by
          cases hq : klt key k
          · exact absurd (klt_tri (by simpa using hk) hq) hne
          · rfl
        refine ⟨fun j hj => ?_, h1, h2⟩
        rcases List.mem_cons.1 hj with rfl | hj
        · exact hkk
        · exact klt_trans hkk (h1 j hj)
theorem lookD_mem : ∀ {D : Dat} {key : ByteArray} {ms : List Mk}, lookD D key = some ms → (key, ms) ∈ D
  | [], _, _, h => by cases h
  | (k, m) :: D, key, ms, h => by
    unfold lookD at h
    split at h
    · rename_i e; cases h; rw [← e]; simp
    · exact List.mem_cons_of_mem _ (lookD_mem h)
theorem masc_snoc {ms : List Mk} {m : Mk} (h : MAsc ms) (hm : ms ≠ [] → (lastM ms).1 < m.1) : MAsc (ms ++ [m]) := by
  refine List.pairwise_append.2 ⟨h, by simp, fun a ha b hb => ?_⟩
  obtain rfl : b = m := by simpa using hb
  have hne : ms ≠ [] := fun e => by rw [e] at ha; cases ha
  have hl := hm hne
  obtain ⟨ini, l, rfl⟩ : ∃ ini l, ms = ini ++ [l] := ⟨ms.dropLast, ms.getLast hne, (List.dropLast_concat_getLast _).symm⟩
  have e : lastM (ini ++ [l]) = l := by simp [lastM]
  rw [e] at hl
  rcases List.mem_append.1 ha with ha | ha
  · have := (List.pairwise_append.1 h).2.2 a ha l (by simp)
    omega
  · obtain rfl : a = l := by simpa using ha
    exact hl
theorem Bd.put {n : Nat} {D : Dat} (h : Bd n D) (key : ByteArray) (rev : Int) (del : Bool) : Bd (n + 1) (putD D key rev del) := by
  unfold putD
  split
  · rename_i he
    refine ⟨Nat.le_trans (setD_len _ _ _) (by have := h.len; omega), fun p hp => ?_, setD_asc h.asc⟩
    rcases setD_mem hp with rfl | hp
    · cases hl : lookD D key with
      | none => simp
      | some ms =>
        obtain ⟨q1, q2, q3⟩ := h.ms _ (lookD_mem hl)
        dsimp only at q1 q2 q3
        refine ⟨by simp; omega, masc_snoc q2 (fun _ => ?_), by simp⟩
        unfold putE at he
        rw [hl] at he
        split at he
        · cases he
        · dsimp only at he
          split at he
          · cases he
          · show (lastM ms).1 < rev
            omega
    · exact ⟨Nat.le_succ_of_le (h.ms p hp).1, (h.ms p hp).2⟩
  · exact h.mono (Nat.le_succ _)
def SeesS (w : World) (v : Value) (zs : List ByteArray) : Prop :=
  (zs = [] ∧ ∃ ao cap, v = .slice ao 0 cap) ∨ ∃ b off cap, v = .slice (some ⟨b, off, none⟩) zs.length cap ∧ 0 < zs.length ∧ b < w.heap.size ∧ ∀ i, i < zs.length → w.cell? ⟨b, off + i, none⟩ = some (.string (zs.getD i ByteArray.empty)) ∧ (zs.getD i ByteArray.empty).size ≤ 9223372036854775807
theorem SeesS.form {w : World} {v : Value} {zs : List ByteArray} (h : SeesS w v zs) : ∃ ao cap, v = .slice ao zs.length cap := by
  rcases h with ⟨rfl, ao, cap, rfl⟩ | ⟨b, off, cap, rfl, _⟩ <;> exact ⟨_, _, rfl⟩
theorem SeesS.at {w : World} {a : Option Addr} {cap : Nat} {zs : List ByteArray} (h : SeesS w (.slice a zs.length cap) zs) {j : Nat} (hj : j < zs.length) : ∃ b off, a = some ⟨b, off, none⟩ ∧ b < w.heap.size ∧ w.cell? ⟨b, off + j, none⟩ = some (.string (zs.getD j ByteArray.empty)) ∧ (zs.getD j ByteArray.empty).size ≤ 9223372036854775807 := by
  rcases h with ⟨h, _⟩ | ⟨b, off, c, he, _, hb, hc⟩
  · subst h; simp at hj
  · cases he; exact ⟨b, off, rfl, hb, (hc j hj).1, (hc j hj).2⟩
/-- A row of texts that the program made. -/
structure Row (w : World) (v : Value) (ks : List ByteArray) : Prop where
  form : ∃ p c, v = .slice p ks.length c
  at_ : ∀ j k, ks[j]? = some k → ∃ g c, v = .slice (some ⟨g, 0, none⟩) ks.length c ∧ g < w.heap.size ∧ w.cell? ⟨g, j, none⟩ = some (.string k)
theorem Row.below {w w' : World} (hb : Below w.heap.size w w') {v : Value} {ks : List ByteArray} (h : Row w v ks) : Row w' v ks :=
  ⟨h.form, fun j k hj => by
    obtain ⟨g, c, h1, h2, h3⟩ := h.at_ j k hj
    exact ⟨g, c, h1, Nat.lt_of_lt_of_le h2 hb.size, (hb.cell (p := ⟨g, j, none⟩) h2).trans h3⟩⟩
theorem lookD_not {D : Dat} (ha : Asc (D.map Prod.fst)) {key : ByteArray} (h : lookD D key = none) : key ∉ D.map Prod.fst := fun hm => by
  obtain ⟨p, hp, rfl⟩ := List.mem_map.1 hm
  obtain ⟨A, B, hAB⟩ := List.append_of_mem hp
  rw [hAB] at ha h
  rw [lookD_at (X := A) (Z := B) (key := p.1) (ms := p.2) ha] at h
  cases h
theorem putD_len {D : Dat} (ha : Asc (D.map Prod.fst)) {key : ByteArray} {rev : Int} {del : Bool} (h : lookD D key = none) (he : putE D key rev del = 0) : (putD D key rev del).length = D.length + 1 := by
  unfold putD
  rw [if_pos he, setD_new (lookD_not ha h)]
  have := congrArg List.length (List.takeWhile_append_dropWhile (p := fun p : ByteArray × List Mk => klt p.1 key) (l := D))
  simp only [List.length_append] at this
  simp; omega
theorem bd_pos {n : Nat} {D : Dat} (h : Bd n D) {key : ByteArray} {ms : List Mk} (hl : lookD D key = some ms) : 0 < ms.length := (h.ms _ (lookD_mem hl)).2.2
end Go.Proofs.YtjdmgmnndfhmgaaGreat
/- A map in memory as a function: look-up, store, delete, len, for keys of any kind. -/
namespace Go.Proofs.YtjdmgmnndfhmgaaGreat
open Go Go.RowKit

def findA {K : Type} [DecidableEq K] (k : K) : List (K × Value) → Nat → Option (Nat × Value)
  | [], _ => none
  | p :: L, i => if k = p.1 then some (i, p.2) else findA k L (i + 1)
/-- Keys of a kind: how they are laid, and that a look among them goes by equality. -/
structure KLaw (P : Program) (kt : TypeId) {K : Type} [DecidableEq K] (enc : K → Value) : Prop where
  chk : ∀ (e : Bool) (k : K) (w : World), (Instr.checkKey e 10000 kt (enc k)).run P w = .ok () w
  fnd : ∀ (k : K) (es : List MapEntry) (L : List (K × Value)) (w : World), es.map (fun e => (e.key, e.val)) = L.map (fun p => (enc p.1, p.2)) → (Instr.findKey kt (enc k) es).run P w = .ok (findA k L 0) w
  bits : ∀ k, Instr.sameBits 10000 (enc k) (enc k) = true
section
variable {K : Type} [DecidableEq K]
def getA (L : List (K × Value)) (k : K) : Option Value := (L.find? (fun p => decide (p.1 = k))).map Prod.snd
/-- Where a key stands, and all others do not. -/
theorem findA_split (k : K) : ∀ (L : List (K × Value)) (i : Nat), (L.map Prod.fst).Nodup → (findA k L i = none ∧ k ∉ L.map Prod.fst) ∨ ∃ A v B, L = A ++ (k, v) :: B ∧ findA k L i = some (i + A.length, v) ∧ k ∉ A.map Prod.fst ∧ k ∉ B.map Prod.fst
  | [], _, _ => .inl ⟨rfl, by simp⟩
  | p :: L, i, hn => by
    obtain ⟨h1, h2⟩ := List.nodup_cons.1 (by simpa using hn : (p.1 :: L.map Prod.fst).Nodup)
    by_cases hk : k = p.1
    · subst hk
      exact .inr ⟨[], p.2, L, rfl, by simp [findA], by simp, h1⟩
    · rcases findA_split k L (i + 1) h2 with ⟨e, hm⟩ | ⟨A, v, B, e, h3, h4, h5⟩
      · exact .inl ⟨by rw [findA, if_neg hk, e], by simp only [List.map_cons, List.mem_cons, not_or]; exact ⟨hk, hm⟩⟩
      · refine .inr ⟨p :: A, v, B, by rw [e]; rfl, ?_, ?_, h5⟩
        · rw [findA, if_neg hk, h3, List.length_cons]
          congr 2
          omega
        · simp only [List.map_cons, List.mem_cons, not_or]; exact ⟨hk, h4⟩
theorem getA_not {L : List (K × Value)} {k : K} (h : k ∉ L.map Prod.fst) : getA L k = none := by
  unfold getA
  rw [List.find?_eq_none.2]
  · rfl
  · intro p hp e
    exact h (List.mem_map.2 ⟨p, hp, by simpa using e⟩)
theorem getA_mid {A B : List (K × Value)} {k : K} {v : Value} (h : k ∉ A.map Prod.fst) : getA (A ++ (k, v) :: B) k = some v := by
  unfold getA
  rw [List.find?_append, List.find?_eq_none.2]
  · simp
  · intro p hp e
    exact h (List.mem_map.2 ⟨p, hp, by simpa using e⟩)
theorem getA_skip {A B : List (K × Value)} {k j : K} {v : Value} (h : j ≠ k) : getA (A ++ (k, v) :: B) j = getA (A ++ B) j := by
  unfold getA
  rw [List.find?_append, List.find?_append, List.find?_cons_of_neg (by simpa using Ne.symm h)]
theorem getA_end {A : List (K × Value)} {k j : K} {v : Value} (h : j ≠ k) : getA (A ++ [(k, v)]) j = getA A j := by
  rw [getA_skip h, List.append_nil]
/-- A map in memory, as a function of its keys, and how many it has. -/
def MapF (w : World) (enc : K → Value) (b : Nat) (f : K → Option Value) (n : Nat) : Prop :=
  ∃ (es : Array MapEntry) (clock : Nat) (L : List (K × Value)), w.heap[b]? = some (.map es clock) ∧ es.toList.map (fun e => (e.key, e.val)) = L.map (fun p => (enc p.1, p.2)) ∧ (L.map Prod.fst).Nodup ∧ L.length = n ∧ ∀ k, f k = getA L k
def setF (f : K → Option Value) (k : K) (v : Value) : K → Option Value := fun j => if j = k then some v else f j
def delF (f : K → Option Value) (k : K) : K → Option Value := fun j => if j = k then none else f j
theorem setF_same (f : K → Option Value) (k : K) (v : Value) : setF f k v k = some v := if_pos rfl
theorem setF_other (f : K → Option Value) {k j : K} (v : Value) (h : j ≠ k) : setF f k v j = f j := if_neg h
theorem delF_same (f : K → Option Value) (k : K) : delF f k k = none := if_pos rfl
theorem delF_other (f : K → Option Value) {k j : K} (h : j ≠ k) : delF f k j = f j := if_neg h
variable {P : Program} {w : World} {enc : K → Value} {b n : Nat} {f : K → Option Value} {t kt et : TypeId}
theorem MapF.lt (h : MapF w enc b f n) : b < w.heap.size := by
  obtain ⟨es, clock, L, h1, _⟩ := h
  exact (Array.getElem?_eq_some_iff.1 h1).1
theorem MapF.agree {w' : World} (h : MapF w enc b f n) (hb : w'.heap[b]? = w.heap[b]?) : MapF w' enc b f n := by
  obtain ⟨es, clock, L, h1, h2⟩ := h
  exact ⟨es, clock, L, hb.trans h1, h2⟩
theorem MapF.upd {w' : World} {S : Nat → Prop} (h : MapF w enc b f n) (hu : Upd w w' S) (hS : ¬ S b) : MapF w' enc b f n := h.agree (hu.block b h.lt hS)
theorem MapF.below {w' : World} (h : MapF w enc b f n) (hb : Below w.heap.size w w') : MapF w' enc b f n := h.agree (hb.block b h.lt)
theorem MapF.congr {g : K → Option Value} (h : MapF w enc b f n) (hg : ∀ k, g k = f k) : MapF w enc b g n := by
  obtain ⟨es, clock, L, h1, h2, h3, h4, h5⟩ := h
  exact ⟨es, clock, L, h1, h2, h3, h4, fun k => (hg k).trans (h5 k)⟩
theorem MapF.made (w : World) (enc : K → Value) : MapF (w.alloc (.map #[] 0)) enc w.heap.size (fun _ => none) 0 := ⟨#[], 0, [], by rw [← World.alloc_eq]; simp, rfl, List.nodup_nil, rfl, fun _ => rfl⟩
theorem MapF.look (h : MapF w enc b f n) (K' : KLaw P kt enc) (ht : P.underlying t = some (.map kt et)) {z : Value} (hz : (zeroValue et).run P w = .ok z w) (k : K) (c : Bool) :
    (Instr.lookup t (.map (some b)) (enc k) c).run P w = .ok (if c then .tuple #[(f k).getD z, .bool (f k).isSome] else (f k).getD z) w := by
  obtain ⟨es, clock, L, h1, h2, h3, h4, h5⟩ := h
  have hf := K'.fnd k es.toList L w h2
  rcases findA_split k L 0 h3 with ⟨e, hm⟩ | ⟨A, v, B, e, e2, hA, hB⟩
  · rw [e] at hf
    have : f k = none := by rw [h5]; exact getA_not hm
    rw [this]
    cases c <;> simp [Instr.lookup, run_underlying ht, MapKept.run_getObj_map h1, K'.chk, hf, hz, Result.andThen]
  · rw [e2] at hf
    have : f k = some v := by rw [h5, e]; exact getA_mid hA
    rw [this]
    cases c <;> simp [Instr.lookup, run_underlying ht, MapKept.run_getObj_map h1, K'.chk, hf, Result.andThen]
theorem MapF.len (h : MapF w enc b f n) (ht : P.underlying t = some (.map kt et)) (ty : TypeId) : (Builtin.len_ #[t] ty #[.map (some b)]).run P w = .ok (.int .i64 n) w := by
  obtain ⟨es, clock, L, h1, h2, h3, h4, h5⟩ := h
  have : es.size = n := by
    have := congrArg List.length h2
    simpa [h4] using this
  simp [Builtin.len_, run_underlying ht, MapKept.run_getObj_map h1, goInt, Result.andThen, this]
theorem upd_turned {w w' : World} {b : Nat} (h : w.mapTurned w' b) : Upd w w' (fun k => k = b) := by
  obtain ⟨es, clock, es', clock', h1, rfl⟩ := h
  exact ⟨rfl, rfl, rfl, by simp [ChangeMaps.setBlock], fun k hk hS => by simp [ChangeMaps.setBlock, Array.getElem?_setIfInBounds_ne (Ne.symm hS)]⟩
theorem heap_set {w : World} {b : Nat} {o o' : Obj} (h : w.heap[b]? = some o) : (ChangeMaps.setBlock w b o').heap[b]? = some o' := by
  simp [ChangeMaps.setBlock, (Array.getElem?_eq_some_iff.1 h).1]
theorem MapF.set (h : MapF w enc b f n) (K' : KLaw P kt enc) (ht : P.underlying t = some (.map kt et)) (k : K) (v : Value) :
    ∃ w', (Instr.mapUpdate t (.map (some b)) (enc k) v).run P w = .ok () w' ∧ MapF w' enc b (setF f k v) (if (f k).isSome then n else n + 1) ∧ Upd w w' (fun j => j = b) := by
  obtain ⟨es, clock, L, h1, h2, h3, h4, h5⟩ := h
  have hf := K'.fnd k es.toList L w h2
  rcases findA_split k L 0 h3 with ⟨e, hm⟩ | ⟨A, u, B, rfl, e2, hA, hB⟩
  · rw [e] at hf
    have hk : f k = none := by rw [h5]; exact getA_not hm
    refine ⟨ChangeMaps.setBlock w b (.map (es.push ⟨enc k, v, clock⟩) (clock + 1)), ?_, ⟨_, _, L ++ [(k, v)], heap_set h1, by simp [h2], ?_, ?_, ?_⟩, upd_turned ⟨_, _, _, _, h1, rfl⟩⟩
    · simp [Instr.mapUpdate, run_underlying ht, MapKept.run_getObj_map h1, K'.chk, hf, MapKept.run_setObj_map _ h1, Result.andThen, ChangeMaps.setBlock]
    · rw [List.map_append, List.nodup_append]
      refine ⟨h3, by simp, ?_⟩
      intro x hx y hy
      have : y = k := by simpa using hy
      subst this
      exact fun e' => hm (e' ▸ hx)
    · rw [hk]; simp [h4]
    · intro j
      by_cases hj : j = k
      · subst hj; rw [setF_same, getA_mid hm]
      · rw [setF_other _ _ hj, getA_end hj, h5]
  · rw [e2] at hf
    have hk : f k = some u := by rw [h5]; exact getA_mid hA
    have hAl : ((es.toList.map (fun e => (e.key, e.val)))[A.length]?) = some (enc k, u) := by rw [h2]; simp
    rw [List.getElem?_map] at hAl
    obtain ⟨e0, he0, hee⟩ := Option.map_eq_some_iff.1 hAl
    have hj : es[A.length]? = some e0 := by simpa using he0
    have hke : e0.key = enc k := congrArg Prod.fst hee
    have hst : (Instr.keyThatStays (enc k) (enc k)).run P w = .ok (enc k) w := by simp [Instr.keyThatStays, K'.bits]
    refine ⟨ChangeMaps.setBlock w b (.map (es.modify A.length (fun e' => { e' with key := enc k, val := v })) clock), ?_, ⟨_, _, A ++ (k, v) :: B, heap_set h1, ?_, ?_, ?_, ?_⟩, upd_turned ⟨_, _, _, _, h1, rfl⟩⟩
    · simp [Instr.mapUpdate, run_underlying ht, MapKept.run_getObj_map h1, K'.chk, hf, hj, hke, hst, MapKept.run_setObj_map _ h1, Result.andThen, ChangeMaps.setBlock]
    · rw [Array.toList_modify, ChangeMaps.modify_eq_set _ _ _ _ he0, List.map_set, h2]
      simp
    · simpa using h3
    · rw [hk]; simpa using h4
    · intro j
      by_cases hj : j = k
      · subst hj; rw [setF_same, getA_mid hA]
      · rw [setF_other _ _ hj, h5, getA_skip hj, getA_skip hj]
theorem MapF.del (h : MapF w enc b f n) (K' : KLaw P kt enc) (ht : P.underlying t = some (.map kt et)) (k : K) (ty : TypeId) :
    ∃ w', (Builtin.delete_ #[t, kt] ty #[.map (some b), enc k]).run P w = .ok (.tuple #[]) w' ∧ MapF w' enc b (delF f k) (if (f k).isSome then n - 1 else n) ∧ Upd w w' (fun j => j = b) := by
  obtain ⟨es, clock, L, h1, h2, h3, h4, h5⟩ := h
  have hf := K'.fnd k es.toList L w h2
  rcases findA_split k L 0 h3 with ⟨e, hm⟩ | ⟨A, u, B, rfl, e2, hA, hB⟩
  · rw [e] at hf
    have hk : f k = none := by rw [h5]; exact getA_not hm
    refine ⟨ChangeMaps.setBlock w b (.map es clock), ?_, ⟨_, _, L, heap_set h1, h2, h3, ?_, ?_⟩, upd_turned ⟨_, _, _, _, h1, rfl⟩⟩
    · simp [Builtin.delete_, run_underlying ht, MapKept.run_getObj_map h1, K'.chk, hf, MapKept.run_setObj_map _ h1, Result.andThen, ChangeMaps.setBlock]
    · rw [hk]; simp [h4]
    · intro j
      by_cases hj : j = k
      · subst hj; rw [delF_same, getA_not hm]
      · rw [delF_other _ hj, h5]
  · rw [e2] at hf
    have hk : f k = some u := by rw [h5]; exact getA_mid hA
    have hlen : A.length < es.size := by
      have := congrArg List.length h2
      simp at this
      omega
    refine ⟨ChangeMaps.setBlock w b (.map (es.eraseIdxIfInBounds A.length) clock), ?_, ⟨_, _, A ++ B, heap_set h1, ?_, ?_, ?_, ?_⟩, upd_turned ⟨_, _, _, _, h1, rfl⟩⟩
    · simp [Builtin.delete_, run_underlying ht, MapKept.run_getObj_map h1, K'.chk, hf, MapKept.run_setObj_map _ h1, Result.andThen, ChangeMaps.setBlock]
    · have e3 : (es.eraseIdxIfInBounds A.length).toList = es.toList.eraseIdx A.length := by simp [Array.eraseIdxIfInBounds, hlen]
      rw [e3, ChangeMaps.map_eraseIdx, h2]
      simp [List.eraseIdx_append_of_length_le]
    · simp only [List.map_append, List.map_cons] at h3 ⊢
      exact h3.sublist ((List.Sublist.refl _).append (List.sublist_cons_self _ _))
    · rw [hk]
      simp at h4 ⊢
      omega
    · intro j
      by_cases hj : j = k
      · subst hj
        rw [delF_same, getA_not]
        simp only [List.map_append, List.mem_append, not_or]
        exact ⟨hA, hB⟩
      · rw [delF_other _ hj, h5, getA_skip hj]
end

/-- A look where keys are told apart at once. -/
theorem KLaw.now {P : Program} {kt : TypeId} {K : Type} [DecidableEq K] {enc : K → Value} {d : TypeDesc} (hd : P.underlying kt = some d) (h1 : ∀ k j, Instr.sameNow d (enc k) (enc j) = some (decide (k = j))) (h2 : ∀ k, Instr.sameBits 10000 (enc k) (enc k) = true) (h3 : ∀ (e : Bool) (k : K) (w : World), (Instr.checkKey e 10000 kt (enc k)).run P w = .ok () w) : KLaw P kt enc where
  chk := h3
  bits := h2
  fnd := fun k es L w he => by
    refine MapKept.run_findKey hd ?_
    have : ∀ (es : List MapEntry) (L : List (K × Value)) (i : Nat), es.map (fun e => (e.key, e.val)) = L.map (fun p => (enc p.1, p.2)) → Instr.findNow d (enc k) es i = some (findA k L i) := by
      intro es
      induction es with
      | nil =>
        intro L i he
        cases L with
        | nil => rfl
        | cons p L => cases he
      | cons e es ih =>
        intro L i he
        cases L with
        | nil => cases he
        | cons p L =>
          obtain ⟨q1, q2⟩ := List.cons.inj he
          have k1 : e.key = enc p.1 := congrArg Prod.fst q1
          have k2 : e.val = p.2 := congrArg Prod.snd q1
          rw [Instr.findNow, k1, h1, findA]
          by_cases hk : k = p.1
          · simp [hk, k2]
          · simp [hk, ih L (i + 1) q2]
    exact this es L 0 he
/-- A look where == is asked. -/
theorem KLaw.asks {P : Program} {kt : TypeId} {K : Type} [DecidableEq K] {enc : K → Value} {d : TypeDesc} (hd : P.underlying kt = some d) (h0 : ∀ k j, Instr.sameNow d (enc k) (enc j) = none) (h1 : ∀ k j w, (Op.equal kt (enc k) (enc j)).run P w = .ok (decide (k = j)) w) (h2 : ∀ k, Instr.sameBits 10000 (enc k) (enc k) = true) (h3 : ∀ (e : Bool) (k : K) (w : World), (Instr.checkKey e 10000 kt (enc k)).run P w = .ok () w) : KLaw P kt enc where
  chk := h3
  bits := h2
  fnd := fun k es L w he => by
    have ha : ∀ (es : List MapEntry) (L : List (K × Value)) (i : Nat), es.map (fun e => (e.key, e.val)) = L.map (fun p => (enc p.1, p.2)) → (Instr.findAsking kt (enc k) es i).run P w = .ok (findA k L i) w := by
      intro es
      induction es with
      | nil =>
        intro L i he
        cases L with
        | nil => rfl
        | cons p L => cases he
      | cons e es ih =>
        intro L i he
        cases L with
        | nil => cases he
        | cons p L =>
          obtain ⟨q1, q2⟩ := List.cons.inj he
          have k1 : e.key = enc p.1 := congrArg Prod.fst q1
          have k2 : e.val = p.2 := congrArg Prod.snd q1
          rw [Instr.findAsking, k1, findA]
          by_cases hk : k = p.1
          · simp [h1, hk, k2, Result.andThen]
          · simp [h1, hk, ih L (i + 1) q2, Result.andThen]
    cases es with
    | nil =>
      cases L with
      | nil => simp [Instr.findKey, run_underlying hd, Instr.findNow, Result.andThen, findA]
      | cons p L => cases he
    | cons e es =>
      have hn : Instr.findNow d (enc k) (e :: es) 0 = none := by
        cases L with
        | nil => cases he
        | cons p L =>
          have k1 : e.key = enc p.1 := congrArg Prod.fst (List.cons.inj he).1
          rw [Instr.findNow, k1, h0]
      simp only [Instr.findKey, Sem.run_bind, run_underlying hd, Result.andThen, hn]
      exact ha _ _ _ he
theorem KLaw.plain {P : Program} {kt : TypeId} {K : Type} [DecidableEq K] {enc : K → Value} {d : TypeDesc} (hd : P.underlying kt = some d) (hk : ∀ k, MapKept.IsKey d (enc k)) (inj : ∀ k j, enc k = enc j → k = j) (h2 : ∀ k, Instr.sameBits 10000 (enc k) (enc k) = true) : KLaw P kt enc :=
  KLaw.now hd (fun k j => by
    obtain ⟨r, h, hr⟩ := MapKept.sameNow_of_keys (hk k) (hk j)
    rw [h]
    congr 1
    by_cases e : k = j
    · subst e; simp [hr.2 rfl]
    · have : ¬ r = true := fun h' => e (inj _ _ (hr.1 h'))
      simp [e, this]) h2 (fun e k w => MapKept.run_checkKey hd (hk k) e 9999)
theorem law_string {P : Program} {kt : TypeId} (hk : P.underlying kt = some .string) : KLaw P kt (fun s : ByteArray => Value.string s) :=
  KLaw.plain hk (fun _ => trivial) (fun k j h => by cases h; rfl) (fun k => by simp only [Instr.sameBits]; exact (MapKept.bytes_beq k k).2 rfl)
theorem law_int {P : Program} {kt : TypeId} (hk : P.underlying kt = some (.int .i64)) : KLaw P kt (fun a : Int => Value.int .i64 a) :=
  KLaw.plain hk (fun _ => rfl) (fun k j h => by cases h; rfl) (fun k => by simp [Instr.sameBits])
end Go.Proofs.YtjdmgmnndfhmgaaGreat
/- A store's keys as data. -/
namespace Go.Proofs.YtjdmgmnndfhmgaaGreat
open Go Go.RowKit

/-- A key as it was put. -/
structure KVd where
  key : ByteArray
  value : ByteArray
  create : Int
  mod : Int
  version : Int
  lease : Int
def noKV : KVd := ⟨ByteArray.empty, ByteArray.empty, 0, 0, 0, 0⟩
def encKV (k : KVd) : Value := .agg #[.string k.key, .string k.value, .int .i64 k.create, .int .i64 k.mod, .int .i64 k.version, .int .i64 k.lease]
/-- What was done to a key, revision by revision: a put, or a deletion (none). -/
abbrev Hs := List (Int × Option KVd)
def thereH (h : Hs) : Option KVd := match h.getLast? with | some (_, some kv) => some kv | _ => none
/-- A key as it was at a revision. -/
def atH (h : Hs) (rev : Int) : Option KVd := thereH (h.filter fun p => decide (p.1 ≤ rev))
theorem thereH_snoc (h : Hs) (r : Int) (o : Option KVd) : thereH (h ++ [(r, o)]) = o := by
  unfold thereH
  rw [List.getLast?_concat]
  cases o <;> rfl
theorem thereH_nil : thereH [] = none := rfl
theorem atH_all {h : Hs} {rev : Int} (hr : ∀ p ∈ h, p.1 ≤ rev) : atH h rev = thereH h := by
  unfold atH
  rw [List.filter_eq_self.2]
  intro p hp
  exact decide_eq_true (hr p hp)
theorem atH_snoc_lt {h : Hs} {r rev : Int} {o : Option KVd} (hr : rev < r) : atH (h ++ [(r, o)]) rev = atH h rev := by
  unfold atH
  rw [List.filter_append]
  have : ¬ r ≤ rev := by omega
  simp [this]
theorem atH_snoc_le {h : Hs} {r rev : Int} {o : Option KVd} (hr : r ≤ rev) : atH (h ++ [(r, o)]) rev = o := by
  unfold atH
  rw [List.filter_append]
  have : ([(r, o)] : Hs).filter (fun p => decide (p.1 ≤ rev)) = [(r, o)] := by simp [hr]
  rw [this, thereH_snoc]
/-- A key's history is right: revisions rise, puts bear their key and revision, a deletion follows a put. -/
structure HOk (k : ByteArray) (rev : Int) (h : Hs) : Prop where
  asc : h.Pairwise (fun p q => p.1 < q.1)
  pos : ∀ p ∈ h, 0 < p.1 ∧ p.1 ≤ rev
  kv : ∀ r v, (r, some v) ∈ h → v.key = k ∧ v.mod = r ∧ 1 ≤ v.version ∧ v.version ≤ r
theorem HOk.nil (k : ByteArray) (rev : Int) : HOk k rev [] := ⟨List.Pairwise.nil, fun _ h => (by cases h), fun _ _ h => (by cases h)⟩
theorem HOk.snoc {k : ByteArray} {rev : Int} {h : Hs} (H : HOk k rev h) {r : Int} (h0 : 0 ≤ rev) (hr : rev < r) {o : Option KVd} (ho : ∀ v, o = some v → v.key = k ∧ v.mod = r ∧ 1 ≤ v.version ∧ v.version ≤ r) : HOk k r (h ++ [(r, o)]) where
  asc := by
    rw [List.pairwise_append]
    refine ⟨H.asc, by simp, fun p hp q hq => ?_⟩
    have := H.pos p hp
    obtain rfl : q = (r, o) := by simpa using hq
    dsimp only
    omega
  pos := fun p hp => by
    rcases List.mem_append.1 hp with hp | hp
    · have := H.pos p hp; omega
    · obtain rfl : p = (r, o) := by simpa using hp
      dsimp only
      omega
  kv := fun r' v hp => by
    rcases List.mem_append.1 hp with hp | hp
    · exact H.kv r' v hp
    · obtain ⟨rfl, rfl⟩ : r' = r ∧ some v = o := by simpa using hp
      exact ho v rfl
theorem HOk.mono {k : ByteArray} {rev r : Int} {h : Hs} (H : HOk k rev h) (hr : rev ≤ r) : HOk k r h := ⟨H.asc, fun p hp => ⟨(H.pos p hp).1, Int.le_trans (H.pos p hp).2 hr⟩, H.kv⟩
theorem thereH_mem {h : Hs} {v : KVd} (e : thereH h = some v) : ∃ r, (r, some v) ∈ h ∧ h.getLast? = some (r, some v) := by
  unfold thereH at e
  split at e
  · rename_i r kv hl
    cases e
    exact ⟨r, List.mem_of_getLast? hl, hl⟩
  · cases e
theorem atH_mem {h : Hs} {rev : Int} {v : KVd} (e : atH h rev = some v) : ∃ r, (r, some v) ∈ h ∧ r ≤ rev := by
  obtain ⟨r, h1, _⟩ := thereH_mem e
  obtain ⟨h2, h3⟩ := List.mem_filter.1 h1
  exact ⟨r, h2, by simpa using h3⟩
end Go.Proofs.YtjdmgmnndfhmgaaGreat
