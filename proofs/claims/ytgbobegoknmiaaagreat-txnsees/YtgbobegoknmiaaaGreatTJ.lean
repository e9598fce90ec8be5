/- Small transactions as data; leases that are listed; rows that were built. -/
import Derived.Test.YtgbobegoknmiaaaGreatGRQ
namespace Go.Proofs.YtgbobegoknmiaaaGreat
open Go Go.RowKit

theorem twB_nil : twB [] = false := rfl
theorem twB_one (o : Opd) : twB [o] = false := twB_no (fun i j x y hi hj hij _ => by
  have h1 := (List.getElem?_eq_some_iff.1 hi).1
  have h2 := (List.getElem?_eq_some_iff.1 hj).1
  simp at h1 h2
  omega)
theorem check_small (t : Txd) (l1 : t.ifs.length ≤ 32) (l2 : t.thn.length ≤ 32) (l3 : t.els.length ≤ 32) (h1 : firstE ifE t.ifs = 0) (h2 : firstE opE t.thn = 0) (h3 : firstE opE t.els = 0) (h4 : twB t.thn = false) (h5 : twB t.els = false) : checkE t = 0 := by
  unfold checkE branchE
  rw [if_neg (by omega), h1, h2, h3, h4, h5]
  rfl
theorem first_one {α : Type} {f : α → Int} {x : α} (h : f x = 0) : firstE f [x] = 0 := if_pos h
/-- A key that a write sees. -/
theorem wrV_one {n : Nat} {w : World} {s _b : Nat} {S : Sto} {W : Wri} {g : Sg} {_h : Wg} {o : Value} (H : St n w s S g o) (hc : ∀ k, W.ch k ≠ none ↔ k ∈ W.keys) (key : ByteArray) : wrV S W key ByteArray.empty = (lookW S W key).toList := by
  have hin : ∀ y, inR key ByteArray.empty y = decide (y = key) := fun y => if_pos rfl
  unfold wrV
  by_cases hk : key ∈ S.ks ∨ key ∈ W.keys
  · have e : seenK S W key ByteArray.empty = [key] := asc_ext (seenK_asc _ _ _ _) ⟨fun j hj => (by cases hj), trivial⟩ (fun k => by
      rw [seenK_mem]
      unfold rangeK
      rw [List.mem_filter, hin, List.mem_singleton]
      constructor
      · rintro (h | h)
        · exact of_decide_eq_true h.2
        · exact of_decide_eq_true h.2
      · rintro rfl
        rcases hk with h | h
        · exact .inl ⟨h, by simp⟩
        · exact .inr ⟨h, by simp⟩)
    rw [e]
    simp only [List.filterMap_cons, List.filterMap_nil]
    cases lookW S W key <;> rfl
  · have e : seenK S W key ByteArray.empty = [] := asc_ext (seenK_asc _ _ _ _) trivial (fun k => by
      rw [seenK_mem]
      unfold rangeK
      rw [List.mem_filter, hin]
      constructor
      · rintro (h | h)
        · have := of_decide_eq_true h.2; subst this; exact absurd (.inl h.1) hk
        · have := of_decide_eq_true h.2; subst this; exact absurd (.inr h.1) hk
      · intro h; cases h)
    rw [e]
    have h1 : W.ch key = none := Classical.byContradiction (fun e => hk (.inr ((hc key).1 e)))
    have h2 : S.kh key = [] := Classical.byContradiction (fun e => hk (.inl ((H.mem key).2 e)))
    unfold lookW
    rw [h1, h2]
    rfl
theorem noW_cov (n : Int) : ∀ k, (noW n).ch k ≠ none ↔ k ∈ (noW n).keys := fun k => ⟨fun h => absurd rfl h, fun h => by cases h⟩
theorem look_no (S : Sto) (n : Int) (k : ByteArray) : lookW S (noW n) k = thereH (S.kh k) := rfl
/-- A key as a put leaves it. -/
def newKV (S : Sto) (o : Opd) : KVd := match thereH (S.kh o.key) with
  | some kv => ⟨o.key, o.value, kv.create, (S.rev : Int) + 1, kv.version + 1, o.lease⟩
  | none => ⟨o.key, o.value, (S.rev : Int) + 1, (S.rev : Int) + 1, 0 + 1, o.lease⟩
structure PutOk (S : Sto) (L : Int → Bool) (o : Opd) : Prop where
  kd : o.kind = 0
  key : isK o.key = true
  le : ¬ o.lease < 0
  va : ¬ 4096 < o.value.size
  fu : S.nth < 4096
  ls : o.lease = 0 ∨ L o.lease = true
theorem PutOk.e {S : Sto} {L : Int → Bool} {o : Opd} (P : PutOk S L o) (W : Wri) (hw : W.ch o.key = none) (hc : W.count < 4096) : doE S L W o = 0 ∧ doW S L W o = tputK S W o := by
  have h1 : ¬ (¬ o.lease = 0 ∧ L o.lease = false) := fun h => by
    rcases P.ls with e | e
    · exact h.1 e
    · rw [e] at h; cases h.2
  have h2 : tputE S W o = 0 := by
    unfold tputE
    rw [if_neg (by rw [P.key]; rintro (h | h); cases h; exact P.le h), if_neg P.va, if_neg (by rw [hw]; decide), if_neg (fun h => by omega)]
  have h3 : opPE S L W o = 0 := by unfold opPE; rw [if_neg h1, h2]
  refine ⟨by unfold doE; rw [if_pos P.kd, h3], ?_⟩
  unfold doW opPW tputW
  rw [if_pos P.kd, if_neg h1, if_pos h2]
theorem tputK_f (S : Sto) (W : Wri) (o : Opd) : (tputK S W o).keys = W.keys ++ [o.key] ∧ (tputK S W o).ch = (fun k => if k = o.key then some (some (newKV S o)) else W.ch k) ∧ (tputK S W o).count ≤ W.count + 1 := by
  unfold tputK newKV
  cases thereH (S.kh o.key) with
  | some kv => exact ⟨rfl, rfl, by show W.count ≤ _; omega⟩
  | none => exact ⟨rfl, rfl, by show W.count + 1 ≤ _; omega⟩
/-- A branch of one put. -/
theorem run_one {S : Sto} {L : Int → Bool} {o : Opd} (P : PutOk S L o) : allE S L (noW S.nth) [o] = 0 ∧ (runP S L (noW S.nth) [o]).1 = tputK S (noW S.nth) o ∧ (runP S L (noW S.nth) [o]).2 = [⟨(wrV S (noW S.nth) o.key ByteArray.empty).length, []⟩] := by
  obtain ⟨e1, e2⟩ := P.e (noW S.nth) rfl (by have := P.fu; show (S.nth : Int) < 4096; omega)
  have e3 : doR S (noW S.nth) o = ⟨(wrV S (noW S.nth) o.key ByteArray.empty).length, []⟩ := by unfold doR; rw [if_pos P.kd]
  have hr : runE S L (noW S.nth) [o] = 0 := if_pos e1
  have hp : runP S L (noW S.nth) [o] = (tputK S (noW S.nth) o, [⟨(wrV S (noW S.nth) o.key ByteArray.empty).length, []⟩]) := by
    show stp S L (noW S.nth, []) o = _
    unfold stp
    rw [e2, e3]
    rfl
  refine ⟨?_, by rw [hp], by rw [hp]⟩
  unfold allE
  rw [if_pos hr, hp]
  rfl
theorem run_nil (S : Sto) (L : Int → Bool) : allE S L (noW S.nth) [] = 0 ∧ runP S L (noW S.nth) [] = (noW S.nth, []) := ⟨rfl, rfl⟩
/-- The store behind a transaction of one put. -/
theorem put_there {S T : Sto} {W : Wri} {o : Opd} (D : Dn S W T) (hW : W = tputK S (noW S.nth) o) : thereH (T.kh o.key) = some (newKV S o) ∧ (∀ k, ¬ k = o.key → T.kh k = S.kh k) ∧ T.rev = S.rev + 1 ∧ T.past = S.past ∧ T.nth ≤ S.nth + 1 := by
  obtain ⟨f1, f2, -⟩ := tputK_f S (noW S.nth) o
  subst hW
  have hk : o.key ∈ (tputK S (noW S.nth) o).keys := by rw [f1]; exact List.mem_append_right _ (by simp)
  refine ⟨?_, fun k hk => D.out k (by rw [f1]; intro h; rcases List.mem_append.1 h with h | h; cases h; simp at h; exact hk h), ?_, D.past, ?_⟩
  · rw [D.inn _ hk, thereH_snoc]
    unfold chG
    rw [f2]
    simp
  · rw [D.rev, if_neg (by rw [f1]; simp)]
  · have := D.nth; rw [f1, List.length_append] at this; exact this
/-- Leases that are listed. -/
structure LsP (q : Nat) (ids : List Int) (Y : Nat → Prop) (V : World) : Prop where
  blk : ∃ p c, V.heap[q]? = some (.cells #[.slice p ids.length c] 47 (0, 0)) ∧ ∀ (i : Nat) (x : Int), ids[i]? = some x → ∃ gg oo, p = some ⟨gg, oo, none⟩ ∧ Y gg ∧ gg < V.heap.size ∧ V.cell? ⟨gg, oo + i, none⟩ = some (.int .i64 x)
set_option maxRecDepth 100000 in
set_option maxHeartbeats 1000000 in
theorem has_ls (q : Nat) (ids : List Int) (Y : Nat → Prop) (hl : ids.length ≤ 1000000) (w : World) (id : Int) (h : LsP q ids Y w) : Calls Tryz.prog 162 #[ptr q, .int .i64 id] w fun e w' => e = .returned (.bool (decide (id ∈ ids))) ∧ w' = w := by
  obtain ⟨p, c, hb, hh⟩ := h.blk
  have HH := Hid.mk'' hh
  have c0 : w.cell? ⟨q, 0, none⟩ = some (.slice p ids.length c) := cell_of_row _ _ _ _ _ _ hb
  obtain ⟨n, hn⟩ : ∃ n, n = ids.length := ⟨_, rfl⟩
  rw [← hn] at hl c0
  have HN := Hid.mk'' hn
  clear hh hb hn h
  go_enter Tryz.func162, Tryz.ntmps162
  go_wp2
  go_loopg [5] (n + 1) (fun kx s5 wr => ∃ i : Nat, s5 = .int .i64 i ∧ kx + i = n + 1 ∧ i ≤ n ∧ wr = w ∧ Hid (∀ (j : Nat) (x : Int), j < i → ids[j]? = some x → ¬ x = id))
  case atStart => exact ⟨0, rfl, rfl, Nat.zero_le _, rfl, fun j x hj => by omega⟩
  case round =>
    obtain ⟨i, rfl, hkx, hi, rfl, HM⟩ := hrel
    by_cases hlt : i < n
    · obtain ⟨x, hx⟩ : ∃ x, ids[i]? = some x := ⟨_, List.getElem?_eq_getElem (by rw [← HN.out]; exact hlt)⟩
      obtain ⟨gg, oo, rfl, hy, hgl, hcx⟩ := HH.out i x hx
      have HX := Hid.mk'' hx
      by_cases hE : x = id
      · subst hE
        have HE : Hid (x ∈ ids) := List.mem_of_getElem? hx
        clear hx
        go_wp2
        go_ret
        exact ⟨ret_bool (decide_eq_true HE.out).symm, rfl⟩
      · have HE := Hid.mk'' hE
        clear hx
        go_wp2
        go_roundg (n - i)
        case measure => omega
        case rel =>
          refine ⟨i + 1, by congr 1, by omega, by omega, rfl, fun j y hj hy => ?_⟩
          rcases Nat.lt_or_ge j i with h | h
          · exact HM.out j y h hy
          · obtain rfl : j = i := by omega
            obtain rfl := Option.some.inj (HX.out.symm.trans hy)
            exact HE.out
    · obtain rfl : i = n := by omega
      have HE : Hid (¬ id ∈ ids) := fun h => by
        obtain ⟨j, hj, e⟩ := List.getElem_of_mem h
        exact HM.out j id (by rw [HN.out]; exact hj) (by rw [List.getElem?_eq_getElem hj, e]) rfl
      go_wp2
      go_ret
      exact ⟨ret_bool (decide_eq_false HE.out).symm, rfl⟩
theorem lea_ls (q : Nat) (ids : List Int) (Y : Nat → Prop) (hl : ids.length ≤ 1000000) : Lea (fun id => decide (id ∈ ids)) (fun k => k = q ∨ Y k) q (LsP q ids Y) where
  upd := fun V V' T h hu hT => by
    obtain ⟨p, c, hb, hh⟩ := h.blk
    refine ⟨p, c, (hu.block q (Array.getElem?_eq_some_iff.1 hb).1 (hT q (.inl rfl))).trans hb, fun i x hi => ?_⟩
    obtain ⟨gg, oo, e, hy, hgl, hc⟩ := hh i x hi
    exact ⟨gg, oo, e, hy, Nat.lt_of_lt_of_le hgl hu.size, (hu.cell (p := ⟨gg, oo + i, none⟩) hgl (hT gg (.inr hy))).trans hc⟩
  has := fun V id h => has_ls q ids Y hl V id h
theorem ls_none {V : World} {q : Nat} (h : V.heap[q]? = some (.cells #[.slice none 0 0] 47 (0, 0))) : LsP q [] (fun _ => False) V := ⟨none, 0, h, fun i x hi => by simp at hi⟩
/-- Rows of one that were built. -/
theorem ifs_one {Z : Nat → Prop} {w : World} {gb : Nat} {k x : ByteArray} {t s n : Int} (h : w.heap[gb]? = some (.cells #[.string k, .int .i64 t, .int .i64 s, .int .i64 n, .string x] 55 (0, 0))) (hz : Z gb) (h1 : k.size ≤ 140737488355328) (h2 : x.size ≤ 140737488355328) : IFs Z w (.slice (some ⟨gb, 0, none⟩) 1 1) [⟨k, t, s, n, x⟩] :=
  ⟨some ⟨gb, 0, none⟩, 1, rfl, fun i y hi => by
    have hi0 : i = 0 := by have := (List.getElem?_eq_some_iff.1 hi).1; simp at this; exact this
    subst hi0
    obtain rfl : (⟨k, t, s, n, x⟩ : Ifd) = y := by simpa using hi
    exact ⟨gb, 0, rfl, hz, (Array.getElem?_eq_some_iff.1 h).1, ⟨cell_of_row _ _ _ _ _ _ h, cell_of_row _ _ _ _ _ _ h, cell_of_row _ _ _ _ _ _ h, cell_of_row _ _ _ _ _ _ h, cell_of_row _ _ _ _ _ _ h, h1, h2⟩⟩⟩
theorem ops_one {Z : Nat → Prop} {w : World} {gb : Nat} {k e v : ByteArray} {d l m : Int} (h : w.heap[gb]? = some (.cells #[.int .i64 d, .string k, .string e, .string v, .int .i64 l, .int .i64 m] 57 (0, 0))) (hz : Z gb) (h1 : k.size ≤ 140737488355328) (h2 : e.size ≤ 140737488355328) (h3 : v.size ≤ 140737488355328) : OPs Z w (.slice (some ⟨gb, 0, none⟩) 1 1) [⟨d, k, e, v, l, m⟩] :=
  ⟨some ⟨gb, 0, none⟩, 1, rfl, fun i y hi => by
    have hi0 : i = 0 := by have := (List.getElem?_eq_some_iff.1 hi).1; simp at this; exact this
    subst hi0
    obtain rfl : (⟨d, k, e, v, l, m⟩ : Opd) = y := by simpa using hi
    exact ⟨gb, 0, rfl, hz, (Array.getElem?_eq_some_iff.1 h).1, ⟨cell_of_row _ _ _ _ _ _ h, cell_of_row _ _ _ _ _ _ h, cell_of_row _ _ _ _ _ _ h, cell_of_row _ _ _ _ _ _ h, cell_of_row _ _ _ _ _ _ h, cell_of_row _ _ _ _ _ _ h, h1, h2, h3⟩⟩⟩
/-- A store that a law has made. -/
structure Q9 (w0 w : World) (s n : Nat) (S : Sto) (g : Sg) : Prop where
  st : ∃ o, St n w s S g o
  sf : SF n S
  bel : Below w0.heap.size w0 w
  fs : ∀ k, ftS s g k → w0.heap.size ≤ k
theorem Q9.below {w0 w w' : World} {s n : Nat} {S : Sto} {g : Sg} (H : Q9 w0 w s n S g) (hb : Below w.heap.size w w') : Q9 w0 w' s n S g := by
  obtain ⟨o, h⟩ := H.st
  exact ⟨⟨o, h.below hb⟩, H.sf, H.bel.trans (hb.mono H.bel.size), H.fs⟩
theorem Q9.lt {w0 w : World} {s n : Nat} {S : Sto} {g : Sg} (H : Q9 w0 w s n S g) {k : Nat} (h : ftS s g k) : k < w.heap.size := by
  obtain ⟨o, h'⟩ := H.st
  exact h'.lt h
theorem noS_sf : SF 0 noS := ⟨by omega, by show 0 ≤ _; omega, by show 0 ≤ _; omega, by show 0 ≤ _; omega, fun k r v h => by cases h⟩
theorem new_q9 (w0 w : World) (hb : Below w0.heap.size w0 w) : Calls Tryz.prog 10 #[] w fun e w' => ∃ s g, e = .returned (ptr s) ∧ Hid (Q9 w0 w' s 0 noS g ∧ Below w.heap.size w w') := by
  refine (new_st w).mono ?_
  rintro e w' ⟨s, g, rfl, h1, h2, h3⟩
  exact ⟨s, g, rfl, ⟨⟨_, h1⟩, noS_sf, hb.trans (h2.mono hb.size), fun k hk => Nat.le_trans hb.size (h3 k hk)⟩, h2⟩
/-- Do, of a law's store. -/
theorem Q9.do {w0 w : World} {s n q : Nat} {S : Sto} {g : Sg} (H : Q9 w0 w s n S g) (ids : List Int) (Y : Nat → Prop) (hl : ids.length ≤ 1000000) (hLP : LsP q ids Y w) (hq : ∀ k, k = q ∨ Y k → k < w.heap.size ∧ ¬ ftS s g k) (t : Txd) (vi vt ve : Value) (hv : HasT (fun k => k < w.heap.size ∧ ¬ ftS s g k) w vi vt ve t)
    (h1 : t.ifs.length ≤ 1000000) (h2 : t.thn.length ≤ 1000000) (h3 : t.els.length ≤ 1000000) (b1 : n + txN S (fun id => decide (id ∈ ids)) t ≤ 20000) (b2 : S.ks.length + txN S (fun id => decide (id ∈ ids)) t ≤ 10000) (b3 : S.nth + txN S (fun id => decide (id ∈ ids)) t ≤ 10000) (b4 : S.rev + 1 ≤ 500000) :
    Calls Tryz.prog 16 #[ptr s, .iface 45 (ptr q), .agg #[vi, vt, ve]] w fun e w' => ∃ (bt : Bool) (p : Option Addr) (m c : Nat), e = .returned (.tuple #[.bool bt, .slice p m c, .int .i64 (txE S (fun id => decide (id ∈ ids)) t)]) ∧ ∃ g', Hid (Tx n w w' s S (fun id => decide (id ∈ ids)) t g g' bt p m c ∧ Q9 w0 w' s (n + txN S (fun id => decide (id ∈ ids)) t) (txS S (fun id => decide (id ∈ ids)) t) g' ∧ (txE S (fun id => decide (id ∈ ids)) t = 0 → Dn S (txP S (fun id => decide (id ∈ ids)) t).1 (txS S (fun id => decide (id ∈ ids)) t))) := by
  obtain ⟨o, hst⟩ := H.st
  refine (txn_any hst H.sf (lea_ls q ids Y hl) hLP hq t vi vt ve hv (fun k hk => hk) h1 h2 h3).mono ?_
  rintro e w' ⟨bt, p, m, c, rfl, g', HT⟩
  refine ⟨bt, p, m, c, rfl, g', HT.out, ?_⟩
  obtain ⟨o', hst'⟩ := HT.out.st
  have hD : txE S (fun id => decide (id ∈ ids)) t = 0 → Dn S (txP S (fun id => decide (id ∈ ids)) t).1 (txS S (fun id => decide (id ∈ ids)) t) := fun e => by
    have eS : txS S (fun id => decide (id ∈ ids)) t = doneS S (txP S (fun id => decide (id ∈ ids)) t).1 := if_pos e
    rw [eS]
    exact done_dn S _ (HT.out.yes e).2.2.1
  refine ⟨⟨⟨o', hst'⟩, ?_, H.bel.trans (HT.out.up.below H.bel.size (fun k hk e => by have := H.fs k e; omega)), fun k hk => (HT.out.ft k hk).elim (H.fs k) (fun e => Nat.le_trans H.bel.size e)⟩, hD⟩
  by_cases hz : txE S (fun id => decide (id ∈ ids)) t = 0
  · have D := hD hz
    have eN : txN S (fun id => decide (id ∈ ids)) t = (txP S (fun id => decide (id ∈ ids)) t).1.keys.length := if_pos hz
    have k1 := D.ks hst' hst
    have k2 := D.nth
    have k3 := D.rev
    refine ⟨b1, by omega, by omega, ?_, D.small H.sf.sm (HT.out.yes hz).2.2.2⟩
    rw [k3]
    split <;> omega
  · have eS : txS S (fun id => decide (id ∈ ids)) t = S := if_neg hz
    have eN : txN S (fun id => decide (id ∈ ids)) t = 0 := if_neg hz
    rw [eS, eN]
    exact H.sf
end Go.Proofs.YtgbobegoknmiaaaGreat
