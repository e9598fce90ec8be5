/- What a write leaves when it is done, as data. -/
import Derived.Test.YteeflkkoifgcbaaML3
namespace Go.Proofs.Yteeflkkoifgcbaa
open Go Go.RowKit

/-- A write that a store may take. -/
def Wok (S : Sto) (W : Wri) : Prop := ∀ k c, W.ch k = some c → (0 < k.size ∧ k.size ≤ 100) ∧ (∀ v, c = some v → v.key = k ∧ v.mod = (S.rev : Int) + 1 ∧ 1 ≤ v.version ∧ v.version ≤ (S.rev : Int) + 1) ∧ (c = none → (thereH (S.kh k)).isSome = true)
/-- The store at its new revision, nothing laid yet. -/
def nextS (S : Sto) (l : List ByteArray) : Sto := { S with rev := S.rev + 1, lg := fun x => if x = (S.rev : Int) + 1 then l else S.lg x }
def layAll (f : ByteArray → Option KVd) (r : Int) (S : Sto) (l : List ByteArray) : Sto := l.foldl (fun S k => layS S r k (f k)) S
def chG (W : Wri) (k : ByteArray) : Option KVd := (W.ch k).getD none
def takeS (S : Sto) (W : Wri) (i : Nat) : Sto := layAll (chG W) ((S.rev : Int) + 1) (nextS S W.keys) (W.keys.take i)
def doneS (S : Sto) (W : Wri) : Sto := if W.keys = [] then S else takeS S W W.keys.length
theorem layAll_rev (f : ByteArray → Option KVd) (r : Int) : ∀ (l : List ByteArray) (S : Sto), (layAll f r S l).rev = S.rev ∧ (layAll f r S l).past = S.past ∧ (layAll f r S l).lg = S.lg
  | [], S => ⟨rfl, rfl, rfl⟩
  | k :: l, S => by
    have := layAll_rev f r l (layS S r k (f k))
    exact ⟨this.1.trans rfl, this.2.1.trans rfl, this.2.2.trans rfl⟩
theorem layAll_not (f : ByteArray → Option KVd) (r : Int) {k : ByteArray} : ∀ {l : List ByteArray} {S : Sto}, k ∉ l → (layAll f r S l).kh k = S.kh k
  | [], _, _ => rfl
  | j :: l, S, h => by
    simp only [List.mem_cons, not_or] at h
    have := layAll_not f r (l := l) (S := layS S r j (f j)) h.2
    exact this.trans (layS_other _ _ _ h.1)
theorem layAll_in (f : ByteArray → Option KVd) (r : Int) {k : ByteArray} : ∀ {l : List ByteArray} {S : Sto}, l.Nodup → k ∈ l → (layAll f r S l).kh k = S.kh k ++ [(r, f k)]
  | [], _, _, h => by cases h
  | j :: l, S, hn, h => by
    obtain ⟨h1, h2⟩ := List.nodup_cons.1 hn
    rcases List.mem_cons.1 h with rfl | h
    · have := layAll_not f r (l := l) (S := layS S r k (f k)) h1
      exact this.trans (layS_same _ _ _ _)
    · have := layAll_in f r (l := l) (S := layS S r j (f j)) h2 h
      have hne : ¬ k = j := fun e => h1 (e ▸ h)
      rw [layS_other _ _ _ hne] at this
      exact this
theorem takeS_succ {S : Sto} {W : Wri} {i : Nat} {k : ByteArray} (hk : W.keys[i]? = some k) : takeS S W (i + 1) = layS (takeS S W i) ((S.rev : Int) + 1) k (chG W k) := by
  unfold takeS layAll
  rw [List.take_add_one, hk, List.foldl_append]
  rfl
theorem takeS_rev (S : Sto) (W : Wri) (i : Nat) : (takeS S W i).rev = S.rev + 1 ∧ (takeS S W i).past = S.past ∧ (takeS S W i).lg = (nextS S W.keys).lg := by
  unfold takeS
  have := layAll_rev (chG W) ((S.rev : Int) + 1) (W.keys.take i) (nextS S W.keys)
  exact ⟨this.1, this.2.1, this.2.2⟩
theorem takeS_zero (S : Sto) (W : Wri) : takeS S W 0 = nextS S W.keys := by
  unfold takeS
  rw [List.take_zero]
  rfl
theorem nextS_lg (S : Sto) (l : List ByteArray) : (nextS S l).lg ((S.rev : Int) + 1) = l := by simp [nextS]
/-- The store at its new revision in memory. -/
theorem St.next {n : Nat} {w w1 w2 : World} {s b : Nat} {S : Sto} {W : Wri} {g : Sg} {h : Wg} (H : Ow n w s b S W g h) (hw1 : w1 = w.setCell ⟨s, 0, none⟩ (.int .i64 ((S.rev : Int) + 1))) {nl' : Nat}
    (hm : MapF w2 encI g.bl (setF g.lv ((S.rev : Int) + 1) h.v) nl') (hu : Upd w1 w2 (fun k => k = g.bl)) :
    St n w2 s (nextS S W.keys) { g with lv := setF g.lv ((S.rev : Int) + 1) h.v, nl := nl' } (ptr b) ∧ Upd w w2 (ftS s g) := by
  have hst := H.st
  have hs1 : Upd w w1 (fun k => k = s) := by rw [hw1]; exact (Upd.refl w (fun k => k = s)).setCell (p := ⟨s, 0, none⟩) (.inr rfl) _
  have hb1 : w1.heap[s]? = some (.cells #[.int .i64 ((S.rev : Int) + 1), .int .i64 S.past, ptr g.x, .map (some g.bc), .map (some g.bl), .map (some g.bt), ptr b] 64 (0, 0)) := by rw [hw1]; exact heap_setCell_row hst.blk _
  obtain ⟨o1, o2, o3, o4, o5⟩ := hst.off
  obtain ⟨a1, a2, a3⟩ := hst.offm (b := g.bl) (.inr (.inl rfl))
  obtain ⟨c1, -, -⟩ := hst.offm (b := g.bc) (.inl rfl)
  obtain ⟨d1, -, -⟩ := hst.offm (b := g.bt) (.inr (.inr rfl))
  obtain ⟨n1, n2, n3⟩ := hst.ne
  have hsl := hst.lt (.inl rfl)
  have hrs : ∀ r v k, g.lv r = some v → v.ownBlock = some k → k ≠ s := fun r v k hv hk e => by
    obtain ⟨_, cc, f, hh⟩ := ownBlock_ge (hst.rows r v hv).2 hk
    have := hst.blk
    rw [← e, hh] at this
    cases this
  have hvk : ∀ k, h.v.ownBlock = some k → k ≠ s ∧ k ≠ g.bl := fun k hk => ⟨fun e => H.ap s (.inl rfl) (.inr (.inr (by rw [← e]; exact hk))), fun e => H.ap g.bl (.inr (.inr (.inl rfl))) (.inr (.inr (by rw [← e]; exact hk)))⟩
  refine ⟨⟨?_, ((hst.ix.upd hs1 (fun k hk e => o1 (e ▸ hk))).upd hu a2), ?_, (hst.ch.upd hs1 c1.symm).upd hu n1, hm, (hst.th.upd hs1 d1.symm).upd hu n3.symm, hst.ne, ?_, ?_, hst.mem, hst.sz, ?_⟩, ?_⟩
  · exact (hu.block s (Nat.lt_of_lt_of_le hsl hs1.size) a1).trans hb1
  · exact hst.bd
  · intro r v hv
    show r ≤ ((S.rev + 1 : Nat) : Int) ∧ _
    dsimp only at hv
    by_cases e : r = (S.rev : Int) + 1
    · subst e
      rw [setF_same] at hv
      cases hv
      refine ⟨by omega, ?_⟩
      rw [nextS_lg]
      exact ownsRow_upd (ownsRow_upd H.wr.row hs1 (fun k hk => (hvk k hk).1)) hu (fun k hk => (hvk k hk).2)
    · rw [setF_other _ _ e] at hv
      obtain ⟨q1, q2⟩ := hst.rows r v hv
      refine ⟨by omega, ?_⟩
      have e2 : (nextS S W.keys).lg r = S.lg r := by simp [nextS, e]
      rw [e2]
      exact ownsRow_upd (ownsRow_upd q2 hs1 (fun k hk => hrs r v k hv hk)) hu (fun k hk => a3 r v k hv hk)
  · intro k
    exact (hst.hok k).mono (by show (S.rev : Int) ≤ ((S.rev + 1 : Nat) : Int); omega)
  · exact Nat.le_succ_of_le hst.past
  · exact (hs1.mono (T := ftS s g) (fun k _ hk => .inl hk)).trans (hu.mono (T := ftS s g) (fun k _ hk => .inr (.inr (.inl hk)))) (fun j _ hg => hg)
end Go.Proofs.Yteeflkkoifgcbaa
