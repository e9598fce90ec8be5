/- A tree by its topmost node; split in a tree. -/
import Derived.Test.YteeflkkoifgcbaaTT
import Derived.Test.YteeflkkoifgcbaaD2
import Derived.Test.YteeflkkoifgcbaaD3
namespace Go.Proofs.Yteeflkkoifgcbaa
open Go Go.RowKit

/-- Kids that may stand below a node of height h with n items. -/
def Good (w : World) : Nat → Nat → List KidD → Prop
  | 0, _, g => g = []
  | h + 1, n, g => g.length = n + 1 ∧ ∀ k ∈ g, Tre w h k.b k.its k.L k.F ∧ 2 ≤ k.its.length ∧ k.its.length ≤ 4
/-- All items of such a node, in order. -/
def lv : Nat → List KidD → List Itm → List Itm
  | 0, _, its => its
  | _ + 1, g, its => weave g its
abbrev ff (b : Nat) (iv kv : Value) (g : List KidD) : List Nat := nf b iv kv ++ g.flatMap KidD.F
theorem Tre.open_ {w : World} : ∀ {h b : Nat} {its L : List Itm} {F : List Nat}, Tre w h b its L F → ∃ iv kv g, Nod w b iv kv its (g.map KidD.b) ∧ Good w h its.length g ∧ L = lv h g its ∧ F = ff b iv kv g
  | 0, _, _, _, _, ⟨iv, kv, hN, hL, hF⟩ => ⟨iv, kv, [], hN, rfl, hL, by simpa [ff] using hF⟩
  | _ + 1, _, _, _, _, ⟨iv, kv, ks, hN, hl, hk, hL, hF⟩ => ⟨iv, kv, ks, hN, ⟨hl, hk⟩, hL, hF⟩
theorem Tre.close {w : World} : ∀ {h b : Nat} {its : List Itm} {iv kv : Value} {g : List KidD}, Nod w b iv kv its (g.map KidD.b) → Good w h its.length g → Tre w h b its (lv h g its) (ff b iv kv g)
  | 0, _, _, iv, kv, g, hN, hg => by
    obtain rfl : g = [] := hg
    exact ⟨iv, kv, hN, rfl, by simp [ff]⟩
  | _ + 1, _, _, iv, kv, g, hN, hg => ⟨iv, kv, g, hN, hg.1, hg.2, rfl, rfl⟩
theorem Good.zero {w : World} {h n : Nat} {g : List KidD} (hg : Good w h n g) : g = [] ∨ g.length = n + 1 := by
  cases h with
  | zero => exact .inl hg
  | succ h => exact .inr hg.1
theorem Good.upd {w w' : World} {S : Nat → Prop} (hu : Upd w w' S) {h n : Nat} {g : List KidD} (hg : Good w h n g) (hS : ∀ k ∈ g.flatMap KidD.F, ¬ S k) : Good w' h n g := by
  cases h with
  | zero => exact hg
  | succ h => exact ⟨hg.1, fun k hk => ⟨(hg.2 k hk).1.upd hu (fun j hj => hS j (List.mem_flatMap.2 ⟨k, hk, hj⟩)), (hg.2 k hk).2⟩⟩
theorem Good.take {w : World} {h n : Nat} {g : List KidD} (hg : Good w h n g) {i : Nat} (hi : i ≤ n) : Good w h i (g.take (i + 1)) := by
  cases h with
  | zero => obtain rfl : g = [] := hg; exact rfl
  | succ h => exact ⟨by rw [List.length_take, hg.1]; omega, fun k hk => hg.2 k (List.mem_of_mem_take hk)⟩
theorem Good.drop {w : World} {h n : Nat} {g : List KidD} (hg : Good w h n g) {i : Nat} (hi : i ≤ n) : Good w h (n - i) (g.drop i) := by
  cases h with
  | zero => obtain rfl : g = [] := hg; exact List.drop_nil
  | succ h => exact ⟨by rw [List.length_drop, hg.1]; omega, fun k hk => hg.2 k (List.mem_of_mem_drop hk)⟩

theorem split_any (b l i : Nat) (iv kv liv lkv : Value) (its : List Itm) (ks : List Nat) (t0 t1 t2 t3 t4 : Itm) (lks : List Nat) (w : World) (hN : Nod w b iv kv its ks) (hL : Nod w l liv lkv [t0, t1, t2, t3, t4] lks) (hlk : lks = [] ∨ lks.length = 6) (hi : ks[i]? = some l) (hil : i ≤ its.length) (hn : its.length ≤ 100) (hk : ks.length ≤ 100)
    (hnd : (nf b iv kv ++ nf l liv lkv).Nodup) :
    Calls Try.prog 53 #[ptr b, .int .i64 i] w fun e w' => e = .returned (.tuple #[]) ∧ ∃ iv' kv' liv' lkv' r riv rkv, Tri w w' (nf b iv kv ++ nf l liv lkv) b iv' kv' (its.take i ++ t2 :: its.drop i) (ks.take (i + 1) ++ r :: ks.drop (i + 1)) l liv' lkv' [t0, t1] (lks.take 3) r riv rkv [t3, t4] (lks.drop 3) := by
  rcases hlk with rfl | hlk
  · exact split_leaf b l i iv kv liv lkv its ks t0 t1 t2 t3 t4 w hN hL hi hil hn hk hnd
  · match lks, hlk, hL with
    | [k0, k1, k2, k3, k4, k5], _, hL => exact split_in b l i iv kv liv lkv its ks t0 t1 t2 t3 t4 k0 k1 k2 k3 k4 k5 w hN hL hi hil hn hk hnd

theorem lv_split5 {w : World} {h : Nat} {g : List KidD} {t0 t1 t2 t3 t4 : Itm} (hg : Good w h 5 g) : lv h g [t0, t1, t2, t3, t4] = lv h (g.take 3) [t0, t1] ++ t2 :: lv h (g.drop 3) [t3, t4] := by
  cases h with
  | zero => rfl
  | succ h =>
    match g, hg.1 with
    | [g0, g1, g2, g3, g4, g5], _ => simp [lv, weave, suf]
theorem perm_mid {α : Type} (X A K B : List α) : (X ++ (A ++ K ++ B)).Perm ((X ++ K) ++ (A ++ B)) := by
  have h1 : (A ++ K ++ B).Perm (K ++ (A ++ B)) := by
    rw [← List.append_assoc]
    exact List.Perm.append_right _ List.perm_append_comm
  have h2 : (X ++ (A ++ K ++ B)).Perm (X ++ (K ++ (A ++ B))) := List.Perm.append_left _ h1
  rwa [← List.append_assoc X K] at h2
/-- split within a tree: the kid in the middle of A and B has five items. -/
theorem split_tre {W : World} {h b : Nat} {iv kv : Value} {A B : List KidD} {k : KidD} {C D : List Itm} (hN : Nod W b iv kv (C ++ D) ((A ++ k :: B).map KidD.b)) (hAC : A.length = C.length) (hBD : B.length = D.length)
    (hA : ∀ x ∈ A ++ B, Tre W h x.b x.its x.L x.F ∧ 2 ≤ x.its.length ∧ x.its.length ≤ 4) (hk : Tre W h k.b k.its k.L k.F) (h5 : k.its.length = 5) (hnd : (ff b iv kv (A ++ k :: B)).Nodup) (hn : (C ++ D).length ≤ 90) :
    Calls Try.prog 53 #[ptr b, .int .i64 C.length] W fun e W2 => e = .returned (.tuple #[]) ∧ ∃ t F', Tre W2 (h + 1) b (C ++ t :: D) (weave (A ++ k :: B) (C ++ D)) F' ∧ Step W W2 (ff b iv kv (A ++ k :: B)) F' := by
  obtain ⟨liv, lkv, g, hL, hg, hkL, hkF⟩ := hk.open_
  obtain ⟨kb, kits, kL, kF⟩ := k
  dsimp only at hL hg hkL hkF h5 hk
  match kits, h5, hL, hg, hkL, hk with
  | [t0, t1, t2, t3, t4], _, hL, hg, hkL, hk =>
  have hp : (ff b iv kv (A ++ ⟨kb, [t0, t1, t2, t3, t4], kL, kF⟩ :: B)).Perm ((nf b iv kv ++ nf kb liv lkv) ++ (g.flatMap KidD.F ++ (A.flatMap KidD.F ++ B.flatMap KidD.F))) := by
    have h1 := perm_mid (nf b iv kv) (A.flatMap KidD.F) kF (B.flatMap KidD.F)
    rw [hkF] at h1
    simp only [ff, List.flatMap_append, List.flatMap_cons, hkF]
    refine List.Perm.trans ?_ (h1.trans ?_)
    · simp only [ff, List.append_assoc]; exact List.Perm.refl _
    · simp only [ff, List.append_assoc]; exact List.Perm.refl _
  have hnd2 := hp.nodup_iff.1 hnd
  have hlt : ∀ j ∈ g.flatMap KidD.F ++ (A.flatMap KidD.F ++ B.flatMap KidD.F), j < W.heap.size := fun j hj => by
    simp only [List.mem_append, List.mem_flatMap] at hj
    rcases hj with ⟨x, hx, hj⟩ | ⟨x, hx, hj⟩ | ⟨x, hx, hj⟩
    · exact hk.lt j (by rw [hkF]; exact List.mem_append_right _ (List.mem_flatMap.2 ⟨x, hx, hj⟩))
    · exact (hA x (List.mem_append_left _ hx)).1.lt j hj
    · exact (hA x (List.mem_append_right _ hx)).1.lt j hj
  have hi : ((A ++ ⟨kb, [t0, t1, t2, t3, t4], kL, kF⟩ :: B).map KidD.b)[C.length]? = some kb := by
    rw [List.map_append, List.getElem?_append_right (by simp; omega)]; simp [hAC]
  have hgl : (g.map KidD.b) = [] ∨ (g.map KidD.b).length = 6 := by
    rcases hg.zero with rfl | h
    · exact .inl rfl
    · right; simpa using h
  refine (split_any b kb C.length iv kv liv lkv (C ++ D) _ t0 t1 t2 t3 t4 (g.map KidD.b) W hN hL hgl hi (by simp) (by omega) (by simp at hn ⊢; omega) (List.nodup_append.1 hnd2).1).mono ?_
  rintro e W2 ⟨rfl, iv', kv', liv', lkv', r, riv, rkv, T⟩
  refine ⟨rfl, t2, ?_⟩
  have hd : ∀ j ∈ g.flatMap KidD.F ++ (A.flatMap KidD.F ++ B.flatMap KidD.F), j ∉ nf b iv kv ++ nf kb liv lkv := fun j hj hj' => (List.nodup_append.1 hnd2).2.2 j hj' j hj rfl
  have hg2 : Good W2 h 5 g := hg.upd T.s.upd (fun j hj => hd j (List.mem_append_left _ hj))
  have gl := hg2.take (i := 2) (by omega)
  have gr := hg2.drop (i := 3) (by omega)
  have hN2 := T.hn
  rw [List.take_left, List.drop_left] at hN2
  have TL := Tre.close (h := h) (w := W2) (b := kb) (its := [t0, t1]) (g := g.take 3) (by rw [List.map_take]; exact T.hl) gl
  have TR := Tre.close (h := h) (w := W2) (b := r) (its := [t3, t4]) (g := g.drop 3) (by rw [List.map_drop]; exact T.hr) gr
  have hks : ((A ++ ⟨kb, [t0, t1, t2, t3, t4], kL, kF⟩ :: B).map KidD.b).take (C.length + 1) ++ r :: ((A ++ ⟨kb, [t0, t1, t2, t3, t4], kL, kF⟩ :: B).map KidD.b).drop (C.length + 1) = (A ++ ⟨kb, [t0, t1], lv h (g.take 3) [t0, t1], ff kb liv' lkv' (g.take 3)⟩ :: ⟨r, [t3, t4], lv h (g.drop 3) [t3, t4], ff r riv rkv (g.drop 3)⟩ :: B).map KidD.b := by
    rw [← hAC, List.map_append, List.map_cons, show A.length + 1 = (A.map KidD.b).length + 1 by simp, List.take_length_add_append, List.drop_length_add_append]
    simp
  rw [hks] at hN2
  have TT := Tre.close (h := h + 1) (w := W2) (b := b) hN2 (by
    refine ⟨by simp; omega, fun x hx => ?_⟩
    simp only [List.mem_append, List.mem_cons] at hx
    have hold : ∀ x ∈ A ++ B, Tre W2 h x.b x.its x.L x.F ∧ 2 ≤ x.its.length ∧ x.its.length ≤ 4 := fun x hx => ⟨(hA x hx).1.upd T.s.upd (fun j hj => hd j (List.mem_append_right _ (by
      rw [← List.flatMap_append]; exact List.mem_flatMap.2 ⟨x, hx, hj⟩))), (hA x hx).2⟩
    rcases hx with hx | rfl | rfl | hx
    · exact hold x (List.mem_append_left _ hx)
    · exact ⟨TL, by simp, by simp⟩
    · exact ⟨TR, by simp, by simp⟩
    · exact hold x (List.mem_append_right _ hx))
  have hLw : weave (A ++ ⟨kb, [t0, t1, t2, t3, t4], kL, kF⟩ :: B) (C ++ D) = lv (h + 1) (A ++ ⟨kb, [t0, t1], lv h (g.take 3) [t0, t1], ff kb liv' lkv' (g.take 3)⟩ :: ⟨r, [t3, t4], lv h (g.drop 3) [t3, t4], ff r riv rkv (g.drop 3)⟩ :: B) (C ++ t2 :: D) := by
    show _ = weave _ _
    rw [weave_split A _ B C D hAC, weave_split A _ _ C (t2 :: D) hAC]
    simp only [hkL, lv_split5 hg, suf, List.append_assoc, List.cons_append]
  rw [hLw]
  refine ⟨_, TT, (T.s.frame _ hnd2 hlt).perm hp.symm ?_⟩
  have hgF : g.flatMap KidD.F = (g.take 3).flatMap KidD.F ++ (g.drop 3).flatMap KidD.F := by rw [← List.flatMap_append, List.take_append_drop]
  rw [hgF]
  simp only [ff, List.flatMap_append, List.flatMap_cons]
  rw [List.perm_iff_count]
  intro a
  simp only [List.count_append]
  omega
end Go.Proofs.Yteeflkkoifgcbaa
