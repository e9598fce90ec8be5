/- The index's own block: its root and its size; add. -/
import Derived.Test.YteeflkkoifgcbabGreatEA
namespace Go.Proofs.YteeflkkoifgcbabGreat
open Go Go.RowKit

def Root (w : World) (rp : Option Addr) (L : List Itm) (F : List Nat) : Prop :=
  (rp = none ∧ L = [] ∧ F = []) ∨ ∃ h b its, rp = some ⟨b, 0, none⟩ ∧ Tre w h b its L F ∧ 1 ≤ its.length ∧ its.length ≤ 4
theorem Root.upd {w w' : World} {S : Nat → Prop} (hu : Upd w w' S) {rp : Option Addr} {L : List Itm} {F : List Nat} (h : Root w rp L F) (hS : ∀ k ∈ F, ¬ S k) : Root w' rp L F := by
  rcases h with h | ⟨h, b, its, h1, h2, h3⟩
  · exact .inl h
  · exact .inr ⟨h, b, its, h1, h2.upd hu hS, h3⟩
theorem Root.lt {w : World} {rp : Option Addr} {L : List Itm} {F : List Nat} (h : Root w rp L F) : ∀ k ∈ F, k < w.heap.size := by
  rcases h with ⟨_, _, rfl⟩ | ⟨h, b, its, h1, h2, h3⟩
  · simp
  · exact h2.lt
/-- The index's block. -/
abbrev xrow (w : World) (x : Nat) (rp : Option Addr) (n : Int) : Prop := w.heap[x]? = some (.cells #[.pointer rp, .int .i64 n] 80 (0, 0))
theorem xrow.c0 {w : World} {x : Nat} {rp : Option Addr} {n : Int} (h : xrow w x rp n) : w.cell? ⟨x, 0, none⟩ = some (.pointer rp) := by simp [World.cell?, h]
theorem xrow.c1 {w : World} {x : Nat} {rp : Option Addr} {n : Int} (h : xrow w x rp n) : w.cell? ⟨x, 1, none⟩ = some (.int .i64 n) := by simp [World.cell?, h]
theorem xrow.free {w : World} {x : Nat} {rp : Option Addr} {n : Int} (h : xrow w x rp n) (j : Nat) : w.frozen? ⟨x, j, none⟩ = false := by simp [World.frozen?, h]
theorem xrow.lt {w : World} {x : Nat} {rp : Option Addr} {n : Int} (h : xrow w x rp n) : x < w.heap.size := (Array.getElem?_eq_some_iff.1 h).1
theorem xrow.below {w w' : World} {x : Nat} {rp : Option Addr} {n : Int} (h : xrow w x rp n) (hb : Below w.heap.size w w') : xrow w' x rp n := (hb.block x h.lt).trans h
theorem xrow.setRoot {w : World} {x : Nat} {rp : Option Addr} {n : Int} (h : xrow w x rp n) (q : Option Addr) : xrow (w.setCell ⟨x, 0, none⟩ (.pointer q)) x q n := heap_setCell_row h _
theorem xrow.setSize {w : World} {x : Nat} {rp : Option Addr} {n : Int} (h : xrow w x rp n) (m : Int) : xrow (w.setCell ⟨x, 1, none⟩ (.int .i64 m)) x rp m := heap_setCell_row h _
/-- The index's block is stored into: nothing else turns. -/
theorem Step.x {w : World} {x j : Nat} {v : Value} {F : List Nat} (hl : x < w.heap.size) (hn : (x :: F).Nodup) (hF : ∀ k ∈ F, k < w.heap.size) : Step w (w.setCell ⟨x, j, none⟩ v) (x :: F) (x :: F) := by
  refine ⟨((Upd.refl w (fun k => k ∈ x :: F)).setCell (.inr (by simp)) _), hn, fun k hk => .inl hk, fun k hk => ?_⟩
  have hz : (w.setCell ⟨x, j, none⟩ v).heap.size = w.heap.size := by simp [World.setCell]
  rw [hz]
  rcases List.mem_cons.1 hk with rfl | hk
  · exact hl
  · exact hF k hk
theorem Step.cons {w w' : World} {x : Nat} {F F' : List Nat} (h : Step w w' F F') (hn : (x :: F).Nodup) (hl : x < w.heap.size) : Step w w' (x :: F) (x :: F') := by
  have p : ∀ X : List Nat, (X ++ [x]).Perm (x :: X) := fun X => List.perm_append_comm
  exact (h.frame [x] ((p F).nodup_iff.2 hn) (by simpa using hl)).perm (p F) (p F')
theorem Nod.root (w : World) (b : Nat) : Nod ((w.alloc (.cells #[ptr b] 78)).alloc (.cells #[.slice none 0 0, .slice (some ⟨w.heap.size, 0, none⟩) 1 1] 125)) (w.heap.size + 1) (.slice none 0 0) (.slice (some ⟨w.heap.size, 0, none⟩) 1 1) [] [b] := by
  refine ⟨?_, World.ownsRow_nil _ _ _ _, ?_, by simp, by simp [nf, Value.ownBlock]⟩
  · have := row_alloc (w.alloc (.cells #[ptr b] 78)) #[.slice none 0 0, .slice (some ⟨w.heap.size, 0, none⟩) 1 1] 125
    rwa [World.size_alloc] at this
  · refine owns_of_row (cur := #[ptr b]) ?_ (Nat.le_refl _) (by unfold maxLen; omega) rfl rfl rfl
    exact (Below.heap_alloc _ _ w.heap.size (by simp)).trans (row_alloc w _ _)
theorem nf_root (b g : Nat) : nf b (.slice none 0 0) (.slice (some ⟨g, 0, none⟩) 1 1) = [b, g] := by simp [nf, Value.ownBlock]
theorem Tre.ne {w : World} {h b : Nat} {its L : List Itm} {F : List Nat} (ht : Tre w h b its L F) (hL : L ≠ []) (hi : 0 < h → 1 ≤ its.length) : 1 ≤ its.length := by
  cases h with
  | zero =>
    obtain ⟨_, _, _, rfl, _⟩ := ht
    cases L with
    | nil => exact absurd rfl hL
    | cons a l => simp
  | succ h => exact hi (by omega)

/-- A root that has one item too many is split beneath a new one. -/
theorem grow_root {W : World} {h b : Nat} {its L : List Itm} {F : List Nat} (ht : Tre W h b its L F) (hnd : F.Nodup) (h5 : its.length = 5) :
    Calls Tryz.prog 80 #[ptr (W.heap.size + 1), .int .i64 0] ((W.alloc (.cells #[ptr b] 78)).alloc (.cells #[.slice none 0 0, .slice (some ⟨W.heap.size, 0, none⟩) 1 1] 125)) fun e W2 => e = .returned (.tuple #[]) ∧ ∃ t F', Tre W2 (h + 1) (W.heap.size + 1) [t] L F' ∧ Step W W2 F F' := by
  have hb : Below W.heap.size W ((W.alloc (.cells #[ptr b] 78)).alloc (.cells #[.slice none 0 0, .slice (some ⟨W.heap.size, 0, none⟩) 1 1] 125)) := ((Below.refl _ W).alloc (Nat.le_refl _) _).alloc (by simp) _
  have hlt := ht.lt
  have hnd2 : (ff (W.heap.size + 1) (.slice none 0 0) (.slice (some ⟨W.heap.size, 0, none⟩) 1 1) ([] ++ (⟨b, its, L, F⟩ : KidD) :: [])).Nodup := by
    simp only [ff, nf_root, List.nil_append, List.flatMap_cons, List.flatMap_nil, List.append_nil]
    rw [List.nodup_append]
    refine ⟨by simp, hnd, fun a ha c hc e => ?_⟩
    have := hlt c hc
    simp at ha
    omega
  have := split_tre (W := (W.alloc (.cells #[ptr b] 78)).alloc (.cells #[.slice none 0 0, .slice (some ⟨W.heap.size, 0, none⟩) 1 1] 125)) (h := h) (A := []) (B := []) (k := ⟨b, its, L, F⟩) (C := []) (D := []) (Nod.root W b) rfl rfl (by simp) (ht.below hb) h5 hnd2 (by simp)
  refine this.mono ?_
  rintro e W2 ⟨rfl, t, F', T, hs⟩
  have hw : weave ([] ++ (⟨b, its, L, F⟩ : KidD) :: []) ([] ++ []) = L := by simp [weave, suf]
  rw [hw] at T
  refine ⟨rfl, t, F', T, (Upd.ofBelow hb).trans hs.upd (fun j hj hk => ?_), hs.nd, fun k hk => ?_, hs.lt⟩
  · simp only [ff, nf_root, List.nil_append, List.flatMap_cons, List.flatMap_nil, List.append_nil, List.mem_append, List.mem_cons, List.not_mem_nil, or_false] at hk
    rcases hk with (hk | hk) | hk
    · omega
    · omega
    · exact hk
  · rcases hs.sub k hk with hk | hk
    · simp only [ff, nf_root, List.nil_append, List.flatMap_cons, List.flatMap_nil, List.append_nil, List.mem_append, List.mem_cons, List.not_mem_nil, or_false] at hk
      rcases hk with (hk | hk) | hk
      · exact .inr (by omega)
      · exact .inr (by omega)
      · exact .inl hk
    · simp at hk
      exact .inr (by omega)
end Go.Proofs.YteeflkkoifgcbabGreat
/- The index's add. -/
namespace Go.Proofs.YteeflkkoifgcbabGreat
open Go Go.RowKit

/-- Ahead of the root's own add: there is a root, and the item's box lies beside. -/
structure AddM (w W : World) (x : Nat) (n : Int) (L : List Itm) (Ft : List Nat) (it : Itm) (u h b : Nat) (its : List Itm) (F : List Nat) : Prop where
  xr : xrow W x (some ⟨b, 0, none⟩) n
  t : Tre W h b its L F
  len : its.length ≤ 4
  pos : 0 < h → 1 ≤ its.length
  s : Step w W (x :: Ft) (x :: F)
  bx : W.heap[u]? = some (.cells #[.string it.key, it.mv] 97 (0, 0))
/-- Behind it. -/
structure AddN (w W : World) (x : Nat) (n : Int) (L' : List Itm) (Ft : List Nat) (h b : Nat) (its : List Itm) (F : List Nat) : Prop where
  xr : xrow W x (some ⟨b, 0, none⟩) n
  t : Tre W h b its L' F
  len : its.length ≤ 5
  pos : 1 ≤ its.length
  s : Step w W (x :: Ft) (x :: F)
theorem AddM.next {w W : World} {x : Nat} {n : Int} {L : List Itm} {Ft : List Nat} {it : Itm} {u h b : Nat} {its : List Itm} {F : List Nat} (H : AddM w W x n L Ft it u h b its F) (hit : isSl it.mv) (ha : Asc (keysI L)) (V : World) (hb : Below W.heap.size W V) :
    Calls Tryz.prog 79 #[ptr b, .agg #[.string it.key, it.mv]] V fun e w' => e = .returned (.tuple #[]) ∧ ∃ its' F', AddN w w' x n (insI L it) Ft h b its' F' := by
  have hnd := List.nodup_cons.1 H.s.nd
  refine (add_tre it hit h V b its L F (H.t.below hb) hnd.2 ha H.len).mono ?_
  rintro e w' ⟨rfl, its', F', T, q1, q2, s⟩
  have s' : Step W w' F F' := Step.from hb s hnd.2 H.t.lt
  refine ⟨rfl, its', F', (s'.upd.block x H.xr.lt hnd.1).trans H.xr, T, by have := H.len; omega, ?_, H.s.trans (s'.cons H.s.nd H.xr.lt)⟩
  exact T.ne (by intro e; have := congrArg List.length e; rw [insI_len] at this; simp at this) (fun h => by have := H.pos h; omega)
theorem AddM.old {w : World} {x : Nat} {n : Int} {L : List Itm} {Ft : List Nat} {h b : Nat} {its : List Itm} (it : Itm) (hx : xrow w x (some ⟨b, 0, none⟩) n) (ht : Tre w h b its L Ft) (h1 : 1 ≤ its.length) (h4 : its.length ≤ 4) (hnd : (x :: Ft).Nodup) : AddM w (w.alloc (.cells #[.string it.key, it.mv] 97)) x n L Ft it w.heap.size h b its Ft := by
  have hb : Below w.heap.size w (w.alloc (.cells #[.string it.key, it.mv] 97)) := (Below.refl _ w).alloc (Nat.le_refl _) _
  exact ⟨hx.below hb, ht.below hb, h4, fun _ => h1, Step.below hb hnd (fun k hk => by rcases List.mem_cons.1 hk with rfl | hk; exact hx.lt; exact ht.lt k hk), row_alloc w _ _⟩
theorem size_setCell (w : World) (p : Addr) (v : Value) : (w.setCell p v).heap.size = w.heap.size := by simp [World.setCell]
theorem AddM.new {w : World} {x : Nat} {n : Int} (it : Itm) (hx : xrow w x none n) : AddM w (((w.setCell ⟨x, 0, none⟩ (.pointer (some ⟨w.heap.size + 1, 0, none⟩))).alloc (.cells #[.string it.key, it.mv] 97)).alloc (.cells #[.slice none 0 0, .slice none 0 0] 125)) x n [] [] it w.heap.size 0 (w.heap.size + 1) [] [w.heap.size + 1] := by
  have hxl := hx.lt
  obtain ⟨V, hV⟩ : ∃ V, V = w.setCell ⟨x, 0, none⟩ (.pointer (some ⟨w.heap.size + 1, 0, none⟩)) := ⟨_, rfl⟩
  have hxV : xrow V x (some ⟨w.heap.size + 1, 0, none⟩) n := by rw [hV]; exact hx.setRoot _
  have hVz : V.heap.size = w.heap.size := by rw [hV]; exact size_setCell _ _ _
  have sV : Step w V [x] [x] := by rw [hV]; exact Step.x hxl (by simp) (by simp)
  rw [← hV]
  clear hV
  obtain ⟨W0, hW0⟩ : ∃ W0, W0 = V.alloc (.cells #[.string it.key, it.mv] 97) := ⟨_, rfl⟩
  have hb0 : Below V.heap.size V W0 := by rw [hW0]; exact (Below.refl _ V).alloc (Nat.le_refl _) _
  have hz : W0.heap.size = w.heap.size + 1 := by rw [hW0]; simp [hVz]
  have hr0 : W0.heap[w.heap.size]? = some (.cells #[.string it.key, it.mv] 97 (0, 0)) := by rw [hW0, ← hVz]; exact row_alloc V _ _
  rw [← hW0]
  clear hW0
  have hb1 : Below W0.heap.size W0 (W0.alloc (.cells #[.slice none 0 0, .slice none 0 0] 125)) := (Below.refl _ W0).alloc (Nat.le_refl _) _
  have hN := Nod.fresh W0
  rw [hz] at hN
  refine ⟨(hxV.below hb0).below hb1, ⟨_, _, hN, rfl, (nf_fresh _).symm⟩, by simp, by omega, ?_, (hb1.block _ (by omega)).trans hr0⟩
  have s0 : Step V W0 [x] [x] := Step.below hb0 (by simp) (by simp; omega)
  have s1 : Step W0 (W0.alloc (.cells #[.slice none 0 0, .slice none 0 0] 125)) [x] ([x] ++ [W0.heap.size]) := Step.new _ (by simp) (by simp; omega)
  rw [hz] at s1
  exact (sV.trans s0).trans s1
/-- What the index's add leaves. -/
def IAdd (w w' : World) (x : Nat) (n : Int) (L' : List Itm) (Ft : List Nat) : Prop := ∃ rp' F', xrow w' x rp' (n + 1) ∧ Root w' rp' L' F' ∧ Step w w' (x :: Ft) (x :: F')

set_option maxRecDepth 100000 in
set_option maxHeartbeats 4000000 in
theorem iadd_any {w : World} {x : Nat} {rp : Option Addr} {n : Int} {L : List Itm} {Ft : List Nat} (hx : xrow w x rp n) (hR : Root w rp L Ft) (hnd : (x :: Ft).Nodup) (ha : Asc (keysI L)) (it : Itm) (hit : isSl it.mv) (hn0 : 0 ≤ n) (hn1 : n ≤ 1000000000) :
    Calls Tryz.prog 66 #[ptr x, .agg #[.string it.key, it.mv]] w fun e w' => e = .returned (.tuple #[]) ∧ IAdd w w' x n (insI L it) Ft := by
  obtain ⟨key, mv⟩ := it
  obtain ⟨mp, mn, mc, hmv⟩ := hit
  dsimp only at hmv
  subst hmv
  dsimp only
  have c0 := hx.c0
  have f0 := hx.free 0
  have hxl := hx.lt
  have hb0 : Below w.heap.size w (w.alloc (.cells #[.string key, .slice mp mn mc] 97)) := (Below.refl _ w).alloc (Nat.le_refl _) _
  have c0' := (hx.below hb0).c0
  have c0'' : ∀ o, ((w.alloc (.cells #[.string key, .slice mp mn mc] 97)).alloc o).cell? ⟨x, 0, none⟩ = some (.pointer rp) := fun o => ((hx.below hb0).below ((Below.refl _ _).alloc (Nat.le_refl _) o)).c0
  have f0'' : ∀ o, ((w.alloc (.cells #[.string key, .slice mp mn mc] 97)).alloc o).frozen? ⟨x, 0, none⟩ = false := fun o => ((hx.below hb0).below ((Below.refl _ _).alloc (Nat.le_refl _) o)).free 0
  have hst : (rp = none ∧ L = [] ∧ Ft = []) ∨ ∃ h b its, rp = some ⟨b, 0, none⟩ ∧ AddM w (w.alloc (.cells #[.string key, .slice mp mn mc] 97)) x n L Ft ⟨key, .slice mp mn mc⟩ w.heap.size h b its Ft := by
    rcases hR with h | ⟨h, b, its, rfl, ht, h1, h4⟩
    · exact .inl h
    · exact .inr ⟨h, b, its, rfl, AddM.old ⟨key, .slice mp mn mc⟩ hx ht h1 h4 hnd⟩
  have HA := Hid.mk'' ha
  have HIT : Hid (isSl (.slice mp mn mc)) := ⟨mp, mn, mc, rfl⟩
  go_enter Tryz.func66, Tryz.ntmps66
  rcases hst with ⟨rfl, rfl, rfl⟩ | ⟨h, b, its, rfl, HM⟩
  · have HM := AddM.new ⟨key, .slice mp mn mc⟩ hx
    clear hR hx ha hnd
    go_upto_region 3 with (fail)
    obtain ⟨W1, hW1⟩ : ∃ W1, W1 = ((w.setCell ⟨x, 0, none⟩ (.pointer (some ⟨w.heap.size + 1, 0, none⟩))).alloc (.cells #[.string key, .slice mp mn mc] 97)).alloc (.cells #[.slice none 0 0, .slice none 0 0] 125) := ⟨_, rfl⟩
    rw [← hW1] at HM ⊢
    clear hW1
    clear c0 f0 c0' c0'' f0'' hb0
    have r0 := HM.xr.c0
    have e0 : W1.cell? ⟨w.heap.size, 0, none⟩ = some (.string key) := by simp [World.cell?, HM.bx]
    have e1 : W1.cell? ⟨w.heap.size, 1, none⟩ = some (.slice mp mn mc) := by simp [World.cell?, HM.bx]
    have hnx := fun V hb => HM.next HIT.out HA.out V hb
    dsimp only at hnx
    clear HM
    go_cut [] from 14 to 19 (fun wx => Hid (∃ its' F', AddN w wx x n (insI [] ⟨key, .slice mp mn mc⟩) [] 0 (w.heap.size + 1) its' F'))
    case first =>
      go_region_with (go_at_call 79; refine (hnx _ (Below.refl _ _).drew).mono ?_; rintro e w3 ⟨rfl, hR⟩)
      all_goals (go_wp2_with fail; go_meet; case rel => exact hR)
    case rest =>
    obtain ⟨its2, F2, HQ⟩ := hcut
    clear hnx r0 e0 e1
    generalize wc = W2 at *
    have q0 := HQ.xr.c0
    have q1 := HQ.xr.c1
    have qf := HQ.xr.free 1
    have qf0 := HQ.xr.free 0
    obtain ⟨niv, nkv, nks, hN, _, _⟩ := HQ.t.nod
    have n0 := hN.c0
    obtain ⟨np, nc, hniv, _, _⟩ := owns_form hN.items
    rw [hniv] at n0
    clear hN
    have hsz : IntKind.i64.wrap (n + 1) = n + 1 := by rw [IntKind.wrap_i64]; omega
    have hndF := List.nodup_cons.1 HQ.s.nd
    have hx2 := HQ.xr.lt
    by_cases h5 : its2.length ≤ 4
    · have h5' : ¬ (4 < (its2.length : Int)) := by omega
      have HQ' := Hid.mk'' HQ
      clear HQ
      go_wp2
      go_end0
      refine ⟨rfl, _, F2, HQ'.out.xr.setSize _, .inr ⟨_, _, its2, rfl, HQ'.out.t.agree (fun k hk => heap_setCell_other _ _ _ k _ (fun e => hndF.1 (by rw [← e]; exact hk))), HQ'.out.pos, h5⟩, HQ'.out.s.trans (Step.x HQ'.out.xr.lt HQ'.out.s.nd HQ'.out.t.lt)⟩
    · have h5' : (4 : Int) < (its2.length : Int) := by omega
      have HS : Hid (Tre (W2.setCell ⟨x, 0, none⟩ (.pointer (some ⟨W2.heap.size + 1, 0, none⟩))) 0 (w.heap.size + 1) its2 (insI [] ⟨key, .slice mp mn mc⟩) F2) := HQ.t.agree (fun k hk => heap_setCell_other _ _ _ k _ (fun e => hndF.1 (by rw [← e]; exact hk)))
      have hgr := grow_root HS.out hndF.2 (by have := HQ.len; omega)
      rw [size_setCell] at hgr
      have HX : Hid (xrow (W2.setCell ⟨x, 0, none⟩ (.pointer (some ⟨W2.heap.size + 1, 0, none⟩))) x (some ⟨W2.heap.size + 1, 0, none⟩) n) := HQ.xr.setRoot _
      have HX2 : Hid (Step W2 (W2.setCell ⟨x, 0, none⟩ (.pointer (some ⟨W2.heap.size + 1, 0, none⟩))) (x :: F2) (x :: F2)) := Step.x HQ.xr.lt HQ.s.nd HQ.t.lt
      obtain ⟨V, hV⟩ : ∃ V, V = W2.setCell ⟨x, 0, none⟩ (.pointer (some ⟨W2.heap.size + 1, 0, none⟩)) := ⟨_, rfl⟩
      have HQ' := Hid.mk'' HQ
      clear HQ
      go_upto_region 6 with (fail)
      have v0 : (((W2.setCell ⟨x, 0, none⟩ (.pointer (some ⟨W2.heap.size + 1, 0, none⟩))).alloc (.cells #[.pointer (some ⟨w.heap.size + 1, 0, none⟩)] 78)).alloc (.cells #[.slice none 0 0, .slice (some ⟨W2.heap.size, 0, none⟩) 1 1] 125)).cell? ⟨x, 0, none⟩ = some (.pointer (some ⟨W2.heap.size + 1, 0, none⟩)) := (HX.out.below (((Below.refl _ _).alloc (Nat.le_refl _) _).alloc (by simp) _)).c0
      rw [← hV] at HS hgr HX HX2 v0 ⊢
      clear hV q0 q1 qf qf0 n0
      go_wp2_with (go_at_call 80; refine hgr.mono ?_; rintro e w5 ⟨rfl, t, F5, T5, s5⟩; have hx5 : xrow w5 x (some ⟨W2.heap.size + 1, 0, none⟩) n := (s5.upd.block x HX.out.lt hndF.1).trans HX.out; have x5a := hx5.c1; have x5f := hx5.free 1)
      have sc := s5.cons HX2.out.nd HX.out.lt
      have hx5 : xrow w5 x (some ⟨W2.heap.size + 1, 0, none⟩) n := (s5.upd.block x HX.out.lt hndF.1).trans HX.out
      go_end0
      exact ⟨rfl, _, F5, hx5.setSize _, .inr ⟨_, _, [t], rfl, T5.agree (fun k hk => heap_setCell_other _ _ _ k _ (fun e => (List.nodup_cons.1 sc.nd).1 (by rw [← e]; exact hk))), by simp, by simp⟩, ((HQ'.out.s.trans HX2.out).trans sc).trans (Step.x hx5.lt sc.nd T5.lt)⟩
  · clear hR hx ha hnd
    go_upto_region 3 with (fail)
    obtain ⟨W1, hW1⟩ : ∃ W1, W1 = w.alloc (.cells #[.string key, .slice mp mn mc] 97) := ⟨_, rfl⟩
    rw [← hW1] at HM ⊢
    clear hW1
    clear c0 f0 c0' c0'' f0'' hb0
    have r0 := HM.xr.c0
    have e0 : W1.cell? ⟨w.heap.size, 0, none⟩ = some (.string key) := by simp [World.cell?, HM.bx]
    have e1 : W1.cell? ⟨w.heap.size, 1, none⟩ = some (.slice mp mn mc) := by simp [World.cell?, HM.bx]
    have hnx := fun V hb => HM.next HIT.out HA.out V hb
    dsimp only at hnx
    clear HM
    go_cut [] from 14 to 19 (fun wx => Hid (∃ its' F', AddN w wx x n (insI L ⟨key, .slice mp mn mc⟩) Ft h b its' F'))
    case first =>
      go_region_with (go_at_call 79; refine (hnx _ (Below.refl _ _).drew).mono ?_; rintro e w3 ⟨rfl, hR⟩)
      all_goals (go_wp2_with fail; go_meet; case rel => exact hR)
    case rest =>
    obtain ⟨its2, F2, HQ⟩ := hcut
    clear hnx r0 e0 e1
    generalize wc = W2 at *
    have q0 := HQ.xr.c0
    have q1 := HQ.xr.c1
    have qf := HQ.xr.free 1
    have qf0 := HQ.xr.free 0
    obtain ⟨niv, nkv, nks, hN, _, _⟩ := HQ.t.nod
    have n0 := hN.c0
    obtain ⟨np, nc, hniv, _, _⟩ := owns_form hN.items
    rw [hniv] at n0
    clear hN
    have hsz : IntKind.i64.wrap (n + 1) = n + 1 := by rw [IntKind.wrap_i64]; omega
    have hndF := List.nodup_cons.1 HQ.s.nd
    have hx2 := HQ.xr.lt
    by_cases h5 : its2.length ≤ 4
    · have h5' : ¬ (4 < (its2.length : Int)) := by omega
      have HQ' := Hid.mk'' HQ
      clear HQ
      go_wp2
      go_end0
      refine ⟨rfl, _, F2, HQ'.out.xr.setSize _, .inr ⟨_, _, its2, rfl, HQ'.out.t.agree (fun k hk => heap_setCell_other _ _ _ k _ (fun e => hndF.1 (by rw [← e]; exact hk))), HQ'.out.pos, h5⟩, HQ'.out.s.trans (Step.x HQ'.out.xr.lt HQ'.out.s.nd HQ'.out.t.lt)⟩
    · have h5' : (4 : Int) < (its2.length : Int) := by omega
      have HS : Hid (Tre (W2.setCell ⟨x, 0, none⟩ (.pointer (some ⟨W2.heap.size + 1, 0, none⟩))) h b its2 (insI L ⟨key, .slice mp mn mc⟩) F2) := HQ.t.agree (fun k hk => heap_setCell_other _ _ _ k _ (fun e => hndF.1 (by rw [← e]; exact hk)))
      have hgr := grow_root HS.out hndF.2 (by have := HQ.len; omega)
      rw [size_setCell] at hgr
      have HX : Hid (xrow (W2.setCell ⟨x, 0, none⟩ (.pointer (some ⟨W2.heap.size + 1, 0, none⟩))) x (some ⟨W2.heap.size + 1, 0, none⟩) n) := HQ.xr.setRoot _
      have HX2 : Hid (Step W2 (W2.setCell ⟨x, 0, none⟩ (.pointer (some ⟨W2.heap.size + 1, 0, none⟩))) (x :: F2) (x :: F2)) := Step.x HQ.xr.lt HQ.s.nd HQ.t.lt
      obtain ⟨V, hV⟩ : ∃ V, V = W2.setCell ⟨x, 0, none⟩ (.pointer (some ⟨W2.heap.size + 1, 0, none⟩)) := ⟨_, rfl⟩
      have HQ' := Hid.mk'' HQ
      clear HQ
      go_upto_region 6 with (fail)
      have v0 : (((W2.setCell ⟨x, 0, none⟩ (.pointer (some ⟨W2.heap.size + 1, 0, none⟩))).alloc (.cells #[.pointer (some ⟨b, 0, none⟩)] 78)).alloc (.cells #[.slice none 0 0, .slice (some ⟨W2.heap.size, 0, none⟩) 1 1] 125)).cell? ⟨x, 0, none⟩ = some (.pointer (some ⟨W2.heap.size + 1, 0, none⟩)) := (HX.out.below (((Below.refl _ _).alloc (Nat.le_refl _) _).alloc (by simp) _)).c0
      rw [← hV] at HS hgr HX HX2 v0 ⊢
      clear hV q0 q1 qf qf0 n0
      go_wp2_with (go_at_call 80; refine hgr.mono ?_; rintro e w5 ⟨rfl, t, F5, T5, s5⟩; have hx5 : xrow w5 x (some ⟨W2.heap.size + 1, 0, none⟩) n := (s5.upd.block x HX.out.lt hndF.1).trans HX.out; have x5a := hx5.c1; have x5f := hx5.free 1)
      have sc := s5.cons HX2.out.nd HX.out.lt
      have hx5 : xrow w5 x (some ⟨W2.heap.size + 1, 0, none⟩) n := (s5.upd.block x HX.out.lt hndF.1).trans HX.out
      go_end0
      exact ⟨rfl, _, F5, hx5.setSize _, .inr ⟨_, _, [t], rfl, T5.agree (fun k hk => heap_setCell_other _ _ _ k _ (fun e => (List.nodup_cons.1 sc.nd).1 (by rw [← e]; exact hk))), by simp, by simp⟩, ((HQ'.out.s.trans HX2.out).trans sc).trans (Step.x hx5.lt sc.nd T5.lt)⟩
end Go.Proofs.YteeflkkoifgcbabGreat
