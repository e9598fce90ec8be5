/- Trim: the way through the tree. -/
import Derived.Test.YteeflkkoifgcbabGreatNN
namespace Go.Proofs.YteeflkkoifgcbabGreat
open Go Go.RowKit Go.Shelf
attribute [local go_sem] Oper.semAt_some

theorem klt_nil (k : ByteArray) : klt k ⟨#[]⟩ = false := by
  unfold klt
  cases k.data.toList <;> rfl
def hasKN (l : List ByteArray) (k : ByteArray) : Bool := l.any fun x => decide (x = k)
theorem hasKN_iff {l : List ByteArray} {k : ByteArray} : hasKN l k = true ↔ k ∈ l := by
  unfold hasKN
  rw [List.any_eq_true]
  constructor
  · rintro ⟨x, hx, h⟩
    have : x = k := by simpa using h
    rw [← this]; exact hx
  · intro h
    exact ⟨k, h, by simp⟩
theorem hasK_no {l : List ByteArray} {k : ByteArray} (h : k ∉ l) : hasKN l k = false := by
  cases hh : hasKN l k
  · rfl
  · exact absurd (hasKN_iff.1 hh) h
theorem gone_step {R' : List IM} {gone : List ByteArray} {j : Nat} {key : ByteArray} (hj : gone[j]? = some key) : (R'.filter fun r => !hasKN (gone.take j) r.it.key).filter (fun s => !decide (s.it.key = key)) = R'.filter fun r => !hasKN (gone.take (j + 1)) r.it.key := by
  rw [List.filter_filter]
  congr 1
  funext r
  have : gone.take (j + 1) = gone.take j ++ [key] := by
    rw [List.take_add_one, hj]; rfl
  rw [this]
  have e : hasKN (gone.take j ++ [key]) r.it.key = (hasKN (gone.take j) r.it.key || decide (key = r.it.key)) := by simp [hasKN]
  rw [e]
  by_cases h1 : r.it.key = key
  · simp [h1]
  · simp [h1, Ne.symm h1]
theorem gone_in {R' : List IM} {gone : List ByteArray} (hn : gone.Nodup) (hs : ∀ k ∈ gone, k ∈ keysR R') {j : Nat} {key : ByteArray} (hj : gone[j]? = some key) : key ∈ keysR (R'.filter fun r => !hasKN (gone.take j) r.it.key) := by
  obtain ⟨r, hr, he⟩ := List.mem_map.1 (hs key (List.mem_of_getElem? hj))
  refine List.mem_map.2 ⟨r, List.mem_filter.2 ⟨hr, ?_⟩, he⟩
  have : key ∉ gone.take j := fun hm => by
    obtain ⟨i, hi⟩ := List.getElem?_of_mem hm
    rw [List.getElem?_take] at hi
    split at hi
    · rename_i hlt
      have := (List.getElem?_inj (by have := (List.getElem?_eq_some_iff.1 hi).1; exact this) hn).1 (hi.trans hj.symm)
      omega
    · cases hi
  rw [he, hasK_no this]
  rfl
theorem gone_end {R' : List IM} {gone : List ByteArray} (h : ∀ r ∈ R', (r.it.key ∈ gone ↔ r.ms = [])) : (R'.filter fun r => !hasKN (gone.take gone.length) r.it.key) = R'.filter fun r => !r.ms.isEmpty := by
  rw [List.take_length]
  refine List.filter_congr fun r hr => ?_
  have := h r hr
  cases hms : r.ms with
  | nil => rw [hasKN_iff.2 (this.2 hms)]; rfl
  | cons a l => rw [hasK_no (fun e => by have := this.1 e; rw [hms] at this; cases this)]; rfl
set_option maxRecDepth 100000 in
set_option maxHeartbeats 4000000 in
theorem trim_any {w : World} {x : Nat} {R : List IM} {F : List Nat} (H : Ix w x R F) (hMA : ∀ r ∈ R, MAscH r.ms ∧ r.ms.length ≤ 1000000) (rev : Int) (hR : R.length ≤ 1000000) :
    Calls Tryz.prog 26 #[ptr x, .int .i64 rev] w fun e w' => e = .returned (.tuple #[]) ∧ TrimP w x R F rev w' := by
  obtain ⟨rp, Ft, hx, hRt, hF⟩ := H.ex
  have hnd0 := H.nd
  rw [hF] at hnd0
  have hndF : Ft.Nodup := (List.nodup_append.1 (List.nodup_cons.1 hnd0).2).1
  have hxFt : x ∉ Ft := fun h => (List.nodup_cons.1 hnd0).1 (List.mem_append_left _ h)
  have hFl : ∀ k ∈ F, k < w.heap.size := H.lt
  have hFF : ∀ k ∈ x :: Ft, k ∈ F := fun k hk => by
    rw [hF]
    rcases List.mem_cons.1 hk with rfl | hk
    · simp
    · simp [hk]
  have hFtl : ∀ k ∈ x :: Ft, k < w.heap.size := fun k hk => hFl k (hFF k hk)
  have hasc := H.asc
  have hai : Asc (keysI (R.map IM.it)) := by rw [keysI_map]; exact H.asc
  have c0 := hx.c0
  have hdd : ∀ k : Nat, (Fence.wide.depth.isSome = true → 1 ≤ k) := fun k h => by cases h
  refine (callsIn_wide (n := 3)).1 ?_
  refine callsIn_of_wp_marks Tryz.func26 rfl trivial ?_ rfl
  simp only [Tryz.ntmps26, List.size_toArray, List.length_cons, List.length_nil, Nat.reduceAdd, Nat.reduceSub, Array.replicate_succ, Array.replicate_zero, List.push_toArray, List.append_toArray, List.nil_append, List.cons_append]
  have hb0 : Below w.heap.size w (w.alloc (.cells #[.int .i64 rev] 3)) := (Below.refl _ w).alloc (Nat.le_refl _) _
  have ca : ∀ o o', ((w.alloc o).alloc o').cell? ⟨x, 0, none⟩ = some (.pointer rp) := fun o o' => (hx.below (((Below.refl _ w).alloc (Nat.le_refl _) o).alloc (by simp) o')).c0
  gi_wp2_with (refine ⟨trivial, ?_⟩; gi_at_call 38; refine (from_in _ _ _ _).mono ?_; rintro e w' ⟨rfl, rfl⟩)
  try simp only [World.size_alloc]
  obtain ⟨WL, hWL⟩ : ∃ WL, WL = (((w.alloc (.cells #[.int .i64 rev] 3)).alloc (.cells #[.slice none 0 0] 51)).alloc (.cells #[.pointer rp] 78)).alloc (.cells #[.string ⟨#[]⟩] 9) := ⟨_, rfl⟩
  have hbL : Below w.heap.size w WL := by rw [hWL]; exact ((((Below.refl _ w).alloc (Nat.le_refl _) _).alloc (by simp) _).alloc (by simp; omega) _).alloc (by simp; omega) _
  have hzL : WL.heap.size = w.heap.size + 4 := by rw [hWL]; simp
  have r0 : WL.heap[w.heap.size]? = some (.cells #[.int .i64 rev] 3 (0, 0)) := by
    rw [hWL, Below.heap_alloc _ _ _ (by simp; omega), Below.heap_alloc _ _ _ (by simp; omega), Below.heap_alloc _ _ _ (by simp)]; exact row_alloc w _ _
  have r1 : WL.heap[w.heap.size + 1]? = some (.cells #[.slice none 0 0] 51 (0, 0)) := by
    rw [hWL, Below.heap_alloc _ _ _ (by simp), Below.heap_alloc _ _ _ (by simp)]
    have := row_alloc (w.alloc (.cells #[.int .i64 rev] 3)) #[.slice none 0 0] 51
    rwa [World.size_alloc] at this
  have r2 : WL.heap[w.heap.size + 1 + 1]? = some (.cells #[.pointer rp] 78 (0, 0)) := by
    rw [hWL, Below.heap_alloc _ _ _ (by simp)]
    have := row_alloc ((w.alloc (.cells #[.int .i64 rev] 3)).alloc (.cells #[.slice none 0 0] 51)) #[.pointer rp] 78
    rwa [World.size_alloc, World.size_alloc] at this
  have r3 : WL.heap[w.heap.size + 1 + 1 + 1]? = some (.cells #[.string ⟨#[]⟩] 9 (0, 0)) := by
    rw [hWL]
    have := row_alloc (((w.alloc (.cells #[.int .i64 rev] 3)).alloc (.cells #[.slice none 0 0] 51)).alloc (.cells #[.pointer rp] 78)) #[.string ⟨#[]⟩] 9
    rwa [World.size_alloc, World.size_alloc, World.size_alloc] at this
  rw [← hWL]
  clear hWL
  obtain ⟨hT, bT, nT, hTree, hseq⟩ := seq_root2 hRt hndF hai ⟨#[]⟩ 2 (w.heap.size + 1 + 1) (w.heap.size + 1 + 1 + 1) WL hbL (by simp [World.cell?, r2]) (by simp [World.cell?, r3])
  have hJ0 : TJ w x rp R.length hT bT nT R F Ft rev [] R (.slice none 0 0) [] WL := by
    refine ⟨⟨fun hne => ?_, KpT.of_block fun k hk => hbL.block k (hFtl k (by simp [hk])), rfl, fun r hr => ?_, hMA, ?_, fun k hk => ?_, hx.below hbL, Upd.ofBelow hbL⟩, rfl, r1, World.ownsRow_nil _ _ _ _, fun k hk => (by cases hk), r0, by omega, Nat.le_refl _⟩
    · obtain ⟨its, _, T, hl, _⟩ := hTree (by simpa using hne)
      exact ⟨its, hl, T.below hbL⟩
    · obtain ⟨hM, hp⟩ := H.mks r hr
      obtain ⟨g, c, e, _⟩ := owns_form1 hM hp
      exact ⟨g, c, e, ownsRow_upd hM (Upd.ofBelow (S := fun _ => False) hbL) (fun _ _ h => h)⟩
    · exact (List.nodup_append.1 (List.nodup_cons.1 hnd0).2).2.1
    · refine .inl ⟨by rw [hF]; simp only [List.mem_cons, List.mem_append]; exact .inr (.inr hk), fun hm => ?_⟩
      rcases List.mem_cons.1 hm with rfl | hm
      · exact (List.nodup_cons.1 hnd0).1 (List.mem_append_right _ hk)
      · exact (List.nodup_append.1 (List.nodup_cons.1 hnd0).2).2.2 k hm k hk rfl
  refine wpIn_rangeFunc_ownG (w0 := WL) rfl (by decide) (gf := 58) (lb := #[.pointer (some ⟨w.heap.size + 1 + 1, 0, none⟩), .pointer (some ⟨w.heap.size + 1 + 1 + 1, 0, none⟩)]) rfl trivial (enters_of Tryz.func58 (by kernel_rfl) rfl)
    hseq KpS.t (fun W l o o' hl _ _ _ => KpS.b (fun k hk => Nat.lt_of_lt_of_le (hFtl k (by simp [hk])) hbL.size) W l o' hl) (Below.refl _ _) (fun _ => rfl)
    (fun pre W => ∃ R' v gone, TJ w x rp R.length hT bT nT R F Ft rev (pre.map fun a => a.it.key) R' v gone W)
    (fun _ _ _ => False)
    ?hI ?hIx ?h0
    (fun a => { tmps := #[ptr x, .int .i64 rev, undef, .pointer (some ⟨w.heap.size, 0, none⟩), .pointer (some ⟨w.heap.size + 1, 0, none⟩), .pointer (some (encA a)), undef, undef, ptr x, .pointer (some ⟨x, 0, none⟩), .pointer (some ⟨x, 0, none⟩), .pointer rp, .func (.func 58) #[] #[.pointer (some ⟨w.heap.size + 1 + 1, 0, none⟩), .pointer (some ⟨w.heap.size + 1 + 1 + 1, 0, none⟩)], .pointer (some (encA a)), undef, undef, undef, undef, undef, undef, undef, undef, undef, undef, undef, undef, undef, undef, undef, undef, undef, undef, undef, undef, undef, undef, undef, undef, undef, undef, undef, undef, undef, undef, undef, undef], defers := [] }) ?assign ?body ?done ?stop
  case hI =>
    rintro s W W' row ⟨R', v, gone, J⟩ hg hr
    exact ⟨R', v, gone, J.grown hFtl hg (fun r e => by have := hr r e; rw [hzL] at this; exact this)⟩
  case hIx =>
    rintro c s W W' row h
    cases h
  case h0 => exact ⟨R, _, [], hJ0⟩
  case assign =>
    intro l a W K hK
    gi_wp2
    exact hK
  case body =>
    rintro l pre a W ⟨R', v, gone, J⟩ hlt
    have hmix : Tryz.prog.follows .mixedOrders = true := by kernel_rfl
    obtain ⟨its, hrp, T0, _⟩ := hTree (fun e => by
      obtain ⟨X, Z, hXZ, _⟩ := a.ok.put
      have := congrArg List.length (hXZ.symm.trans e)
      simp at this)
    obtain ⟨g, c, ms, e1, e2, hM, m1, m2, hagl, hnx⟩ := J.next T0 hndF hasc hFF hFl hxFt a
    have k2 : W.cell? ⟨w.heap.size, 0, none⟩ = some (.int .i64 rev) := by simp [World.cell?, J.rv]
    have hlen : gone.length ≤ 1000000 := by
      have h1 : (filt ⟨#[]⟩ (R.map IM.it)).length ≤ (R.map IM.it).length := List.length_filter_le _ _
      have h2 := J.len
      simp at h1 h2; omega
    have hneed := (needed_any g c ms rev W.drew (ownsRow_upd hM (Upd.ofBelow (S := fun _ => False) (Below.refl _ W).drew) (fun _ _ h => h)) m1 m2).mono (R' := fun e V => ∃ g' c', e = .returned (.slice (some ⟨g', 0, none⟩) (cutL rev ms).length c') ∧ V.cell? ⟨a.g, a.i * 2 + 1, none⟩ = some (.slice (some ⟨g, 0, none⟩) ms.length c) ∧ V.frozen? ⟨a.g, a.i * 2 + 1, none⟩ = false ∧ Hid (TMid w x rp R.length hT bT nT R F Ft rev (pre.map fun a => a.it.key) a.it.key a.g a.i ms v gone W (V.setCell ⟨a.g, a.i * 2 + 1, none⟩ (.slice (some ⟨g', 0, none⟩) (cutL rev ms).length c')))) (by
      rintro e V ⟨v', rfl, hNP⟩
      have hNP' := hNP.after (w := W) (Below.refl _ W).drew
      obtain ⟨⟨g', c', rfl⟩, hMid⟩ := hnx V v' hNP'
      exact ⟨g', c', rfl, (hNP'.2.cell (p := ⟨a.g, a.i * 2 + 1, none⟩) hagl).trans e1, (hNP'.2.frozen (p := ⟨a.g, a.i * 2 + 1, none⟩) hagl).trans e2, hMid⟩)
    obtain ⟨ti, hti, hz0, hz1, hz2⟩ := info_parts info9
    have HOK : Hid (∀ W', TFin w x rp R.length hT bT nT R F Ft rev ((pre.map fun a => a.it.key) ++ [a.it.key]) W W' → KeepsFrom WL.heap.size W W' ∧ KpS w Ft W W' ∧ ∃ R' v gone, TJ w x rp R.length hT bT nT R F Ft rev ((pre ++ [a]).map fun a => a.it.key) R' v gone W') := fun W' hW => by
      rw [hzL, List.map_append]; exact hW
    clear hnx J hM m1 m2 hJ0 hseq hTree T0 hMA hRt H hnd0 hndF hFF hFl hFtl hasc hai hx hbL r0 r1 r2 r3 hb0 hxFt hF hlt hR hrp
    gi_wp2
    rename_i K2 hK2
    have KEY : ∀ (V : World) (g' c' : Nat), V.cell? ⟨a.g, a.i * 2 + 1, none⟩ = some (.slice (some ⟨g, 0, none⟩) ms.length c) → V.frozen? ⟨a.g, a.i * 2 + 1, none⟩ = false → Hid (TMid w x rp R.length hT bT nT R F Ft rev (pre.map fun a => a.it.key) a.it.key a.g a.i ms v gone W (V.setCell ⟨a.g, a.i * 2 + 1, none⟩ (.slice (some ⟨g', 0, none⟩) (cutL rev ms).length c'))) →
        K2 { tmps := #[ptr x, .int .i64 rev, undef, .pointer (some ⟨w.heap.size, 0, none⟩), .pointer (some ⟨w.heap.size + 1, 0, none⟩), .pointer (some (encA a)), undef, undef, ptr x, .pointer (some ⟨x, 0, none⟩), .pointer (some ⟨x, 0, none⟩), .pointer rp, .func (.func 58) #[] #[.pointer (some ⟨w.heap.size + 1 + 1, 0, none⟩), .pointer (some ⟨w.heap.size + 1 + 1 + 1, 0, none⟩)], .pointer (some (encA a)), .pointer (some (encA a)), .pointer (some (encA a)), .pointer (some (encA a)), .pointer (some ⟨a.g, a.i * 2 + 1, none⟩), .slice (some ⟨g, 0, none⟩) ms.length c, .int .i64 rev, .slice (some ⟨g', 0, none⟩) (cutL rev ms).length c', .pointer (some (encA a)), .pointer (some ⟨a.g, a.i * 2 + 1, none⟩), undef, undef, undef, undef, undef, undef, undef, undef, undef, undef, undef, undef, undef, undef, undef, undef, undef, undef, undef, undef, undef, undef, undef], defers := [] } (V.setCell ⟨a.g, a.i * 2 + 1, none⟩ (.slice (some ⟨g', 0, none⟩) (cutL rev ms).length c')) := by
      intro V g' c' v1 v2 HMid
      refine hK2 _ _ ?_
      clear hK2 K2 hneed e1 e2 k2
      by_cases hm : cutL rev ms = []
      · have hml : (cutL rev ms).length = 0 := by rw [hm]; rfl
        rw [hml] at HMid ⊢
        have HM := Hid.mk'' hm
        clear hm hml
        gi_wp2
        clear hagl v1 v2
        generalize V.setCell ⟨a.g, a.i * 2 + 1, none⟩ (.slice (some ⟨g', 0, none⟩) 0 c') = W5 at *
        obtain ⟨k0, q1, q2, q6, _, hgn⟩ := HMid.out
        have HG := Hid.mk'' (hgn HM.out)
        clear HMid hgn
        have k2 : W5.cell? ⟨w.heap.size + 1, 0, none⟩ = some v := by simp [World.cell?, q1]
        have ca1 : ∀ o, (W5.alloc o).cell? ⟨w.heap.size + 1, 0, none⟩ = some v := fun o => (((Below.refl _ W5).alloc (Nat.le_refl _) o).cell (p := ⟨w.heap.size + 1, 0, none⟩) (by show w.heap.size + 1 < W5.heap.size; omega)).trans k2
        have HRW : Hid (∀ V, Below W5.heap.size W5 V → V.ownsRow (w.heap.size + 4) 9 1 v gone.length (strs gone)) := fun V hb => ownsRow_upd q2 (Upd.ofBelow (S := fun _ => False) hb) (fun _ _ h => h)
        have HSR : Hid (∀ V, V.heap[W5.heap.size]? = some (.cells #[.string a.it.key] 9 (0, 0)) → Src Tryz.prog 1 51 (.slice (some ⟨W5.heap.size, 0, none⟩) 1 1) 1 (strs [a.it.key]) V) := fun V hr => Src.ofSlice V Tryz.underlying51 ⟨W5.heap.size, 0, none⟩ 1 1 _ rfl (fun j u hj => by
          rw [Addr.add_lit, Nat.zero_add, cell_of_row _ _ _ _ _ _ hr]; simpa using hj) (fun u hu => by simp at hu; subst hu; rfl)
        have HCL : Hid (∀ V w', Below W5.heap.size W5 V → Upd V w' (fun k => some k = v.ownBlock) → w'.cell? ⟨w.heap.size + 1, 0, none⟩ = some v ∧ w'.frozen? ⟨w.heap.size + 1, 0, none⟩ = false) := fun V w' hb hu => by
          have hl : w.heap.size + 1 < W5.heap.size := by omega
          have h1 := (hu.block _ (Nat.lt_of_lt_of_le hl hb.size) (fun e => by have := (ownBlock_ge q2 e.symm).1; omega)).trans ((hb.block _ hl).trans q1)
          exact ⟨by simp [World.cell?, h1], by simp [World.frozen?, h1]⟩
        have HFIN : Hid (∀ V2 w' nv, Below W5.heap.size W5 V2 → Upd V2 w' (fun k => some k = v.ownBlock) → (nv.ownBlock = v.ownBlock ∨ nv.ownBlock = some V2.heap.size) → w'.ownsRow (w.heap.size + 4) 9 1 nv (gone.length + 1) (strs gone ++ strs [a.it.key]) → KeepsFrom WL.heap.size W (w'.setCell ⟨w.heap.size + 1, 0, none⟩ nv) ∧ KpS w Ft W (w'.setCell ⟨w.heap.size + 1, 0, none⟩ nv) ∧ ∃ R' v gone, TJ w x rp R.length hT bT nT R F Ft rev ((pre ++ [a]).map fun a => a.it.key) R' v gone (w'.setCell ⟨w.heap.size + 1, 0, none⟩ nv)) := fun V2 w' nv h1 h2 h3 h4 => HOK.out _ (HG.out V2 w' nv h1 h2 h3 h4)
        clear HG q1
        refine wpIn_region_any (by kernel_rfl) ?_
        change wpAnyIn _ _ _ _ _ _ _ _ _ (World.drew _)
        refine wpAnyIn_ready (rs := [0, 1]) (by kernel_rfl) (by simp) ?_
        refine AllReadyIn.cons rfl (fun K hK => ?_) ?_
        · go_simp
          refine hK _ _ ?_
          clear hK K
          refine wpAnyIn_ready (rs := [1]) (by kernel_rfl) (by simp) ?_
          refine AllReadyIn.cons rfl (fun K hK => ?_) AllReadyIn.nil
          go_simp
          refine hK _ _ ?_
          clear hK K
          refine wpAnyIn_ready (rs := [2]) (by kernel_rfl) (by simp) ?_
          refine AllReadyIn.cons rfl (fun K hK => ?_) AllReadyIn.nil
          go_simp
          refine hK _ _ ?_
          clear hK K
          refine wpAnyIn_ready (rs := [3]) (by kernel_rfl) (by simp) ?_
          refine AllReadyIn.cons rfl (fun K hK => ?_) AllReadyIn.nil
          go_simp
          refine hK _ _ ?_
          clear hK K
          refine wpAnyIn_ready (rs := [4]) (by kernel_rfl) (by simp) ?_
          refine AllReadyIn.cons rfl (fun K hK => ?_) AllReadyIn.nil
          go_simp
          refine hK _ _ ?_
          clear hK K
          refine wpAnyIn_ready (rs := [5]) (by kernel_rfl) (by simp) ?_
          refine AllReadyIn.cons rfl (fun K hK => ?_) AllReadyIn.nil
          go_simp
          refine hK _ _ ?_
          clear hK K
          refine wpAnyIn_ready (rs := [6]) (by kernel_rfl) (by simp) ?_
          refine AllReadyIn.cons rfl (fun K hK => ?_) AllReadyIn.nil
          refine stepIn_appS _ rfl _ _ 51 51 rfl (w.heap.size + 4) 9 _ _ 1 Tryz.underlying51 hti hz0 hz1 rfl (by rw [hz2]; decide) v gone.length _ rfl (HRW.out _ (by repeat (first | exact Below.refl _ _ | refine Below.drew ?_ | refine Below.alloc ?_ (by simp) _))) (.slice (some ⟨W5.heap.size, 0, none⟩) 1 1) rfl 1 (strs [a.it.key]) (HSR.out _ (by first | exact row_alloc (World.drew (World.drew _)) _ _ | exact row_alloc (World.drew _) _ _)) (by omega) (by simp; omega) ?_
          intro v' w' p1 p2 p3 p4
          obtain ⟨p5, p6⟩ := HCL.out _ w' (by repeat (first | exact Below.refl _ _ | refine Below.drew ?_ | refine Below.alloc ?_ (by simp) _)) p2
          obtain ⟨g2, c2, rfl, _, _⟩ := owns_formB p1 (by omega)
          show K _ _
          refine hK _ _ ?_
          clear hK K
          refine wpAnyIn_ready (rs := [7]) (by kernel_rfl) (by simp) ?_
          refine AllReadyIn.cons rfl (fun K hK => ?_) AllReadyIn.nil
          go_simp
          refine hK _ _ ?_
          clear hK K
          refine wpAnyIn_done (by kernel_rfl) ?_ _
          gi_wp2; exact HFIN.out _ _ _ (by repeat (first | exact Below.refl _ _ | refine Below.drew ?_ | refine Below.alloc ?_ (by simp) _)) p2 p3 p1
        refine AllReadyIn.cons rfl (fun K hK => ?_) AllReadyIn.nil
        go_simp
        refine hK _ _ ?_
        clear hK K
        refine wpAnyIn_ready (rs := [0, 2]) (by kernel_rfl) (by simp) ?_
        refine AllReadyIn.cons rfl (fun K hK => ?_) ?_
        · go_simp
          refine hK _ _ ?_
          clear hK K
          refine wpAnyIn_ready (rs := [2]) (by kernel_rfl) (by simp) ?_
          refine AllReadyIn.cons rfl (fun K hK => ?_) AllReadyIn.nil
          go_simp
          refine hK _ _ ?_
          clear hK K
          refine wpAnyIn_ready (rs := [3]) (by kernel_rfl) (by simp) ?_
          refine AllReadyIn.cons rfl (fun K hK => ?_) AllReadyIn.nil
          go_simp
          refine hK _ _ ?_
          clear hK K
          refine wpAnyIn_ready (rs := [4]) (by kernel_rfl) (by simp) ?_
          refine AllReadyIn.cons rfl (fun K hK => ?_) AllReadyIn.nil
          go_simp
          refine hK _ _ ?_
          clear hK K
          refine wpAnyIn_ready (rs := [5]) (by kernel_rfl) (by simp) ?_
          refine AllReadyIn.cons rfl (fun K hK => ?_) AllReadyIn.nil
          go_simp
          refine hK _ _ ?_
          clear hK K
          refine wpAnyIn_ready (rs := [6]) (by kernel_rfl) (by simp) ?_
          refine AllReadyIn.cons rfl (fun K hK => ?_) AllReadyIn.nil
          refine stepIn_appS _ rfl _ _ 51 51 rfl (w.heap.size + 4) 9 _ _ 1 Tryz.underlying51 hti hz0 hz1 rfl (by rw [hz2]; decide) v gone.length _ rfl (HRW.out _ (by repeat (first | exact Below.refl _ _ | refine Below.drew ?_ | refine Below.alloc ?_ (by simp) _))) (.slice (some ⟨W5.heap.size, 0, none⟩) 1 1) rfl 1 (strs [a.it.key]) (HSR.out _ (by first | exact row_alloc (World.drew (World.drew _)) _ _ | exact row_alloc (World.drew _) _ _)) (by omega) (by simp; omega) ?_
          intro v' w' p1 p2 p3 p4
          obtain ⟨p5, p6⟩ := HCL.out _ w' (by repeat (first | exact Below.refl _ _ | refine Below.drew ?_ | refine Below.alloc ?_ (by simp) _)) p2
          obtain ⟨g2, c2, rfl, _, _⟩ := owns_formB p1 (by omega)
          show K _ _
          refine hK _ _ ?_
          clear hK K
          refine wpAnyIn_ready (rs := [7]) (by kernel_rfl) (by simp) ?_
          refine AllReadyIn.cons rfl (fun K hK => ?_) AllReadyIn.nil
          go_simp
          refine hK _ _ ?_
          clear hK K
          refine wpAnyIn_done (by kernel_rfl) ?_ _
          gi_wp2; exact HFIN.out _ _ _ (by repeat (first | exact Below.refl _ _ | refine Below.drew ?_ | refine Below.alloc ?_ (by simp) _)) p2 p3 p1
        refine AllReadyIn.cons rfl (fun K hK => ?_) AllReadyIn.nil
        go_simp
        refine hK _ _ ?_
        clear hK K
        refine wpAnyIn_ready (rs := [0, 3]) (by kernel_rfl) (by simp) ?_
        refine AllReadyIn.cons rfl (fun K hK => ?_) ?_
        · go_simp
          refine hK _ _ ?_
          clear hK K
          refine wpAnyIn_ready (rs := [3]) (by kernel_rfl) (by simp) ?_
          refine AllReadyIn.cons rfl (fun K hK => ?_) AllReadyIn.nil
          go_simp
          refine hK _ _ ?_
          clear hK K
          refine wpAnyIn_ready (rs := [4]) (by kernel_rfl) (by simp) ?_
          refine AllReadyIn.cons rfl (fun K hK => ?_) AllReadyIn.nil
          go_simp
          refine hK _ _ ?_
          clear hK K
          refine wpAnyIn_ready (rs := [5]) (by kernel_rfl) (by simp) ?_
          refine AllReadyIn.cons rfl (fun K hK => ?_) AllReadyIn.nil
          go_simp
          refine hK _ _ ?_
          clear hK K
          refine wpAnyIn_ready (rs := [6]) (by kernel_rfl) (by simp) ?_
          refine AllReadyIn.cons rfl (fun K hK => ?_) AllReadyIn.nil
          refine stepIn_appS _ rfl _ _ 51 51 rfl (w.heap.size + 4) 9 _ _ 1 Tryz.underlying51 hti hz0 hz1 rfl (by rw [hz2]; decide) v gone.length _ rfl (HRW.out _ (by repeat (first | exact Below.refl _ _ | refine Below.drew ?_ | refine Below.alloc ?_ (by simp) _))) (.slice (some ⟨W5.heap.size, 0, none⟩) 1 1) rfl 1 (strs [a.it.key]) (HSR.out _ (by first | exact row_alloc (World.drew (World.drew _)) _ _ | exact row_alloc (World.drew _) _ _)) (by omega) (by simp; omega) ?_
          intro v' w' p1 p2 p3 p4
          obtain ⟨p5, p6⟩ := HCL.out _ w' (by repeat (first | exact Below.refl _ _ | refine Below.drew ?_ | refine Below.alloc ?_ (by simp) _)) p2
          obtain ⟨g2, c2, rfl, _, _⟩ := owns_formB p1 (by omega)
          show K _ _
          refine hK _ _ ?_
          clear hK K
          refine wpAnyIn_ready (rs := [7]) (by kernel_rfl) (by simp) ?_
          refine AllReadyIn.cons rfl (fun K hK => ?_) AllReadyIn.nil
          go_simp
          refine hK _ _ ?_
          clear hK K
          refine wpAnyIn_done (by kernel_rfl) ?_ _
          gi_wp2; exact HFIN.out _ _ _ (by repeat (first | exact Below.refl _ _ | refine Below.drew ?_ | refine Below.alloc ?_ (by simp) _)) p2 p3 p1
        refine AllReadyIn.cons rfl (fun K hK => ?_) AllReadyIn.nil
        go_simp
        refine hK _ _ ?_
        clear hK K
        refine wpAnyIn_ready (rs := [0, 4]) (by kernel_rfl) (by simp) ?_
        refine AllReadyIn.cons rfl (fun K hK => ?_) ?_
        · go_simp
          refine hK _ _ ?_
          clear hK K
          refine wpAnyIn_ready (rs := [4]) (by kernel_rfl) (by simp) ?_
          refine AllReadyIn.cons rfl (fun K hK => ?_) AllReadyIn.nil
          go_simp
          refine hK _ _ ?_
          clear hK K
          refine wpAnyIn_ready (rs := [5]) (by kernel_rfl) (by simp) ?_
          refine AllReadyIn.cons rfl (fun K hK => ?_) AllReadyIn.nil
          go_simp
          refine hK _ _ ?_
          clear hK K
          refine wpAnyIn_ready (rs := [6]) (by kernel_rfl) (by simp) ?_
          refine AllReadyIn.cons rfl (fun K hK => ?_) AllReadyIn.nil
          refine stepIn_appS _ rfl _ _ 51 51 rfl (w.heap.size + 4) 9 _ _ 1 Tryz.underlying51 hti hz0 hz1 rfl (by rw [hz2]; decide) v gone.length _ rfl (HRW.out _ (by repeat (first | exact Below.refl _ _ | refine Below.drew ?_ | refine Below.alloc ?_ (by simp) _))) (.slice (some ⟨W5.heap.size, 0, none⟩) 1 1) rfl 1 (strs [a.it.key]) (HSR.out _ (by first | exact row_alloc (World.drew (World.drew _)) _ _ | exact row_alloc (World.drew _) _ _)) (by omega) (by simp; omega) ?_
          intro v' w' p1 p2 p3 p4
          obtain ⟨p5, p6⟩ := HCL.out _ w' (by repeat (first | exact Below.refl _ _ | refine Below.drew ?_ | refine Below.alloc ?_ (by simp) _)) p2
          obtain ⟨g2, c2, rfl, _, _⟩ := owns_formB p1 (by omega)
          show K _ _
          refine hK _ _ ?_
          clear hK K
          refine wpAnyIn_ready (rs := [7]) (by kernel_rfl) (by simp) ?_
          refine AllReadyIn.cons rfl (fun K hK => ?_) AllReadyIn.nil
          go_simp
          refine hK _ _ ?_
          clear hK K
          refine wpAnyIn_done (by kernel_rfl) ?_ _
          gi_wp2; exact HFIN.out _ _ _ (by repeat (first | exact Below.refl _ _ | refine Below.drew ?_ | refine Below.alloc ?_ (by simp) _)) p2 p3 p1
        refine AllReadyIn.cons rfl (fun K hK => ?_) AllReadyIn.nil
        go_simp
        refine hK _ _ ?_
        clear hK K
        refine wpAnyIn_ready (rs := [0, 5]) (by kernel_rfl) (by simp) ?_
        refine AllReadyIn.cons rfl (fun K hK => ?_) ?_
        · go_simp
          refine hK _ _ ?_
          clear hK K
          refine wpAnyIn_ready (rs := [5]) (by kernel_rfl) (by simp) ?_
          refine AllReadyIn.cons rfl (fun K hK => ?_) AllReadyIn.nil
          go_simp
          refine hK _ _ ?_
          clear hK K
          refine wpAnyIn_ready (rs := [6]) (by kernel_rfl) (by simp) ?_
          refine AllReadyIn.cons rfl (fun K hK => ?_) AllReadyIn.nil
          refine stepIn_appS _ rfl _ _ 51 51 rfl (w.heap.size + 4) 9 _ _ 1 Tryz.underlying51 hti hz0 hz1 rfl (by rw [hz2]; decide) v gone.length _ rfl (HRW.out _ (by repeat (first | exact Below.refl _ _ | refine Below.drew ?_ | refine Below.alloc ?_ (by simp) _))) (.slice (some ⟨W5.heap.size, 0, none⟩) 1 1) rfl 1 (strs [a.it.key]) (HSR.out _ (by first | exact row_alloc (World.drew (World.drew _)) _ _ | exact row_alloc (World.drew _) _ _)) (by omega) (by simp; omega) ?_
          intro v' w' p1 p2 p3 p4
          obtain ⟨p5, p6⟩ := HCL.out _ w' (by repeat (first | exact Below.refl _ _ | refine Below.drew ?_ | refine Below.alloc ?_ (by simp) _)) p2
          obtain ⟨g2, c2, rfl, _, _⟩ := owns_formB p1 (by omega)
          show K _ _
          refine hK _ _ ?_
          clear hK K
          refine wpAnyIn_ready (rs := [7]) (by kernel_rfl) (by simp) ?_
          refine AllReadyIn.cons rfl (fun K hK => ?_) AllReadyIn.nil
          go_simp
          refine hK _ _ ?_
          clear hK K
          refine wpAnyIn_done (by kernel_rfl) ?_ _
          gi_wp2; exact HFIN.out _ _ _ (by repeat (first | exact Below.refl _ _ | refine Below.drew ?_ | refine Below.alloc ?_ (by simp) _)) p2 p3 p1
        refine AllReadyIn.cons rfl (fun K hK => ?_) AllReadyIn.nil
        go_simp
        refine hK _ _ ?_
        clear hK K
        refine wpAnyIn_ready (rs := [0]) (by kernel_rfl) (by simp) ?_
        refine AllReadyIn.cons rfl (fun K hK => ?_) AllReadyIn.nil
        go_simp
        refine hK _ _ ?_
        clear hK K
        refine wpAnyIn_ready (rs := [6]) (by kernel_rfl) (by simp) ?_
        refine AllReadyIn.cons rfl (fun K hK => ?_) AllReadyIn.nil
        refine stepIn_appS _ rfl _ _ 51 51 rfl (w.heap.size + 4) 9 _ _ 1 Tryz.underlying51 hti hz0 hz1 rfl (by rw [hz2]; decide) v gone.length _ rfl (HRW.out _ (by repeat (first | exact Below.refl _ _ | refine Below.drew ?_ | refine Below.alloc ?_ (by simp) _))) (.slice (some ⟨W5.heap.size, 0, none⟩) 1 1) rfl 1 (strs [a.it.key]) (HSR.out _ (by first | exact row_alloc (World.drew (World.drew _)) _ _ | exact row_alloc (World.drew _) _ _)) (by omega) (by simp; omega) ?_
        intro v' w' p1 p2 p3 p4
        obtain ⟨p5, p6⟩ := HCL.out _ w' (by repeat (first | exact Below.refl _ _ | refine Below.drew ?_ | refine Below.alloc ?_ (by simp) _)) p2
        obtain ⟨g2, c2, rfl, _, _⟩ := owns_formB p1 (by omega)
        show K _ _
        refine hK _ _ ?_
        clear hK K
        refine wpAnyIn_ready (rs := [7]) (by kernel_rfl) (by simp) ?_
        refine AllReadyIn.cons rfl (fun K hK => ?_) AllReadyIn.nil
        go_simp
        refine hK _ _ ?_
        clear hK K
        refine wpAnyIn_done (by kernel_rfl) ?_ _
        gi_wp2; exact HFIN.out _ _ _ (by repeat (first | exact Below.refl _ _ | refine Below.drew ?_ | refine Below.alloc ?_ (by simp) _)) p2 p3 p1
      · have hml : 0 < (cutL rev ms).length := List.length_pos_iff.2 hm
        have HM := Hid.mk'' hm
        clear hm
        generalize (cutL rev ms).length = m at *
        gi_wp2
        exact HOK.out _ (HMid.out.full HM.out)
    gi_region_with_o (refine ⟨trivial, ?_⟩; gi_at_call 39; refine (CallsIn.inRound l (callsIn_wide.2 hneed)).mono ?_; rintro e V ⟨g', c', rfl, v1, v2, HMid⟩)
    all_goals exact KEY V g' c' v1 v2 HMid
  case done =>
    rintro D ys W hD hS ⟨R', v, gone, J⟩ hK
    rw [filt_all (fun x _ => klt_nil x.key)] at hS
    have hkeys : (ys.map fun a => a.it.key) = keysR R := by
      have := congrArg (List.map Itm.key) hS
      simpa [keysR, List.map_map, Function.comp_def] using this
    rw [hkeys] at J
    obtain ⟨gi1, gi2, gi3, gi4⟩ := gone_iff hasc J.st
    have hgl : gone.length ≤ 1000000 := by have h1 := J.len; simp at h1; omega
    have k2 : W.cell? ⟨w.heap.size + 1, 0, none⟩ = some v := by simp [World.cell?, J.bx]
    have hlenR : R'.length = R.length := by have := congrArg List.length J.ti.keys; simpa using this
    have HT0 : Hid (TL w W x F (fun k => k ∈ R'.flatMap ownM ∨ v.ownBlock = some k ∨ k = D) (R'.filter fun r => !hasKN (gone.take 0) r.it.key) W) := by
      have e0 : (R'.filter fun r => !hasKN (gone.take 0) r.it.key) = R' := by rw [List.filter_eq_self]; intro r _; rfl
      rw [e0]
      refine ⟨⟨rp, Ft, by rw [hlenR]; exact J.ti.xr, ?_, List.nodup_cons.2 ⟨hxFt, hndF⟩, fun k hk => .inl (hFF k hk), fun k hk hm => ?_⟩, by rw [J.ti.keys]; exact hasc, fun k hk => ⟨?_, rfl⟩, J.ti.upd⟩
      · by_cases hne : R' = []
        · have hRn : R = [] := List.eq_nil_of_length_eq_zero (by rw [← hlenR, hne]; rfl)
          subst hne
          subst hRn
          rcases hRt with h | ⟨h, b, its, h1, h2, h3, h4⟩
          · exact .inl h
          · have := h2.its_sub.length_le
            rw [List.map_nil, List.length_nil] at this
            omega
        · obtain ⟨its', e1, e2⟩ := J.ti.t hne
          obtain ⟨its, e3, e4, e5, e6, e7⟩ := hTree (fun e => hne (by
            have : R.length = 0 := by have := congrArg List.length e; simpa using this
            exact List.eq_nil_of_length_eq_zero (by rw [hlenR]; exact this)))
          exact .inr ⟨hT, bT, its', e3, e2, by omega, by omega⟩
      · rcases hk with hk | hk | rfl
        · rcases J.ti.own k hk with ⟨_, h⟩ | h
          · exact h hm
          · have := hFtl k hm; omega
        · have h1 := (ownBlock_ge J.row hk).1
          have := hFtl k hm; omega
        · have := hFtl k hm
          have h2 := hbL.size
          omega
      · rcases hk with hk | hk | rfl
        · obtain ⟨r, hr, hk⟩ := List.mem_flatMap.1 hk
          simp only [ownM, Option.mem_toList] at hk
          obtain ⟨_, _, _, hM⟩ := J.ti.mks r hr
          exact owns_lt hM hk
        · obtain ⟨_, c, f, hh⟩ := ownBlock_ge J.row hk
          exact (Array.getElem?_eq_some_iff.1 hh).1
        · exact (Array.getElem?_eq_some_iff.1 hK).1
    have HROW : Hid (∀ W2 Ri, TL w W x F (fun k => k ∈ R'.flatMap ownM ∨ v.ownBlock = some k ∨ k = D) Ri W2 → W2.ownsRow (w.heap.size + 4) 9 1 v gone.length (strs gone)) := fun W2 Ri hT => ownsRow_agree J.row (fun k hk => (hT.keep k (.inr (.inl hk))).2)
    have HEND : Hid (∀ W2, TL w W x F (fun k => k ∈ R'.flatMap ownM ∨ v.ownBlock = some k ∨ k = D) (R'.filter fun r => !hasKN (gone.take gone.length) r.it.key) W2 → W2.heap[D]? = some (.deferred (some [])) ∧ TrimP w x R F rev (W2.putObj D (.deferred none))) := fun W2 hT => by
      rw [gone_end gi1] at hT
      exact ⟨(hT.keep D (.inr (.inr rfl))).2.trans hK, hT.ix J.ti (fun k hk => .inl hk) (.inr (.inr rfl)) hK hasc J.st (grownBy_putObj' W2 D (.deferred none)) (by have := hbL.size; omega)⟩
    obtain ⟨vp, vc, hv⟩ := owns_formB0 J.row
    have hvp : 0 < gone.length → ∃ g, vp = some ⟨g, 0, none⟩ := fun h => by
      obtain ⟨g, c, e, _⟩ := owns_formB J.row h
      rw [hv] at e
      cases e
      exact ⟨g, rfl⟩
    subst hv
    have HN := Hid.mk'' gi2
    have HS := Hid.mk'' gi3
    have HLR : Hid (R'.length ≤ 1000000) := (show R'.length ≤ 1000000 by omega)
    clear hJ0 hseq hTree hMA hRt H hnd0 hndF hFF hFl hFtl hasc hai hx r0 r1 r2 r3 hb0 hxFt hF gi1 gi2 gi3 gi4 J hS hkeys hlenR ca c0 hR
    gi_wp2
    gi_loopw [38] (fun i wr => ∃ j : Nat, j ≤ gone.length ∧ i = .int .i64 j ∧ Hid (TL w W x F (fun k => k ∈ R'.flatMap ownM ∨ (Value.slice vp gone.length vc).ownBlock = some k ∨ k = D) (R'.filter fun r => !hasKN (gone.take j) r.it.key) wr)) (fun i _ => gone.length - (intOf i).toNat)
    case atStart => exact ⟨0, Nat.zero_le _, rfl, HT0⟩
    case round =>
      clear HT0
      obtain ⟨j, hj, rfl, HT⟩ := hrel
      by_cases hlt : j < gone.length
      · obtain ⟨g, rfl⟩ := hvp (by omega)
        obtain ⟨key, hkey⟩ : ∃ key, gone[j]? = some key := ⟨_, List.getElem?_eq_getElem hlt⟩
        have hcell : wr.cell? ⟨g, j, none⟩ = some (.string key) := by
          have := (HROW.out _ _ HT.out).cells (g := g) rfl j (.string key) (by simp [hkey])
          simpa only [Addr.add_lit, Nat.zero_add] using this
        have hdrop := HT.out.drop key (gone_in HN.out HS.out hkey) (Nat.le_trans (List.length_filter_le _ _) HLR.out)
        rw [gone_step hkey] at hdrop
        clear HT
        gi_wp2_with (refine ⟨trivial, ?_⟩; gi_at_call 40; refine (callsIn_wide.2 hdrop).mono ?_; rintro e W2 ⟨rfl, HT2⟩)
        go_roundw
        case rel => exact ⟨j + 1, by omega, by congr 1, HT2⟩
        case measure => simp [intOf]; omega
      · obtain rfl : j = gone.length := by omega
        obtain ⟨hK2, hP⟩ := HEND.out _ HT.out
        have HP := Hid.mk'' hP
        clear hP HT
        gi_wp2
        refine ⟨by simp, .inl ⟨_, _, rfl, run_takeDeferred hK2, ?_⟩⟩
        exact ⟨_, by simp [results, go_sem], rfl, HP.out⟩
  case stop =>
    rintro D c pre W hD hS h
    cases h
end Go.Proofs.YteeflkkoifgcbabGreat
