/- The document's Trim: its data. · The document's Trim. -/
import Derived.Test.YtilginghgigiiaaZ3
namespace Go.Proofs.Ytilginghgigiiaa
open Go Go.RowKit

/-- How many marks are at rev or before. -/
def ctm (ms : List Mk) (rev : Int) : Nat := if hrm ms rev then plm ms rev + 1 else plm ms rev
theorem ctm_le (ms : List Mk) (rev : Int) : ctm ms rev ≤ ms.length := by
  unfold ctm
  have := plm_le ms rev
  split
  · have := hrm_lt (ms := ms) (r := rev) (by assumption); omega
  · exact this
theorem ctm_iff {ms : List Mk} {rev : Int} (hs : MAsc ms) {j : Nat} {m : Mk} (hj : ms[j]? = some m) : j < ctm ms rev ↔ m.1 ≤ rev := by
  rcases Nat.lt_trichotomy j (plm ms rev) with h | h | h
  · have := plm_lt h hj
    unfold ctm
    split <;> constructor <;> intro _ <;> omega
  · have h1 : ms[plm ms rev]? = some m := by rw [← h]; exact hj
    have h2 := plm_not h1
    have h3 : hrm ms rev = decide (m.1 = rev) := by unfold hrm; rw [h1]
    unfold ctm
    rw [h3]
    by_cases e : m.1 = rev
    · rw [decide_eq_true e, if_pos rfl]
      constructor <;> intro _ <;> omega
    · rw [decide_eq_false e, if_neg (by decide)]
      constructor <;> intro _ <;> omega
  · obtain ⟨m0, h0⟩ : ∃ m0, ms[plm ms rev]? = some m0 := ⟨_, List.getElem?_eq_getElem (Nat.lt_trans h (List.getElem?_eq_some_iff.1 hj).1)⟩
    have h1 := plm_not h0
    have h2 := masc_get hs h h0 hj
    unfold ctm
    split <;> constructor <;> intro _ <;> omega
theorem cutM_zero {ms : List Mk} {rev : Int} (h : ctm ms rev = 0) : cutM ms rev = 0 := by
  unfold ctm at h
  unfold cutM
  split at h
  · omega
  · rw [if_neg (by assumption), if_pos h]
theorem cutM_pos {ms : List Mk} {rev : Int} {m : Mk} (h : 0 < ctm ms rev) (hm : ms[ctm ms rev - 1]? = some m) : cutM ms rev = if m.2 then ctm ms rev else ctm ms rev - 1 := by
  have e : cutM ms rev = cutA ms (ctm ms rev - 1) := by
    unfold ctm at h ⊢
    unfold cutM
    split
    · rw [Nat.add_sub_cancel]
    · rw [if_neg (by rw [if_neg (by assumption)] at h; omega)]
  rw [e]
  unfold cutA
  rw [hm]
  have : ctm ms rev - 1 + 1 = ctm ms rev := by omega
  simp only [this]
theorem trimD_snoc (rev : Int) (D : Dat) (key : ByteArray) (ms : List Mk) : trimD rev (D ++ [(key, ms)]) = trimD rev D ++ if (cutL rev ms).isEmpty then [] else [(key, cutL rev ms)] := by
  unfold trimD
  rw [List.map_append, List.filter_append]
  congr 1
  simp only [List.map_cons, List.map_nil, List.filter_cons, List.filter_nil]
  cases (cutL rev ms).isEmpty <;> rfl
/-- The rows that Trim has kept so far. -/
structure TrI (w W : World) (B : Nat) (rev : Int) (R : List IM) (i : Nat) (v : Value) (R' : List IM) : Prop where
  row : W.ownsRow B 69 2 v R'.length (itsC (R'.map IM.it))
  mks : ∀ r ∈ R', RMk W B r.it.mv r.ms
  data : dat R' = trimD rev (dat (R.take i))
  below : Below w.heap.size w W
  own : ∀ b, Value.ownBlock v = some b → w.heap.size ≤ b
theorem dat_take_succ {R : List IM} {i : Nat} {r : IM} (hr : R[i]? = some r) : dat (R.take (i + 1)) = dat (R.take i) ++ [(r.it.key, r.ms)] := by
  rw [List.take_add_one, hr]; simp [dat]
theorem TrI.nil (w : World) (B : Nat) (rev : Int) (R : List IM) : TrI w w B rev R 0 (.slice none 0 0) [] :=
  ⟨World.ownsRow_nil _ _ _ _, fun _ h => (by cases h), by simp [dat, trimD], Below.refl _ _, fun _ h => (by cases h)⟩
/-- A row that goes. -/
theorem TrI.skip {w W V : World} {B : Nat} {rev : Int} {R R' : List IM} {i : Nat} {v : Value} (h : TrI w W B rev R i v R') (hb : Below W.heap.size W V) {r : IM} (hr : R[i]? = some r) (hc : cutL rev r.ms = []) : TrI w V B rev R (i + 1) v R' :=
  ⟨ownsRow_upd h.row (Upd.ofBelow (S := fun _ => False) hb) (fun _ _ h => h), fun r hr => ownsRow_upd (h.mks r hr) (Upd.ofBelow (S := fun _ => False) hb) (fun _ _ h => h), by rw [dat_take_succ hr, trimD_snoc, hc, h.data]; simp, h.below.trans (hb.mono h.below.size), h.own⟩
/-- A row that stays: V is before the append, w' behind it. -/
theorem TrI.add {w W V w' : World} {B : Nat} {rev : Int} {R R' : List IM} {i : Nat} {v v' mv : Value} (h : TrI w W B rev R i v R') (hb : Below W.heap.size W V) {r : IM} (hr : R[i]? = some r) (hc : cutL rev r.ms ≠ []) (hm : RMk V B mv (cutL rev r.ms))
    (q1 : w'.ownsRow B 69 2 v' (R'.length + 1) (itsC (R'.map IM.it) ++ itsC [⟨r.it.key, mv⟩])) (q2 : Upd V w' (fun k => some k = v.ownBlock)) (q3 : v'.ownBlock = v.ownBlock ∨ v'.ownBlock = some V.heap.size) :
    TrI w w' B rev R (i + 1) v' (R' ++ [⟨⟨r.it.key, mv⟩, cutL rev r.ms⟩]) := by
  have hne : ∀ {u : Value} {ms : List Mk}, RMk V B u ms → ∀ j, u.ownBlock = some j → ¬ (some j = v.ownBlock) := fun hu j hj e => by
    obtain ⟨_, _, _, h1⟩ := ownBlock_ge hu hj
    obtain ⟨_, _, _, h2⟩ := ownBlock_ge (ownsRow_upd h.row (Upd.ofBelow (S := fun _ => False) hb) (fun _ _ h => h)) e.symm
    exact kind_ne h1 h2 (by decide) rfl
  refine ⟨?_, fun s hs => ?_, ?_, ?_, fun b hb' => ?_⟩
  · rw [List.map_append, itsC_append, List.length_append, List.length_singleton]
    exact q1
  · rcases List.mem_append.1 hs with hs | hs
    · have hu : RMk V B s.it.mv s.ms := ownsRow_upd (h.mks s hs) (Upd.ofBelow (S := fun _ => False) hb) (fun _ _ h => h)
      exact ownsRow_upd hu q2 (hne hu)
    · rw [List.mem_singleton] at hs
      subst hs
      exact ownsRow_upd hm q2 (hne hm)
  · rw [dat_take_succ hr, trimD_snoc, if_neg (by simpa using hc), ← h.data]
    simp [dat]
  · have hV := h.below.trans (hb.mono h.below.size)
    exact hV.trans (q2.below hV.size (fun k hk e => by have := h.own k e.symm; omega))
  · rcases q3 with e | e
    · exact h.own b (by rw [← e]; exact hb')
    · rw [hb'] at e
      have := Option.some.inj e
      have := h.below.size
      have := hb.size
      omega
end Go.Proofs.Ytilginghgigiiaa
namespace Go.Proofs.Ytilginghgigiiaa
open Go Go.RowKit

theorem RMk.src {w V : World} {B g c : Nat} {ms : List Mk} (h : RMk w B (.slice (some ⟨g, 0, none⟩) ms.length c) ms) (hb : Below w.heap.size w V) (k c' : Nat) : Src Try.prog 2 41 (.slice (some ⟨g, k * 2, none⟩) (ms.length - k) c') (ms.length - k) (mksC (ms.drop k)) V := by
  have hV : RMk V B (.slice (some ⟨g, 0, none⟩) ms.length c) ms := ownsRow_upd h (Upd.ofBelow (S := fun _ => False) hb) (fun _ _ h => h)
  refine Src.ofSlice V Try.underlying41 ⟨g, k * 2, none⟩ (ms.length - k) c' _ (by rw [mksC_len]; simp) (fun j u hj => ?_) (mksC_mem _)
  rw [← mksC_drop, List.getElem?_drop] at hj
  have := hV.cells (g := g) rfl _ u hj
  simpa only [Addr.add_lit, Nat.zero_add] using this
set_option maxRecDepth 100000 in
set_option maxHeartbeats 4000000 in
/-- Trim. -/
theorem rtrim_any {w : World} {B y : Nat} {R : List IM} {rv : Value} (h : Rx w B y R rv) (hn : R.length ≤ 1000000) (hms : ∀ r ∈ R, MAsc r.ms ∧ r.ms.length ≤ 1000000 ∧ 0 < r.ms.length) (hB : B ≤ w.heap.size) (rev : Int) :
    Calls Try.prog 13 #[ptr y, .int .i64 rev] w fun e w' => e = .returned (.tuple #[]) ∧ RPut w B y rv (trimD rev (dat R)) w' := by
  obtain ⟨ti, hti, hz0, hz1, hz2⟩ := info_parts info37
  obtain ⟨tj, htj, hy0, hy1, hy2⟩ := info_parts info69
  obtain ⟨p, c, hv⟩ := h.form
  have HA : Hid (∀ W, Below w.heap.size w W → W.cell? ⟨y, 0, none⟩ = some rv ∧ W.frozen? ⟨y, 0, none⟩ = false ∧ ∀ j r, R[j]? = some r → ∃ g mg mc, p = some ⟨g, 0, none⟩ ∧ W.cell? ⟨g, j * 2, none⟩ = some (.string r.it.key) ∧ W.cell? ⟨g, j * 2 + 1, none⟩ = some (.slice (some ⟨mg, 0, none⟩) r.ms.length mc) ∧ RMk W B (.slice (some ⟨mg, 0, none⟩) r.ms.length mc) r.ms ∧ r.ms.length ≤ mc ∧ mc ≤ 9223372036854775807 ∧ r.it.mv = .slice (some ⟨mg, 0, none⟩) r.ms.length mc) := fun W hb => ⟨(h.below hb).c0, (h.below hb).free, fun j r hj => by
    obtain ⟨g, c', hv', _, _, h1, h2, _⟩ := (h.below hb).at_ hj
    rw [hv] at hv'
    cases hv'
    have hM := (h.below hb).mks r (List.mem_of_getElem? hj)
    obtain ⟨_, _, hp⟩ := hms r (List.mem_of_getElem? hj)
    rcases hM.2 with ⟨e, e'⟩ | ⟨mg, cap, cur, e, _, _, h3, h4, _⟩
    · obtain ⟨mg, mc, e2, _⟩ := owns_formB hM hp
      rw [e] at e2; cases e2
    · refine ⟨g, mg, cap, rfl, h1, by rw [← e]; exact h2, by rw [← e]; exact hM, h3, by unfold maxLen at h4; omega, e⟩⟩
  have HEND : Hid (∀ W v R', TrI w W B rev R R.length v R' → RPut w B y rv (trimD rev (dat R)) (W.setCell ⟨y, 0, none⟩ v)) := fun W v R' ht => by
    refine ⟨R', v, h.setR ht.below ht.row ht.mks, by rw [ht.data, List.take_length], (Upd.ofBelow ht.below).setCell (p := ⟨y, 0, none⟩) (.inr (.inl rfl)) v⟩
  have HMS := Hid.mk'' hms
  clear h hms
  subst hv
  go_enter Try.func13, Try.ntmps13
  go_wp2
  go_loopg [4, 5] (R.length + 1) (fun kx s4 s5 wr => ∃ (j : Nat) (q : Option Addr) (qc : Nat) (R' : List IM), s4 = .slice q R'.length qc ∧ s5 = .int .i64 j ∧ kx + j = R.length + 1 ∧ j ≤ R.length ∧ R'.length ≤ j ∧ Hid (TrI w wr B rev R j (.slice q R'.length qc) R'))
  case atStart => exact ⟨0, none, 0, [], rfl, rfl, rfl, Nat.zero_le _, Nat.le_refl _, TrI.nil w B rev R⟩
  case round =>
    obtain ⟨j, q, qc, R', rfl, rfl, hkx, hj, hkl, HT⟩ := hrel
    obtain ⟨c0, cf, hat⟩ := HA.out _ HT.out.below
    have hws := HT.out.below.size
    by_cases hlt : j < R.length
    · obtain ⟨r, hr⟩ : ∃ r, R[j]? = some r := ⟨_, List.getElem?_eq_getElem hlt⟩
      obtain ⟨g, mg, mc, rfl, hk1, hk2, hM, hmc, hmx, hmv⟩ := hat j r hr
      obtain ⟨hasc, hml, hpos⟩ := HMS.out r (List.mem_of_getElem? hr)
      have HR := Hid.mk'' hr
      have HM := Hid.mk'' hM
      have HC : Hid (∀ n m, r.ms[n]? = some m → wr.cell? ⟨mg, n * 2, none⟩ = some (.int .i64 m.1) ∧ wr.cell? ⟨mg, n * 2 + 1, none⟩ = some (.bool m.2)) := fun n m hm => mk_cells hM hm
      have hct := ctm_le r.ms rev
      have HI : Hid (∀ n m, r.ms[n]? = some m → (n < ctm r.ms rev ↔ m.1 ≤ rev)) := fun n m hm => ctm_iff hasc hm
      have HZ : Hid (ctm r.ms rev = 0 → cutL rev r.ms = r.ms) := fun e => by unfold cutL; rw [cutM_zero e]; rfl
      have HP : Hid (∀ c1 m, ctm r.ms rev = c1 + 1 → r.ms[c1]? = some m → cutL rev r.ms = r.ms.drop (if m.2 then c1 + 1 else c1)) := fun c1 m e hm => by
        unfold cutL
        rw [cutM_pos (by omega) (by rw [e]; exact hm), e]; rfl
      clear hr hM hasc hat HA HMS hmv
      generalize hctd : ctm r.ms rev = ct at *
      clear hctd
      go_wp2
      go_loop [7, 8] (fun a b => ∃ (n : Nat) (kv : Int), n ≤ r.ms.length ∧ kv = ((min n ct : Nat) : Int) - 1 ∧ a = .int .i64 kv ∧ b = .int .i64 n) (fun _ b => r.ms.length - (intOf b).toNat)
      case atStart => exact ⟨0, -1, Nat.zero_le _, by omega, rfl, rfl⟩
      case round =>
        obtain ⟨n, kv, hnl, hkv, rfl, rfl⟩ := hrel
        by_cases hnlt : n < r.ms.length
        · obtain ⟨m, hm⟩ : ∃ m, r.ms[n]? = some m := ⟨_, List.getElem?_eq_getElem hnlt⟩
          obtain ⟨m0, m1⟩ := HC.out n m hm
          have hi := HI.out n m hm
          clear hm
          by_cases hle : n < ct
          · have hle2 := hi.1 hle
            clear hi
            go_wp2
            go_round
            case rel => exact ⟨n + 1, n, by omega, by omega, rfl, by congr 1⟩
            case measure => simp [intOf]; omega
          · have hle2 : ¬ m.1 ≤ rev := fun e => hle (hi.2 e)
            clear hi
            go_wp2
            go_round
            case rel => exact ⟨n + 1, kv, by omega, by omega, rfl, by congr 1⟩
            case measure => simp [intOf]; omega
        · obtain rfl : n = r.ms.length := by omega
          have HRO : Hid (∀ V, Below wr.heap.size wr V → V.ownsRow B 69 2 (.slice q R'.length qc) R'.length (itsC (R'.map IM.it))) := fun V hb => ownsRow_upd HT.out.row (Upd.ofBelow (S := fun _ => False) hb) (fun _ _ h => h)
          have HRX : Hid (∀ (V : World) mv, mv.oneCell' = true → Src Try.prog 2 27 (.slice (some ⟨V.heap.size, 0, none⟩) 1 1) 1 (itsC [⟨r.it.key, mv⟩]) (V.alloc (.cells #[.string r.it.key, mv] 69))) := fun V mv h1 => Src.ofSlice _ Try.underlying27 ⟨V.heap.size, 0, none⟩ 1 1 _ rfl (fun j u hj => by
            rw [Addr.add_lit, Nat.zero_add, cell_of_row _ _ _ _ _ _ (row_alloc V _ 69)]; simpa [itsC, itC] using hj) (fun u hu => by simp [itsC, itC] at hu; rcases hu with rfl | rfl <;> first | rfl | exact h1)
          have HSL : Hid (∀ V k c', Below wr.heap.size wr V → Src Try.prog 2 41 (.slice (some ⟨mg, k * 2, none⟩) (r.ms.length - k) c') (r.ms.length - k) (mksC (r.ms.drop k)) V) := fun V k c' hb => HM.out.src hb k c'
          have HS0 : Hid (∀ V, Src Try.prog 2 41 (.slice (some ⟨mg, 0, none⟩) 0 0) 0 [] V) := fun V => Src.ofSlice V Try.underlying41 ⟨mg, 0, none⟩ 0 0 [] rfl (fun j u hj => by cases hj) (fun u hu => by cases hu)
          have HB8 : Hid (∀ w8, Upd (wr.alloc (.cells #[] 37)) w8 (fun k => some k = Value.ownBlock (.slice (some ⟨wr.heap.size, 0, none⟩) 0 0)) → Below wr.heap.size wr w8) := fun w8 hu => ((Below.refl _ wr).alloc (Nat.le_refl _) _).trans (hu.below (by simp) (fun k hk e => by have := Option.some.inj e; dsimp at this; omega))
          rcases Nat.eq_zero_or_pos ct with hc0 | hc0
          · obtain rfl : kv = -1 := by omega
            have hcut := HZ.out hc0
            clear HC HI HP HSL HS0 HB8 HZ hkv hnl hnlt hc0 hct
            go_wp2_with (at_builtin; refine wpList_appS _ rfl (.tmp 57) (.tmp 68) 27 27 rfl B 69 tj _ 2 Try.underlying27 htj hy0 hy1 rfl (by rw [hy2]; omega) (.slice q R'.length qc) R'.length (itsC (R'.map IM.it)) rfl (HRO.out _ (by exact (Below.refl _ wr).alloc (Nat.le_refl _) _)) (.slice (some ⟨wr.heap.size, 0, none⟩) 1 1) rfl 1 (itsC [⟨r.it.key, .slice (some ⟨mg, 0, none⟩) r.ms.length mc⟩]) (HRX.out _ _ rfl) (by omega) (by simp; omega) ?_; intro v9 w9 z1 z2 z3 z4; obtain ⟨zp, zc, rfl⟩ := owns_formB0 z1)
            have hne : cutL rev r.ms ≠ [] := by rw [hcut]; intro e; rw [e] at hpos; exact absurd hpos (by decide)
            have HN := Hid.mk'' (HT.out.add (v' := .slice zp (R'.length + 1) zc) ((Below.refl _ wr).alloc (Nat.le_refl _) _) HR.out hne (mv := .slice (some ⟨mg, 0, none⟩) r.ms.length mc) (by rw [hcut]; exact ownsRow_upd HM.out (Upd.ofBelow (S := fun _ => False) ((Below.refl _ wr).alloc (Nat.le_refl _) _)) (fun _ _ h => h)) z1 z2 z3)
            clear z1 z2 z3 z4
            go_roundg (R.length - j)
            case measure => omega
            case rel => exact ⟨j + 1, zp, zc, R' ++ [⟨⟨r.it.key, .slice (some ⟨mg, 0, none⟩) r.ms.length mc⟩, cutL rev r.ms⟩], by simp, by congr 1, by omega, by omega, by simp; omega, Hid.mk'' (by simpa using HN.out)⟩
          · obtain ⟨c1, rfl⟩ : ∃ c1, ct = c1 + 1 := ⟨ct - 1, by omega⟩
            obtain rfl : kv = ((c1 : Nat) : Int) := by omega
            obtain ⟨m, hm⟩ : ∃ m, r.ms[c1]? = some m := ⟨_, List.getElem?_eq_getElem (by omega)⟩
            obtain ⟨m0, m1⟩ := HC.out c1 m hm
            have hcut := HP.out c1 m rfl hm
            have HYC : Hid (∀ V, Below wr.heap.size wr V → V.cell? ⟨y, 0, none⟩ = some (.slice (some ⟨g, 0, none⟩) R.length c) ∧ V.cell? ⟨g, j * 2, none⟩ = some (.string r.it.key)) := fun V hb => ⟨(hb.cell (p := ⟨y, 0, none⟩) (World.block_lt_of_cell? _ _ c0)).trans c0, (hb.cell (p := ⟨g, j * 2, none⟩) (World.block_lt_of_cell? _ _ hk1)).trans hk1⟩
            have hcl : c1 + 1 ≤ r.ms.length := hct
            clear hm HC HI HP HZ hkv hnl hnlt hc0 hct
            cases hd : m.2 with
            | false =>
              rw [hd] at hcut m1
              have hcut : cutL rev r.ms = r.ms.drop c1 := hcut
              have hmne : ¬ mc = c1 := by omega
              clear hd HS0
              go_upto_region 15 with (at_builtin; refine wpList_appS _ rfl (.tmp 49) (.tmp 52) 41 41 rfl B 37 ti _ 2 Try.underlying41 hti hz0 hz1 rfl (by rw [hz2]; omega) (.slice (some ⟨wr.heap.size, 0, none⟩) 0 0) 0 [] rfl (owns_empty (row_alloc wr _ _) (by omega)) (.slice (some ⟨mg, c1 * 2, none⟩) (r.ms.length - c1) (mc - c1)) rfl (r.ms.length - c1) (mksC (r.ms.drop c1)) (HSL.out _ c1 _ ((Below.refl _ wr).alloc (Nat.le_refl _) _)) (by omega) (by simp; omega) ?_; intro v8 w8 q1 q2 q3 q4; rw [Nat.zero_add, List.nil_append] at q1; obtain ⟨mp, mc8, rfl⟩ := owns_formB0 q1)
              have hb8 := HB8.out _ q2
              have HM8 : Hid (∀ V, Below w8.heap.size w8 V → RMk V B (.slice mp (r.ms.length - c1) mc8) (cutL rev r.ms)) := fun V hb => by
                rw [hcut]
                have := ownsRow_upd q1 (Upd.ofBelow (S := fun _ => False) hb) (fun _ _ h => h)
                have e : (r.ms.drop (c1)).length = (r.ms.length - c1) := by simp
                show World.ownsRow _ _ _ _ _ (r.ms.drop (c1)).length _
                rw [e]
                exact this
              obtain ⟨y1, y2⟩ := HYC.out _ hb8
              have hs8 := hb8.size
              clear q1 q2 q3 q4
              have hpl : 0 < (r.ms.length - c1) := by omega
              go_wp2_with (at_builtin; refine wpList_appS _ rfl (.tmp 57) (.tmp 68) 27 27 rfl B 69 tj _ 2 Try.underlying27 htj hy0 hy1 rfl (by rw [hy2]; omega) (.slice q R'.length qc) R'.length (itsC (R'.map IM.it)) rfl (HRO.out _ (by exact hb8.trans (((Below.refl _ w8).alloc (Nat.le_refl _) _).mono hb8.size))) (.slice (some ⟨w8.heap.size, 0, none⟩) 1 1) rfl 1 (itsC [⟨r.it.key, .slice mp (r.ms.length - c1) mc8⟩]) (HRX.out _ _ rfl) (by omega) (by simp; omega) ?_; intro v9 w9 z1 z2 z3 z4; obtain ⟨zp, zc, rfl⟩ := owns_formB0 z1)
              have hne : cutL rev r.ms ≠ [] := by rw [hcut]; intro e; have := congrArg List.length e; simp at this; omega
              have HN := Hid.mk'' (HT.out.add (v' := .slice zp (R'.length + 1) zc) (hb8.trans (((Below.refl _ w8).alloc (Nat.le_refl _) _).mono hb8.size)) HR.out hne (mv := .slice mp (r.ms.length - c1) mc8) (HM8.out _ ((Below.refl _ w8).alloc (Nat.le_refl _) _)) z1 z2 z3)
              clear z1 z2 z3 z4
              go_roundg (R.length - j)
              case measure => omega
              case rel => exact ⟨j + 1, zp, zc, R' ++ [⟨⟨r.it.key, .slice mp (r.ms.length - c1) mc8⟩, cutL rev r.ms⟩], by simp, by congr 1, by omega, by omega, by simp; omega, Hid.mk'' (by simpa using HN.out)⟩
            | true =>
              rw [hd] at hcut m1
              have hcut : cutL rev r.ms = r.ms.drop (c1 + 1) := hcut
              clear hd
              by_cases hmne : mc = c1 + 1
              · have hlz : r.ms.length = c1 + 1 := by omega
                have HLZ := Hid.mk'' hlz
                clear HSL
                go_upto_region 15 with (at_builtin; refine wpList_appS _ rfl (.tmp 49) (.tmp 52) 41 41 rfl B 37 ti _ 2 Try.underlying41 hti hz0 hz1 rfl (by rw [hz2]; omega) (.slice (some ⟨wr.heap.size, 0, none⟩) 0 0) 0 [] rfl (owns_empty (row_alloc wr _ _) (by omega)) (.slice (some ⟨mg, 0, none⟩) 0 0) rfl 0 [] (HS0.out _) (by omega) (by simp; omega) ?_; intro v8 w8 q1 q2 q3 q4; rw [Nat.zero_add, List.nil_append] at q1; obtain ⟨mp, mc8, rfl⟩ := owns_formB0 q1)
                have hb8 := HB8.out _ q2
                obtain ⟨y1, y2⟩ := HYC.out _ hb8
                clear q1 q2 q3 q4
                have hcn : cutL rev r.ms = [] := by rw [hcut]; exact List.drop_eq_nil_of_le (by omega)
                have HN := Hid.mk'' (HT.out.skip hb8 HR.out hcn)
                clear hcn
                go_wp2
                go_roundg (R.length - j)
                case measure => omega
                case rel => exact ⟨j + 1, q, qc, R', rfl, by congr 1, by omega, by omega, by omega, HN⟩
              · go_upto_region 15 with (at_builtin; refine wpList_appS _ rfl (.tmp 49) (.tmp 52) 41 41 rfl B 37 ti _ 2 Try.underlying41 hti hz0 hz1 rfl (by rw [hz2]; omega) (.slice (some ⟨wr.heap.size, 0, none⟩) 0 0) 0 [] rfl (owns_empty (row_alloc wr _ _) (by omega)) (.slice (some ⟨mg, (c1 + 1) * 2, none⟩) (r.ms.length - (c1 + 1)) (mc - (c1 + 1))) rfl (r.ms.length - (c1 + 1)) (mksC (r.ms.drop (c1 + 1))) (HSL.out _ (c1 + 1) _ ((Below.refl _ wr).alloc (Nat.le_refl _) _)) (by omega) (by simp; omega) ?_; intro v8 w8 q1 q2 q3 q4; rw [Nat.zero_add, List.nil_append] at q1; obtain ⟨mp, mc8, rfl⟩ := owns_formB0 q1)
                have hb8 := HB8.out _ q2
                have HM8 : Hid (∀ V, Below w8.heap.size w8 V → RMk V B (.slice mp (r.ms.length - (c1 + 1)) mc8) (cutL rev r.ms)) := fun V hb => by
                  rw [hcut]
                  have := ownsRow_upd q1 (Upd.ofBelow (S := fun _ => False) hb) (fun _ _ h => h)
                  have e : (r.ms.drop (c1 + 1)).length = (r.ms.length - (c1 + 1)) := by simp
                  show World.ownsRow _ _ _ _ _ (r.ms.drop (c1 + 1)).length _
                  rw [e]
                  exact this
                obtain ⟨y1, y2⟩ := HYC.out _ hb8
                have hs8 := hb8.size
                clear q1 q2 q3 q4
                by_cases hlz : c1 + 1 < r.ms.length
                · clear HS0
                  have hpl : 0 < (r.ms.length - (c1 + 1)) := by omega
                  go_wp2_with (at_builtin; refine wpList_appS _ rfl (.tmp 57) (.tmp 68) 27 27 rfl B 69 tj _ 2 Try.underlying27 htj hy0 hy1 rfl (by rw [hy2]; omega) (.slice q R'.length qc) R'.length (itsC (R'.map IM.it)) rfl (HRO.out _ (by exact hb8.trans (((Below.refl _ w8).alloc (Nat.le_refl _) _).mono hb8.size))) (.slice (some ⟨w8.heap.size, 0, none⟩) 1 1) rfl 1 (itsC [⟨r.it.key, .slice mp (r.ms.length - (c1 + 1)) mc8⟩]) (HRX.out _ _ rfl) (by omega) (by simp; omega) ?_; intro v9 w9 z1 z2 z3 z4; obtain ⟨zp, zc, rfl⟩ := owns_formB0 z1)
                  have hne : cutL rev r.ms ≠ [] := by rw [hcut]; intro e; have := congrArg List.length e; simp at this; omega
                  have HN := Hid.mk'' (HT.out.add (v' := .slice zp (R'.length + 1) zc) (hb8.trans (((Below.refl _ w8).alloc (Nat.le_refl _) _).mono hb8.size)) HR.out hne (mv := .slice mp (r.ms.length - (c1 + 1)) mc8) (HM8.out _ ((Below.refl _ w8).alloc (Nat.le_refl _) _)) z1 z2 z3)
                  clear z1 z2 z3 z4
                  go_roundg (R.length - j)
                  case measure => omega
                  case rel => exact ⟨j + 1, zp, zc, R' ++ [⟨⟨r.it.key, .slice mp (r.ms.length - (c1 + 1)) mc8⟩, cutL rev r.ms⟩], by simp, by congr 1, by omega, by omega, by simp; omega, Hid.mk'' (by simpa using HN.out)⟩
                · have hlz0 : r.ms.length - (c1 + 1) = 0 := by omega
                  have hcn : cutL rev r.ms = [] := by rw [hcut]; exact List.drop_eq_nil_of_le (by omega)
                  have HN := Hid.mk'' (HT.out.skip hb8 HR.out hcn)
                  clear hcn
                  go_wp2
                  go_roundg (R.length - j)
                  case measure => omega
                  case rel => exact ⟨j + 1, q, qc, R', rfl, by congr 1, by omega, by omega, by omega, HN⟩
    · obtain rfl : j = R.length := by omega
      have HE := Hid.mk'' (HEND.out _ _ _ HT.out)
      clear hat HA HEND HT HMS
      go_wp2
      go_end0
      exact ⟨rfl, HE.out⟩
end Go.Proofs.Ytilginghgigiiaa
