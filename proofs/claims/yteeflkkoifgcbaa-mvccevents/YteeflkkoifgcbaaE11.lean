/- Put of a new key; Put, whatever it is handed. -/
import Derived.Test.YteeflkkoifgcbaaE9
import Derived.Test.YteeflkkoifgcbaaE10
namespace Go.Proofs.Yteeflkkoifgcbaa
open Go Go.RowKit

theorem put_add {w V : World} {x : Nat} {R : List IM} {F : List Nat} (H : Ix w x R F) (hb : Below w.heap.size w V) (hR : R.length ≤ 1000000) {key : ByteArray} {rev : Int} (hk : key ∉ keysR R) (he : putE (dat R) key rev false = 0) {mb : Nat} (hmw : w.heap.size ≤ mb) (hr : V.heap[mb]? = some (.cells #[.int .i64 rev, .bool false] 107 (0, 0))) :
    Calls Try.prog 48 #[ptr x, .agg #[.string key, .slice (some ⟨mb, 0, none⟩) 1 1]] V fun e w' => e = .returned (.tuple #[]) ∧ PutPost w w' x R F key rev false := by
  have HV := H.below hb
  obtain ⟨rp, Ft, hx, hRt, hF⟩ := HV.ex
  have hnd := HV.nd
  rw [hF] at hnd
  have hnd2 : (x :: Ft).Nodup := by
    have h2 : ((x :: Ft) ++ R.flatMap ownM).Nodup := by simpa using hnd
    exact (List.nodup_append.1 h2).1
  have hM : Mks V (.slice (some ⟨mb, 0, none⟩) 1 1) [(rev, false)] := owns_of_row hr (Nat.le_refl _) (by unfold maxLen; omega) rfl rfl rfl
  refine (iadd_any hx hRt hnd2 (by rw [keysI_map]; exact HV.asc) ⟨key, .slice (some ⟨mb, 0, none⟩) 1 1⟩ ⟨_, _, _, rfl⟩ (by omega) (by omega)).mono ?_
  rintro e w' ⟨rfl, rp', F', hx', hR', hs⟩
  obtain ⟨F2, hI, hS⟩ := H.added hb hF ⟨⟨key, .slice (some ⟨mb, 0, none⟩) 1 1⟩, [(rev, false)]⟩ rfl hmw (Array.getElem?_eq_some_iff.1 hr).1 hM (by simp) hk hx' hR' hs
  refine ⟨rfl, _, F2, hI, ?_, hS⟩
  rw [insR_dat _ _ hk, putD, if_pos he, lookR_none hk]
  rfl
section
variable {w : World} {x : Nat} {R : List IM} {F : List Nat} (H : Ix w x R F) (key : ByteArray) (rev : Int) (del : Bool) (hks : key.size ≤ 9223372036854775807)
include H hks
set_option maxRecDepth 100000 in
set_option maxHeartbeats 2000000 in
theorem put_new (h0 : 0 < key.size) (h1 : key.size ≤ 100) (hr : 1 ≤ rev) (hd : del = false) (hk : key ∉ keysR R) (hR : R.length ≤ 1000000) :
    Calls Try.prog 40 #[ptr x, .string key, .agg #[.int .i64 rev, .bool del]] w fun e w' => e = .returned (.int .i64 (putE (dat R) key rev del)) ∧ PutPost w w' x R F key rev del := by
  have he : putE (dat R) key rev del = 0 := by simp only [putE, lookR_none hk, hd]; rw [if_neg (by omega)]; rfl
  rw [he]
  obtain ⟨W0, hW0⟩ : ∃ W0, W0 = w.alloc (.cells #[.int .i64 rev, .bool del] 107) := ⟨_, rfl⟩
  have hb0 : Below w.heap.size w W0 := by rw [hW0]; exact (Below.refl _ w).alloc (Nat.le_refl _) _
  have hr0 : W0.heap[w.heap.size]? = some (.cells #[.int .i64 rev, .bool del] 107 (0, 0)) := by rw [hW0]; exact row_alloc w _ _
  have hz0 : W0.heap.size = w.heap.size + 1 := by rw [hW0]; simp
  have H0 := H.below hb0
  obtain ⟨rp, Ft, hx, _, _⟩ := H0.ex
  have c0 := hx.c0
  have hf := find_no H0 hk c0
  have u0 : W0.cell? ⟨w.heap.size, 0, none⟩ = some (.int .i64 rev) := by simp [World.cell?, hr0]
  have HU : Hid (∀ W, Below W0.heap.size W0 W → W.cell? ⟨w.heap.size, 0, none⟩ = some (.int .i64 rev) ∧ W.cell? ⟨w.heap.size, 1, none⟩ = some (.bool del) ∧ Below w.heap.size w W) := fun W hb => by
    have := (hb.block _ (Array.getElem?_eq_some_iff.1 hr0).1).trans hr0
    exact ⟨by simp [World.cell?, this], by simp [World.cell?, this], hb0.trans (hb.mono hb0.size)⟩
  have k1 : ¬ (key = ByteArray.empty) := by intro e; rw [e] at h0; simp at h0
  have k2 : ¬ ((100 : Int) < (key.size : Int)) := by omega
  have k3 : ¬ (rev < 1) := by omega
  have k4 : ¬ (rev ≤ 0) := by omega
  subst hd
  have HADD : Hid (∀ V mb, Below W0.heap.size W0 V → w.heap.size ≤ mb → V.heap[mb]? = some (.cells #[.int .i64 rev, .bool false] 107 (0, 0)) → Calls Try.prog 48 #[ptr x, .agg #[.string key, .slice (some ⟨mb, 0, none⟩) 1 1]] V fun e w' => e = .returned (.tuple #[]) ∧ PutPost w w' x R F key rev false) :=
    fun V mb hb hm hr => put_add H (hb0.trans (hb.mono hb0.size)) hR hk he hm hr
  clear H H0 hx he hr0 hk
  go_enter Try.func40, Try.ntmps40
  go_upto_region 1 with (fail)
  rw [← hW0]
  clear hW0
  go_wp2_with (first | (go_at_call 46; refine hf.mono ?_; rintro e w1 ⟨rfl, hb1⟩) | (go_at_call 47; refine (last_nil _).mono ?_; rintro e w2 ⟨rfl, hb2⟩; have hb3 : Below W0.heap.size W0 (w2.alloc (.cells #[.int .i64 0, .bool true] 107)) := (hb1.trans (hb2.mono hb1.size)).alloc (by have := hb1.size; have := hb2.size; omega) _; obtain ⟨a0, a1, hbw⟩ := HU.out _ hb3))
  obtain ⟨W3, hW3⟩ : ∃ W3, W3 = w2.alloc (.cells #[.int .i64 0, .bool true] 107) := ⟨_, rfl⟩
  rw [← hW3] at hb3 a0 a1 hbw ⊢
  clear hW3 hf hb1 hb2 c0 u0 k1 k2 k3 k4
  have hz3 := hb3.size
  have HCELL : Hid (∀ w5, Below W3.heap.size W3 w5 → w5.cell? ⟨w.heap.size, 0, none⟩ = some (.int .i64 rev) ∧ w5.cell? ⟨w.heap.size, 1, none⟩ = some (.bool false)) := fun w5 hb => by
    obtain ⟨q0, q1, _⟩ := HU.out w5 (hb3.trans (hb.mono hb3.size))
    exact ⟨q0, q1⟩
  have hC := fun V => sclone key V h0 (by omega)
  go_region_with (first
    | (go_at_call 25; refine (hC _).mono ?_; rintro e w5 ⟨rfl, hb5⟩; obtain ⟨s0, s1⟩ := HCELL.out w5 (by first | exact ((Below.refl _ W3).drew.trans hb5) | exact (((Below.refl _ W3).alloc (Nat.le_refl _) _).drew.trans (hb5.mono (by simp)))); have hz5 : W3.heap.size ≤ w5.heap.size := (by have := hb5.size; simp at this; omega))
    | (go_at_call 48; refine (HADD.out _ _ (by first | exact hb3.trans ((((Below.refl _ W3).drew.trans hb5).alloc hz5 _).mono hz3) | exact hb3.trans ((((Below.refl _ W3).alloc (Nat.le_refl _) _).drew.trans (hb5.mono (by simp))).mono hz3)) (by omega) (by first | exact row_alloc _ _ _ | exact (hb5.block _ (by simp)).trans (row_alloc W3 _ _))).mono ?_; rintro e w6 ⟨rfl, hP⟩))
  all_goals
    go_wp2
    go_ret
    exact ⟨rfl, hP⟩
/-- Put. -/
theorem put_any (hrv : -9223372036854775808 ≤ rev ∧ rev ≤ 9223372036854775807) (hR : R.length ≤ 1000000) (hms : ∀ r ∈ R, r.ms.length ≤ 1000000) :
    Calls Try.prog 40 #[ptr x, .string key, .agg #[.int .i64 rev, .bool del]] w fun e w' => e = .returned (.int .i64 (putE (dat R) key rev del)) ∧ PutPost w w' x R F key rev del := by
  by_cases hbad : key.size = 0 ∨ 100 < key.size ∨ rev < 1
  · exact put_bad H key rev del hks hbad
  · have h0 : 0 < key.size := by omega
    have h1 : key.size ≤ 100 := by omega
    have hr : 1 ≤ rev := by omega
    rcases look_or R key H.asc with hk | ⟨ms, hk⟩
    · cases hd : del
      · exact put_new H key rev false hks h0 h1 hr rfl hk hR
      · exact put_no H key rev true hks h0 h1 hr rfl hk
    · have hml : ms.length ≤ 1000000 := by
        have : (key, ms) ∈ dat R := by
          clear hms
          have : ∀ D : Dat, lookD D key = some ms → (key, ms) ∈ D := by
            intro D
            induction D with
            | nil => intro h; cases h
            | cons p D ih =>
              intro h
              unfold lookD at h
              split at h
              · rename_i e; cases h; rw [← e]; simp
              · exact List.mem_cons_of_mem _ (ih h)
          exact this _ hk
        obtain ⟨r, hr', e⟩ := List.mem_map.1 this
        cases e
        exact hms r hr'
      by_cases hg : rev ≤ (lastM ms).1
      · exact put_gap H key rev del hks h0 h1 hr ms hk hml hg
      · cases hd : del
        · exact put_moreF H key rev false hks h0 h1 hr ms hk hml (by omega) rfl
        · cases hl : (lastM ms).2
          · exact put_moreT H key rev true hks h0 h1 hr ms hk hml (by omega) rfl hl
          · exact put_twice H key rev true hks h0 h1 hr ms hk hml (by omega) rfl hl
end
end Go.Proofs.Yteeflkkoifgcbaa
