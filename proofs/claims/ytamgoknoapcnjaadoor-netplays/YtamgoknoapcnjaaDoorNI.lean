/- A message is read. -/
import Derived.Test.YtamgoknoapcnjaaDoorNQ
import Derived.Deep.RegionLaw
namespace Go.Proofs.YtamgoknoapcnjaaDoor
open Go Go.RowKit
theorem results_ct {P : Program} {fn : Func} {u q : Tmp} {ty : TypeId} (h : fn.results = #[.cell u ty, .tmp q]) (tmps : Array Value) (w : World) (g : Nat) (t : TypeId) (cs : Array Value) (fr : Nat × Nat) (d : TypeDesc)
    (hp : tmps.getD u undef = .pointer (some ⟨g, 0, none⟩)) (hg : w.heap[g]? = some (.cells cs t fr))
    (hu : P.underlying ty = some d) (hd : (match d with | .struct _ | .array _ _ => true | _ => false) = true) (hi : (P.info? ty).map (·.size) = some cs.size) :
    (results fn tmps).run P w = .ok (.tuple #[.agg cs, tmps.getD q undef]) w := by
  have hp' : tmps[u]?.getD undef = .pointer (some ⟨g, 0, none⟩) := by simpa using hp
  simp [results, h, hp', asAddr, run_loadVar_row w g t ty cs fr d hg hu hd hi]
theorem step_loadR {P : Program} {w : World} {ops : Array Oper} {o : Oper} {a : Act} {K : Act → World → Prop} {Q : Exit → Act → World → Prop} {E : Prop} (hgd : o.guard = none) (ty : TypeId) (x : Operand) (ho : o.op = .load ty x)
    (g : Nat) (hx : a.eval x = .pointer (some ⟨g, 0, none⟩)) (t : TypeId) (cs : Array Value) (fr : Nat × Nat) (d : TypeDesc) (hg : w.heap[g]? = some (.cells cs t fr))
    (hu : P.underlying ty = some d) (hd : (match d with | .struct _ | .array _ _ => true | _ => false) = true) (hi : (P.info? ty).map (·.size) = some cs.size)
    (h : K (a.put o.dst (.agg cs)) w) : if Region.wanted o (yielded ops a.tmps) = true then Oper.wp P o a w K Q else E := by
  have hw : Region.wanted o (yielded ops a.tmps) = true := by simp [Region.wanted, hgd]
  rw [if_pos hw]
  exact wp_load_row ty x ho g hx t cs fr d hg hu hd hi h
theorem step_storeR {P : Program} {w : World} {ops : Array Oper} {o : Oper} {a : Act} {K : Act → World → Prop} {Q : Exit → Act → World → Prop} {E : Prop} (hgd : o.guard = none) (ty : TypeId) (x y : Operand) (ho : o.op = .store ty x y)
    (g : Nat) (cells : Array Value) (hx : a.eval x = .pointer (some ⟨g, 0, none⟩)) (hy : a.eval y = .agg cells)
    (t : TypeId) (old : Array Value) (hg : w.heap[g]? = some (.cells old t (0, 0))) (hi : (P.info? ty).map (·.size) = some cells.size)
    (hold : old.size = cells.size) (h1 : cells.all (·.oneCell') = true)
    (h : K (a.put o.dst undef) (w.setRow g cells)) : if Region.wanted o (yielded ops a.tmps) = true then Oper.wp P o a w K Q else E := by
  have hw : Region.wanted o (yielded ops a.tmps) = true := by simp [Region.wanted, hgd]
  rw [if_pos hw]
  exact wp_store_row ty x y ho g cells hx hy t old hg hi hold h1 h
/-- A struct's row is laid anew, whole. -/
theorem Bx.fill {d T : Nat} {row row' : Array Value} {w : World} (h : Bx d row T w) : Bx d row' T (w.setRow d row') ∧ Upd w (w.setRow d row') (fun k => k = d) :=
  ⟨setRow_heap w d row row' T _ h, ⟨rfl, rfl, rfl, by simp, fun k _ hk => setRow_other w d k _ hk⟩⟩
theorem Bx.drewQ {d T : Nat} {row : Array Value} {w : World} (h : Bx d row T w) : Bx d row T w.drew := h
set_option maxRecDepth 100000 in
set_option maxHeartbeats 4000000 in
theorem read_any {B b : Nat} {w0 W : World} {v : Value} {xs : List Int} (h : Rd B w0 W b v xs (0, 0)) :
    Calls Tryd.prog 35 #[ptr b] W fun e w' => ∃ m pe ce pv cv pd cd, e = .returned (.tuple #[.agg (mrow m (.slice pe m.es.length ce) (.slice pv m.vs.length cv) (.slice pd m.data.length cd)), iv (rX xs)]) ∧ (rX xs = 0 → m = rM xs ∧ Ms (fun k => W.heap.size ≤ k) w' (.slice pe m.es.length ce) (.slice pv m.vs.length cv) (.slice pd m.data.length cd) m) ∧ Upd W w' (fun k => k = b) := by
  obtain ⟨d0, hd0⟩ : ∃ d0, d0 = W.heap.size := ⟨_, rfl⟩
  obtain ⟨w1, hw1⟩ : ∃ w1, w1 = W.alloc (.cells #[iv 0, iv 0, iv 0, iv 0, iv 0, iv 0, .slice none 0 0, iv 0, iv 0, .bool false, iv 0, iv 0, iv 0, .slice none 0 0, .slice none 0 0] 28) := ⟨_, rfl⟩
  have hb1 : Below W.heap.size W w1 := by rw [hw1]; exact (Below.refl _ _).alloc (Nat.le_refl _) _
  have HD1 : Bx d0 zrow 28 w1 := by rw [hd0, hw1]; exact row_alloc W _ 28
  have hbW : b < W.heap.size := h.r.lt
  have hd0b : d0 ≠ b := by omega
  have HS1 : w1.heap.size = W.heap.size + 1 := by rw [hw1]; simp
  have HV : Hid (∀ k, v.ownBlock = some k → k < W.heap.size) := fun k hk => (h.r.own.lt k hk).2
  have HW0 : Hid (w0.heap.size ≤ W.heap.size) := h.u.size
  have HR1 := Hid.mkW (h.below hb1)
  have HU1 : Hid (Upd W w1 (fun k => k = b) ∧ Bx d0 zrow 28 w1) := ⟨Upd.ofBelow hb1, HD1⟩
  have HZ0 : Hid (d0 = W.heap.size) := hd0
  clear h hb1 HD1
  go_enter Tryd.func35, Tryd.ntmps35
  go_upto_region 1 with fail
  rw [← hw1, ← hd0]
  clear hw1 hd0
  have k1 := yU8 HR1.out
  go_wp2_with (fail)
  refine k1.mono ?_
  rintro e w2 ⟨rfl, h2, u2⟩
  have HU2 : Hid (Upd W w2 (fun k => k = b) ∧ Bx d0 zrow 28 w2) := ⟨HU1.out.1.trans u2 (fun _ _ h => h), HU1.out.2.upd u2 hd0b⟩
  have HR2 : Hid (Rd B w0 w2 b v xs (sA0 xs)) := h2
  have HS2 : w1.heap.size ≤ w2.heap.size := u2.size
  clear k1 h2 u2 HR1 HU1
  go_upto_region 2 with fail
  obtain ⟨d, hd⟩ : ∃ d, d = w2.heap.size := ⟨_, rfl⟩
  obtain ⟨w3, hw3⟩ : ∃ w3, w3 = w2.alloc (.cells #[iv (rU xs (0, 0)).1, iv 0, iv 0, iv 0, iv 0, iv 0, .slice none 0 0, iv 0, iv 0, .bool false, iv 0, iv 0, iv 0, .slice none 0 0, .slice none 0 0] 28) := ⟨_, rfl⟩
  have hb3 : Below w2.heap.size w2 w3 := by rw [hw3]; exact (Below.refl _ _).alloc (Nat.le_refl _) _
  have HX3 : Bx d #[iv (rU xs (0, 0)).1, iv 0, iv 0, iv 0, iv 0, iv 0, .slice none 0 0, iv 0, iv 0, .bool false, iv 0, iv 0, iv 0, .slice none 0 0, .slice none 0 0] 28 w3 := by rw [hd, hw3]; exact row_alloc w2 _ 28
  have HU3 : Hid (Upd W w3 (fun k => k = b) ∧ Bx d0 zrow 28 w3) := ⟨HU2.out.1.trans (Upd.ofBelow (S := fun k => k = b) hb3) (fun _ _ h => h), HU2.out.2.below hb3⟩
  have HR3 := Hid.mkW (HR2.out.below hb3)
  have hdd : d0 < d := by have := HZ0.out; omega
  have hdb : d ≠ b := by omega
  have hbd : b < d := by omega
  have HWd : Hid (W.heap.size ≤ d) := by show _ ≤ _; omega
  have HLT : Hid (d < w3.heap.size) := HX3.lt
  rw [← hw3, ← hd]
  clear hw3 hb3 HR2 HU2 HS1 HS2 hd hbW
  have k3 := yErr HR3.out
  obtain ⟨q, hq⟩ : ∃ q : Bool, q = ((sA0 xs).2 == 0 && !isK (rU xs (0, 0)).1) := ⟨_, rfl⟩
  have HQ := Hid.mkW hq
  go_cut [17] from 9 to 17 (fun s17 wc => s17 = .bool q ∧ wc = w3)
  case first =>
    have e0 : w3.cell? ⟨d, 0, none⟩ = some (iv (rU xs (0, 0)).1) := HX3.cell 0
    by_cases hs : (sA0 xs).2 = 0
    · have hsd : ((sA0 xs).2 == 0) = true := by simp [hs]
      have hik := isKind_any (rU xs (0, 0)).1
      cases hkk : isK (rU xs (0, 0)).1
      all_goals
        rw [hkk] at hik hq
        rw [hsd] at hq
        simp at hq
        subst hq
        clear hs
        go_wp2_with (first | (go_at_call 67; refine k3.mono ?_; rintro e w4 ⟨rfl, hw4⟩; obtain rfl := hw4.symm) | (go_at_call 51; refine (hik _).mono ?_; rintro e w4 ⟨rfl, hw4⟩; obtain rfl := hw4.symm))
        go_meet
        exact ⟨rfl, rfl⟩
    · have hsd : ((sA0 xs).2 == 0) = false := by simpa using hs
      rw [hsd] at hq
      simp at hq
      subst hq
      go_wp2_with (go_at_call 67; refine k3.mono ?_; rintro e w4 ⟨rfl, hw4⟩; obtain rfl := hw4.symm)
      go_meet
      exact ⟨rfl, rfl⟩
  case rest =>
  obtain ⟨rfl, hwc⟩ := hcut
  obtain rfl := hwc.symm
  clear k3 hq
  cases q with
  | true =>
    have HRX : Hid (rX xs = 3) := by
      have h1 := HQ.out
      simp at h1
      show rX xs = 3
      unfold rX
      rw [if_pos (by simpa using h1)]
    go_wp2_with (first | (refine wpList_load_row rfl 28 _ rfl d rfl 28 _ (0, 0) _ HX3 Tryd.underlying28 rfl (by kernel_rfl) ?_) | (refine wpList_store_row rfl 28 _ _ rfl d0 #[iv (rU xs (0, 0)).1, iv 0, iv 0, iv 0, iv 0, iv 0, .slice none 0 0, iv 0, iv 0, .bool false, iv 0, iv 0, iv 0, .slice none 0 0, .slice none 0 0] rfl rfl 28 zrow HU3.out.2 (by kernel_rfl) rfl (by kernel_rfl) ?_))
    obtain ⟨HXF, uF⟩ := (show Bx d0 zrow 28 w3 from HU3.out.2).fill (row' := #[iv (rU xs (0, 0)).1, iv 0, iv 0, iv 0, iv 0, iv 0, .slice none 0 0, iv 0, iv 0, .bool false, iv 0, iv 0, iv 0, .slice none 0 0, .slice none 0 0])
    refine bodyPost_ret (results_ct rfl _ _ d0 28 #[iv (rU xs (0, 0)).1, iv 0, iv 0, iv 0, iv 0, iv 0, .slice none 0 0, iv 0, iv 0, .bool false, iv 0, iv 0, iv 0, .slice none 0 0, .slice none 0 0] (0, 0) _ rfl HXF Tryd.underlying28 rfl (by kernel_rfl)) rfl ?_
    refine ⟨⟨(rU xs (0, 0)).1, 0, 0, 0, 0, 0, [], 0, 0, false, 0, 0, 0, [], []⟩, none, 0, none, 0, none, 0, ?_, ?_, HU3.out.1.trans uF (fun j hj e => by have e1 : j = d0 := e; have := HZ0.out; omega)⟩
    · rw [HRX.out]; rfl
    · exact fun h => absurd h (by rw [HRX.out]; decide)
  | false =>
    have HRX : Hid (¬ ((sA0 xs).2 = 0 ∧ isK (rU xs (0, 0)).1 = false)) := by
      intro h
      have h1 := HQ.out
      rw [h.1, h.2] at h1
      simp at h1
    have k4 := yInt HR3.out
    go_wp2_with (fail)
    refine k4.mono ?_
    rintro e w4 ⟨rfl, h4, u4⟩
    have HX4 := HX3.upd u4 hdb
    have HU4 : Hid (Upd W w4 (fun k => k = b) ∧ Bx d0 zrow 28 w4) := ⟨HU3.out.1.trans u4 (fun _ _ h => h), HU3.out.2.upd u4 hd0b⟩
    have HR4 : Hid (Rd B w0 w4 b v xs (sA1 xs)) := h4
    have HL4 : Hid (w3.heap.size ≤ w4.heap.size) := u4.size
    clear k4 u4 HX3 HU3 HR3 h4 
    have k5 := yInt HR4.out
    go_wp2_with (fail)
    refine k5.mono ?_
    rintro e w5 ⟨rfl, h5, u5⟩
    have HX5 := HX4.upd u5 hdb
    have HU5 : Hid (Upd W w5 (fun k => k = b) ∧ Bx d0 zrow 28 w5) := ⟨HU4.out.1.trans u5 (fun _ _ h => h), HU4.out.2.upd u5 hd0b⟩
    have HR5 : Hid (Rd B w0 w5 b v xs (sA2 xs)) := h5
    have HL5 : Hid (w4.heap.size ≤ w5.heap.size) := u5.size
    clear k5 u5 HX4 HU4 HR4 h5 
    have k6 := yInt HR5.out
    go_wp2_with (fail)
    refine k6.mono ?_
    rintro e w6 ⟨rfl, h6, u6⟩
    have HX6 := HX5.upd u6 hdb
    have HU6 : Hid (Upd W w6 (fun k => k = b) ∧ Bx d0 zrow 28 w6) := ⟨HU5.out.1.trans u6 (fun _ _ h => h), HU5.out.2.upd u6 hd0b⟩
    have HR6 : Hid (Rd B w0 w6 b v xs (sA3 xs)) := h6
    have HL6 : Hid (w5.heap.size ≤ w6.heap.size) := u6.size
    clear k6 u6 HX5 HU5 HR5 h6 
    have k7 := yInt HR6.out
    go_wp2_with (fail)
    refine k7.mono ?_
    rintro e w7 ⟨rfl, h7, u7⟩
    have HX7 := HX6.upd u7 hdb
    have HU7 : Hid (Upd W w7 (fun k => k = b) ∧ Bx d0 zrow 28 w7) := ⟨HU6.out.1.trans u7 (fun _ _ h => h), HU6.out.2.upd u7 hd0b⟩
    have HR7 : Hid (Rd B w0 w7 b v xs (sA4 xs)) := h7
    have HL7 : Hid (w6.heap.size ≤ w7.heap.size) := u7.size
    clear k7 u7 HX6 HU6 HR6 h7 
    have k8 := yInt HR7.out
    go_wp2_with (fail)
    refine k8.mono ?_
    rintro e w8 ⟨rfl, h8, u8⟩
    have HX8 := HX7.upd u8 hdb
    have HU8 : Hid (Upd W w8 (fun k => k = b) ∧ Bx d0 zrow 28 w8) := ⟨HU7.out.1.trans u8 (fun _ _ h => h), HU7.out.2.upd u8 hd0b⟩
    have HR8 : Hid (Rd B w0 w8 b v xs (sA5 xs)) := h8
    have HL8 : Hid (w7.heap.size ≤ w8.heap.size) := u8.size
    clear k8 u8 HX7 HU7 HR7 h8 
    have e1 : w8.cell? ⟨d, 1, none⟩ = some (iv 0) := HX8.cell 1
    have f1 : w8.frozen? ⟨d, 1, none⟩ = false := HX8.free 1
    have e2 : w8.cell? ⟨d, 2, none⟩ = some (iv 0) := HX8.cell 2
    have f2 : w8.frozen? ⟨d, 2, none⟩ = false := HX8.free 2
    have e3 : w8.cell? ⟨d, 3, none⟩ = some (iv 0) := HX8.cell 3
    have f3 : w8.frozen? ⟨d, 3, none⟩ = false := HX8.free 3
    have e4 : w8.cell? ⟨d, 4, none⟩ = some (iv 0) := HX8.cell 4
    have f4 : w8.frozen? ⟨d, 4, none⟩ = false := HX8.free 4
    have e5 : w8.cell? ⟨d, 5, none⟩ = some (iv 0) := HX8.cell 5
    have f5 : w8.frozen? ⟨d, 5, none⟩ = false := HX8.free 5
    go_upto_region 5 with fail
    obtain ⟨w9, hw9⟩ : ∃ w9, w9 = (((((w8.setCell ⟨d, 1, none⟩ (iv (rI xs (sA0 xs)).1)).setCell ⟨d, 2, none⟩ (iv (rI xs (sA1 xs)).1)).setCell ⟨d, 3, none⟩ (iv (rI xs (sA2 xs)).1)).setCell ⟨d, 4, none⟩ (iv (rI xs (sA3 xs)).1)).setCell ⟨d, 5, none⟩ (iv (rI xs (sA4 xs)).1)) := ⟨_, rfl⟩
    rw [← hw9]
    have HX9 : Bx d #[iv (rU xs (0, 0)).1, iv (rI xs (sA0 xs)).1, iv (rI xs (sA1 xs)).1, iv (rI xs (sA2 xs)).1, iv (rI xs (sA3 xs)).1, iv (rI xs (sA4 xs)).1, .slice none 0 0, iv 0, iv 0, .bool false, iv 0, iv 0, iv 0, .slice none 0 0, .slice none 0 0] 28 w9 := by rw [hw9]; exact (((((HX8.set 1 _ rfl).set 2 _ rfl).set 3 _ rfl).set 4 _ rfl).set 5 _ rfl)
    have u9 : Upd w8 w9 (fun k => k = d) := by rw [hw9]; exact ((((((Upd.refl w8 (fun k => k = d)).setCell (.inr rfl) _).setCell (.inr rfl) _).setCell (.inr rfl) _).setCell (.inr rfl) _).setCell (.inr rfl) _)
    have HU9 : Hid (Upd W w9 (fun k => k = b) ∧ Bx d0 zrow 28 w9) := ⟨HU8.out.1.trans u9 (fun j hj e => by have e1 : j = d := e; have := HWd.out; omega), HU8.out.2.upd u9 (fun e => by have e1 : d0 = d := e; omega)⟩
    have HR9 := Hid.mkW (HR8.out.upd u9 (fun e => hdb e.symm) (fun k hk e => by have e1 : k = d := e; have := HV.out k hk; have := HWd.out; omega) (fun k hk e => by have e1 : k = d := e; have := HW0.out; have := HWd.out; omega))
    have HL9 : Hid (w8.heap.size ≤ w9.heap.size) := u9.size
    clear hw9 u9 HX8 HU8 HR8 e1 f1 e2 f2 e3 f3 e4 f4 e5 f5 
    have hlt9 : d < w9.heap.size := by have := HLT.out; have := HL4.out; have := HL5.out; have := HL6.out; have := HL7.out; have := HL8.out; have := HL9.out; omega
    have k10 := readEnts_any HR9.out
    go_wp2_with (fail)
    refine k10.mono ?_
    rintro e w10 ⟨ve, rfl, he, h10, u10⟩
    have HX10 := HX9.upd u10 hdb
    have HU10 : Hid (Upd W w10 (fun k => k = b) ∧ Bx d0 zrow 28 w10) := ⟨HU9.out.1.trans u10 (fun _ _ h => h), HU9.out.2.upd u10 hd0b⟩
    have HR10 : Hid (Rd B w0 w10 b v xs (sA6 xs)) := h10
    have HL10 : Hid (w9.heap.size ≤ w10.heap.size) := u10.size
    obtain ⟨pe, ce, rfl, hce⟩ := he
    have hE_10 : Hid (Es (fun k => d < k) w10 (.slice pe (rList (rE xs) xs (sA5 xs)).1.length ce) (rList (rE xs) xs (sA5 xs)).1) := Es.mono ⟨pe, ce, rfl, hce⟩ (fun k hk => by omega)
    clear hce
    clear k10 u10 HX9 HU9 HR9 h10 
    have e6 : w10.cell? ⟨d, 6, none⟩ = some (.slice none 0 0) := HX10.cell 6
    have f6 : w10.frozen? ⟨d, 6, none⟩ = false := HX10.free 6
    go_upto_region 6 with fail
    obtain ⟨w11, hw11⟩ : ∃ w11, w11 = (w10.setCell ⟨d, 6, none⟩ (.slice pe (rList (rE xs) xs (sA5 xs)).1.length ce)) := ⟨_, rfl⟩
    rw [← hw11]
    have HX11 : Bx d #[iv (rU xs (0, 0)).1, iv (rI xs (sA0 xs)).1, iv (rI xs (sA1 xs)).1, iv (rI xs (sA2 xs)).1, iv (rI xs (sA3 xs)).1, iv (rI xs (sA4 xs)).1, .slice pe (rList (rE xs) xs (sA5 xs)).1.length ce, iv 0, iv 0, .bool false, iv 0, iv 0, iv 0, .slice none 0 0, .slice none 0 0] 28 w11 := by rw [hw11]; exact (HX10.set 6 _ rfl)
    have u11 : Upd w10 w11 (fun k => k = d) := by rw [hw11]; exact ((Upd.refl w10 (fun k => k = d)).setCell (.inr rfl) _)
    have HU11 : Hid (Upd W w11 (fun k => k = b) ∧ Bx d0 zrow 28 w11) := ⟨HU10.out.1.trans u11 (fun j hj e => by have e1 : j = d := e; have := HWd.out; omega), HU10.out.2.upd u11 (fun e => by have e1 : d0 = d := e; omega)⟩
    have HR11 := Hid.mkW (HR10.out.upd u11 (fun e => hdb e.symm) (fun k hk e => by have e1 : k = d := e; have := HV.out k hk; have := HWd.out; omega) (fun k hk e => by have e1 : k = d := e; have := HW0.out; have := HWd.out; omega))
    have HL11 : Hid (w10.heap.size ≤ w11.heap.size) := u11.size
    have hE_11 : Hid (Es (fun k => d < k) w11 (.slice pe (rList (rE xs) xs (sA5 xs)).1.length ce) (rList (rE xs) xs (sA5 xs)).1) := hE_10.out.upd u11 (fun k hk _ e => by have e1 : k = d := e; omega)
    clear hw11 u11 HX10 HU10 HR10 e6 f6 hE_10
    have k12 := yInt HR11.out
    go_wp2_with (fail)
    refine k12.mono ?_
    rintro e w12 ⟨rfl, h12, u12⟩
    have HX12 := HX11.upd u12 hdb
    have HU12 : Hid (Upd W w12 (fun k => k = b) ∧ Bx d0 zrow 28 w12) := ⟨HU11.out.1.trans u12 (fun _ _ h => h), HU11.out.2.upd u12 hd0b⟩
    have HR12 : Hid (Rd B w0 w12 b v xs (sA7 xs)) := h12
    have HL12 : Hid (w11.heap.size ≤ w12.heap.size) := u12.size
    have hE_12 : Hid (Es (fun k => d < k) w12 (.slice pe (rList (rE xs) xs (sA5 xs)).1.length ce) (rList (rE xs) xs (sA5 xs)).1) := hE_11.out.upd u12 (fun k hk _ e => by have e1 : k = b := e; omega)
    clear k12 u12 HX11 HU11 HR11 h12 hE_11
    have k13 := yInt HR12.out
    go_wp2_with (fail)
    refine k13.mono ?_
    rintro e w13 ⟨rfl, h13, u13⟩
    have HX13 := HX12.upd u13 hdb
    have HU13 : Hid (Upd W w13 (fun k => k = b) ∧ Bx d0 zrow 28 w13) := ⟨HU12.out.1.trans u13 (fun _ _ h => h), HU12.out.2.upd u13 hd0b⟩
    have HR13 : Hid (Rd B w0 w13 b v xs (sA8 xs)) := h13
    have HL13 : Hid (w12.heap.size ≤ w13.heap.size) := u13.size
    have hE_13 : Hid (Es (fun k => d < k) w13 (.slice pe (rList (rE xs) xs (sA5 xs)).1.length ce) (rList (rE xs) xs (sA5 xs)).1) := hE_12.out.upd u13 (fun k hk _ e => by have e1 : k = b := e; omega)
    clear k13 u13 HX12 HU12 HR12 h13 hE_12
    have e7 : w13.cell? ⟨d, 7, none⟩ = some (iv 0) := HX13.cell 7
    have f7 : w13.frozen? ⟨d, 7, none⟩ = false := HX13.free 7
    have e8 : w13.cell? ⟨d, 8, none⟩ = some (iv 0) := HX13.cell 8
    have f8 : w13.frozen? ⟨d, 8, none⟩ = false := HX13.free 8
    go_upto_region 7 with fail
    obtain ⟨w14, hw14⟩ : ∃ w14, w14 = ((w13.setCell ⟨d, 7, none⟩ (iv (rI xs (sA6 xs)).1)).setCell ⟨d, 8, none⟩ (iv (rI xs (sA7 xs)).1)) := ⟨_, rfl⟩
    rw [← hw14]
    have HX14 : Bx d #[iv (rU xs (0, 0)).1, iv (rI xs (sA0 xs)).1, iv (rI xs (sA1 xs)).1, iv (rI xs (sA2 xs)).1, iv (rI xs (sA3 xs)).1, iv (rI xs (sA4 xs)).1, .slice pe (rList (rE xs) xs (sA5 xs)).1.length ce, iv (rI xs (sA6 xs)).1, iv (rI xs (sA7 xs)).1, .bool false, iv 0, iv 0, iv 0, .slice none 0 0, .slice none 0 0] 28 w14 := by rw [hw14]; exact ((HX13.set 7 _ rfl).set 8 _ rfl)
    have u14 : Upd w13 w14 (fun k => k = d) := by rw [hw14]; exact (((Upd.refl w13 (fun k => k = d)).setCell (.inr rfl) _).setCell (.inr rfl) _)
    have HU14 : Hid (Upd W w14 (fun k => k = b) ∧ Bx d0 zrow 28 w14) := ⟨HU13.out.1.trans u14 (fun j hj e => by have e1 : j = d := e; have := HWd.out; omega), HU13.out.2.upd u14 (fun e => by have e1 : d0 = d := e; omega)⟩
    have HR14 := Hid.mkW (HR13.out.upd u14 (fun e => hdb e.symm) (fun k hk e => by have e1 : k = d := e; have := HV.out k hk; have := HWd.out; omega) (fun k hk e => by have e1 : k = d := e; have := HW0.out; have := HWd.out; omega))
    have HL14 : Hid (w13.heap.size ≤ w14.heap.size) := u14.size
    have hE_14 : Hid (Es (fun k => d < k) w14 (.slice pe (rList (rE xs) xs (sA5 xs)).1.length ce) (rList (rE xs) xs (sA5 xs)).1) := hE_13.out.upd u14 (fun k hk _ e => by have e1 : k = d := e; omega)
    clear hw14 u14 HX13 HU13 HR13 e7 f7 e8 f8 hE_13
    have k15 := yU8 HR14.out
    go_wp2_with (fail)
    refine k15.mono ?_
    rintro e w15 ⟨rfl, h15, u15⟩
    have HX15 := HX14.upd u15 hdb
    have HU15 : Hid (Upd W w15 (fun k => k = b) ∧ Bx d0 zrow 28 w15) := ⟨HU14.out.1.trans u15 (fun _ _ h => h), HU14.out.2.upd u15 hd0b⟩
    have HR15 : Hid (Rd B w0 w15 b v xs (sA9 xs)) := h15
    have HL15 : Hid (w14.heap.size ≤ w15.heap.size) := u15.size
    have hE_15 : Hid (Es (fun k => d < k) w15 (.slice pe (rList (rE xs) xs (sA5 xs)).1.length ce) (rList (rE xs) xs (sA5 xs)).1) := hE_14.out.upd u15 (fun k hk _ e => by have e1 : k = b := e; omega)
    clear k15 u15 HX14 HU14 HR14 h15 hE_14
    have k16 := yInt HR15.out
    go_wp2_with (fail)
    refine k16.mono ?_
    rintro e w16 ⟨rfl, h16, u16⟩
    have HX16 := HX15.upd u16 hdb
    have HU16 : Hid (Upd W w16 (fun k => k = b) ∧ Bx d0 zrow 28 w16) := ⟨HU15.out.1.trans u16 (fun _ _ h => h), HU15.out.2.upd u16 hd0b⟩
    have HR16 : Hid (Rd B w0 w16 b v xs (sA10 xs)) := h16
    have HL16 : Hid (w15.heap.size ≤ w16.heap.size) := u16.size
    have hE_16 : Hid (Es (fun k => d < k) w16 (.slice pe (rList (rE xs) xs (sA5 xs)).1.length ce) (rList (rE xs) xs (sA5 xs)).1) := hE_15.out.upd u16 (fun k hk _ e => by have e1 : k = b := e; omega)
    clear k16 u16 HX15 HU15 HR15 h16 hE_15
    have e9 : w16.cell? ⟨d, 9, none⟩ = some (.bool false) := HX16.cell 9
    have f9 : w16.frozen? ⟨d, 9, none⟩ = false := HX16.free 9
    have e10 : w16.cell? ⟨d, 10, none⟩ = some (iv 0) := HX16.cell 10
    have f10 : w16.frozen? ⟨d, 10, none⟩ = false := HX16.free 10
    go_upto_region 9 with fail
    obtain ⟨w17, hw17⟩ : ∃ w17, w17 = ((w16.setCell ⟨d, 9, none⟩ (.bool ((rU xs (sA8 xs)).1 == 1))).setCell ⟨d, 10, none⟩ (iv (rI xs (sA9 xs)).1)) := ⟨_, rfl⟩
    rw [← hw17]
    have HX17 : Bx d #[iv (rU xs (0, 0)).1, iv (rI xs (sA0 xs)).1, iv (rI xs (sA1 xs)).1, iv (rI xs (sA2 xs)).1, iv (rI xs (sA3 xs)).1, iv (rI xs (sA4 xs)).1, .slice pe (rList (rE xs) xs (sA5 xs)).1.length ce, iv (rI xs (sA6 xs)).1, iv (rI xs (sA7 xs)).1, .bool ((rU xs (sA8 xs)).1 == 1), iv (rI xs (sA9 xs)).1, iv 0, iv 0, .slice none 0 0, .slice none 0 0] 28 w17 := by rw [hw17]; exact ((HX16.set 9 _ rfl).set 10 _ rfl)
    have u17 : Upd w16 w17 (fun k => k = d) := by rw [hw17]; exact (((Upd.refl w16 (fun k => k = d)).setCell (.inr rfl) _).setCell (.inr rfl) _)
    have HU17 : Hid (Upd W w17 (fun k => k = b) ∧ Bx d0 zrow 28 w17) := ⟨HU16.out.1.trans u17 (fun j hj e => by have e1 : j = d := e; have := HWd.out; omega), HU16.out.2.upd u17 (fun e => by have e1 : d0 = d := e; omega)⟩
    have HR17 := Hid.mkW (HR16.out.upd u17 (fun e => hdb e.symm) (fun k hk e => by have e1 : k = d := e; have := HV.out k hk; have := HWd.out; omega) (fun k hk e => by have e1 : k = d := e; have := HW0.out; have := HWd.out; omega))
    have HL17 : Hid (w16.heap.size ≤ w17.heap.size) := u17.size
    have hE_17 : Hid (Es (fun k => d < k) w17 (.slice pe (rList (rE xs) xs (sA5 xs)).1.length ce) (rList (rE xs) xs (sA5 xs)).1) := hE_16.out.upd u17 (fun k hk _ e => by have e1 : k = d := e; omega)
    clear hw17 u17 HX16 HU16 HR16 e9 f9 e10 f10 hE_16
    have k18 := yInt HR17.out
    go_wp2_with (fail)
    refine k18.mono ?_
    rintro e w18 ⟨rfl, h18, u18⟩
    have HX18 := HX17.upd u18 hdb
    have HU18 : Hid (Upd W w18 (fun k => k = b) ∧ Bx d0 zrow 28 w18) := ⟨HU17.out.1.trans u18 (fun _ _ h => h), HU17.out.2.upd u18 hd0b⟩
    have HR18 : Hid (Rd B w0 w18 b v xs (sA11 xs)) := h18
    have HL18 : Hid (w17.heap.size ≤ w18.heap.size) := u18.size
    have hE_18 : Hid (Es (fun k => d < k) w18 (.slice pe (rList (rE xs) xs (sA5 xs)).1.length ce) (rList (rE xs) xs (sA5 xs)).1) := hE_17.out.upd u18 (fun k hk _ e => by have e1 : k = b := e; omega)
    clear k18 u18 HX17 HU17 HR17 h18 hE_17
    have k19 := yInt HR18.out
    go_wp2_with (fail)
    refine k19.mono ?_
    rintro e w19 ⟨rfl, h19, u19⟩
    have HX19 := HX18.upd u19 hdb
    have HU19 : Hid (Upd W w19 (fun k => k = b) ∧ Bx d0 zrow 28 w19) := ⟨HU18.out.1.trans u19 (fun _ _ h => h), HU18.out.2.upd u19 hd0b⟩
    have HR19 : Hid (Rd B w0 w19 b v xs (sA12 xs)) := h19
    have HL19 : Hid (w18.heap.size ≤ w19.heap.size) := u19.size
    have hE_19 : Hid (Es (fun k => d < k) w19 (.slice pe (rList (rE xs) xs (sA5 xs)).1.length ce) (rList (rE xs) xs (sA5 xs)).1) := hE_18.out.upd u19 (fun k hk _ e => by have e1 : k = b := e; omega)
    clear k19 u19 HX18 HU18 HR18 h19 hE_18
    have hlt19 : d < w19.heap.size := by have := HLT.out; have := HL4.out; have := HL5.out; have := HL6.out; have := HL7.out; have := HL8.out; have := HL9.out; have := HL10.out; have := HL11.out; have := HL12.out; have := HL13.out; have := HL14.out; have := HL15.out; have := HL16.out; have := HL17.out; have := HL18.out; have := HL19.out; omega
    have k20 := readInts_any HR19.out
    go_wp2_with (fail)
    refine k20.mono ?_
    rintro e w20 ⟨vv, rfl, he, h20, u20⟩
    have HX20 := HX19.upd u20 hdb
    have HU20 : Hid (Upd W w20 (fun k => k = b) ∧ Bx d0 zrow 28 w20) := ⟨HU19.out.1.trans u20 (fun _ _ h => h), HU19.out.2.upd u20 hd0b⟩
    have HR20 : Hid (Rd B w0 w20 b v xs (sA13 xs)) := h20
    have HL20 : Hid (w19.heap.size ≤ w20.heap.size) := u20.size
    have hE_20 : Hid (Es (fun k => d < k) w20 (.slice pe (rList (rE xs) xs (sA5 xs)).1.length ce) (rList (rE xs) xs (sA5 xs)).1) := hE_19.out.upd u20 (fun k hk _ e => by have e1 : k = b := e; omega)
    obtain ⟨pv, cv, rfl, hce⟩ := he
    have hV_20 : Hid (Is (fun k => d < k) w20 (.slice pv (rList (rI xs) xs (sA12 xs)).1.length cv) (rList (rI xs) xs (sA12 xs)).1) := Is.mono ⟨pv, cv, rfl, hce⟩ (fun k hk => by omega)
    clear hce
    clear k20 u20 HX19 HU19 HR19 h20 hE_19
    have e11 : w20.cell? ⟨d, 11, none⟩ = some (iv 0) := HX20.cell 11
    have f11 : w20.frozen? ⟨d, 11, none⟩ = false := HX20.free 11
    have e12 : w20.cell? ⟨d, 12, none⟩ = some (iv 0) := HX20.cell 12
    have f12 : w20.frozen? ⟨d, 12, none⟩ = false := HX20.free 12
    have e13 : w20.cell? ⟨d, 13, none⟩ = some (.slice none 0 0) := HX20.cell 13
    have f13 : w20.frozen? ⟨d, 13, none⟩ = false := HX20.free 13
    go_upto_region 10 with fail
    obtain ⟨w21, hw21⟩ : ∃ w21, w21 = (((w20.setCell ⟨d, 11, none⟩ (iv (rI xs (sA10 xs)).1)).setCell ⟨d, 12, none⟩ (iv (rI xs (sA11 xs)).1)).setCell ⟨d, 13, none⟩ (.slice pv (rList (rI xs) xs (sA12 xs)).1.length cv)) := ⟨_, rfl⟩
    rw [← hw21]
    have HX21 : Bx d #[iv (rU xs (0, 0)).1, iv (rI xs (sA0 xs)).1, iv (rI xs (sA1 xs)).1, iv (rI xs (sA2 xs)).1, iv (rI xs (sA3 xs)).1, iv (rI xs (sA4 xs)).1, .slice pe (rList (rE xs) xs (sA5 xs)).1.length ce, iv (rI xs (sA6 xs)).1, iv (rI xs (sA7 xs)).1, .bool ((rU xs (sA8 xs)).1 == 1), iv (rI xs (sA9 xs)).1, iv (rI xs (sA10 xs)).1, iv (rI xs (sA11 xs)).1, .slice pv (rList (rI xs) xs (sA12 xs)).1.length cv, .slice none 0 0] 28 w21 := by rw [hw21]; exact (((HX20.set 11 _ rfl).set 12 _ rfl).set 13 _ rfl)
    have u21 : Upd w20 w21 (fun k => k = d) := by rw [hw21]; exact ((((Upd.refl w20 (fun k => k = d)).setCell (.inr rfl) _).setCell (.inr rfl) _).setCell (.inr rfl) _)
    have HU21 : Hid (Upd W w21 (fun k => k = b) ∧ Bx d0 zrow 28 w21) := ⟨HU20.out.1.trans u21 (fun j hj e => by have e1 : j = d := e; have := HWd.out; omega), HU20.out.2.upd u21 (fun e => by have e1 : d0 = d := e; omega)⟩
    have HR21 := Hid.mkW (HR20.out.upd u21 (fun e => hdb e.symm) (fun k hk e => by have e1 : k = d := e; have := HV.out k hk; have := HWd.out; omega) (fun k hk e => by have e1 : k = d := e; have := HW0.out; have := HWd.out; omega))
    have HL21 : Hid (w20.heap.size ≤ w21.heap.size) := u21.size
    have hE_21 : Hid (Es (fun k => d < k) w21 (.slice pe (rList (rE xs) xs (sA5 xs)).1.length ce) (rList (rE xs) xs (sA5 xs)).1) := hE_20.out.upd u21 (fun k hk _ e => by have e1 : k = d := e; omega)
    have hV_21 : Hid (Is (fun k => d < k) w21 (.slice pv (rList (rI xs) xs (sA12 xs)).1.length cv) (rList (rI xs) xs (sA12 xs)).1) := hV_20.out.upd u21 (fun k hk _ e => by have e1 : k = d := e; omega)
    clear hw21 u21 HX20 HU20 HR20 e11 f11 e12 f12 e13 f13 hE_20 hV_20
    have hlt21 : d < w21.heap.size := by have := HLT.out; have := HL4.out; have := HL5.out; have := HL6.out; have := HL7.out; have := HL8.out; have := HL9.out; have := HL10.out; have := HL11.out; have := HL12.out; have := HL13.out; have := HL14.out; have := HL15.out; have := HL16.out; have := HL17.out; have := HL18.out; have := HL19.out; have := HL20.out; have := HL21.out; omega
    have k22 := readData_any HR21.out
    go_wp2_with (fail)
    refine k22.mono ?_
    rintro e w22 ⟨vd, rfl, hbs, h22, u22⟩
    have HX22 := HX21.upd u22 hdb
    have HU22 : Hid (Upd W w22 (fun k => k = b) ∧ Bx d0 zrow 28 w22) := ⟨HU21.out.1.trans u22 (fun _ _ h => h), HU21.out.2.upd u22 hd0b⟩
    have HR22 : Hid (Rd B w0 w22 b v xs (sA14 xs)) := h22
    have HL22 : Hid (w21.heap.size ≤ w22.heap.size) := u22.size
    have hE_22 : Hid (Es (fun k => d < k) w22 (.slice pe (rList (rE xs) xs (sA5 xs)).1.length ce) (rList (rE xs) xs (sA5 xs)).1) := hE_21.out.upd u22 (fun k hk _ e => by have e1 : k = b := e; omega)
    have hV_22 : Hid (Is (fun k => d < k) w22 (.slice pv (rList (rI xs) xs (sA12 xs)).1.length cv) (rList (rI xs) xs (sA12 xs)).1) := hV_21.out.upd u22 (fun k hk _ e => by have e1 : k = b := e; omega)
    obtain ⟨pd, cd, rfl⟩ := hbs.slice
    have hD_22 : Hid (Bs (fun k => d < k) w22 (.slice pd (rT xs (sA13 xs)).1.length cd) (rT xs (sA13 xs)).1) := hbs.mono (fun k hk => by omega)
    clear hbs
    clear k22 u22 HX21 HU21 HR21 h22 hE_21 hV_21
    have e14 : w22.cell? ⟨d, 14, none⟩ = some (.slice none 0 0) := HX22.cell 14
    have f14 : w22.frozen? ⟨d, 14, none⟩ = false := HX22.free 14
    go_upto_region 11 with fail
    obtain ⟨w23, hw23⟩ : ∃ w23, w23 = (w22.setCell ⟨d, 14, none⟩ (.slice pd (rT xs (sA13 xs)).1.length cd)) := ⟨_, rfl⟩
    rw [← hw23]
    have HX23 : Bx d #[iv (rU xs (0, 0)).1, iv (rI xs (sA0 xs)).1, iv (rI xs (sA1 xs)).1, iv (rI xs (sA2 xs)).1, iv (rI xs (sA3 xs)).1, iv (rI xs (sA4 xs)).1, .slice pe (rList (rE xs) xs (sA5 xs)).1.length ce, iv (rI xs (sA6 xs)).1, iv (rI xs (sA7 xs)).1, .bool ((rU xs (sA8 xs)).1 == 1), iv (rI xs (sA9 xs)).1, iv (rI xs (sA10 xs)).1, iv (rI xs (sA11 xs)).1, .slice pv (rList (rI xs) xs (sA12 xs)).1.length cv, .slice pd (rT xs (sA13 xs)).1.length cd] 28 w23 := by rw [hw23]; exact (HX22.set 14 _ rfl)
    have u23 : Upd w22 w23 (fun k => k = d) := by rw [hw23]; exact ((Upd.refl w22 (fun k => k = d)).setCell (.inr rfl) _)
    have HU23 : Hid (Upd W w23 (fun k => k = b) ∧ Bx d0 zrow 28 w23) := ⟨HU22.out.1.trans u23 (fun j hj e => by have e1 : j = d := e; have := HWd.out; omega), HU22.out.2.upd u23 (fun e => by have e1 : d0 = d := e; omega)⟩
    have HR23 := Hid.mkW (HR22.out.upd u23 (fun e => hdb e.symm) (fun k hk e => by have e1 : k = d := e; have := HV.out k hk; have := HWd.out; omega) (fun k hk e => by have e1 : k = d := e; have := HW0.out; have := HWd.out; omega))
    have HL23 : Hid (w22.heap.size ≤ w23.heap.size) := u23.size
    have hE_23 : Hid (Es (fun k => d < k) w23 (.slice pe (rList (rE xs) xs (sA5 xs)).1.length ce) (rList (rE xs) xs (sA5 xs)).1) := hE_22.out.upd u23 (fun k hk _ e => by have e1 : k = d := e; omega)
    have hV_23 : Hid (Is (fun k => d < k) w23 (.slice pv (rList (rI xs) xs (sA12 xs)).1.length cv) (rList (rI xs) xs (sA12 xs)).1) := hV_22.out.upd u23 (fun k hk _ e => by have e1 : k = d := e; omega)
    have hD_23 : Hid (Bs (fun k => d < k) w23 (.slice pd (rT xs (sA13 xs)).1.length cd) (rT xs (sA13 xs)).1) := hD_22.out.upd u23 (fun k hk _ e => by have e1 : k = d := e; omega)
    clear hw23 u23 HX22 HU22 HR22 e14 f14 hE_22 hV_22 hD_22
    have ye := yErr HR23.out
    have yl := yLeft HR23.out
    have HSM : Hid ((sA14 xs).1 ≤ xs.length) := HR23.out.r.le
    by_cases k1 : 1 < rOk xs
    · have HE : Hid (rX xs = 11) := by show rX xs = 11; unfold rX; rw [if_neg HRX.out, if_pos k1]
      have k1' : 1 < (rU xs (sA8 xs)).1 := k1
      clear k1
      go_wp2_with (first | (refine wpList_load_row rfl 28 _ rfl d rfl 28 _ (0, 0) _ HX23 Tryd.underlying28 rfl (by kernel_rfl) ?_) | (refine wpList_store_row rfl 28 _ _ rfl d0 #[iv (rU xs (0, 0)).1, iv (rI xs (sA0 xs)).1, iv (rI xs (sA1 xs)).1, iv (rI xs (sA2 xs)).1, iv (rI xs (sA3 xs)).1, iv (rI xs (sA4 xs)).1, .slice pe (rList (rE xs) xs (sA5 xs)).1.length ce, iv (rI xs (sA6 xs)).1, iv (rI xs (sA7 xs)).1, .bool ((rU xs (sA8 xs)).1 == 1), iv (rI xs (sA9 xs)).1, iv (rI xs (sA10 xs)).1, iv (rI xs (sA11 xs)).1, .slice pv (rList (rI xs) xs (sA12 xs)).1.length cv, .slice pd (rT xs (sA13 xs)).1.length cd] rfl rfl 28 zrow HU23.out.2 (by kernel_rfl) rfl (by kernel_rfl) ?_))
      obtain ⟨HXF, uF⟩ := (show Bx d0 zrow 28 w23 from HU23.out.2).fill (row' := #[iv (rU xs (0, 0)).1, iv (rI xs (sA0 xs)).1, iv (rI xs (sA1 xs)).1, iv (rI xs (sA2 xs)).1, iv (rI xs (sA3 xs)).1, iv (rI xs (sA4 xs)).1, .slice pe (rList (rE xs) xs (sA5 xs)).1.length ce, iv (rI xs (sA6 xs)).1, iv (rI xs (sA7 xs)).1, .bool ((rU xs (sA8 xs)).1 == 1), iv (rI xs (sA9 xs)).1, iv (rI xs (sA10 xs)).1, iv (rI xs (sA11 xs)).1, .slice pv (rList (rI xs) xs (sA12 xs)).1.length cv, .slice pd (rT xs (sA13 xs)).1.length cd])
      refine bodyPost_ret (results_ct rfl _ _ d0 28 #[iv (rU xs (0, 0)).1, iv (rI xs (sA0 xs)).1, iv (rI xs (sA1 xs)).1, iv (rI xs (sA2 xs)).1, iv (rI xs (sA3 xs)).1, iv (rI xs (sA4 xs)).1, .slice pe (rList (rE xs) xs (sA5 xs)).1.length ce, iv (rI xs (sA6 xs)).1, iv (rI xs (sA7 xs)).1, .bool ((rU xs (sA8 xs)).1 == 1), iv (rI xs (sA9 xs)).1, iv (rI xs (sA10 xs)).1, iv (rI xs (sA11 xs)).1, .slice pv (rList (rI xs) xs (sA12 xs)).1.length cv, .slice pd (rT xs (sA13 xs)).1.length cd] (0, 0) _ rfl HXF Tryd.underlying28 rfl (by kernel_rfl)) rfl ?_
      refine ⟨rM xs, pe, ce, pv, cv, pd, cd, ?_, ?_, HU23.out.1.trans uF (fun j hj e => by have e1 : j = d0 := e; have := HZ0.out; omega)⟩
      · rw [HE.out]; rfl
      · exact fun h => absurd h (by rw [HE.out]; decide)
    have k1' : decide (1 < (rU xs (sA8 xs)).1) = false := decide_eq_false (show ¬ 1 < (rU xs (sA8 xs)).1 from k1)
    by_cases k2 : (sA14 xs).2 ≠ 0
    · have HE : Hid (rX xs = (sA14 xs).2) := by show rX xs = _; unfold rX; rw [if_neg HRX.out, if_neg k1, if_pos k2]
      have k2' : ((sA14 xs).2 == 0) = false := by simpa using k2
      have HK2 := Hid.mkW k2
      clear k1 k2 yl
      go_upto_region 14 with (go_at_call 67; refine ye.mono ?_; rintro e wE ⟨rfl, hwE⟩; subst hwE)
      clear ye
      have HRd : Hid (Rd B w0 w23.drew b v xs (sA14 xs)) := HR23.out.below ((Below.refl _ _).drew)
      have hfl := (HU23.out.2.drewQ).fill (row' := #[iv (rU xs (0, 0)).1, iv (rI xs (sA0 xs)).1, iv (rI xs (sA1 xs)).1, iv (rI xs (sA2 xs)).1, iv (rI xs (sA3 xs)).1, iv (rI xs (sA4 xs)).1, .slice pe (rList (rE xs) xs (sA5 xs)).1.length ce, iv (rI xs (sA6 xs)).1, iv (rI xs (sA7 xs)).1, .bool ((rU xs (sA8 xs)).1 == 1), iv (rI xs (sA9 xs)).1, iv (rI xs (sA10 xs)).1, iv (rI xs (sA11 xs)).1, .slice pv (rList (rI xs) xs (sA12 xs)).1.length cv, .slice pd (rT xs (sA13 xs)).1.length cd])
      have HRF := Hid.mkW (Rd.upd (S := fun k => k = d0) HRd.out hfl.2 (fun e => hd0b e.symm) (fun k hk e => by have e1 : k = d0 := e; have := HV.out k hk; have := HZ0.out; omega) (fun k hk e => by have e1 : k = d0 := e; have := HW0.out; have := HZ0.out; omega))
      have HFL := Hid.mkW hfl
      clear hfl
      have yE1 := yErr HRd.out
      have yE2 := yErr HRF.out
      have HXd : w23.drew.heap[d]? = some (.cells #[iv (rU xs (0, 0)).1, iv (rI xs (sA0 xs)).1, iv (rI xs (sA1 xs)).1, iv (rI xs (sA2 xs)).1, iv (rI xs (sA3 xs)).1, iv (rI xs (sA4 xs)).1, .slice pe (rList (rE xs) xs (sA5 xs)).1.length ce, iv (rI xs (sA6 xs)).1, iv (rI xs (sA7 xs)).1, .bool ((rU xs (sA8 xs)).1 == 1), iv (rI xs (sA9 xs)).1, iv (rI xs (sA10 xs)).1, iv (rI xs (sA11 xs)).1, .slice pv (rList (rI xs) xs (sA12 xs)).1.length cv, .slice pd (rT xs (sA13 xs)).1.length cd] 28 (0, 0)) := HX23
      have HUd : w23.drew.heap[d0]? = some (.cells zrow 28 (0, 0)) := HU23.out.2
      refine wp_region_any (by kernel_rfl) ?_
      change wpAny _ _ _ _ _ _ _ (World.drew _)
      refine wpAny_take (i := 1) (v := ptr b) rfl (by kernel_rfl) (by kernel_rfl) (by kernel_rfl) (fun _ _ _ h => h) (Or.inl ⟨by rfl, ?_⟩) ?_
      · intro w; go_simp
      refine wpAny_ready (rs := [0, 2]) (by kernel_rfl) (by simp) ?_
      refine AllReady.cons rfl (fun K hK => ?_) (AllReady.cons rfl (fun K hK => ?_) AllReady.nil)
      · refine step_loadR rfl 28 _ rfl d rfl 28 _ (0, 0) _ HXd Tryd.underlying28 rfl (by kernel_rfl) ?_
        refine hK _ _ ?_
        clear hK K
        refine wpAny_ready (rs := [2]) (by kernel_rfl) (by simp) ?_
        refine AllReady.cons rfl (fun K hK => ?_) AllReady.nil
        go_simp
        go_at_call 67
        (with_reducible refine yE1.mono ?_)
        rintro e wE ⟨rfl, hwE⟩; subst hwE
        go_simp
        refine hK _ _ ?_
        clear hK K
        refine wpAny_ready (rs := [3]) (by kernel_rfl) (by simp) ?_
        refine AllReady.cons rfl (fun K hK => ?_) AllReady.nil
        refine step_storeR rfl 28 _ _ rfl d0 #[iv (rU xs (0, 0)).1, iv (rI xs (sA0 xs)).1, iv (rI xs (sA1 xs)).1, iv (rI xs (sA2 xs)).1, iv (rI xs (sA3 xs)).1, iv (rI xs (sA4 xs)).1, .slice pe (rList (rE xs) xs (sA5 xs)).1.length ce, iv (rI xs (sA6 xs)).1, iv (rI xs (sA7 xs)).1, .bool ((rU xs (sA8 xs)).1 == 1), iv (rI xs (sA9 xs)).1, iv (rI xs (sA10 xs)).1, iv (rI xs (sA11 xs)).1, .slice pv (rList (rI xs) xs (sA12 xs)).1.length cv, .slice pd (rT xs (sA13 xs)).1.length cd] rfl rfl 28 zrow HUd (by kernel_rfl) rfl (by kernel_rfl) ?_
        refine hK _ _ ?_
        clear hK K
        refine wpAny_ready (rs := [4]) (by kernel_rfl) (by simp) ?_
        refine AllReady.cons rfl (fun K hK => ?_) AllReady.nil
        go_simp
        refine hK _ _ ?_
        clear hK K
        refine wpAny_done (by kernel_rfl) ?_ _
        go_wp2
        obtain ⟨HXF, uF⟩ := HFL.out
        refine bodyPost_ret (results_ct rfl _ _ d0 28 #[iv (rU xs (0, 0)).1, iv (rI xs (sA0 xs)).1, iv (rI xs (sA1 xs)).1, iv (rI xs (sA2 xs)).1, iv (rI xs (sA3 xs)).1, iv (rI xs (sA4 xs)).1, .slice pe (rList (rE xs) xs (sA5 xs)).1.length ce, iv (rI xs (sA6 xs)).1, iv (rI xs (sA7 xs)).1, .bool ((rU xs (sA8 xs)).1 == 1), iv (rI xs (sA9 xs)).1, iv (rI xs (sA10 xs)).1, iv (rI xs (sA11 xs)).1, .slice pv (rList (rI xs) xs (sA12 xs)).1.length cv, .slice pd (rT xs (sA13 xs)).1.length cd] (0, 0) _ rfl HXF Tryd.underlying28 rfl (by kernel_rfl)) rfl ?_
        refine ⟨rM xs, pe, ce, pv, cv, pd, cd, ?_, ?_, HU23.out.1.trans ((Upd.refl w23 (fun k => k = d0)).drew.trans uF (fun _ _ h => h)) (fun j hj e => by have e1 : j = d0 := e; have := HZ0.out; omega)⟩
        · rw [HE.out]; rfl
        · exact fun h => absurd (HE.out.symm.trans h) HK2.out
      · go_simp
        go_at_call 67
        (with_reducible refine yE1.mono ?_)
        rintro e wE ⟨rfl, hwE⟩; subst hwE
        go_simp
        refine hK _ _ ?_
        clear hK K
        refine wpAny_ready (rs := [0]) (by kernel_rfl) (by simp) ?_
        refine AllReady.cons rfl (fun K hK => ?_) AllReady.nil
        refine step_loadR rfl 28 _ rfl d rfl 28 _ (0, 0) _ HXd Tryd.underlying28 rfl (by kernel_rfl) ?_
        refine hK _ _ ?_
        clear hK K
        refine wpAny_ready (rs := [3]) (by kernel_rfl) (by simp) ?_
        refine AllReady.cons rfl (fun K hK => ?_) AllReady.nil
        refine step_storeR rfl 28 _ _ rfl d0 #[iv (rU xs (0, 0)).1, iv (rI xs (sA0 xs)).1, iv (rI xs (sA1 xs)).1, iv (rI xs (sA2 xs)).1, iv (rI xs (sA3 xs)).1, iv (rI xs (sA4 xs)).1, .slice pe (rList (rE xs) xs (sA5 xs)).1.length ce, iv (rI xs (sA6 xs)).1, iv (rI xs (sA7 xs)).1, .bool ((rU xs (sA8 xs)).1 == 1), iv (rI xs (sA9 xs)).1, iv (rI xs (sA10 xs)).1, iv (rI xs (sA11 xs)).1, .slice pv (rList (rI xs) xs (sA12 xs)).1.length cv, .slice pd (rT xs (sA13 xs)).1.length cd] rfl rfl 28 zrow HUd (by kernel_rfl) rfl (by kernel_rfl) ?_
        refine hK _ _ ?_
        clear hK K
        refine wpAny_ready (rs := [4]) (by kernel_rfl) (by simp) ?_
        refine AllReady.cons rfl (fun K hK => ?_) AllReady.nil
        go_simp
        refine hK _ _ ?_
        clear hK K
        refine wpAny_done (by kernel_rfl) ?_ _
        go_wp2
        obtain ⟨HXF, uF⟩ := HFL.out
        refine bodyPost_ret (results_ct rfl _ _ d0 28 #[iv (rU xs (0, 0)).1, iv (rI xs (sA0 xs)).1, iv (rI xs (sA1 xs)).1, iv (rI xs (sA2 xs)).1, iv (rI xs (sA3 xs)).1, iv (rI xs (sA4 xs)).1, .slice pe (rList (rE xs) xs (sA5 xs)).1.length ce, iv (rI xs (sA6 xs)).1, iv (rI xs (sA7 xs)).1, .bool ((rU xs (sA8 xs)).1 == 1), iv (rI xs (sA9 xs)).1, iv (rI xs (sA10 xs)).1, iv (rI xs (sA11 xs)).1, .slice pv (rList (rI xs) xs (sA12 xs)).1.length cv, .slice pd (rT xs (sA13 xs)).1.length cd] (0, 0) _ rfl HXF Tryd.underlying28 rfl (by kernel_rfl)) rfl ?_
        refine ⟨rM xs, pe, ce, pv, cv, pd, cd, ?_, ?_, HU23.out.1.trans ((Upd.refl w23 (fun k => k = d0)).drew.trans uF (fun _ _ h => h)) (fun j hj e => by have e1 : j = d0 := e; have := HZ0.out; omega)⟩
        · rw [HE.out]; rfl
        · exact fun h => absurd (HE.out.symm.trans h) HK2.out
    have k2' : (sA14 xs).2 = 0 := by simpa using k2
    rw [k2'] at ye
    by_cases k3 : (sA14 xs).1 < xs.length
    · have HE : Hid (rX xs = 9) := by show rX xs = 9; unfold rX; rw [if_neg HRX.out, if_neg k1, if_neg k2, if_pos k3]
      have k3' : 0 < (xs.length : Int) - ((sA14 xs).1 : Nat) := by omega
      clear k1 k2
      go_upto_region 16 with (first | (go_at_call 67; refine ye.mono ?_; rintro e wE ⟨rfl, hwE⟩; subst hwE) | (go_at_call 74; refine yl.mono ?_; rintro e wE ⟨rfl, nq, hwE⟩; have HNQ := Hid.mkW hwE; clear hwE))
      have hbE : Below w23.heap.size w23 wE := by rw [HNQ.out]; exact below_drewN (Below.refl _ _) nq
      have HXE := HX23.below hbE
      have HUE : Hid (Upd W wE (fun k => k = b) ∧ Bx d0 zrow 28 wE) := ⟨HU23.out.1.trans (Upd.ofBelow (S := fun k => k = b) hbE) (fun _ _ h => h), HU23.out.2.below hbE⟩
      have hE_E := Hid.mkW (hE_23.out.below hbE)
      have hV_E := Hid.mkW (hV_23.out.below hbE)
      have hD_E := Hid.mkW (hD_23.out.below hbE)
      clear hbE ye yl
      go_wp2_with (first | (refine wpList_load_row rfl 28 _ rfl d rfl 28 _ (0, 0) _ HXE Tryd.underlying28 rfl (by kernel_rfl) ?_) | (refine wpList_store_row rfl 28 _ _ rfl d0 #[iv (rU xs (0, 0)).1, iv (rI xs (sA0 xs)).1, iv (rI xs (sA1 xs)).1, iv (rI xs (sA2 xs)).1, iv (rI xs (sA3 xs)).1, iv (rI xs (sA4 xs)).1, .slice pe (rList (rE xs) xs (sA5 xs)).1.length ce, iv (rI xs (sA6 xs)).1, iv (rI xs (sA7 xs)).1, .bool ((rU xs (sA8 xs)).1 == 1), iv (rI xs (sA9 xs)).1, iv (rI xs (sA10 xs)).1, iv (rI xs (sA11 xs)).1, .slice pv (rList (rI xs) xs (sA12 xs)).1.length cv, .slice pd (rT xs (sA13 xs)).1.length cd] rfl rfl 28 zrow HUE.out.2 (by kernel_rfl) rfl (by kernel_rfl) ?_))
      obtain ⟨HXF, uF⟩ := (show Bx d0 zrow 28 wE from HUE.out.2).fill (row' := #[iv (rU xs (0, 0)).1, iv (rI xs (sA0 xs)).1, iv (rI xs (sA1 xs)).1, iv (rI xs (sA2 xs)).1, iv (rI xs (sA3 xs)).1, iv (rI xs (sA4 xs)).1, .slice pe (rList (rE xs) xs (sA5 xs)).1.length ce, iv (rI xs (sA6 xs)).1, iv (rI xs (sA7 xs)).1, .bool ((rU xs (sA8 xs)).1 == 1), iv (rI xs (sA9 xs)).1, iv (rI xs (sA10 xs)).1, iv (rI xs (sA11 xs)).1, .slice pv (rList (rI xs) xs (sA12 xs)).1.length cv, .slice pd (rT xs (sA13 xs)).1.length cd])
      refine bodyPost_ret (results_ct rfl _ _ d0 28 #[iv (rU xs (0, 0)).1, iv (rI xs (sA0 xs)).1, iv (rI xs (sA1 xs)).1, iv (rI xs (sA2 xs)).1, iv (rI xs (sA3 xs)).1, iv (rI xs (sA4 xs)).1, .slice pe (rList (rE xs) xs (sA5 xs)).1.length ce, iv (rI xs (sA6 xs)).1, iv (rI xs (sA7 xs)).1, .bool ((rU xs (sA8 xs)).1 == 1), iv (rI xs (sA9 xs)).1, iv (rI xs (sA10 xs)).1, iv (rI xs (sA11 xs)).1, .slice pv (rList (rI xs) xs (sA12 xs)).1.length cv, .slice pd (rT xs (sA13 xs)).1.length cd] (0, 0) _ rfl HXF Tryd.underlying28 rfl (by kernel_rfl)) rfl ?_
      refine ⟨rM xs, pe, ce, pv, cv, pd, cd, ?_, ?_, HUE.out.1.trans uF (fun j hj e => by have e1 : j = d0 := e; have := HZ0.out; omega)⟩
      · rw [HE.out]; rfl
      · exact fun h => absurd h (by rw [HE.out]; decide)
    · have HE : Hid (rX xs = 0) := by show rX xs = 0; unfold rX; rw [if_neg HRX.out, if_neg k1, if_neg k2, if_neg k3]
      have k3' : (xs.length : Int) - ((sA14 xs).1 : Nat) = 0 := by have := HSM.out; omega
      rw [k3'] at yl
      clear k1 k2
      go_upto_region 17 with (first | (go_at_call 67; refine ye.mono ?_; rintro e wE ⟨rfl, hwE⟩; subst hwE) | (go_at_call 74; refine yl.mono ?_; rintro e wE ⟨rfl, nq, hwE⟩; have HNQ := Hid.mkW hwE; clear hwE))
      have hbE : Below w23.heap.size w23 wE := by rw [HNQ.out]; exact below_drewN (Below.refl _ _) nq
      have HXE := HX23.below hbE
      have HUE : Hid (Upd W wE (fun k => k = b) ∧ Bx d0 zrow 28 wE) := ⟨HU23.out.1.trans (Upd.ofBelow (S := fun k => k = b) hbE) (fun _ _ h => h), HU23.out.2.below hbE⟩
      have hE_E := Hid.mkW (hE_23.out.below hbE)
      have hV_E := Hid.mkW (hV_23.out.below hbE)
      have hD_E := Hid.mkW (hD_23.out.below hbE)
      clear hbE ye yl
      go_wp2_with (first | (refine wpList_load_row rfl 28 _ rfl d rfl 28 _ (0, 0) _ HXE Tryd.underlying28 rfl (by kernel_rfl) ?_) | (refine wpList_store_row rfl 28 _ _ rfl d0 #[iv (rU xs (0, 0)).1, iv (rI xs (sA0 xs)).1, iv (rI xs (sA1 xs)).1, iv (rI xs (sA2 xs)).1, iv (rI xs (sA3 xs)).1, iv (rI xs (sA4 xs)).1, .slice pe (rList (rE xs) xs (sA5 xs)).1.length ce, iv (rI xs (sA6 xs)).1, iv (rI xs (sA7 xs)).1, .bool ((rU xs (sA8 xs)).1 == 1), iv (rI xs (sA9 xs)).1, iv (rI xs (sA10 xs)).1, iv (rI xs (sA11 xs)).1, .slice pv (rList (rI xs) xs (sA12 xs)).1.length cv, .slice pd (rT xs (sA13 xs)).1.length cd] rfl rfl 28 zrow HUE.out.2 (by kernel_rfl) rfl (by kernel_rfl) ?_))
      obtain ⟨HXF, uF⟩ := (show Bx d0 zrow 28 wE from HUE.out.2).fill (row' := #[iv (rU xs (0, 0)).1, iv (rI xs (sA0 xs)).1, iv (rI xs (sA1 xs)).1, iv (rI xs (sA2 xs)).1, iv (rI xs (sA3 xs)).1, iv (rI xs (sA4 xs)).1, .slice pe (rList (rE xs) xs (sA5 xs)).1.length ce, iv (rI xs (sA6 xs)).1, iv (rI xs (sA7 xs)).1, .bool ((rU xs (sA8 xs)).1 == 1), iv (rI xs (sA9 xs)).1, iv (rI xs (sA10 xs)).1, iv (rI xs (sA11 xs)).1, .slice pv (rList (rI xs) xs (sA12 xs)).1.length cv, .slice pd (rT xs (sA13 xs)).1.length cd])
      refine bodyPost_ret (results_ct rfl _ _ d0 28 #[iv (rU xs (0, 0)).1, iv (rI xs (sA0 xs)).1, iv (rI xs (sA1 xs)).1, iv (rI xs (sA2 xs)).1, iv (rI xs (sA3 xs)).1, iv (rI xs (sA4 xs)).1, .slice pe (rList (rE xs) xs (sA5 xs)).1.length ce, iv (rI xs (sA6 xs)).1, iv (rI xs (sA7 xs)).1, .bool ((rU xs (sA8 xs)).1 == 1), iv (rI xs (sA9 xs)).1, iv (rI xs (sA10 xs)).1, iv (rI xs (sA11 xs)).1, .slice pv (rList (rI xs) xs (sA12 xs)).1.length cv, .slice pd (rT xs (sA13 xs)).1.length cd] (0, 0) _ rfl HXF Tryd.underlying28 rfl (by kernel_rfl)) rfl ?_
      refine ⟨rM xs, pe, ce, pv, cv, pd, cd, ?_, ?_, HUE.out.1.trans uF (fun j hj e => by have e1 : j = d0 := e; have := HZ0.out; omega)⟩
      · rw [HE.out]; rfl
      · exact fun h => ⟨rfl, (hE_E.out.upd uF (fun k hk _ e => by have e1 : k = d0 := e; omega)).mono (fun k hk => by have := HWd.out; omega), (hV_E.out.upd uF (fun k hk _ e => by have e1 : k = d0 := e; omega)).mono (fun k hk => by have := HWd.out; omega), (hD_E.out.upd uF (fun k hk _ e => by have e1 : k = d0 := e; omega)).mono (fun k hk => by have := HWd.out; omega)⟩
end Go.Proofs.YtamgoknoapcnjaaDoor
