/- The document's Encode. -/
import Derived.Test.YtamgoknoapcnjaaDoorNZ
import Derived.Test.YtamgoknoapcnjaaDoorNE
import Derived.Deep.RegionHeldLaw
import Derived.BigRegion
namespace Go.Proofs.YtamgoknoapcnjaaDoor
open Go Go.RowKit
abbrev nilS : Value := .slice none 0 0
theorem yTextw {B : Nat} {w0 W : World} {v0 v : Value} {xs ds : List Int} (h : OwPost B w0 W v0 v xs) (hB : B ≤ w0.heap.size) (hl : xs.length ≤ 800000) (hd : isB ds) (hdl : ds.length ≤ 30000) :
    Calls Tryd.prog 30 #[v, .string (strOfNums ds)] W fun e w' => ∃ p m c, e = .returned (.slice p m c) ∧ OwPost B w0 w' v0 (.slice p m c) (xs ++ btx ds) ∧ Kp W w' := by
  have hs : strB (strOfNums ds) = ds := strB_nums hd
  have hz : (strOfNums ds).size = ds.length := by rw [← strB_len, hs]
  refine (fTextw B v xs (strOfNums ds) W h.1 hl (Nat.le_trans hB h.2.1.size) (by omega)).mono ?_
  rintro e w' ⟨v', rfl, k⟩
  rw [hs, hz] at k
  obtain ⟨p, c, rfl⟩ := owns_formB0 k.1
  exact ⟨p, _, c, rfl, h.trans k, ow_bx h.1 k⟩
/-- What a region that writes reads stays, whatever it writes. -/
def Stays (B : Nat) (w0 : World) (S : World → Prop) : Prop := ∀ W W' v ys, S W → OwPost B w0 W' nilS v ys → Kp W W' → S W'
section
variable {B : Nat} {w0 : World} {S : World → Prop}
theorem sI (hS : Hid (Stays B w0 S)) (hB : B ≤ w0.heap.size) {W : World} {p : Option Addr} {m c : Nat} {zs : List Int} (h : Hid (OwPost B w0 W nilS (.slice p m c) zs)) (hs : S W) (hl : zs.length ≤ 800000) (n : Int) :
    Calls Tryd.prog 29 #[.slice p m c, iv n] W fun e w' => ∃ p' m' c', e = .returned (.slice p' m' c') ∧ Hid (OwPost B w0 w' nilS (.slice p' m' c') (zs ++ b8 n)) ∧ S w' := by
  refine (yIntw h.out hB hl n).mono ?_
  rintro e w' ⟨p', m', c', rfl, h1, h2⟩
  exact ⟨p', m', c', rfl, h1, hS.out W w' _ _ hs h1 h2⟩
theorem sU (hS : Hid (Stays B w0 S)) (hB : B ≤ w0.heap.size) {W : World} {p : Option Addr} {m c : Nat} {zs : List Int} (h : Hid (OwPost B w0 W nilS (.slice p m c) zs)) (hs : S W) (hl : zs.length ≤ 800000) (n : Int) :
    Calls Tryd.prog 28 #[.slice p m c, iv n] W fun e w' => ∃ p' m' c', e = .returned (.slice p' m' c') ∧ Hid (OwPost B w0 w' nilS (.slice p' m' c') (zs ++ b1 n)) ∧ S w' := by
  refine (yU8w h.out hB hl n).mono ?_
  rintro e w' ⟨p', m', c', rfl, h1, h2⟩
  exact ⟨p', m', c', rfl, h1, hS.out W w' _ _ hs h1 h2⟩
theorem sT (hS : Hid (Stays B w0 S)) (hB : B ≤ w0.heap.size) {W : World} {p : Option Addr} {m c : Nat} {zs ds : List Int} (h : Hid (OwPost B w0 W nilS (.slice p m c) zs)) (hs : S W) (hl : zs.length ≤ 800000) (hd : Hid (isB ds)) (hdl : ds.length ≤ 30000) :
    Calls Tryd.prog 30 #[.slice p m c, .string (strOfNums ds)] W fun e w' => ∃ p' m' c', e = .returned (.slice p' m' c') ∧ Hid (OwPost B w0 w' nilS (.slice p' m' c') (zs ++ btx ds)) ∧ S w' := by
  refine (yTextw h.out hB hl hd.out hdl).mono ?_
  rintro e w' ⟨p', m', c', rfl, h1, h2⟩
  exact ⟨p', m', c', rfl, h1, hS.out W w' _ _ hs h1 h2⟩
end
theorem nil_old (B : Nat) : ∀ k, nilS.ownBlock = some k → B ≤ k := fun k h => by simp [Value.ownBlock] at h
/-- Boxes that were there ahead of all writing stay. -/
theorem OwPost.bx {B : Nat} {w0 W : World} {v : Value} {ys : List Int} {d T : Nat} {row : Array Value} (h : OwPost B w0 W nilS v ys) (hx : Bx d row T w0) : Bx d row T W :=
  hx.upd h.2.1 (fun e => by simp [Value.ownBlock] at e)
theorem OwPost.ms {B : Nat} {w0 W : World} {v : Value} {ys : List Int} (h : OwPost B w0 W nilS v ys) {Z : Nat → Prop} {ve vv vd : Value} {m : Md} (hm : Ms Z w0 ve vv vd m) : Ms Z W ve vv vd m :=
  hm.upd h.2.1 (fun _ _ _ e => by simp [Value.ownBlock] at e)
theorem OwPost.bs {B : Nat} {w0 W : World} {v : Value} {ys : List Int} (h : OwPost B w0 W nilS v ys) {Z : Nat → Prop} {vd : Value} {zs : List Int} (hm : Bs Z w0 vd zs) : Bs Z W vd zs :=
  hm.upd h.2.1 (fun _ _ _ e => by simp [Value.ownBlock] at e)
theorem OwPost.cellOf {B : Nat} {w0 W : World} {v : Value} {ys : List Int} (h : OwPost B w0 W nilS v ys) {p : Addr} (hp : p.block < w0.heap.size) {u : Value} (hc : w0.cell? p = some u) : W.cell? p = some u :=
  (h.2.1.cell hp (fun e => by simp [Value.ownBlock] at e)).trans hc
theorem yMetaw {B : Nat} {w0 W : World} {p' : Option Addr} {m' c' : Nat} {zs vs : List Int} {p : Option Addr} {c : Nat} {Z : Nat → Prop} (mi mt : Int) (h : Hid (OwPost B w0 W nilS (.slice p' m' c') zs)) (hB : B ≤ w0.heap.size) (hl : zs.length + 8 * vs.length ≤ 700000) (hv : Hid (Is Z w0 (.slice p vs.length c) vs)) (hZ : Hid (∀ k, Z k → k < B)) :
    Calls Tryd.prog 32 #[.slice p' m' c', .agg #[iv mi, iv mt, .slice p vs.length c]] W fun e w' => ∃ p m c, e = .returned (.slice p m c) ∧ Hid (OwPost B w0 w' nilS (.slice p m c) (zs ++ (b8 mi ++ (b8 mt ++ (b1 (vs.length : Nat) ++ intsB vs))))) := by
  refine (fMeta mi mt h.out hB hl (hv.out.upd h.out.2.1 (fun _ _ _ e => by simp [Value.ownBlock] at e)) hZ.out (nil_old B)).mono ?_
  rintro e w' ⟨v', rfl, hp⟩
  obtain ⟨p, c, rfl⟩ := owns_formB0 hp.1
  exact ⟨p, _, c, rfl, hp⟩
set_option maxRecDepth 100000 in
set_option maxHeartbeats 8000000 in
theorem dEncode_any (Z : Nat → Prop) (w : World) (m : Md) (ve vv vd : Value) (hm : Ms Z w ve vv vd m) (hs : Small m) (ho : MOk m) (hZ : ∀ k, Z k → k < w.heap.size) :
    Calls Tryd.prog 11 #[.agg (mrow m ve vv vd)] w fun e w' => ∃ v', e = .returned (.tuple #[v', iv (encE m)]) ∧ w'.ownsRow w.heap.size 5 1 v' (encR m).length (u8s (encR m)) ∧ Below w.heap.size w w' := by
  obtain ⟨pe, ce, rfl, hce1, hce2, -⟩ := hm.e
  obtain ⟨pv, cv, rfl, hcv1, hcv2, -⟩ := hm.v
  obtain ⟨pd, cd, rfl⟩ := hm.d.slice
  obtain ⟨R, hR⟩ : ∃ R, R = mrow m (.slice pe m.es.length ce) (.slice pv m.vs.length cv) (.slice pd m.data.length cd) := ⟨_, rfl⟩
  obtain ⟨w1, hw1⟩ : ∃ w1, w1 = w.alloc (.cells (mrow m (.slice pe m.es.length ce) (.slice pv m.vs.length cv) (.slice pd m.data.length cd)) 28) := ⟨_, rfl⟩
  have hb1 : Below w.heap.size w w1 := by rw [hw1]; exact (Below.refl _ _).alloc (Nat.le_refl _) _
  obtain ⟨d, hd⟩ : ∃ d, d = w.heap.size := ⟨_, rfl⟩
  have HX1 : Bx d R 28 w1 := by rw [hd, hw1, hR]; exact row_alloc w _ 28
  obtain ⟨c0, c1, c2, c3, c4, c5, c6, c7, c8, c9, c10, c11, c12, c13, c14⟩ := msg_cells d m (.slice pe m.es.length ce) (.slice pv m.vs.length cv) (.slice pd m.data.length cd)
  rw [← hR] at c0 c1 c2 c3 c4 c5 c6 c7 c8 c9 c10 c11 c12 c13 c14
  obtain ⟨B, hBd⟩ : ∃ B, B = w.heap.size := ⟨_, rfl⟩
  have hB : B ≤ w1.heap.size := by rw [hBd]; exact hb1.size
  have HB1 := Hid.mkW hb1
  have HM := Hid.mkW (hm.below hb1)
  have HS := Hid.mkW hs
  have HO := Hid.mkW ho
  have HZ : Hid (∀ k, Z k → k < B) := by rw [hBd]; exact hZ
  have he300 := hs.es
  have hv300 := hs.vs
  have H0 : Hid (OwPost B w1 w1 nilS nilS []) := OwPost.refl (World.ownsRow_nil _ _ _ _)
  have HBB : Hid (B = w.heap.size) := hBd
  have HFIN : Hid (∀ W v ys, OwPost B w1 W nilS v ys → Below w.heap.size w W) := fun W v ys h => by
    have := h.old hB (nil_old B)
    rw [hBd] at this
    exact hb1.trans this
  clear hm hs ho hZ hb1 hce1 hce2 hcv1 hcv2 hBd hR
  by_cases k1 : m.kind < 1
  · have HR : Hid (encE m = 3) := by show _ = _; unfold encE isK; rw [if_pos (by simp; omega)]
    have HN : Hid (encR m = []) := by show _ = _; unfold encR; rw [if_neg (by rw [HR.out]; decide)]
    go_enter Tryd.func11, Tryd.ntmps11
    go_upto_region 1 with fail
    rw [← hw1, ← hd]
    clear hw1 hd
    go_wp2
    go_ret2
    rw [HR.out, HN.out]
    exact ⟨_, rfl, World.ownsRow_nil _ _ _ _, HB1.out⟩
  have k1' : decide (m.kind < 1) = false := by simpa using k1
  by_cases k2 : 5 < m.kind
  · have HR : Hid (encE m = 3) := by show _ = _; unfold encE isK; rw [if_pos (by simp; omega)]
    have HN : Hid (encR m = []) := by show _ = _; unfold encR; rw [if_neg (by rw [HR.out]; decide)]
    clear k1
    go_enter Tryd.func11, Tryd.ntmps11
    go_upto_region 1 with fail
    rw [← hw1, ← hd]
    clear hw1 hd
    go_wp2
    go_ret2
    rw [HR.out, HN.out]
    exact ⟨_, rfl, World.ownsRow_nil _ _ _ _, HB1.out⟩
  have k2' : decide (5 < m.kind) = false := by simpa using k2
  have HK : Hid (isK m.kind = true) := by show _ = _; unfold isK; simp; omega
  clear k1 k2
  by_cases k3 : 255 < m.es.length
  · have HR : Hid (encE m = 4) := by show _ = _; unfold encE; rw [if_neg (by simp [HK.out]), if_pos (.inl k3)]
    have HN : Hid (encR m = []) := by show _ = _; unfold encR; rw [if_neg (by rw [HR.out]; decide)]
    go_enter Tryd.func11, Tryd.ntmps11
    go_upto_region 1 with fail
    rw [← hw1, ← hd]
    clear hw1 hd
    go_wp2
    go_ret2
    rw [HR.out, HN.out]
    exact ⟨_, rfl, World.ownsRow_nil _ _ _ _, HB1.out⟩
  have k3' : decide (255 < m.es.length) = false := by simpa using k3
  by_cases k4 : 255 < m.vs.length
  · have HR : Hid (encE m = 4) := by show _ = _; unfold encE; rw [if_neg (by simp [HK.out]), if_pos (.inr k4)]
    have HN : Hid (encR m = []) := by show _ = _; unfold encR; rw [if_neg (by rw [HR.out]; decide)]
    have k4i : (255 : Int) < (m.vs.length : Nat) := by omega
    have k3i : ¬ (255 : Int) < (m.es.length : Nat) := by omega
    go_enter Tryd.func11, Tryd.ntmps11
    go_upto_region 1 with fail
    rw [← hw1, ← hd]
    clear hw1 hd
    go_wp2
    go_ret2
    rw [HR.out, HN.out]
    exact ⟨_, rfl, World.ownsRow_nil _ _ _ _, HB1.out⟩
  have k4' : decide (255 < m.vs.length) = false := by simpa using k4
  have he255 : m.es.length ≤ 255 := by omega
  have hv255 : m.vs.length ≤ 255 := by omega
  have HE : Hid (encE m = if m.es.any noB = true then 3 else 0) := by show _ = _; unfold encE; rw [if_neg (by simp [HK.out]), if_neg (by omega)]
  clear k3 k4 he300 hv300
  have HF : Hid (Fit m) := ⟨he255, hv255, by have := HS.out.sum; omega⟩
  go_enter Tryd.func11, Tryd.ntmps11
  go_upto_region 1 with fail
  rw [← hw1, ← hd]
  clear hw1 hd
  go_upto_region 6 with (go_at_call 28; refine (yU8w H0.out hB (by simp) _).mono ?_; rintro e w2 ⟨p2, m2, q2, rfl, hp2, -⟩; have HP2 := Hid.mkW hp2; have HX2 := hp2.bx HX1; clear hp2)
  have HD6 : Hid (d < w2.heap.size) := HX2.lt
  go_upto_region 7 with fail
  obtain ⟨dl, hdl⟩ : ∃ dl, dl = w2.heap.size := ⟨_, rfl⟩
  obtain ⟨w3, hw3⟩ : ∃ w3, w3 = w2.alloc (.cells #[iv m.src, iv m.dst, iv m.term, iv m.index, iv m.lt] 3) := ⟨_, rfl⟩
  have hb3 : Below w2.heap.size w2 w3 := by rw [hw3]; exact (Below.refl _ _).alloc (Nat.le_refl _) _
  have HL3 : Bx dl #[iv m.src, iv m.dst, iv m.term, iv m.index, iv m.lt] 3 w3 := by rw [hdl, hw3]; exact row_alloc w2 _ 3
  rw [← hdl, ← hw3]
  have HP3 : Hid (OwPost B w1 w3 nilS (.slice p2 m2 q2) (b1 m.kind)) := HP2.out.below0 hb3
  have HX3 := HX2.below hb3
  clear hw3 hdl hb3 HX2 HP2
  have H1 : Hid (OwPost B w1 w3 nilS (.slice p2 m2 q2) (b1 m.kind ++ intsB ([m.src, m.dst, m.term, m.index, m.lt].take 0)) ∧ Bx dl #[iv m.src, iv m.dst, iv m.term, iv m.index, iv m.lt] 3 w3) := by
    refine ⟨?_, HL3⟩
    have := HP3.out
    simpa [intsB] using this
  clear HP3 HX3 HL3
  go_wp2
  go_loopg [4, 6] 6 (fun kx s4 s6 wq => ∃ (j : Nat) (p : Option Addr) (mm q : Nat), s6 = .int .i64 j ∧ kx + j = 6 ∧ j ≤ 5 ∧ s4 = .slice p mm q ∧ Hid (OwPost B w1 wq nilS (.slice p mm q) (b1 m.kind ++ intsB ([m.src, m.dst, m.term, m.index, m.lt].take j)) ∧ Bx dl #[iv m.src, iv m.dst, iv m.term, iv m.index, iv m.lt] 3 wq))
  case atStart => exact ⟨0, p2, m2, q2, rfl, rfl, by omega, rfl, H1⟩
  case round =>
    obtain ⟨j, p, mm, q, rfl, hk, hj, rfl, HW⟩ := hrel
    clear H1
    by_cases hlt : j < 5
    · obtain ⟨x, hx⟩ : ∃ x, [m.src, m.dst, m.term, m.index, m.lt][j]? = some x := ⟨_, List.getElem?_eq_getElem (by simpa using hlt)⟩
      have hcx : wr.cell? ⟨dl, j, none⟩ = some (iv x) := by
        refine (HW.out.2.cell j).trans ?_
        have e : (#[iv m.src, iv m.dst, iv m.term, iv m.index, iv m.lt] : Array Value) = ([m.src, m.dst, m.term, m.index, m.lt].map iv).toArray := rfl
        rw [e]
        simp only [List.getElem?_toArray, List.getElem?_map, hx, Option.map_some]
      have hci := yIntw HW.out.1 hB (by
        have h1 := intsB_len ([m.src, m.dst, m.term, m.index, m.lt].take j)
        have h3 : ([m.src, m.dst, m.term, m.index, m.lt].take j).length ≤ 5 := by simp; omega
        simp only [List.length_append, b1_len]
        omega) x
      have HXX := Hid.mkW hx
      clear hx
      go_wp2_with (go_at_call 29; refine hci.mono ?_; rintro e w5 ⟨p5, m5, c5, rfl, hp5, hk5⟩; have HP5 := Hid.mkW (And.intro hp5 (hk5 _ _ _ (by decide) HW.out.2)); clear hp5 hk5)
      go_roundg (5 - j)
      case measure => omega
      case rel =>
        refine ⟨j + 1, p5, m5, c5, by congr 1, by omega, by omega, rfl, ?_, HP5.out.2⟩
        have h5 := HP5.out.1
        have hl : j < [m.src, m.dst, m.term, m.index, m.lt].length := by simpa using hlt
        have ex : [m.src, m.dst, m.term, m.index, m.lt][j] = x := by
          have := HXX.out
          rw [List.getElem?_eq_getElem hl] at this
          exact Option.some.inj this
        rw [List.take_succ_eq_append_getElem hl, intsB_snoc, ex, ← List.append_assoc]
        exact h5
    · obtain rfl : j = 5 := by omega
      have HP6 : Hid (OwPost B w1 wr nilS (.slice p mm q) (b1 m.kind ++ intsB [m.src, m.dst, m.term, m.index, m.lt])) := HW.out.1
      clear HW
      have HX6 := HP6.out.bx HX1
      go_upto_region 12 with (go_at_call 28; refine (yU8w HP6.out hB (by simp only [List.length_append, intsB_len, b1_len, List.length_cons, List.length_nil]; omega) _).mono ?_; rintro e w7 ⟨p7, m7, q7, rfl, hp7, -⟩; have HP7 := Hid.mkW hp7; clear hp7)
      have HL7 : Hid (((b1 m.kind ++ intsB [m.src, m.dst, m.term, m.index, m.lt]) ++ b1 (m.es.length : Nat)) = preB m) := by show _ = _; simp [preB, List.append_assoc]
      rw [HL7.out] at HP7
      have H2 : Hid (OwPost B w1 w7 nilS (.slice p7 m7 q7) (preB m ++ entsB (m.es.take 0)) ∧ (m.es.take 0).any noB = false) := by
        refine ⟨?_, by simp⟩
        have := HP7.out
        simpa [entsB] using this
      have HX7 := HP7.out.bx HX1
      clear HP6 HX6 HP7 HL7
      go_wp2
      go_loopg [4, 7, 8] (m.es.length + 1) (fun kx s4 s7 _s8 wq => ∃ (j : Nat) (p : Option Addr) (mm q : Nat), s7 = .int .i64 j ∧ kx + j = m.es.length + 1 ∧ j ≤ m.es.length ∧ s4 = .slice p mm q ∧ Hid (OwPost B w1 wq nilS (.slice p mm q) (preB m ++ entsB (m.es.take j)) ∧ (m.es.take j).any noB = false))
      case atStart => exact ⟨0, p7, m7, q7, rfl, by omega, by omega, rfl, H2⟩
      case round =>
        obtain ⟨j, p, mm, q, rfl, hk, hj, rfl, HW⟩ := hrel
        clear H2 HX7
        have HXr := HW.out.1.bx HX1
        have HLE : Hid ((preB m ++ entsB (m.es.take j)).length ≤ 40000) := by
          show _ ≤ _
          have h1 := entsB_len (m.es.take j)
          have h2 := entsN_take m.es j
          have h3 := HF.out.es
          have h4 := HF.out.sum
          have h5 := List.length_take_le j m.es
          have h6 : (m.es.take j).length ≤ m.es.length := by simp; omega
          rw [List.length_append, preB_len]
          omega
        by_cases hlt : j < m.es.length
        · obtain ⟨g, o, pe1, ce1, x, rfl, hx, hz, hgl, a0, a1, a2, a3, hdv⟩ := ent_cells HM.out.e (Below.refl w1.heap.size w1) hlt
          have q0 := HW.out.1.cellOf (p := ⟨g, o + j * 4, none⟩) hgl a0
          have q1 := HW.out.1.cellOf (p := ⟨g, o + j * 4 + 1, none⟩) hgl a1
          have q2 := HW.out.1.cellOf (p := ⟨g, o + j * 4 + 2, none⟩) hgl a2
          have q3 := HW.out.1.cellOf (p := ⟨g, o + j * 4 + 3, none⟩) hgl a3
          have hxd : x.d.length ≤ 30000 := by have := entsN_mem hx; have := HF.out.sum; omega
          have HXO := Hid.mkW (HO.out.es x (List.mem_of_getElem? hx))
          have HDV := Hid.mkW hdv
          have HXX := Hid.mkW hx
          clear hdv hx hz hgl a0 a1 a2 a3
          go_upto_region 16 with fail
          obtain ⟨w4, hw4⟩ : ∃ w4, w4 = wr.alloc (.cells #[iv x.i, iv x.t, iv x.k, .slice pe1 x.d.length ce1] 58) := ⟨_, rfl⟩
          have hb4 : Below wr.heap.size wr w4 := by rw [hw4]; exact (Below.refl _ _).alloc (Nat.le_refl _) _
          obtain ⟨d4, hd4⟩ : ∃ d4, d4 = wr.heap.size := ⟨_, rfl⟩
          have HE4 : Bx d4 #[iv x.i, iv x.t, iv x.k, .slice pe1 x.d.length ce1] 58 w4 := by rw [hw4, hd4]; exact row_alloc wr _ 58
          rw [← hw4, ← hd4]
          have HP4 := Hid.mkW (HW.out.1.below0 hb4)
          have e0 := fun W (h : Bx d4 #[iv x.i, iv x.t, iv x.k, .slice pe1 x.d.length ce1] 58 W) => (h.cell 0 : _ = some (iv x.i))
          have e1 := fun W (h : Bx d4 #[iv x.i, iv x.t, iv x.k, .slice pe1 x.d.length ce1] 58 W) => (h.cell 1 : _ = some (iv x.t))
          have e2 := fun W (h : Bx d4 #[iv x.i, iv x.t, iv x.k, .slice pe1 x.d.length ce1] 58 W) => (h.cell 2 : _ = some (iv x.k))
          have e3 := fun W (h : Bx d4 #[iv x.i, iv x.t, iv x.k, .slice pe1 x.d.length ce1] 58 W) => (h.cell 3 : _ = some (Value.slice pe1 x.d.length ce1))
          clear hw4 hd4 q0 q1 q2 q3 c0 c1 c2 c3 c4 c5 c6 c7 c8 c9 c10 c11 c12 c13 c14 HXr hb4
          by_cases n1 : x.k < 0
          · have HR : Hid (encE m = 3) := by
              show _ = _
              rw [HE.out, if_pos (List.any_eq_true.2 ⟨x, List.mem_of_getElem? HXX.out, by simp [noB]; omega⟩)]
            have HN : Hid (encR m = []) := by show _ = _; unfold encR; rw [if_neg (by rw [HR.out]; decide)]
            go_wp2
            go_ret2
            rw [HR.out, HN.out]
            exact ⟨_, rfl, World.ownsRow_nil _ _ _ _, HFIN.out _ _ _ HP4.out⟩
          have n1' : decide (x.k < 0) = false := by simpa using n1
          by_cases n2 : 255 < x.k
          · have HR : Hid (encE m = 3) := by
              show _ = _
              rw [HE.out, if_pos (List.any_eq_true.2 ⟨x, List.mem_of_getElem? HXX.out, by simp [noB]; omega⟩)]
            have HN : Hid (encR m = []) := by show _ = _; unfold encR; rw [if_neg (by rw [HR.out]; decide)]
            clear n1
            go_wp2
            go_ret2
            rw [HR.out, HN.out]
            exact ⟨_, rfl, World.ownsRow_nil _ _ _ _, HFIN.out _ _ _ HP4.out⟩
          have n2' : decide (255 < x.k) = false := by simpa using n2
          have HNB : Hid (noB x = false) := by show _ = _; unfold noB; simp; omega
          clear n1 n2
          go_upto_region 18 with fail
          have HST : Hid (Stays B w1 (fun W => W.cell? ⟨d4, 0, none⟩ = some (iv x.i) ∧ W.cell? ⟨d4, 1, none⟩ = some (iv x.t) ∧ W.cell? ⟨d4, 2, none⟩ = some (iv x.k) ∧ W.cell? ⟨d4, 3, none⟩ = some (Value.slice pe1 x.d.length ce1) ∧ (convert 26 9 (Value.slice pe1 x.d.length ce1)).run Tryd.prog W = .ok (.string (strOfNums x.d)) W ∧ Hid (Bx d4 #[iv x.i, iv x.t, iv x.k, .slice pe1 x.d.length ce1] 58 W))) := by
            intro W W' v ys hs hp hk
            have hx := hk _ _ _ (by decide) hs.2.2.2.2.2.out
            exact ⟨e0 _ hx, e1 _ hx, e2 _ hx, e3 _ hx, conv_sees (hp.bs HDV.out).s, hx⟩
          have hS4 : (fun W => W.cell? ⟨d4, 0, none⟩ = some (iv x.i) ∧ W.cell? ⟨d4, 1, none⟩ = some (iv x.t) ∧ W.cell? ⟨d4, 2, none⟩ = some (iv x.k) ∧ W.cell? ⟨d4, 3, none⟩ = some (Value.slice pe1 x.d.length ce1) ∧ (convert 26 9 (Value.slice pe1 x.d.length ce1)).run Tryd.prog W = .ok (.string (strOfNums x.d)) W ∧ Hid (Bx d4 #[iv x.i, iv x.t, iv x.k, .slice pe1 x.d.length ce1] 58 W)) w4.drew := ⟨e0 _ HE4, e1 _ HE4, e2 _ HE4, e3 _ HE4, conv_sees (((HP4.out.below0 (Below.refl w4.heap.size w4).drew).bs HDV.out).s), HE4⟩
          have HQ0 := Hid.mkW (HP4.out.below0 (Below.refl w4.heap.size w4).drew)
          have HXD : Hid (isB x.d) := HXO.out.d
          clear e0 e1 e2 e3 HE4 HP4
          dsimp only at hS4
          go_region_held_law (fun W => W.cell? ⟨d4, 0, none⟩ = some (iv x.i) ∧ W.cell? ⟨d4, 1, none⟩ = some (iv x.t) ∧ W.cell? ⟨d4, 2, none⟩ = some (iv x.k) ∧ W.cell? ⟨d4, 3, none⟩ = some (Value.slice pe1 x.d.length ce1) ∧ (convert 26 9 (Value.slice pe1 x.d.length ce1)).run Tryd.prog W = .ok (.string (strOfNums x.d)) W ∧ Hid (Bx d4 #[iv x.i, iv x.t, iv x.k, .slice pe1 x.d.length ce1] 58 W)) (first | with_reducible assumption | (show _ ∧ _; with_reducible assumption)) (first
            | (go_at_call 30; (with_reducible refine (sT HST hB HQ3 (by assumption) (by have := HLE.out; simp only [List.length_append, b8_len, b1_len] at this ⊢; omega) HXD hxd).mono ?_); rintro e w9 ⟨p9, m9, q9, rfl, HQ4, hS9⟩)
            | (go_at_call 28; (with_reducible refine (sU HST hB HQ2 (by assumption) (by have := HLE.out; simp only [List.length_append, b8_len] at this ⊢; omega) _).mono ?_); rintro e w8 ⟨p8, m8, q8, rfl, HQ3, hS8⟩)
            | (go_at_call 29; (with_reducible refine (sI HST hB HQ1 (by assumption) (by have := HLE.out; simp only [List.length_append, b8_len] at this ⊢; omega) _).mono ?_); rintro e w6 ⟨p6, m6, q6, rfl, HQ2, hS6⟩)
            | (go_at_call 29; (with_reducible refine (sI HST hB HQ0 (by assumption) (by have := HLE.out; simp only [List.length_append] at this ⊢; omega) _).mono ?_); rintro e w5 ⟨p5, m5, q5, rfl, HQ1, hS5⟩))
          all_goals
            go_wp2
            go_roundg (m.es.length - j)
            case measure => omega
            case rel =>
              refine ⟨j + 1, p9, m9, q9, by congr 1, by omega, by omega, rfl, ?_, ?_⟩
              · rw [List.take_succ_eq_append_getElem hlt, entsB_snoc]
                have ex : m.es[j] = x := by
                  have hx := HXX.out
                  rw [List.getElem?_eq_getElem hlt] at hx
                  exact Option.some.inj hx
                rw [ex]
                have := HQ4.out
                simpa [entB, List.append_assoc] using this
              · rw [any_take_succ _ _ _ HXX.out, HW.out.2, HNB.out]
                rfl
        · obtain rfl : j = m.es.length := by omega
          have HNN : Hid (m.es.any noB = false) := by
            have := HW.out.2
            rw [List.take_length] at this
            exact this
          have HR : Hid (encE m = 0) := by show _ = _; rw [HE.out, HNN.out]; rfl
          have HN : Hid (encR m = frameB (msgB m)) := by show _ = _; unfold encR; rw [if_pos HR.out]
          have HP8 : Hid (OwPost B w1 wr nilS (.slice p mm q) (preB m ++ entsB m.es)) := by
            have := HW.out.1
            rw [List.take_length] at this
            exact this
          have HLE8 : Hid ((preB m ++ entsB m.es).length ≤ 40000) := by
            have := HLE.out
            rw [List.take_length] at this
            exact this
          have HS19 : Hid (∀ W v ys, OwPost B w1 W nilS v ys → (fun W => W.cell? ⟨d, 7, none⟩ = some (iv m.commit) ∧ W.cell? ⟨d, 8, none⟩ = some (iv m.seq) ∧ W.cell? ⟨d, 9, none⟩ = some (.bool m.ok) ∧ W.cell? ⟨d, 10, none⟩ = some (iv m.mat)) W) := fun W v ys h => by
            have hx := h.bx HX1
            exact ⟨c7 _ hx, c8 _ hx, c9 _ hx, c10 _ hx⟩
          have HS20 : Hid (∀ W v ys, OwPost B w1 W nilS v ys → (fun W => W.cell? ⟨d, 11, none⟩ = some (iv m.mi) ∧ W.cell? ⟨d, 12, none⟩ = some (iv m.mt) ∧ W.cell? ⟨d, 13, none⟩ = some (Value.slice pv m.vs.length cv) ∧ W.cell? ⟨d, 14, none⟩ = some (Value.slice pd m.data.length cd) ∧ (convert 26 9 (Value.slice pd m.data.length cd)).run Tryd.prog W = .ok (.string (strOfNums m.data)) W) W) := fun W v ys h => by
            have hx := h.bx HX1
            exact ⟨c11 _ hx, c12 _ hx, c13 _ hx, c14 _ hx, conv_sees (h.bs HM.out.d).s⟩
          have HST : Hid (Stays B w1 (fun W => W.cell? ⟨d, 7, none⟩ = some (iv m.commit) ∧ W.cell? ⟨d, 8, none⟩ = some (iv m.seq) ∧ W.cell? ⟨d, 9, none⟩ = some (.bool m.ok) ∧ W.cell? ⟨d, 10, none⟩ = some (iv m.mat))) := fun W W' v ys _ hp _ => HS19.out W' v ys hp
          have HSU : Hid (Stays B w1 (fun W => W.cell? ⟨d, 11, none⟩ = some (iv m.mi) ∧ W.cell? ⟨d, 12, none⟩ = some (iv m.mt) ∧ W.cell? ⟨d, 13, none⟩ = some (Value.slice pv m.vs.length cv) ∧ W.cell? ⟨d, 14, none⟩ = some (Value.slice pd m.data.length cd) ∧ (convert 26 9 (Value.slice pd m.data.length cd)).run Tryd.prog W = .ok (.string (strOfNums m.data)) W)) := fun W W' v ys _ hp _ => HS20.out W' v ys hp
          have HMV := Hid.mkW HM.out.v
          have HXD : Hid (isB m.data) := HO.out.d
          have hxd : m.data.length ≤ 30000 := by have := HF.out.sum; omega
          go_upto_region 19 with fail
          have HQ0 := Hid.mkW (HP8.out.below0 (Below.refl wr.heap.size wr).drew)
          have hS0 := HS19.out _ _ _ HQ0.out
          dsimp only at hS0
          clear HW HLE c0 c1 c2 c3 c4 c5 c6 c7 c8 c9 c10 c11 c12 c13 c14 HXr
          go_cut [4] from 9 to 120 (fun s4 wc => ∃ (p : Option Addr) (mm q : Nat), s4 = .slice p mm q ∧ Hid (OwPost B w1 wc nilS (.slice p mm q) (((((preB m ++ entsB m.es) ++ b8 m.commit) ++ b8 m.seq) ++ b1 (flagI m.ok)) ++ b8 m.mat)))
          case first =>
            go_region_held_law (fun W => W.cell? ⟨d, 7, none⟩ = some (iv m.commit) ∧ W.cell? ⟨d, 8, none⟩ = some (iv m.seq) ∧ W.cell? ⟨d, 9, none⟩ = some (.bool m.ok) ∧ W.cell? ⟨d, 10, none⟩ = some (iv m.mat)) (first | with_reducible assumption | (show _ ∧ _; with_reducible assumption)) (first
              | (go_at_call 31; (with_reducible refine (flag_any m.ok _).mono ?_); rintro e w' ⟨rfl, hw'⟩; obtain rfl := hw'.symm)
              | (go_at_call 28; (with_reducible refine (sU HST hB HQ2 (by assumption) (by have := HLE8.out; simp only [List.length_append, b8_len] at this ⊢; omega) _).mono ?_); rintro e w8 ⟨p8, m8, q8, rfl, HQ3, hS8⟩)
              | (go_at_call 29; (with_reducible refine (sI HST hB HQ3 (by assumption) (by have := HLE8.out; simp only [List.length_append, b8_len, b1_len] at this ⊢; omega) _).mono ?_); rintro e w9 ⟨p9, m9, q9, rfl, HQ4, hS9⟩)
              | (go_at_call 29; (with_reducible refine (sI HST hB HQ1 (by assumption) (by have := HLE8.out; simp only [List.length_append, b8_len] at this ⊢; omega) _).mono ?_); rintro e w6 ⟨p6, m6, q6, rfl, HQ2, hS6⟩)
              | (go_at_call 29; (with_reducible refine (sI HST hB HQ0 (by assumption) (by have := HLE8.out; simp only [List.length_append] at this ⊢; omega) _).mono ?_); rintro e w5 ⟨p5, m5, q5, rfl, HQ1, hS5⟩))
            all_goals
              go_wp2_with fail
              go_meet
              exact ⟨p9, m9, q9, rfl, HQ4⟩
          case rest =>
          obtain ⟨p5, m5, q5, rfl, HQ5⟩ := hcut
          clear HQ0 hS0
          have HQ5d := Hid.mkW (HQ5.out.below0 (Below.refl wc.heap.size wc).drew)
          have hS5 := HS20.out _ _ _ HQ5d.out
          dsimp only at hS5
          clear HQ5
          go_upto_region 20 with fail
          go_cut [4] from 9 to 120 (fun s4 wc' => ∃ (p : Option Addr) (mm q : Nat), s4 = .slice p mm q ∧ Hid (OwPost B w1 wc' nilS (.slice p mm q) (((((((preB m ++ entsB m.es) ++ b8 m.commit) ++ b8 m.seq) ++ b1 (flagI m.ok)) ++ b8 m.mat) ++ (b8 m.mi ++ (b8 m.mt ++ (b1 (m.vs.length : Nat) ++ intsB m.vs)))) ++ btx m.data)))
          case first =>
            go_region_held_law (fun W => W.cell? ⟨d, 11, none⟩ = some (iv m.mi) ∧ W.cell? ⟨d, 12, none⟩ = some (iv m.mt) ∧ W.cell? ⟨d, 13, none⟩ = some (Value.slice pv m.vs.length cv) ∧ W.cell? ⟨d, 14, none⟩ = some (Value.slice pd m.data.length cd) ∧ (convert 26 9 (Value.slice pd m.data.length cd)).run Tryd.prog W = .ok (.string (strOfNums m.data)) W) (first | with_reducible assumption | (show _ ∧ _; with_reducible assumption)) (first
              | (go_at_call 30; (with_reducible refine (sT HSU hB HQ6 (by assumption) (by have := HLE8.out; simp only [List.length_append, b8_len, b1_len, intsB_len] at this ⊢; omega) HXD hxd).mono ?_); rintro e w8 ⟨p8, m8, q8, rfl, HQ7, hS8⟩)
              | (go_at_call 32; (with_reducible refine (yMetaw _ _ HQ5d hB (by have := HLE8.out; simp only [List.length_append, b8_len, b1_len] at this ⊢; omega) HMV HZ).mono ?_); rintro e w6 ⟨p6, m6, q6, rfl, HQ6⟩; have hS6 := HS20.out _ _ _ HQ6.out; dsimp only at hS6))
            all_goals
              go_wp2_with fail
              go_meet
              exact ⟨p8, m8, q8, rfl, HQ7⟩
          case rest =>
          obtain ⟨p9, m9, q9, rfl, HQ9⟩ := hcut
          clear HQ5d hS5
          have HZS : Hid ((((((((preB m ++ entsB m.es) ++ b8 m.commit) ++ b8 m.seq) ++ b1 (flagI m.ok)) ++ b8 m.mat) ++ (b8 m.mi ++ (b8 m.mt ++ (b1 (m.vs.length : Nat) ++ intsB m.vs)))) ++ btx m.data) = msgB m) := by
            show _ = _
            simp [preB, msgB, intsB, List.append_assoc]
          rw [HZS.out] at HQ9
          clear HZS
          obtain rfl : m9 = (msgB m).length := by
            obtain ⟨p', c', e⟩ := owns_formB0 HQ9.out.1
            cases e
            rfl
          have hml := msg_pre m HF.out
          have hfr := fFrame _ (msgB m) _ (msgB_isB m HO.out) (by omega) (sees_own HQ9.out.1)
          have hml1 : decide ((16777216 : Int) < ((msgB m).length : Nat)) = false := by simpa using by omega
          go_wp2_with (go_at_call 33; refine hfr.mono ?_; rintro e w6 ⟨v6, rfl, ho6, hb6⟩)
          go_ret2
          have hb9 := HFIN.out _ _ _ HQ9.out
          rw [HR.out, HN.out]
          exact ⟨v6, rfl, ho6.mono hb9.size, hb9.trans (hb6.mono hb9.size)⟩
end Go.Proofs.YtamgoknoapcnjaaDoor
