/- The only voter leads, and commits what it is told at once. -/
import Derived.Test.YtfhdenobldkaiaaS3
import Derived.Test.YtfhdenobldkaiaaFB
import Derived.BigRegion
import Derived.Deep.RegionHeldLaw
namespace Go.Proofs.Ytfhdenobldkaiaa
open Go Go.RowKit
/-- The walk's state: the leader, its own block, the box that holds what Ready told. -/
structure Lo (w wq : World) (d l n X pm : Nat) : Prop where
  al : ∃ k bs, Al w wq d l n n 5 k bs (.slice none 0 0)
  lr : wq.heap[l]? = some (.cells (ldRow pm 0 (.slice none 0 0)) 80 (0, 0))
  bx : ∃ r, wq.heap[X]? = some (.cells r 40 (0, 0)) ∧ NoB r ∧ r.size = 13
  gx : w.heap.size ≤ X
theorem upd_row (w : World) (X : Nat) (r : Array Value) : Upd w (w.setRow X r) (fun z => z = X) := ⟨rfl, rfl, rfl, by simp, fun k _ hk => setRow_other w X k _ hk⟩
theorem row_keep {w w' : World} {q X : Nat} {r rX : Array Value} {t : TypeId} (hq : w.heap[q]? = some (.cells r t (0, 0))) (hX : w.heap[X]? = some (.cells rX 40 (0, 0))) (ht : t ≠ 40) (hu : Upd w w' (fun z => z = X)) : w'.heap[q]? = some (.cells r t (0, 0)) :=
  (hu.block q (heap_lt hq) (fun e => by
    have e1 : q = X := e
    subst e1
    exact ht (row_types hq hX))).trans hq
theorem Lo.below {w wq w' : World} {d l n X pm : Nat} (h : Lo w wq d l n X pm) (hb : Below wq.heap.size wq w') : Lo w w' d l n X pm := by
  obtain ⟨⟨k, bs, hA⟩, hl, ⟨r, hr, h1, h2⟩, hg⟩ := h
  exact ⟨⟨k, bs, hA.below hb⟩, (hb.block l (heap_lt hl)).trans hl, ⟨r, (hb.block X (heap_lt hr)).trans hr, h1, h2⟩, hg⟩
theorem Lo.bel {w wq : World} {d l n X pm : Nat} (h : Lo w wq d l n X pm) : Below w.heap.size w wq := by
  obtain ⟨⟨k, bs, hA⟩, _⟩ := h
  exact hA.bel
/-- The first Ready, stored in its box. -/
theorem first_store {w w2 w3 W5 : World} {d l pm : Nat} {k : Int} {bs : List Int} {R : Array Value} (h3 : Al w w3 d l 1 1 5 k bs (.slice none 0 0)) (hr : w2.heap[l]? = some (.cells (ldRow pm 0 (.slice none 0 0)) 80 (0, 0))) (hkp : Kept w2 w3 [62]) (hR : NoB R) (hs : R.size = 13) (hW : W5 = (w3.alloc (.cells zeroRd 40)).setRow w3.heap.size R) :
    Lo w W5 d l 1 w3.heap.size pm ∧ Below w3.heap.size w3 W5 ∧ W5.heap[w3.heap.size]? = some (.cells R 40 (0, 0)) := by
  have b : Below w3.heap.size w3 W5 := by
    rw [hW]
    exact ((Below.refl w3.heap.size w3).alloc (Nat.le_refl _) _).trans ((upd_row _ _ _).below (by simp) (fun k hk e => by have e1 : k = w3.heap.size := e; omega))
  have r5 : W5.heap[w3.heap.size]? = some (.cells R 40 (0, 0)) := by rw [hW]; exact setRow_heap _ _ zeroRd _ 40 _ (row_alloc w3 zeroRd 40)
  have l3 := hkp l _ 80 hr (by decide)
  exact ⟨⟨⟨k, bs, h3.below b⟩, (b.block l (heap_lt l3)).trans l3, ⟨R, r5, hR, hs⟩, h3.bel.size⟩, b, r5⟩
/-- A later one. -/
theorem later_store {w w4 W5 : World} {d l n pm X : Nat} {k : Int} {bs : List Int} {r R : Array Value} (h4 : Al w w4 d l n n 5 k bs (.slice none 0 0)) (l4 : w4.heap[l]? = some (.cells (ldRow pm 0 (.slice none 0 0)) 80 (0, 0))) (x4 : w4.heap[X]? = some (.cells r 40 (0, 0))) (hr : NoB r) (hg : w.heap.size ≤ X) (hR : NoB R) (hs : R.size = 13) (hW : W5 = w4.setRow X R) :
    Lo w W5 d l n X pm ∧ Upd w4 W5 (fun z => z = X) ∧ W5.heap[X]? = some (.cells R 40 (0, 0)) := by
  have u : Upd w4 W5 (fun z => z = X) := by rw [hW]; exact upd_row _ _ _
  have r5 : W5.heap[X]? = some (.cells R 40 (0, 0)) := by rw [hW]; exact setRow_heap _ _ r _ 40 _ x4
  exact ⟨⟨⟨k, bs, h4.store x4 hr u hg⟩, row_keep l4 x4 (by decide) u, ⟨R, r5, hR, hs⟩, hg⟩, u, r5⟩
set_option maxRecDepth 100000 in
set_option maxHeartbeats 8000000 in
theorem alone_walk (v0 : Value) (x : Int) (ds : List (List Int)) (w : World) (hS : SeesB w v0 ds) (_hx : -9223372036854775808 ≤ x ∧ x ≤ 9223372036854775807) :
    Calls Try.prog 3 #[v0, iv x] w fun e w' => e = .returned (.bool true) ∧ Below w.heap.size w w' := by
  obtain ⟨pa, ca, rfl, hds⟩ := hS
  have HDS := Hid.mkW hds
  have hk := known_any w
  have kf := fld30
  clear hds
  go_enter Try.func3, Try.ntmps3
  go_wp2_with (first
    | (go_at_call 4; refine hk.mono ?_; rintro e w1 ⟨rfl, hb1⟩; obtain ⟨W2, hW2⟩ : ∃ W2, W2 = w1.alloc (.cells #[iv 5] 3) := ⟨_, rfl⟩; have b2 : Below w.heap.size w W2 := (by rw [hW2]; exact hb1.alloc hb1.size _); have o2 : One W2 (.slice (some ⟨w1.heap.size, 0, none⟩) 1 1) 5 := (by rw [hW2]; exact one_new w1 5); have hnw := wai_new (w0 := w) b2 o2 ⟨by decide, by decide⟩; clear hk hb1 b2 o2)
    | (go_at_call 5; rw [← hW2]; refine hnw.mono ?_; rintro e w2 ⟨d, f, rfl, h2⟩; have H2 := Hid.mkW h2; clear h2 hW2 hnw))
  go_loopg [7] 11 (fun kx s7 wq => ∃ j : Nat, s7 = .int .i64 j ∧ kx + j = 11 ∧ j ≤ 10 ∧ Hid ((j ≤ 9 → Wai w wq d f 5 j) ∧ (j = 10 → ∃ l pm, Al w wq d l 1 0 5 1 [] (.slice none 0 0) ∧ wq.heap[l]? = some (.cells (ldRow pm 0 (.slice none 0 0)) 80 (0, 0)))))
  case atStart => exact ⟨0, rfl, rfl, by omega, fun _ => H2.out, fun e => by omega⟩
  case round =>
    obtain ⟨j, rfl, hk, hj, HJ⟩ := hrel
    clear H2
    by_cases h10 : j = 10
    · subst h10
      obtain ⟨l, pm, hA, hr⟩ := HJ.out.2 rfl
      have hro := al_role hA
      have hrd := al_ready_new hA (by omega)
      have HR := Hid.mkW (And.intro hA.bel.size hr)
      clear HJ hA hr
      go_upto_region 13 with (first
        | (go_at_call 6; refine hro.mono ?_; rintro e w4 ⟨rfl, hw4⟩; obtain rfl := hw4.symm)
        | (go_at_call 8; refine hrd.mono ?_; rintro e w3 ⟨g1, o1, c1, g2, o2, c2, rfl, h3, ⟨lo, hi, t2, _⟩, hkp, hsz⟩; have H3 := Hid.mkW (And.intro h3 (And.intro t2 (And.intro hkp hsz))); clear h3 t2 hkp hsz hrd)
        | (refine wpList_store_row rfl 40 _ _ rfl w3.heap.size (outN 5 (0 + 1) g1 o1 c1 g2 o2 c2) rfl rfl 40 zeroRd (row_alloc w3 zeroRd 40) (by kernel_rfl) rfl (by kernel_rfl) ?_))
      obtain ⟨h3, t2, hkp, hsz⟩ := H3.out
      obtain ⟨W5, hW5⟩ : ∃ W5, W5 = (w3.alloc (.cells zeroRd 40)).setRow w3.heap.size (outN 5 (0 + 1) g1 o1 c1 g2 o2 c2) := ⟨_, rfl⟩
      obtain ⟨hL, b35, r5⟩ := first_store h3 HR.out.2 hkp (noB_new _ _ _ _ _ _ _ _) rfl hW5
      obtain ⟨_, _, k2, _⟩ := seesL_cells (t2.upd (Upd.ofBelow (S := fun _ => False) b35) (fun _ _ _ e => e))
      unfold zeroRd at hW5
      rw [← hW5]
      obtain ⟨X, hX⟩ : ∃ X, X = w3.heap.size := ⟨_, rfl⟩
      rw [← hX] at hL r5
      rw [← hX]
      have y0 : W5.cell? ⟨X, 0, none⟩ = some (.bool true) := cell_of_row _ _ _ _ _ _ r5
      have y1 : W5.cell? ⟨X, 1, none⟩ = some (iv 1) := cell_of_row _ _ _ _ _ _ r5
      have y2 : W5.cell? ⟨X, 2, none⟩ = some (iv 5) := cell_of_row _ _ _ _ _ _ r5
      have y9 : W5.cell? ⟨X, 9, none⟩ = some (.slice (some ⟨g1, o1, none⟩) 1 c1) := cell_of_row _ _ _ _ _ _ r5
      have y11 : W5.cell? ⟨X, 11, none⟩ = some (.slice (some ⟨g2, o2, none⟩) 1 c2) := cell_of_row _ _ _ _ _ _ r5
      have HL5 := Hid.mkW hL
      clear h3 t2 hkp hsz hW5 hL b35 r5 hX H3 HR hro
      go_wp2
      clear y0 y1 y2 y9 y11 k2
      go_loopg [9, 10, 11, 12] 21 (fun kx s9 s10 s11 s12 wq => ∃ i n : Nat, s9 = .int .i64 i ∧ kx + i = 21 ∧ i ≤ 20 ∧ i ≤ ds.length ∧ n ≤ i + 1 ∧ Hid (Lo w wq d l n X pm))
      case atStart => exact ⟨0, 1, rfl, rfl, by omega, by omega, by omega, HL5.out⟩
      case round =>
        obtain ⟨i, n, rfl, hk, hi, hil, hn, HL⟩ := hrel
        clear HL5
        by_cases hlt : i < ds.length ∧ i < 20
        · obtain ⟨hlt, h20⟩ := hlt
          obtain ⟨zs, hz⟩ : ∃ zs, ds[i]? = some zs := ⟨_, List.getElem?_eq_getElem hlt⟩
          obtain ⟨b, off, u, rfl, hb, hc, hs, hzl⟩ := HDS.out i zs hz
          obtain ⟨q, c, rfl⟩ := sees_len hs
          have hcu : ∀ V, Below w.heap.size w V → V.cell? ⟨b, off + i, none⟩ = some (.slice q zs.length c) ∧ Sees V (.slice q zs.length c) zs := fun V hV => ⟨(hV.cell (p := ⟨b, off + i, none⟩) hb).trans hc, hs.below hV⟩
          have HCU := Hid.mkW hcu
          obtain ⟨kc, hsw⟩ := HCU.out _ HL.out.bel
          have hli : (i : Int) < ds.length := by omega
          have hl2 : (i : Int) < 20 := by omega
          have hzb : (zs.length : Int) ≤ 140737488355328 := by omega
          clear hz hs hc hcu
          by_cases hl : zs.length ≤ 1000
          · have hgt : ¬ ((1000 : Int) < zs.length) := by omega
            obtain ⟨⟨k, bs, hA⟩, hlr, ⟨r, hrx, hrn, hrs⟩, hgx⟩ := HL.out
            have hp := al_propose hA (Nat.le_refl _) (by omega) hsw hl
            have HR := Hid.mkW (And.intro hlr (And.intro hrx (And.intro hrn hgx)))
            clear hA hlr hrx hrn hgx hsw HL
            go_upto_region 21 with (first
              | (go_at_call 9; refine hp.mono ?_; rintro e w3 ⟨rfl, h3, kp3⟩; have hrd := al_ready_new h3 (by omega); have K3 := Hid.mkW (And.intro kp3 h3.bel); clear h3 kp3 hp)
              | (go_at_call 8; refine hrd.mono ?_; rintro e w4 ⟨g1, o1, c1, g2, o2, c2, rfl, h4, ⟨lo, hi, t2, hlo⟩, kp4, hsz⟩; have x3 := K3.out.1 X r 40 HR.out.2.1 (by decide); have x4 := kp4 X r 40 x3 (by decide); have H4 := Hid.mkW (And.intro h4 (And.intro t2 (And.intro hlo (And.intro (kp4 l _ 80 (K3.out.1 l _ 80 HR.out.1 (by decide)) (by decide)) (heap_lt x3))))); clear h4 t2 hlo kp4 hsz hrd x3)
              | (refine wpList_store_row rfl 40 _ _ rfl X (outN 5 (n + 1) g1 o1 c1 g2 o2 c2) rfl rfl 40 r x4 (by kernel_rfl) hrs (by kernel_rfl) ?_))
            obtain ⟨h4, t2, hlo, l4, hX3⟩ := H4.out
            obtain ⟨W5, hW5⟩ : ∃ W5, W5 = w4.setRow X (outN 5 (n + 1) g1 o1 c1 g2 o2 c2) := ⟨_, rfl⟩
            obtain ⟨hL, u5, r5⟩ := later_store h4 l4 x4 HR.out.2.2.1 HR.out.2.2.2 (noB_new _ _ _ _ _ _ _ _) rfl hW5
            obtain ⟨k0, _, _, dv, k3, hsd⟩ := seesL_cells (t2.upd u5 (fun z h1 h2 e => by have e1 : z = X := e; omega))
            rw [← hW5]
            have y3 : W5.cell? ⟨X, 3, none⟩ = some (iv ((n : Int) + 1)) := cell_of_row _ _ _ _ _ _ r5
            have y9 : W5.cell? ⟨X, 9, none⟩ = some (.slice (some ⟨g1, o1, none⟩) 1 c1) := cell_of_row _ _ _ _ _ _ r5
            have y10 : W5.cell? ⟨X, 10, none⟩ = some (.slice none 0 0) := cell_of_row _ _ _ _ _ _ r5
            have y11 : W5.cell? ⟨X, 11, none⟩ = some (.slice (some ⟨g2, o2, none⟩) 1 c2) := cell_of_row _ _ _ _ _ _ r5
            have z0 : W5.cell? ⟨g2, o2, none⟩ = some (iv ((n : Int) + 1)) := k0
            obtain ⟨kc5, hs5⟩ := HCU.out _ hL.bel
            have hc1 : ∀ q, (convert 35 9 dv).run Try.prog (W5.drewN q) = .ok (.string (strOfNums zs)) (W5.drewN q) := fun q => conv_sees (hsd.below (below_drewF q W5))
            have hc2 : ∀ q', (convert 35 9 (.slice q zs.length c)).run Try.prog (W5.drewN q') = .ok (.string (strOfNums zs)) (W5.drewN q') := fun q' => conv_sees (hs5.below (below_drewF q' W5))
            have HF := Hid.mkW (fun q => hL.below (below_drewF q W5))
            clear h4 t2 hlo l4 hX3 hW5 hL u5 r5 k0 hsd hs5 H4 HR x4 K3 kc
            go_quiet (fail)
            go_wp2
            go_roundg (20 - i)
            case measure => omega
            case rel => exact ⟨i + 1, n + 1, by congr 1, by omega, by omega, by omega, by omega, HF.out _⟩
          · have hgt : (1000 : Int) < zs.length := by omega
            clear hsw
            go_wp2
            go_roundg (20 - i)
            case measure => omega
            case rel => exact ⟨i + 1, n, by congr 1, by omega, by omega, by omega, by omega, HL.out⟩
        · by_cases h1 : i < ds.length
          all_goals
            first | (have hli : (i : Int) < ds.length := by omega) | (have hli : ¬ (i : Int) < ds.length := by omega)
            first | (have h2 : ¬ ((i : Int) < 20) := by omega) | skip
            obtain ⟨⟨k, bs, hA⟩, hlr, ⟨r, hrx, hrn, hrs⟩, hgx⟩ := HL.out
            have hrv := al_read (x := 9) hA (by omega) hlr
            have HR := Hid.mkW (And.intro hrx (And.intro hrn (And.intro hgx hrs)))
            clear hlt h1 hA hlr hrx hrn hgx HL hil
            go_upto_region 25 with (first
              | (go_at_call 10; refine hrv.mono ?_; rintro e w3 ⟨rfl, b, cb, h3, q3, kp3⟩; have hrd := al_ready_same h3 (by omega); have K3 := Hid.mkW (And.intro h3 (And.intro q3 kp3)); clear h3 q3 kp3 hrv)
              | (go_at_call 8; refine hrd.mono ?_; rintro e w4 ⟨R, rfl, hRs, hRa, hR12, h4, u4, kp4⟩; have x4 := kp4 X r 40 (K3.out.2.2 X r 40 HR.out.1 (by decide)) (by decide); have hrs4 := hrs.trans hRs.symm; have hi4 : (Try.prog.info? 40).map (·.size) = some R.size := (by rw [hRs]; kernel_rfl); have H4 := Hid.mkW (And.intro h4 (And.intro u4 hR12)); clear h4 u4 kp4 hrd hRs hR12)
              | (refine wpList_store_row rfl 40 _ _ rfl X R rfl rfl 40 r x4 hi4 hrs4 hRa ?_))
            obtain ⟨h4, u4, hR12⟩ := H4.out
            obtain ⟨h3, q3, _⟩ := K3.out
            obtain ⟨W5, hW5⟩ : ∃ W5, W5 = w4.setRow X R := ⟨_, rfl⟩
            have u5 : Upd w4 W5 (fun z => z = X) := by rw [hW5]; exact upd_row _ _ _
            have r5 : W5.heap[X]? = some (.cells R 40 (0, 0)) := by rw [hW5]; exact setRow_heap _ _ r _ 40 _ x4
            have A5 := h4.store x4 HR.out.2.1 u5 HR.out.2.2.1
            obtain ⟨a3, xs3, dv3, L3, _⟩ := h3.ex
            have q4 := ownsRow_upd q3 u4 (fun z hz e => own_block q3 L3.nod (by decide) (e ▸ hz))
            have q5 := ownsRow_upd q4 u5 (fun z hz e => own_block q4 x4 (by decide) (e ▸ hz))
            have hhd := al_hard (A5.below (Below.refl W5.heap.size W5).drew)
            have HS : Hid (∀ V, Below W5.heap.size W5 V → V.cell? ⟨X, 12, none⟩ = some (.slice (some ⟨b, 0, none⟩) 1 cb) ∧ V.cell? ⟨b, 0, none⟩ = some (iv 9) ∧ V.cell? ⟨b, 1, none⟩ = some (iv n) ∧ Hid (Below w.heap.size w V)) := fun V hV => by
              have c12 : W5.cell? ⟨X, 12, none⟩ = some (.slice (some ⟨b, 0, none⟩) 1 cb) := (cell_of_row _ _ _ _ _ _ r5).trans hR12
              have b0 : W5.cell? ⟨b, 0, none⟩ = some (iv 9) := by have := q5.cells (g := b) rfl 0 _ rfl; rwa [Addr.add_lit] at this
              have b1 : W5.cell? ⟨b, 1, none⟩ = some (iv n) := by have := q5.cells (g := b) rfl 1 _ rfl; rwa [Addr.add_lit] at this
              exact ⟨(hV.cell (p := ⟨X, 12, none⟩) (heap_lt r5)).trans c12, (hV.cell (p := ⟨b, 0, none⟩) (World.block_lt_of_cell? _ _ b0)).trans b0, (hV.cell (p := ⟨b, 1, none⟩) (World.block_lt_of_cell? _ _ b1)).trans b1, A5.bel.trans (hV.mono A5.bel.size)⟩
            have hS := HS.out W5.drew (Below.refl _ _).drew
            rw [← hW5]
            clear h4 u4 hR12 h3 q3 hW5 u5 r5 A5 L3 q4 q5 H4 K3 HR x4 hi4 hrs4 hRa hrs
            go_region_held_law (fun V => V.cell? ⟨X, 12, none⟩ = some (.slice (some ⟨b, 0, none⟩) 1 cb) ∧ V.cell? ⟨b, 0, none⟩ = some (iv 9) ∧ V.cell? ⟨b, 1, none⟩ = some (iv n) ∧ Hid (Below w.heap.size w V)) (first | with_reducible assumption | (show _ ∧ _ ∧ _ ∧ _; with_reducible assumption)) (first
              | (go_at_call 11; (with_reducible refine hhd.mono ?_); rintro e w6 ⟨rfl, hb6⟩; have hS6 := HS.out w6 ((Below.refl W5.heap.size W5).drew.trans (hb6.mono (Nat.le_refl _))); clear hb6))
            go_wp2
            go_ret
            exact ⟨rfl, hS6.2.2.2.out⟩
    · have hro := wai_role (HJ.out.1 (by omega))
      have ht := tick_ten (x := x) (HJ.out.1 (by omega)) (by omega) ⟨by decide, by decide⟩
      have hlt : (j : Int) < 40 := by omega
      clear HJ
      go_wp2_with (first
        | (go_at_call 6; refine hro.mono ?_; rintro e w4 ⟨rfl, hw4⟩; obtain rfl := hw4.symm)
        | (go_at_call 7; refine ht.mono ?_; rintro e w2 ⟨rfl, h2⟩; have H2 := Hid.mkW h2; clear h2 ht))
      go_roundg (10 - j)
      case measure => omega
      case rel => exact ⟨j + 1, by congr 1, by omega, by omega, H2.out⟩
end Go.Proofs.Ytfhdenobldkaiaa
