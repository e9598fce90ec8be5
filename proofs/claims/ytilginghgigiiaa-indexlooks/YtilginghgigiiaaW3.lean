/- IndexLooks. -/
import Derived.Test.YtilginghgigiiaaW2
namespace Go.Proofs.Ytilginghgigiiaa
open Go Go.RowKit

theorem info3 : (Try.prog.info? 3).map (fun i => (i.zero, i.size, i.bytes)) = some (some (.int .i64 0), 1, 8) := by kernel_rfl
theorem ne_toList {k : ByteArray} (h : ¬ k = ByteArray.empty) : k.toList.isEmpty = false := by
  cases hq : k.toList.isEmpty
  · rfl
  · exfalso
    apply h
    apply bytes_ext
    rw [← toList_data]
    simpa using hq
theorem LS.key {w0 w : World} {x i : Nat} {D : Dat} {F : List Nat} {kp : Option Addr} {n c : Nat} {ks : List ByteArray} (h : LS w0 w x i D F (.slice kp n c) ks) {j : Nat} {key : ByteArray} (hj : ks[j]? = some key) : ∃ g, kp = some ⟨g, 0, none⟩ ∧ g < w.heap.size ∧ w.cell? ⟨g, j, none⟩ = some (.string key) := by
  obtain ⟨g, c', hv, _, _⟩ := owns_formB h.row (by have := (List.getElem?_eq_some_iff.1 hj).1; omega)
  cases hv
  have hc := h.row.cells (g := g) rfl j (.string key) (by simp [hj])
  simp only [Addr.add_lit, Nat.zero_add] at hc
  exact ⟨g, rfl, World.block_lt_of_cell? _ _ hc, hc⟩
theorem LW.was {w0 w : World} {x i : Nat} {D : Dat} {F : List Nat} {kv : Value} {ks : List ByteArray} {wp : Option Addr} {n c : Nat} {zs : List Int} (h : LW w0 w x i D F kv ks (.slice wp n c) zs) {j : Nat} {z : Int} (hj : zs[j]? = some z) : ∃ g, wp = some ⟨g, 0, none⟩ ∧ g < w.heap.size ∧ w.cell? ⟨g, j, none⟩ = some (.int .i64 z) := by
  obtain ⟨g, c', hv, _, _⟩ := owns_formB h.row2 (by have := (List.getElem?_eq_some_iff.1 hj).1; omega)
  cases hv
  have hc := h.row2.cells (g := g) rfl j (.int .i64 z) (by simp [hj])
  simp only [Addr.add_lit, Nat.zero_add] at hc
  exact ⟨g, rfl, World.block_lt_of_cell? _ _ hc, hc⟩
def lookK (D : Dat) (at_ : Int) (k : ByteArray) : Int := lookF at_ 0 ((lookD D k).getD [])
set_option maxRecDepth 100000 in
set_option maxHeartbeats 4000000 in
theorem indexLooks_walk (v0 : Value) (rev at_ : Int) (cs : List Cl) (w : World) (hC : SeesC w v0 cs) (_hcl : cs.length ≤ maxLen) (_hrev : -9223372036854775808 ≤ rev ∧ rev ≤ 9223372036854775807) (_hat : -9223372036854775808 ≤ at_ ∧ at_ ≤ 9223372036854775807) :
    Calls Try.prog 5 #[v0, .int .i64 rev, .int .i64 at_] w fun e w' => e = .returned (.bool true) ∧ Below w.heap.size w w' := by
  obtain ⟨ka, kc, rfl⟩ := hC.form
  have HK := Hid.mk'' hC
  have hml : cs.length ≤ 9223372036854775807 := by unfold maxLen at _hcl; omega
  clear hC _hcl
  obtain ⟨t9, hti9, hz09, hz19, hz29⟩ := info_parts info9
  obtain ⟨t3, hti3, hz03, hz13, hz23⟩ := info_parts info3
  go_enter Try.func5, Try.ntmps5
  go_upto_region 3 with (go_at_call 8; refine (known_any w).mono ?_; rintro e w1 ⟨rfl, hb1⟩)
  go_upto_region 4 with (go_at_call 9; refine (new_xd w1).mono ?_; rintro e w2 ⟨rfl, hx2, hb2, hz2⟩)
  have HS0 : Hid (LS w w2 w1.heap.size 0 [] [w1.heap.size] (.slice none 0 0) []) := ⟨⟨hx2, Bd.nil, hb1.trans (hb2.mono hb1.size), fun k hk => by
    have : k = w1.heap.size := by simpa using hk
    rw [this]; exact hb1.size⟩, World.ownsRow_nil _ _ _ _, fun k hk => by cases hk⟩
  generalize hX : w1.heap.size = X at *
  clear hX hx2 hb2 hz2 hb1
  go_wp2
  go_loopg [8, 9] 101 (fun kx s8 s9 wr => ∃ (i : Nat) (D : Dat) (F : List Nat) (ks : List ByteArray) (kp : Option Addr) (kcap : Nat), s8 = .slice kp ks.length kcap ∧ s9 = .int .i64 i ∧ kx + i = 101 ∧ i ≤ 100 ∧ i ≤ cs.length ∧ ks.length ≤ i ∧ Hid (LS w wr X i D F (.slice kp ks.length kcap) ks))
  case atStart => exact ⟨0, [], _, [], none, 0, rfl, rfl, rfl, by omega, by omega, Nat.le_refl _, HS0⟩
  case round =>
    clear HS0
    obtain ⟨i, D, F, ks, kp, kcap, rfl, rfl, hk, hi, hics, hksl, HM⟩ := hrel
    by_cases hlt : i < cs.length ∧ i < 100
    · obtain ⟨c1, c2⟩ := hlt
      obtain ⟨cb, co, rfl, hcl, hcc⟩ := HK.out.at c1
      have hc := hcc.below hcl HM.out.os.below
      obtain ⟨hc0, hc1, hc2, hc3, hc4, _, hkl, _⟩ := hc
      generalize cs.getD i noCl = c at *
      obtain ⟨kind, crev, key, chi, del⟩ := c
      dsimp only at hc0 hc1 hc2 hc3 hc4 hkl
      clear hcc
      obtain ⟨W0, hW0⟩ : ∃ W0, W0 = wr.alloc (.cells #[.int .i64 kind, .int .i64 crev, .string key, .string chi, .bool del] 31) := ⟨_, rfl⟩
      have hb0 : Below wr.heap.size wr W0 := by rw [hW0]; exact (Below.refl _ wr).alloc (Nat.le_refl _) _
      have hr0 : W0.heap[wr.heap.size]? = some (.cells #[.int .i64 kind, .int .i64 crev, .string key, .string chi, .bool del] 31 (0, 0)) := by rw [hW0]; exact row_alloc wr _ _
      have HM0 := Hid.mk'' (HM.out.later hb0)
      have hnF : wr.heap.size ∉ F := fun h => by have := HM.out.os.x.lt _ h; omega
      have hwz := HM.out.os.below.size
      have HPUT : Hid (Calls Try.prog 10 #[ptr X, .string key, .agg #[.int .i64 ((i : Int) + 1), .bool del]] W0 fun e w' => e = .returned (.int .i64 (putE D key (i + 1) del)) ∧ (∃ F', Hid (LS w w' X (i + 1) (putD D key (i + 1) del) F' (.slice kp ks.length kcap) ks)) ∧ w'.cell? ⟨wr.heap.size, 2, none⟩ = some (.string key)) := by
        refine (HM0.out.put (by omega) key _ _ (by omega) (by omega)).mono ?_
        rintro e w' ⟨h1, h2, h3⟩
        refine ⟨h1, h2, ?_⟩
        have := (h3 wr.heap.size hwz (Array.getElem?_eq_some_iff.1 hr0).1 hnF).trans hr0
        simp [World.cell?, this]
      go_upto_region 9 with (fail)
      rw [← hW0]
      have d2 : W0.cell? ⟨wr.heap.size, 2, none⟩ = some (.string key) := by simp [World.cell?, hr0]
      have d4 : W0.cell? ⟨wr.heap.size, 4, none⟩ = some (.bool del) := by simp [World.cell?, hr0]
      clear hW0 hr0 hc0 hc1 hc2 hc3 hc4
      by_cases he : key = ByteArray.empty
      · have q1 : key.toList.isEmpty = true := by rw [he, toList_data]; rfl
        clear HPUT HM
        go_wp2
        go_roundg (100 - i)
        case measure => omega
        case rel => exact ⟨i + 1, D, F, ks, kp, kcap, rfl, by congr 1, by omega, by omega, by omega, by omega, HM0.out.skip⟩
      · have q1 := ne_toList he
        by_cases hs : key.size < 100
        · have hput := HPUT.out
          generalize hE : putE D key ((i : Int) + 1) del = E at *
          by_cases hE0 : E = 0
          · subst hE0
            clear HPUT HM HM0 hE
            go_upto_region 10 with (go_at_call 10; refine hput.mono ?_; rintro e w3 ⟨rfl, ⟨F', HM3⟩, d5⟩)
            have HRW := HM3.out.row
            have hwz3 := HM3.out.os.below.size
            have hsrc : ∀ V, V.heap[w3.heap.size]? = some (.cells #[.string key] 9 (0, 0)) → Src Try.prog 1 43 (.slice (some ⟨w3.heap.size, 0, none⟩) 1 1) 1 (strs [key]) V := fun V hr => Src.ofSlice V Try.underlying43 ⟨w3.heap.size, 0, none⟩ 1 1 _ rfl (fun j u hj => by
              rw [Addr.add_lit, Nat.zero_add, cell_of_row _ _ _ _ _ _ hr]; simpa using hj) (fun u hu => by simp at hu; subst hu; rfl)
            have hba : Below w3.heap.size w3 (w3.alloc (.cells #[.string key] 9)) := (Below.refl _ w3).alloc (Nat.le_refl _) _
            have hown2 : (w3.alloc (.cells #[.string key] 9)).ownsRow w.heap.size 9 1 (.slice kp ks.length kcap) ks.length (strs ks) := ownsRow_upd HRW (Upd.ofBelow (S := fun _ => False) hba) (fun _ _ h => h)
            have hsr2 := hsrc _ (row_alloc w3 #[.string key] 9)
            clear hput HRW hsrc
            go_wp2_with (at_builtin; refine wpList_appS _ rfl (.tmp 52) (.tmp 55) 43 43 rfl w.heap.size 9 t9 _ 1 Try.underlying43 hti9 hz09 hz19 rfl (by rw [hz29]; decide) _ ks.length (strs ks) rfl hown2 _ rfl 1 (strs [key]) hsr2 (by omega) (by simp; omega) ?_; intro v' w' p1 p2 p3 p4; obtain ⟨np, nc, hnv⟩ := owns_formB0 p1; subst hnv)
            go_roundg (100 - i)
            case measure => omega
            case rel =>
              have HL := HM3.out.app hba p2 p3 p1
              exact ⟨i + 1, _, F', ks ++ [key], np, nc, by simp, by congr 1, by omega, by omega, by omega, by simp; omega, Hid.mk'' (by simpa using HL)⟩
          · have hsame : putD D key ((i : Int) + 1) del = D := putD_same (by rw [hE]; exact hE0)
            rw [hsame] at hput
            clear HPUT HM HM0 hE hsame
            go_wp2_with (go_at_call 10; refine hput.mono ?_; rintro e w3 ⟨rfl, ⟨F', HM3⟩, d5⟩)
            go_roundg (100 - i)
            case measure => omega
            case rel => exact ⟨i + 1, D, F', ks, kp, kcap, rfl, by congr 1, by omega, by omega, by omega, by omega, HM3⟩
        · clear HPUT HM
          go_wp2
          go_roundg (100 - i)
          case measure => omega
          case rel => exact ⟨i + 1, D, F, ks, kp, kcap, rfl, by congr 1, by omega, by omega, by omega, by omega, HM0.out.skip⟩
    · have hcs : ¬ i < cs.length ∨ (i < cs.length ∧ ¬ i < 100) := by omega
      clear hlt
      have hwi1 := fun W => within_any rev 100 W (by omega) (by omega)
      have hwi2 := fun W => within_any at_ 100 W (by omega) (by omega)
      obtain ⟨hr0, hr1⟩ := withinF_bd rev 100 (by omega)
      obtain ⟨ha0, ha1⟩ := withinF_bd at_ 100 (by omega)
      generalize withinF rev 100 = r at *
      generalize withinF at_ 100 = a at *
      have HLW0 : Hid (LW w wr X i D F (.slice kp ks.length kcap) ks (.slice none 0 0) []) := ⟨HM.out, World.ownsRow_nil _ _ _ _, fun k hk => by cases hk⟩
      have HBD := Hid.mk'' HM.out.os.b
      clear HM HK
      generalize hW0 : wr = W0 at *
      clear hW0
      rcases hcs with c1 | ⟨c1, c2⟩
      all_goals
        go_upto_region 12 with (go_at_call 19; refine (hwi1 _).mono ?_; rintro e wx ⟨rfl, rfl⟩)
        go_wp2_with (go_at_call 19; refine (hwi2 _).mono ?_; rintro e wy ⟨rfl, rfl⟩)
        go_loopg [11, 12] (ks.length + 1) (fun kx s11 s12 wr => ∃ (wp : Option Addr) (wc : Nat) (zs : List Int), s11 = .slice wp zs.length wc ∧ s12 = .int .i64 zs.length ∧ kx + zs.length = ks.length + 1 ∧ zs.length ≤ ks.length ∧ Hid (zs = (ks.take zs.length).map (lookK D (1 + r + a))) ∧ Hid (LW w wr X i D F (.slice kp ks.length kcap) ks (.slice wp zs.length wc) zs))
        case atStart => exact ⟨none, 0, [], rfl, rfl, rfl, Nat.zero_le _, by show _ = _; simp, HLW0⟩
        case round =>
          clear HLW0
          obtain ⟨wp, wc, zs, rfl, rfl, hkx, hj, HZ, HW⟩ := hrel
          by_cases hjl : zs.length < ks.length
          · obtain ⟨key, hkey⟩ : ∃ key, ks[zs.length]? = some key := ⟨_, List.getElem?_eq_getElem hjl⟩
            obtain ⟨g, hkp, hgl, hgc⟩ := HW.out.ls.key hkey
            subst hkp
            have hmk := HW.out.ls.marks (by omega) key (1 + r + a) wr (Below.refl _ _)
            have HAPP : Hid (∀ V w' nv, Below wr.heap.size wr V → Upd V w' (fun k => some k = (Value.slice wp zs.length wc).ownBlock) → (nv.ownBlock = (Value.slice wp zs.length wc).ownBlock ∨ nv.ownBlock = some V.heap.size) → w'.ownsRow w.heap.size 3 1 nv (zs.length + 1) (ints zs ++ ints [lookK D (1 + r + a) key]) → LW w w' X i D F (.slice (some ⟨g, 0, none⟩) ks.length kcap) ks nv (zs ++ [lookK D (1 + r + a) key])) := fun V w' nv h1 h2 h3 h4 => HW.out.app h1 h2 h3 h4
            have HROW : Hid (∀ V, Below wr.heap.size wr V → V.ownsRow w.heap.size 3 1 (.slice wp zs.length wc) zs.length (ints zs)) := fun V hb => (HW.out.later hb).row2
            have hwz := HW.out.ls.os.below.size
            have HZ2 : Hid (zs ++ [lookK D (1 + r + a) key] = (ks.take (zs ++ [lookK D (1 + r + a) key]).length).map (lookK D (1 + r + a))) := by
              show _ = _
              rw [List.length_append, List.length_singleton, List.take_add_one, hkey, List.map_append, ← HZ.out]; rfl
            clear HW HZ hkey
            change Calls Try.prog 14 #[ptr X, .string key] wr fun e w' => ∃ p l c, e = .returned (.slice p l c) ∧ Below wr.heap.size wr w' ∧ ∀ V, Below w'.heap.size w' V → Hid (Calls Try.prog 22 #[.slice p l c, .int .i64 (1 + r + a)] V fun e w2 => e = .returned (.int .i64 (lookK D (1 + r + a) key)) ∧ w2 = V) at hmk
            generalize lookK D (1 + r + a) key = z at *
            go_wp2_with (first
              | (go_at_call 14; refine hmk.mono ?_; rintro e wa ⟨pa, la, ca, rfl, hba, hlk⟩; have hlk2 := (hlk _ (Below.refl _ _)).out)
              | (go_at_call 22; refine hlk2.mono ?_; rintro e wb ⟨rfl, rfl⟩; have hbb : Below wr.heap.size wr (wb.alloc (.cells #[.int .i64 z] 3)) := hba.alloc hba.size _; have hown2 := HROW.out _ hbb; have hsr2 : Src Try.prog 1 51 (.slice (some ⟨wb.heap.size, 0, none⟩) 1 1) 1 (ints [z]) (wb.alloc (.cells #[.int .i64 z] 3)) := Src.ofSlice _ Try.underlying51 ⟨wb.heap.size, 0, none⟩ 1 1 _ rfl (fun j u hj => by rw [Addr.add_lit, Nat.zero_add, cell_of_row _ _ _ _ _ _ (row_alloc wb #[.int .i64 z] 3)]; simpa using hj) (fun u hu => by simp at hu; subst hu; rfl); have hbz := hba.size)
              | (at_builtin; refine wpList_appS _ rfl (.tmp 70) (.tmp 79) 51 51 rfl w.heap.size 3 t3 _ 1 Try.underlying51 hti3 hz03 hz13 rfl (by rw [hz23]; decide) _ zs.length (ints zs) rfl hown2 _ rfl 1 (ints [z]) hsr2 (by omega) (by simp; omega) ?_; intro v' w' p1 p2 p3 p4; obtain ⟨np, nc, hnv⟩ := owns_formB0 p1; subst hnv))
            go_roundg (ks.length - zs.length)
            case measure => omega
            case rel =>
              have HL := HAPP.out _ _ _ hbb p2 p3 p1
              exact ⟨np, nc, zs ++ [z], by simp, by simp, by simp; omega, by simp; omega, HZ2, Hid.mk'' (by simpa using HL)⟩
          · have hze : zs.length = ks.length := by omega
            have htr := HW.out.trim (by omega) (1 + r)
            have HZ3 : Hid (∀ (j : Nat) (z : Int) (key : ByteArray), ks[j]? = some key → zs[j]? = some z → lookF (1 + r + a) 0 ((lookD (trimD (1 + r) D) key).getD []) = z) := fun j z key h1 h2 => by
              rw [look_trim HBD.out (by omega)]
              rw [HZ.out, hze, List.take_length, List.getElem?_map, h1] at h2
              exact Option.some.inj h2
            have HZE := Hid.mk'' hze
            clear HW HZ hze
            generalize hW1 : wr = W1 at *
            clear hW1
            go_upto_region 19 with (go_at_call 12; refine htr.mono ?_; rintro e wt ⟨rfl, Ft, HT⟩)
            clear htr
            go_wp2
            go_loopg [13] (ks.length + 1) (fun kx s13 wr => ∃ j : Nat, s13 = .int .i64 j ∧ kx + j = ks.length + 1 ∧ j ≤ ks.length ∧ Hid (LW w wr X i (trimD (1 + r) D) Ft (.slice kp ks.length kcap) ks (.slice wp zs.length wc) zs))
            case atStart => exact ⟨0, rfl, rfl, Nat.zero_le _, HT⟩
            case round =>
              clear HT
              obtain ⟨j, rfl, hkx3, hj3, HW⟩ := hrel
              by_cases hjl3 : j < ks.length
              · obtain ⟨key, hkey⟩ : ∃ key, ks[j]? = some key := ⟨_, List.getElem?_eq_getElem hjl3⟩
                obtain ⟨z, hz⟩ : ∃ z, zs[j]? = some z := ⟨_, List.getElem?_eq_getElem (by have := HZE.out; omega)⟩
                obtain ⟨g, hkp, hgl, hgc⟩ := HW.out.ls.key hkey
                obtain ⟨g2, hwp, hg2l, hg2c⟩ := HW.out.was hz
                subst hkp
                subst hwp
                have hzl3 : j < zs.length := (List.getElem?_eq_some_iff.1 hz).1
                have hmk := HW.out.ls.marks (by omega) key (1 + r + a) wr.drew (Below.refl _ _).drew
                rw [HZ3.out j z key hkey hz] at hmk
                have HC2 : Hid (∀ W, Below wr.heap.size wr W → W.cell? ⟨g2, j, none⟩ = some (.int .i64 z)) := fun W hb => (hb.cell (p := ⟨g2, j, none⟩) hg2l).trans hg2c
                have HLT : Hid (∀ W, Below wr.heap.size wr W → LW w W X i (trimD (1 + r) D) Ft (.slice (some ⟨g, 0, none⟩) ks.length kcap) ks (.slice (some ⟨g2, 0, none⟩) zs.length wc) zs) := fun W hb => HW.out.later hb
                clear HW hkey hz
                go_wp2
                go_region_with (first
                  | (go_at_call 14; refine hmk.mono ?_; rintro e wa ⟨pa, la, ca, rfl, hba, hlk⟩; have hlk2 := (hlk _ (Below.refl _ _)).out; have c2a := HC2.out _ hba)
                  | (go_at_call 22; refine hlk2.mono ?_; rintro e wb ⟨rfl, rfl⟩))
                all_goals
                  go_wp2
                  go_roundg (ks.length - j)
                  case measure => omega
                  case rel => exact ⟨j + 1, by congr 1, by omega, by omega, HLT.out _ hba⟩
              · have hbl := HW.out.ls.os.below
                clear HW
                go_wp2
                go_ret
                exact ⟨rfl, hbl⟩
end Go.Proofs.Ytilginghgigiiaa
