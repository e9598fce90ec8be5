/- The walk of NetOrder. -/
import Derived.Test.YtamgoknoapcnjaaDoorNV
import Derived.Deep.QuietTactic
import Derived.BigQuiet
namespace Go.Proofs.YtamgoknoapcnjaaDoor
open Go Go.RowKit
set_option maxRecDepth 100000 in
set_option maxHeartbeats 4000000 in
theorem order_any (Z : Nat → Prop) (w : World) (n0 : Int) (ds : List Int) (p0 : Option Addr) (c0 : Nat) (hT : HasTab w) (hds : Is Z w (.slice p0 ds.length c0) ds) (hbig : ds.length ≤ 140737488355328) :
    Calls Tryd.prog 7 #[iv n0, .slice p0 ds.length c0] w fun e w' => e = .returned (.bool true) ∧ Below w.heap.size w w' := by
  have hkn := known_any w hT
  have HDS := Hid.mkW hds
  obtain ⟨N, hN⟩ : ∃ N : Nat, withinF n0 (30 : Nat) = (N : Int) := ⟨(withinF n0 (30 : Nat)).toNat, by have := withinF_bd n0 30 (by omega); omega⟩
  have hN30 : N < 30 := by have := withinF_bd n0 30 (by omega); omega
  have hw30 : ∀ W, Calls Tryd.prog 16 #[iv n0, .int .i64 30] W fun e w' => e = .returned (iv N) ∧ w' = W := fun W => by
    have := within_any n0 30 W (by omega) (by omega)
    rw [hN] at this
    exact this
  obtain ⟨i0, hi, hz0, hz1, hz2⟩ := info_parts infoI
  clear hT hds hN
  go_enter Tryd.func7, Tryd.ntmps7
  go_upto_region 3 with (go_at_call 8; refine hkn.mono ?_; rintro e w1 ⟨rfl, hb1⟩)
  have HB1 := Hid.mkW hb1
  have hnew := new_any w1
  go_wp2_with (first
    | (go_at_call 16; refine (hw30 _).mono ?_; rintro e w2 ⟨rfl, hw2⟩; obtain rfl := hw2.symm)
    | (go_at_call 17; refine hnew.mono ?_; rintro e w2 ⟨rfl, hn2, hb2⟩))
  obtain ⟨d, hd⟩ : ∃ d, d = w1.heap.size := ⟨_, rfl⟩
  rw [← hd]
  have H0 : Hid (IV w1 w2 d none 0 [] []) := ⟨hb2, ⟨_, _, by rw [hd]; exact hn2⟩, World.ownsRow_nil _ _ _ _, by omega⟩
  clear hn2 hb2 hnew hkn hw30 hd hb1
  go_loopg [6, 7] (N + 1) (fun kx s6 s7 wq => ∃ (l : List Int) (p : Option Addr) (c : Nat), s7 = .int .i64 (l.length : Nat) ∧ kx + l.length = N + 1 ∧ l.length ≤ N ∧ s6 = .slice p l.length c ∧ Hid (IV w1 wq d p c l l))
  case atStart => exact ⟨[], none, 0, rfl, rfl, Nat.zero_le _, rfl, H0⟩
  case round =>
    obtain ⟨l, p, c, rfl, hk, hj, rfl, HI⟩ := hrel
    clear H0
    by_cases hlt : l.length < N
    · obtain ⟨j, hjj⟩ : ∃ j, j = l.length := ⟨_, rfl⟩
      have hs := iSend HI.out (j : Nat) (by omega)
      have HJ := Hid.mkW hjj
      rw [← hjj] at hlt hk hj ⊢
      clear hjj
      unfold srow at hs
      go_upto_region 10 with (go_at_call 18; refine hs.mono ?_; rintro e w3 ⟨rfl, hI3⟩)
      have HI3 := Hid.mkW hI3
      have hown := (hI3.below ((Below.refl _ w3).alloc (Nat.le_refl _) (.cells #[iv (j : Nat)] 3))).o
      have hsz : w1.heap.size ≤ (w3.alloc (.cells #[iv (j : Nat)] 3)).heap.size := (hI3.below ((Below.refl _ w3).alloc (Nat.le_refl _) (.cells #[iv (j : Nat)] 3))).b.size
      rw [← HJ.out] at hown
      clear hI3 hs
      go_wp2_with (at_builtin; refine wpList_appS _ rfl (.tmp 28) (.tmp 30) 23 23 rfl w1.heap.size 3 i0 _ 1 Tryd.underlying23 hi hz0 hz1 rfl (by rw [hz2]; decide) _ j (l.map iv) rfl hown _ rfl 1 _ (src_int w3 _) (by omega) hsz ?_; intro v5 w5 q1 q2 _q3 _q4; obtain ⟨g5, c5, rfl, -, -⟩ := owns_formB q1 (by omega); have HQ := Hid.mkW (And.intro q1 q2); clear q1 q2 _q3 _q4)
      go_roundg (N - j)
      case measure => omega
      case rel =>
        have hjl := HJ.out
        obtain ⟨q1, q2⟩ := HQ.out
        rw [hjl] at q1 q2
        have hf := HI3.out.app q1 q2
        rw [← hjl] at hf
        refine ⟨l ++ [(j : Int)], some ⟨g5, 0, none⟩, c5, by simp [← hjl], by simp [← hjl]; omega, by simp [← hjl]; omega, by simp [← hjl], hf⟩
    · have hlN : l.length = N := by omega
      have H0 : Hid (IV w1 wr d p c l l) := HI.out
      have hNl : 0 < N → 0 < l.length := fun h => by omega
      have hl30 : l.length ≤ 30 := by omega
      clear HI hk hj
      obtain ⟨wa, hwa⟩ : ∃ wa, wa = wr := ⟨_, rfl⟩
      rw [← hwa] at H0 ⊢
      clear hwa
      have hltd : decide (l.length < N) = false := by simpa using hlt
      have HLN := Hid.mkW hlN
      clear hlN hlt
      go_wp2
      go_loopg [6, 8, 9] 21 (fun kx s6 s8 _s9 wq => ∃ (k : Nat) (l : List Int) (p : Option Addr) (c : Nat), s8 = .int .i64 (k : Nat) ∧ kx + k = 21 ∧ k ≤ 20 ∧ k ≤ ds.length ∧ l.length ≤ 30 + k ∧ Hid (0 < N → 0 < l.length) ∧ s6 = .slice p l.length c ∧ Hid (IV w1 wq d p c l l))
      case atStart => exact ⟨0, l, p, c, rfl, rfl, by omega, Nat.zero_le _, by omega, hNl, rfl, H0⟩
      case round =>
        clear H0 hNl hl30 HLN hltd
        obtain ⟨k, l, p, c, rfl, hk, hk20, hkd, hl50, HNL, rfl, HI⟩ := hrel
        by_cases hgo : k < ds.length ∧ k < 20 ∧ 0 < N
        · obtain ⟨h1, h2, h3⟩ := hgo
          have hpos := HNL.out h3
          obtain ⟨g6, c6, e6, -, -⟩ := owns_formB HI.out.o hpos
          cases e6
          obtain ⟨x, hx⟩ : ∃ x, ds[k]? = some x := ⟨_, List.getElem?_eq_getElem h1⟩
          obtain ⟨p', c', e', hlc, hcm, hh⟩ := HDS.out
          cases e'
          obtain ⟨g, o, rfl, hz, hc⟩ := hh k x hx
          have hgl := World.block_lt_of_cell? _ _ hc
          have hc1 : wr.cell? ⟨g, o + k, none⟩ = some (iv x) := ((HB1.out.trans (HI.out.b.mono HB1.out.size)).cell (p := ⟨g, o + k, none⟩) hgl).trans hc
          obtain ⟨j, hjj⟩ : ∃ j, j = l.length := ⟨_, rfl⟩
          have hjp : 0 < j := by omega
          obtain ⟨m, hm⟩ : ∃ m : Nat, pickF x l.length = (m : Int) := ⟨(pickF x l.length).toNat, by have := pickF_bd x l.length hpos; omega⟩
          have hml : m < l.length := by have := pickF_bd x l.length hpos; omega
          obtain ⟨s, hs⟩ : ∃ s, l[m]? = some s := ⟨_, List.getElem?_eq_getElem hml⟩
          have hwi := fun W => within_any x l.length W hpos (by omega)
          rw [withinF_pickF x _ hpos, hm] at hwi
          have hdb := iDouble HI.out x m s hm hs (by omega)
          have HJ := Hid.mkW hjj
          have HML := Hid.mkW (And.intro hml hs)
          rw [← hjj] at hwi hl50 hml ⊢
          clear hjj hx hc hh hlc hcm hz hgl hm hs
          have HW3 : Hid (∀ w3, IV w1 w3 d (some ⟨g6, 0, none⟩) c l (l ++ [s]) → w3.cell? ⟨g6, m, none⟩ = some (iv s) ∧ (w3.alloc (.cells #[iv s] 3)).ownsRow w1.heap.size 3 1 (.slice (some ⟨g6, 0, none⟩) j c) j (l.map iv) ∧ w1.heap.size ≤ (w3.alloc (.cells #[iv s] 3)).heap.size) := by
            intro w3 h3
            have hb := h3.below ((Below.refl _ w3).alloc (Nat.le_refl _) (.cells #[iv s] 3))
            refine ⟨?_, by rw [HJ.out]; exact hb.o, hb.b.size⟩
            have := h3.o.cells (g := g6) rfl m (iv s) (by rw [List.getElem?_map, HML.out.2]; rfl)
            rwa [Addr.add_lit, Nat.zero_add] at this
          go_upto_region 17 with (first
            | (go_at_call 16; refine (hwi _).mono ?_; rintro e w3 ⟨rfl, hw3⟩; obtain rfl := hw3.symm)
            | (go_at_call 21; refine hdb.mono ?_; rintro e w3 ⟨rfl, hI3⟩))
          obtain ⟨hcs, hown, hsz⟩ := HW3.out _ hI3
          have HI3 := Hid.mkW hI3
          have hjb : j ≤ 50 := by omega
          clear hdb hwi hI3
          go_wp2_with (at_builtin; refine wpList_appS _ rfl (.tmp 60) (.tmp 65) 23 23 rfl w1.heap.size 3 i0 _ 1 Tryd.underlying23 hi hz0 hz1 rfl (by rw [hz2]; decide) _ j (l.map iv) rfl hown _ rfl 1 _ (src_int w3 _) (by omega) hsz ?_; intro v5 w5 q1 q2 _q3 _q4; obtain ⟨g5, c5, rfl, -, -⟩ := owns_formB q1 (by omega); have HQ := Hid.mkW (And.intro q1 q2); clear q1 q2 _q3 _q4)
          go_roundg (20 - k)
          case measure => omega
          case rel =>
            have hjl := HJ.out
            obtain ⟨q1, q2⟩ := HQ.out
            rw [hjl] at q1 q2
            have hf := HI3.out.app q1 q2
            exact ⟨k + 1, l ++ [s], some ⟨g5, 0, none⟩, c5, by congr 1, by omega, by omega, by omega, by simp [← hjl]; omega, fun _ => by simp, by simp [← hjl], hf⟩
        · have hl50' : l.length ≤ 50 := by omega
          have H0 : Hid (IV w1 wr d p c l l) := HI.out
          have HGO := Hid.mkW hgo
          clear HI HNL hk hgo
          go_upto_region 12 with fail
          go_cut [43] from 32 to 43 (fun s43 wc => s43 = .bool false ∧ wc = wr)
          case first =>
            by_cases h1 : k < ds.length
            · by_cases h2 : k < 20
              · have h3 : N = 0 := by have := HGO.out; omega
                have HN0 := Hid.mkW h3
                clear h3
                go_wp2_with fail
                go_meet
                exact ⟨by have := HN0.out; simp; omega, rfl⟩
              · obtain rfl : k = 20 := by omega
                clear h2
                go_wp2_with fail
                go_meet
                exact ⟨rfl, rfl⟩
            · have h1' : decide (k < ds.length) = false := by simpa using h1
              clear h1
              go_wp2_with fail
              go_meet
              exact ⟨rfl, rfl⟩
          case rest =>
          obtain ⟨rfl, hwc⟩ := hcut
          obtain rfl := hwc.symm
          go_wp2
          go_loopg [10, 11, 12] (l.length + 1) (fun kx s10 _s11 _s12 wq => ∃ i : Nat, s10 = .int .i64 (i : Nat) ∧ kx + i = l.length + 1 ∧ i ≤ l.length ∧ Hid (IV w1 wq d p c l (l.drop i)))
          case atStart => exact ⟨0, rfl, rfl, Nat.zero_le _, by simpa using H0⟩
          case round =>
            clear H0
            obtain ⟨i, rfl, hki, hil, HI⟩ := hrel
            by_cases hlt : i < l.length
            · obtain ⟨s, hs⟩ : ∃ s, l[i]? = some s := ⟨_, List.getElem?_eq_getElem hlt⟩
              have hdr : l.drop i = s :: l.drop (i + 1) := by
                rw [List.drop_eq_getElem_cons hlt]
                rw [List.getElem?_eq_getElem hlt] at hs
                rw [Option.some.inj hs]
              have hI := HI.out
              rw [hdr] at hI
              obtain ⟨g6, c6, e6, -, -⟩ := owns_formB hI.o (by omega)
              cases e6
              have hdel := iDeliver hI (by simp; omega)
              have HC : Hid (∀ w3, IV w1 w3 d (some ⟨g6, 0, none⟩) c l (l.drop (i + 1)) → w3.cell? ⟨g6, i, none⟩ = some (iv s)) := fun w3 h3 => by
                have := h3.o.cells (g := g6) rfl i (iv s) (by rw [List.getElem?_map, hs]; rfl)
                rwa [Addr.add_lit, Nat.zero_add] at this
              unfold srow at hdel
              clear hdr hI hs HI
              go_upto_region 22 with (go_at_call 19; refine hdel.mono ?_; rintro e w3 ⟨rfl, hI3⟩)
              have hb7 : Below w3.heap.size w3 (w3.alloc (.cells #[iv 1, iv 0, iv 0, iv 0, iv 0, iv 0, .slice none 0 0, iv 0, iv s, .bool false, iv 0, iv 0, iv 0, .slice none 0 0, .slice none 0 0] 28)) := (Below.refl _ _).alloc (Nat.le_refl _) _
              obtain ⟨w7, hw7⟩ : ∃ w7, w7 = w3.alloc (.cells #[iv 1, iv 0, iv 0, iv 0, iv 0, iv 0, .slice none 0 0, iv 0, iv s, .bool false, iv 0, iv 0, iv 0, .slice none 0 0, .slice none 0 0] 28) := ⟨_, rfl⟩
              rw [← hw7] at hb7 ⊢
              have hI7 := hI3.below hb7
              have q1 := HC.out _ hI7
              have q2 : w7.cell? ⟨w3.heap.size, 8, none⟩ = some (iv s) := by
                rw [hw7, cell_of_row _ _ _ _ _ _ (row_alloc w3 _ 28)]
                rfl
              have q3 : w7.drew.cell? ⟨g6, i, none⟩ = some (iv s) := q1
              have q4 : w7.drew.cell? ⟨w3.heap.size, 8, none⟩ = some (iv s) := q2
              have HI7 := Hid.mkW hI7
              have hss : (s != s) = false := by simp
              clear hw7 hb7 hI3 hI7 hdel HC
              go_quiet (fail)
              go_wp2
              go_roundg (l.length - i)
              case measure => omega
              case rel => exact ⟨i + 1, by congr 1, by omega, by omega, HI7.out.below (below_drewN (Below.refl _ _) _)⟩
            · have hltd : decide (i < l.length) = false := by simpa using hlt
              obtain rfl : i = l.length := by omega
              have hI := HI.out
              rw [List.drop_length] at hI
              have hlen := iLen hI
              have hdrop := iDrop hI 3
              have HB := Hid.mkW hI.b
              clear HI hI
              go_wp2_with (first
                | (go_at_call 22; refine hlen.mono ?_; rintro e w3 ⟨rfl, hw3⟩; obtain rfl := hw3.symm)
                | (go_at_call 20; refine hdrop.mono ?_; rintro e w3 ⟨rfl, hb3⟩))
              go_ret
              exact ⟨rfl, HB1.out.trans ((HB.out.trans (hb3.mono HB.out.size)).mono HB1.out.size)⟩
end Go.Proofs.YtamgoknoapcnjaaDoor
