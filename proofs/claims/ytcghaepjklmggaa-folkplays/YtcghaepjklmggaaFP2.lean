/- Whoever asks whatever: the program's table and the document's tell the same. -/
import Derived.Test.YtcghaepjklmggaaFP1
namespace Go.Proofs.Ytcghaepjklmggaa
open Go Go.RowKit
def SeesC (w : World) (v : Value) (cs : List Cd) : Prop :=
  ∃ p cap, v = .slice p cs.length cap ∧ ∀ (i : Nat) (c : Cd), cs[i]? = some c → isI c.client ∧ ∃ g o q n, p = some ⟨g, o, none⟩ ∧ g < w.heap.size ∧ HasC (fun k => k < w.heap.size) w g (o + i * 8) c (.slice q c.rs.length n)
theorem new_pp (w w1 : World) (hb : Below w.heap.size w w1) : Calls Try.prog 7 #[] w1 fun e w' => ∃ d b, e = .returned (ptr d) ∧ Hid (PP w (w'.alloc (.cells #[.slice none 0 0] 29)) (w'.heap.size + 1) d b w'.heap.size [] []) := by
  refine (new_any w1).mono ?_
  rintro e w' ⟨d, b, rfl, h, bel, hd, hbb⟩
  refine ⟨d, b, rfl, ?_⟩
  have h0 := h (fun k => w'.heap.size + 1 ≤ k) (fun h => by have h' : w'.heap.size + 1 ≤ b := h; omega) (fun _ => .slice none 0 0)
  have hb1 : Below w'.heap.size w' (w'.alloc (.cells #[.slice none 0 0] 29)) := (Below.refl _ _).alloc (Nat.le_refl _) _
  have h1 := h0.below hb1
  have hbw : Below w.heap.size w w' := hb.trans (bel.mono hb.size)
  refine ⟨fun _ => .slice none 0 0, .slice none 0 0, fun _ => .slice none 0 0, ⟨h1.c0, h1.own, h1.up, h1.ok, h1.few, h1.res, h1.ne, Nat.le_trans hb.size h1.lod, Nat.le_trans hb.size h1.lob, h1.nz⟩, ⟨?_, ?_, World.ownsRow_nil _ _ _ _, fun e => (by cases e), hbw.size, fun r hr => (by cases hr)⟩, hbw.trans (hb1.mono hbw.size), by omega, by omega, by omega, by simp, by omega, by omega, fun k hk => (by cases hk)⟩
  · simp
  · simp
set_option maxRecDepth 100000 in
set_option maxHeartbeats 4000000 in
theorem folkPlays_walk (cv : Value) (cs : List Cd) (w : World) (hS : SeesC w cv cs) (_hl : cs.length ≤ maxLen) :
    Calls Try.prog 3 #[cv] w fun e w' => e = .returned (.bool true) ∧ Below w.heap.size w w' := by
  have hk := known_any w
  obtain ⟨ao, cap, rfl, hS⟩ := hS
  have HS := Hid.mk'' hS
  clear hS
  go_enter Try.func3, Try.ntmps3
  go_wp2_with (first
    | (go_at_call 6; refine hk.mono ?_; rintro e w1 ⟨rfl, bel1⟩; have hn := new_pp w w1 bel1; clear hk)
    | (go_at_call 7; refine hn.mono ?_; rintro e w2 ⟨d, b, rfl, H2⟩; clear hn bel1))
  obtain ⟨W3, hW3⟩ : ∃ W3, W3 = w2.alloc (.cells #[.slice none 0 0] 29) := ⟨_, rfl⟩
  rw [← hW3] at H2 ⊢
  obtain ⟨x, hx⟩ : ∃ x, x = w2.heap.size := ⟨_, rfl⟩
  rw [← hx] at H2 ⊢
  obtain ⟨B1, hB1⟩ : ∃ B1, B1 = x + 1 := ⟨_, rfl⟩
  rw [← hB1] at H2
  clear hW3 hx hB1
  go_loopg [5] 201 (fun kx s5 wq => ∃ (i : Nat) (L : List Ro), s5 = .int .i64 i ∧ kx + i = 201 ∧ i ≤ 200 ∧ Hid (PP w wq B1 d b x L L))
  case atStart => exact ⟨0, [], rfl, rfl, by omega, H2⟩
  case round =>
    obtain ⟨i, L, rfl, hkx, hi, HP⟩ := hrel
    clear H2
    by_cases hlt : i < cs.length ∧ i < 200
    · obtain ⟨hlt, h200⟩ := hlt
      obtain ⟨c, hc⟩ : ∃ c, cs[i]? = some c := ⟨_, List.getElem?_eq_getElem hlt⟩
      obtain ⟨hci, gc, oc, q, n, rfl, hgl, hcall⟩ := HS.out i c hc
      have hbw : Below w.heap.size w wr := by
        obtain ⟨f, v, g, hv⟩ := HP.out
        exact hv.bel
      have hB1 : B1 ≤ wr.heap.size := by
        obtain ⟨f, v, g, hv⟩ := HP.out
        exact hv.ls
      have hcw := hcall.upd (S := fun _ => False) hgl (Upd.ofBelow hbw) (fun h => h) (fun _ _ h => h)
      obtain ⟨y0, y1, y2, y3, y4, y5, y6, y7, yr⟩ := hcw
      obtain ⟨W1, hW1⟩ : ∃ W1, W1 = wr.alloc (.cells #[.int .i64 c.client, .int .i64 c.seq, .bool c.does, .int .i64 c.rp.err, .int .i64 c.rp.rev, .bool c.rp.thn, .slice q c.rs.length n, .int .i64 c.rp.tim] 35) := ⟨_, rfl⟩
      have k1 : W1.heap[wr.heap.size]? = some (.cells #[.int .i64 c.client, .int .i64 c.seq, .bool c.does, .int .i64 c.rp.err, .int .i64 c.rp.rev, .bool c.rp.thn, .slice q c.rs.length n, .int .i64 c.rp.tim] 35 (0, 0)) := by rw [hW1]; exact heap_alloc_new wr _
      have hb1 : Below wr.heap.size wr W1 := by rw [hW1]; exact (Below.refl _ _).alloc (Nat.le_refl _) _
      obtain ⟨bx, hbx⟩ : ∃ bx, bx = wr.heap.size := ⟨_, rfl⟩
      rw [← hbx] at k1
      have HPB : Hid (PB w W1 B1 d b x bx c (.slice q c.rs.length n) L L) := by
        obtain ⟨f, v, g, hv⟩ := HP.out
        refine ⟨⟨f, v, g, hv.later hb1⟩, ⟨cell_of_row _ _ _ _ _ _ k1, cell_of_row _ _ _ _ _ _ k1, cell_of_row _ _ _ _ _ _ k1, cell_of_row _ _ _ _ _ _ k1, cell_of_row _ _ _ _ _ _ k1, cell_of_row _ _ _ _ _ _ k1, cell_of_row _ _ _ _ _ _ k1, cell_of_row _ _ _ _ _ _ k1, yr.below hb1⟩, by rw [hbx]; exact hB1⟩
      have HW1 := Hid.mk'' hW1
      have HCI := Hid.mk'' hci
      have HBX := Hid.mk'' hbx
      clear hcall hbw hB1 yr hW1 hb1 hc hci k1
      go_upto_region 8 with fail
      rw [← HW1.out, ← hbx]
      clear y0 y1 y2 y3 y4 y5 y6 y7 hbx
      have z6 : W1.cell? ⟨bx, 6, none⟩ = some (.slice q c.rs.length n) := HPB.out.cb.c6
      by_cases h5 : c.rs.length ≤ 5
      · have h5' : ¬ (5 : Int) < (c.rs.length : Int) := by omega
        have z0 : W1.cell? ⟨bx, 0, none⟩ = some (.int .i64 c.client) := HPB.out.cb.c0
        have z1 : W1.cell? ⟨bx, 1, none⟩ = some (.int .i64 c.seq) := HPB.out.cb.c1
        obtain ⟨ra, la, bo, hra⟩ : ∃ ra la bo, askA L c.client c.seq = (ra, la, bo) := ⟨_, _, _, rfl⟩
        have HRA := Hid.mk'' hra
        have hask := HPB.out.askX HCI.out hra
        clear hra
        go_upto_region 10 with (go_at_call 8; refine hask.mono ?_; rintro e w2a ⟨pa, ca, rfl, hRa, bela⟩; clear hask)
        obtain ⟨W2, hW2⟩ : ∃ W2, W2 = w2a.alloc (.cells #[.int .i64 ra.err, .int .i64 ra.rev, .bool ra.thn, .slice pa la.length ca, .int .i64 ra.tim] 33) := ⟨_, rfl⟩
        obtain ⟨ax, hax⟩ : ∃ ax, ax = w2a.heap.size := ⟨_, rfl⟩
        have k2 : W2.heap[ax]? = some (.cells #[.int .i64 ra.err, .int .i64 ra.rev, .bool ra.thn, .slice pa la.length ca, .int .i64 ra.tim] 33 (0, 0)) := by rw [hW2, hax]; exact heap_alloc_new _ _
        have hb2 : Below w2a.heap.size w2a W2 := by rw [hW2]; exact (Below.refl _ _).alloc (Nat.le_refl _) _
        rw [← hW2, ← hax]
        have HPB2 := Hid.mk'' ((HPB.out.later bela).later hb2)
        have HRa2 := Hid.mk'' (hRa.below hb2)
        have z0 : W2.cell? ⟨bx, 0, none⟩ = some (.int .i64 c.client) := HPB2.out.cb.c0
        have z1 : W2.cell? ⟨bx, 1, none⟩ = some (.int .i64 c.seq) := HPB2.out.cb.c1
        obtain ⟨few, hup, hokk⟩ := HPB2.out.pp.few
        have HFEW := Hid.mk'' few
        have HUP := Hid.mk'' hup
        have HOK := Hid.mk'' hokk
        have hask := HPB2.out.askY few hup HRA.out
        clear hW2 hax hb2 bela hRa HPB HP few hup hokk
        go_upto_region 11 with (go_at_call 9; refine hask.mono ?_; rintro e w3a ⟨pb, cb, rfl, hRb, belb⟩; clear hask)
        obtain ⟨W4, hW4⟩ : ∃ W4, W4 = w3a.alloc (.cells #[.int .i64 ra.err, .int .i64 ra.rev, .bool ra.thn, .slice pb la.length cb, .int .i64 ra.tim] 33) := ⟨_, rfl⟩
        obtain ⟨ay, hay⟩ : ∃ ay, ay = w3a.heap.size := ⟨_, rfl⟩
        have k4 : W4.heap[ay]? = some (.cells #[.int .i64 ra.err, .int .i64 ra.rev, .bool ra.thn, .slice pb la.length cb, .int .i64 ra.tim] 33 (0, 0)) := by rw [hW4, hay]; exact heap_alloc_new _ _
        have hb4 : Below w3a.heap.size w3a W4 := by rw [hW4]; exact (Below.refl _ _).alloc (Nat.le_refl _) _
        rw [← hW4, ← hay]
        have HPB4 := Hid.mk'' ((HPB2.out.later belb).later hb4)
        have hsame := same_rep (r := ra) ((HRa2.out.below belb).below hb4) (hRb.below hb4) (by
          have h1 : ∀ r ∈ L, r.rs.length ≤ 5 := fun r hr => (HOK.out r hr).d
          have h2 : la = (askA L c.client c.seq).2.1 := by rw [HRA.out]
          rw [h2]
          unfold askA
          split
          · simp
          · split
            · simp
            · split
              · split <;> simp
              · rename_i r hr
                split
                · simp
                · split
                  · exact h1 r (List.mem_of_find?_eq_some hr)
                  · simp)
        have k2b := (hb4.block ax (by have := (Array.getElem?_eq_some_iff.1 k2).1; have := belb.size; omega)).trans ((belb.block ax (Array.getElem?_eq_some_iff.1 k2).1).trans k2)
        have s0 : W4.cell? ⟨ax, 0, none⟩ = some (.int .i64 ra.err) := cell_of_row _ _ _ _ _ _ k2b
        have s1 : W4.cell? ⟨ax, 1, none⟩ = some (.int .i64 ra.rev) := cell_of_row _ _ _ _ _ _ k2b
        have s2 : W4.cell? ⟨ax, 2, none⟩ = some (.bool ra.thn) := cell_of_row _ _ _ _ _ _ k2b
        have s3 : W4.cell? ⟨ax, 3, none⟩ = some (.slice pa la.length ca) := cell_of_row _ _ _ _ _ _ k2b
        have s4 : W4.cell? ⟨ax, 4, none⟩ = some (.int .i64 ra.tim) := cell_of_row _ _ _ _ _ _ k2b
        have t0 : W4.cell? ⟨ay, 0, none⟩ = some (.int .i64 ra.err) := cell_of_row _ _ _ _ _ _ k4
        have t1 : W4.cell? ⟨ay, 1, none⟩ = some (.int .i64 ra.rev) := cell_of_row _ _ _ _ _ _ k4
        have t2 : W4.cell? ⟨ay, 2, none⟩ = some (.bool ra.thn) := cell_of_row _ _ _ _ _ _ k4
        have t3 : W4.cell? ⟨ay, 3, none⟩ = some (.slice pb la.length cb) := cell_of_row _ _ _ _ _ _ k4
        have t4 : W4.cell? ⟨ay, 4, none⟩ = some (.int .i64 ra.tim) := cell_of_row _ _ _ _ _ _ k4
        have nb : (bo != bo) = false := by simp
        clear hW4 hay hb4 belb hRb HPB2 HRa2 k2 k4 k2b z0 z1 z6
        go_upto_region 13 with (go_at_call 10; refine hsame.mono ?_; rintro e W5 ⟨rfl, bel5⟩; clear hsame)
        have HPB5 := Hid.mk'' (HPB4.out.later bel5)
        clear bel5 HPB4 s0 s1 s2 s3 s4 t0 t1 t2 t3 t4 nb
        have z2 : W5.cell? ⟨bx, 2, none⟩ = some (.bool c.does) := HPB5.out.cb.c2
        clear HW1 HBX
        clear z0 z1
        go_cut [68] from 64 to 67 (fun s68 wc => s68 = .bool (bo && c.does) ∧ wc = W5)
        case first =>
          cases bo with
          | false =>
            go_wp2_with fail
            go_meet
            exact ⟨rfl, rfl⟩
          | true =>
            go_wp2_with fail
            go_meet
            exact ⟨rfl, rfl⟩
        case rest =>
        obtain ⟨rfl, rfl⟩ := hcut
        go_upto_if 68 with fail
        go_cut [7, 8, 9, 10] from 28 to 84 (fun _ _ _ _ wc => ∃ L' : List Ro, Hid (PB w wc B1 d b x bx c (.slice q c.rs.length n) L' L'))
        case first =>
          cases hbo : (bo && c.does) with
          | false =>
            go_wp2_with fail
            go_meet
            exact ⟨L, HPB5⟩
          | true =>
            have hdue : (askA L c.client c.seq).2.2 = true := by rw [HRA.out]; exact (Bool.and_eq_true_iff.1 hbo).1
            have hX := HPB5.out.noteX HCI.out h5
            have HY : Hid (∀ W, PB w W B1 d b x bx c (.slice q c.rs.length n) (noteA L c.client c.seq c.rp c.rs) L → Calls Try.prog 12 #[ptr x, .int .i64 c.client, .int .i64 c.seq, repV c.rp (.slice q c.rs.length n)] W fun e w' => e = .returned (.tuple #[]) ∧ PB w w' B1 d b x bx c (.slice q c.rs.length n) (noteA L c.client c.seq c.rp c.rs) (noteA L c.client c.seq c.rp c.rs)) := fun W h => h.noteY HFEW.out HUP.out hdue
            have z0 : wc.cell? ⟨bx, 0, none⟩ = some (.int .i64 c.client) := HPB5.out.cb.c0
            have z1 : wc.cell? ⟨bx, 1, none⟩ = some (.int .i64 c.seq) := HPB5.out.cb.c1
            have z3 : wc.cell? ⟨bx, 3, none⟩ = some (.int .i64 c.rp.err) := HPB5.out.cb.c3
            have z4 : wc.cell? ⟨bx, 4, none⟩ = some (.int .i64 c.rp.rev) := HPB5.out.cb.c4
            have z5 : wc.cell? ⟨bx, 5, none⟩ = some (.bool c.rp.thn) := HPB5.out.cb.c5
            have z6 : wc.cell? ⟨bx, 6, none⟩ = some (.slice q c.rs.length n) := HPB5.out.cb.c6
            have z7 : wc.cell? ⟨bx, 7, none⟩ = some (.int .i64 c.rp.tim) := HPB5.out.cb.c7
            clear hdue
            go_wp2_with (first
              | (go_at_call 11; refine hX.mono ?_; rintro e W6 ⟨rfl, hP6⟩
                 have hY := HY.out W6 hP6
                 have v0 : W6.cell? ⟨bx, 0, none⟩ = some (.int .i64 c.client) := hP6.cb.c0
                 have v1 : W6.cell? ⟨bx, 1, none⟩ = some (.int .i64 c.seq) := hP6.cb.c1
                 have v3 : W6.cell? ⟨bx, 3, none⟩ = some (.int .i64 c.rp.err) := hP6.cb.c3
                 have v4 : W6.cell? ⟨bx, 4, none⟩ = some (.int .i64 c.rp.rev) := hP6.cb.c4
                 have v5 : W6.cell? ⟨bx, 5, none⟩ = some (.bool c.rp.thn) := hP6.cb.c5
                 have v6 : W6.cell? ⟨bx, 6, none⟩ = some (.slice q c.rs.length n) := hP6.cb.c6
                 have v7 : W6.cell? ⟨bx, 7, none⟩ = some (.int .i64 c.rp.tim) := hP6.cb.c7
                 clear hX hP6)
              | (go_at_call 12; refine hY.mono ?_; rintro e W7 ⟨rfl, hP7⟩; have HP7 := Hid.mk'' hP7; clear hY hP7))
            go_meet
            exact ⟨_, HP7⟩
        case rest =>
          obtain ⟨L', HPB7⟩ := hcut
          clear HPB5 HFEW HUP HOK HRA
          have hall := HPB7.out.all
          obtain ⟨hf7, _, _⟩ := HPB7.out.pp.few
          go_upto_region 17 with (go_at_call 13; refine hall.mono ?_; rintro e W8 ⟨p8, c8, rfl, hR8, bel8⟩; clear hall)
          have HP8 := Hid.mk'' (HPB7.out.later bel8).pp
          have HR8 := Hid.mk'' hR8
          obtain ⟨yp, yc, hy0, hRy, hxl⟩ := HP8.out.rows
          have HRy := Hid.mk'' hRy
          have nl : ((L'.length : Int) != (L'.length : Int)) = false := by simp
          clear hR8 bel8 HPB7 hRy
          go_wp2_with fail
          go_loopg [12] (L'.length + 1) (fun kx s12 wr => ∃ j : Nat, s12 = .int .i64 j ∧ kx + j = L'.length + 1 ∧ j ≤ L'.length ∧ Hid (Below W8.heap.size W8 wr))
          case atStart => exact ⟨0, rfl, rfl, Nat.zero_le _, Below.refl _ _⟩
          case round =>
            obtain ⟨j, rfl, hkj, hj, HBJ⟩ := hrel
            by_cases hlj : j < L'.length
            · obtain ⟨m, hm⟩ : ∃ m, L'[j]? = some m := ⟨_, List.getElem?_eq_getElem hlj⟩
              have hdd : Below W8.heap.size W8 wr.drew := HBJ.out.trans ⟨rfl, rfl, rfl, Nat.le_refl _, fun _ _ => rfl⟩
              obtain ⟨_, _, ea, hA⟩ := HR8.out.below hdd
              obtain ⟨_, _, eb, hB⟩ := HRy.out.below hdd
              simp only [Value.slice.injEq, true_and] at ea eb
              obtain ⟨rfl, rfl⟩ := ea
              obtain ⟨rfl, rfl⟩ := eb
              obtain ⟨ga, qa, na, rfl, hga, a0, a1, a2, a3, a4, a5, a6, ar⟩ := hA j m hm
              obtain ⟨gb, qb, nb, rfl, hgb, b0, b1, b2, b3, b4, b5, b6, br⟩ := hB j m hm
              have xc := (hdd.cell (p := ⟨x, 0, none⟩) hxl).trans hy0
              have hxl2 : x < wr.drew.heap.size := Nat.lt_of_lt_of_le hxl hdd.size
              have hcall := same_rep (r := m.rp) ar br (by
                obtain ⟨_, _, hok⟩ := HP8.out.few
                exact (hok m (List.mem_of_getElem? hm)).d)
              have HCALL := Hid.mk'' hcall
              have HBW : Hid (∀ w5, Below wr.drew.heap.size wr.drew w5 → Below W8.heap.size W8 w5) := fun w5 h5 => hdd.trans (h5.mono hdd.size)
              have e5 : (m.id != m.id) = false := by simp
              have e6 : (m.sq != m.sq) = false := by simp
              clear hcall ar br hA hB hm hdd
              go_upto_region 22 with fail
              go_region_held_law (fun W => W.cell? ⟨x, 0, none⟩ = some (.slice (some ⟨gb, 0, none⟩) L'.length yc) ∧ W.cell? ⟨ga, j * 7, none⟩ = some (.int .i64 m.id) ∧ W.cell? ⟨ga, j * 7 + 1, none⟩ = some (.int .i64 m.sq) ∧ W.cell? ⟨ga, j * 7 + 2, none⟩ = some (.int .i64 m.rp.err) ∧ W.cell? ⟨ga, j * 7 + 3, none⟩ = some (.int .i64 m.rp.rev) ∧ W.cell? ⟨ga, j * 7 + 4, none⟩ = some (.bool m.rp.thn) ∧ W.cell? ⟨ga, j * 7 + 5, none⟩ = some (.slice qa m.rs.length na) ∧ W.cell? ⟨ga, j * 7 + 6, none⟩ = some (.int .i64 m.rp.tim) ∧
                  W.cell? ⟨gb, j * 7, none⟩ = some (.int .i64 m.id) ∧ W.cell? ⟨gb, j * 7 + 1, none⟩ = some (.int .i64 m.sq) ∧ W.cell? ⟨gb, j * 7 + 2, none⟩ = some (.int .i64 m.rp.err) ∧ W.cell? ⟨gb, j * 7 + 3, none⟩ = some (.int .i64 m.rp.rev) ∧ W.cell? ⟨gb, j * 7 + 4, none⟩ = some (.bool m.rp.thn) ∧ W.cell? ⟨gb, j * 7 + 5, none⟩ = some (.slice qb m.rs.length nb) ∧ W.cell? ⟨gb, j * 7 + 6, none⟩ = some (.int .i64 m.rp.tim))
                (first | with_reducible assumption | exact ⟨xc, a0, a1, a2, a3, a4, a5, a6, b0, b1, b2, b3, b4, b5, b6⟩ | exact ⟨(bel5.cell (p := ⟨x, 0, none⟩) hxl2).trans xc, (bel5.cell (p := ⟨ga, _, none⟩) hga).trans a0, (bel5.cell (p := ⟨ga, _, none⟩) hga).trans a1, (bel5.cell (p := ⟨ga, _, none⟩) hga).trans a2, (bel5.cell (p := ⟨ga, _, none⟩) hga).trans a3, (bel5.cell (p := ⟨ga, _, none⟩) hga).trans a4, (bel5.cell (p := ⟨ga, _, none⟩) hga).trans a5, (bel5.cell (p := ⟨ga, _, none⟩) hga).trans a6, (bel5.cell (p := ⟨gb, _, none⟩) hgb).trans b0, (bel5.cell (p := ⟨gb, _, none⟩) hgb).trans b1, (bel5.cell (p := ⟨gb, _, none⟩) hgb).trans b2, (bel5.cell (p := ⟨gb, _, none⟩) hgb).trans b3, (bel5.cell (p := ⟨gb, _, none⟩) hgb).trans b4, (bel5.cell (p := ⟨gb, _, none⟩) hgb).trans b5, (bel5.cell (p := ⟨gb, _, none⟩) hgb).trans b6⟩)
                (first
                  | (go_at_call 10; with_reducible refine HCALL.out.mono ?_; rintro e w5 ⟨rfl, bel5⟩
                     have HB5 := Hid.mk'' (HBW.out w5 bel5)))
              go_wp2_with fail
              go_roundg (L'.length - j)
              case measure => omega
              case rel => exact ⟨j + 1, by congr 1, by omega, by omega, HB5.out⟩
            · have HE : Hid (PP w wr B1 d b x L' L') := by
                obtain ⟨f, v, g, hv⟩ := HP8.out
                exact ⟨f, v, g, hv.later HBJ.out⟩
              go_wp2
              go_roundg (200 - i)
              case measure => omega
              case rel => exact ⟨i + 1, L', by congr 1, by omega, by omega, HE⟩
      · have h5' : (5 : Int) < (c.rs.length : Int) := by omega
        have HP1 := Hid.mk'' HPB.out.pp
        go_wp2
        go_roundg (200 - i)
        case measure => omega
        case rel => exact ⟨i + 1, L, by congr 1, by omega, by omega, HP1.out⟩
    · have HBW : Hid (Below w.heap.size w wr) := by
        obtain ⟨f, v, g, hv⟩ := HP.out
        exact hv.bel
      by_cases h1 : i < cs.length
      all_goals
        have h40 : ¬ (i < 200 ∧ i < cs.length) := fun h => hlt ⟨h.2, h.1⟩
        first | (have h2 : ¬ ((i : Int) < 200) := by omega) | skip
        clear hlt h40
        go_wp2
        go_ret
        exact ⟨rfl, HBW.out⟩
end Go.Proofs.Ytcghaepjklmggaa
