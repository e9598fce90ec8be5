/- A change laid into a store. -/
import Derived.Test.YteeflkkoifgcbaaML2
namespace Go.Proofs.Yteeflkkoifgcbaa
open Go Go.RowKit

theorem Upd.undrew {w w' : World} {S : Nat → Prop} (h : Upd w.drew w' S) : Upd w w' S := ⟨h.os, h.tape, h.output, h.size, h.block⟩
set_option maxRecDepth 100000 in
set_option maxHeartbeats 2000000 in
theorem lay_put {n : Nat} {w : World} {s : Nat} {S : Sto} {g : Sg} {o : Value} (h : St n w s S g o) (hn : n ≤ 900000) {r : Int} {key : ByteArray} {v : KVd} (L : LayOk S r key (some v)) (hr : r = S.rev) (hrb : r ≤ 1000000) :
    Calls Try.prog 36 #[ptr s, .agg #[.int .i64 r, .string key], encC key (some v)] w fun e w' => e = .returned (.tuple #[]) ∧ ∃ g', St (n + 1) w' s (layS S r key (some v)) g' o ∧ KpM w w' s g g' ∧ g'.lv = g.lv := by
  obtain ⟨kk, kvv, kcr, kmo, kve, kle⟩ := v
  have hta := ta_yes
  dsimp only [encC, encKV]
  obtain ⟨w2, hw2⟩ : ∃ w2, w2 = (w.alloc (.cells #[.int .i64 r, .string key] 88)).alloc (.cells #[.string kk, .string kvv, .int .i64 kcr, .int .i64 kmo, .int .i64 kve, .int .i64 kle] 76) := ⟨_, rfl⟩
  have hb2 : Below w.heap.size w w2 := by rw [hw2]; exact ((Below.refl _ w).alloc (Nat.le_refl _) _).alloc (by simp) _
  have hp2 : w2.heap[w.heap.size]? = some (.cells #[.int .i64 r, .string key] 88 (0, 0)) := by rw [hw2]; exact (heap_alloc_old _ _ (by simp)).trans (row_alloc w _ _)
  obtain ⟨bp, hbp⟩ : ∃ bp, bp = w.heap.size := ⟨_, rfl⟩
  have HH := Hid.mk'' h
  have HL := Hid.mk'' L
  have hpos := L.pos
  have hsz := L.sz
  have HRV := Hid.mk'' hr
  clear h L hr
  go_enter Try.func36, Try.ntmps36
  go_upto_region 2 with fail
  rw [← hw2]
  rw [← hbp] at hp2 ⊢
  have h2 := HH.out.below (hb2.drew)
  have hput := put_xd h2.ix h2.bd (by omega) key r false (by omega) (by omega)
  obtain ⟨-, -, c2, -⟩ := h2.cells
  have p0 : w2.drew.cell? ⟨bp, 0, none⟩ = some (.int .i64 r) := cell_of_row _ _ _ _ _ _ hp2
  have p1 : w2.drew.cell? ⟨bp, 1, none⟩ = some (.string key) := cell_of_row _ _ _ _ _ _ hp2
  have hE := (putE_lay h2 HL.out).1
  dsimp only [Option.isNone_some, Option.isNone_none] at hE
  rw [hE] at hput
  have hS2 : w2.drew.cell? ⟨s, 2, none⟩ = some (ptr g.x) ∧ w2.drew.cell? ⟨bp, 0, none⟩ = some (.int .i64 r) ∧ w2.drew.cell? ⟨bp, 1, none⟩ = some (.string key) := ⟨c2, p0, p1⟩
  have hpl : bp < w2.drew.heap.size := (Array.getElem?_eq_some_iff.1 hp2).1
  have hpn : bp ∉ g.Fi := fun hm => (h2.ix.kind _ hm).ne (b := bp) hp2 (by simp) rfl
  have hsl := h2.lt (.inl rfl)
  have HS3 : Hid (∀ w3 F', Step w2.drew w3 g.Fi F' → w3.cell? ⟨s, 2, none⟩ = some (ptr g.x) ∧ w3.cell? ⟨bp, 0, none⟩ = some (.int .i64 r) ∧ w3.cell? ⟨bp, 1, none⟩ = some (.string key)) := fun w3 F' hs => ⟨(hs.upd.cell (p := ⟨s, 2, none⟩) hsl h2.off.1).trans c2, (hs.upd.cell (p := ⟨bp, 0, none⟩) hpl hpn).trans p0, (hs.upd.cell (p := ⟨bp, 1, none⟩) hpl hpn).trans p1⟩
  have H2 := Hid.mk'' h2
  have HB2 := Hid.mk'' hb2
  have HBP := Hid.mk'' hbp
  clear h2 c2 p0 p1 hE hta hw2 hb2 hbp
  go_region_held_law (fun V => V.cell? ⟨s, 2, none⟩ = some (ptr g.x) ∧ V.cell? ⟨bp, 0, none⟩ = some (.int .i64 r) ∧ V.cell? ⟨bp, 1, none⟩ = some (.string key)) (first | with_reducible assumption | (show _ ∧ _ ∧ _; with_reducible assumption)) (first | (go_at_call 40; refine hput.mono ?_; rintro e w3 ⟨rfl, F', hx3, hs3⟩; have hS3 := HS3.out w3 F' hs3; have HX3 := Hid.mk'' hx3; have HT3 := Hid.mk'' hs3; clear hx3 hs3))
  go_upto_region 3 with fail
  obtain ⟨o1, o2, o3, o4, o5⟩ := H2.out.off
  have hc3 := (H2.out.ch.upd HT3.out.upd o2)
  have hcd : MapF w3.drew encP g.bc (chF S) g.nc := hc3
  obtain ⟨w4, hup4, hm4, hu4⟩ := hcd.set law60 Try.underlying60 (r, key) (.iface 76 (.agg #[.string kk, .string kvv, .int .i64 kcr, .int .i64 kmo, .int .i64 kve, .int .i64 kle]))
  have hup4' : (Instr.mapUpdate 60 (.map (some g.bc)) (.agg #[.int .i64 r, .string key]) (.iface 76 (.agg #[.string kk, .string kvv, .int .i64 kcr, .int .i64 kmo, .int .i64 kve, .int .i64 kle]))).run Try.prog w3.drew = .ok () w4 := hup4
  have hs3 : w3.heap[s]? = _ := (HT3.out.upd.block s hsl o1).trans H2.out.blk
  have c33 : w3.cell? ⟨s, 3, none⟩ = some (.map (some g.bc)) := cell_of_row _ _ _ _ _ _ hs3
  obtain ⟨-, q30, q31⟩ := hS3
  obtain ⟨a1, a2, a3⟩ := H2.out.offm (b := g.bc) (.inl rfl)
  have hsl3 : s < w3.heap.size := Nat.lt_of_lt_of_le hsl HT3.out.upd.size
  have hpl3 : bp < w3.heap.size := Nat.lt_of_lt_of_le hpl HT3.out.upd.size
  have hpb : bp ≠ g.bc ∧ bp ≠ g.bt := by
    have h1 := HH.out.lt (.inr (.inl rfl))
    have h2 := HH.out.lt (.inr (.inr (.inr (.inl rfl))))
    have h3 := HBP.out
    omega
  have hu4' : Upd w3 w4 (fun k => k = g.bc) := hu4.undrew
  have s4 : w4.heap[s]? = _ := (hu4'.block s hsl3 a1).trans hs3
  have c45 : w4.cell? ⟨s, 5, none⟩ = some (.map (some g.bt)) := cell_of_row _ _ _ _ _ _ s4
  have q40 : w4.cell? ⟨bp, 0, none⟩ = some (.int .i64 r) := (hu4'.cell (p := ⟨bp, 0, none⟩) hpl3 hpb.1).trans q30
  have q41 : w4.cell? ⟨bp, 1, none⟩ = some (.string key) := (hu4'.cell (p := ⟨bp, 1, none⟩) hpl3 hpb.1).trans q31
  have ht4 : MapF w4 encB g.bt (thF S) S.nth := (H2.out.th.upd HT3.out.upd o4).upd hu4' H2.out.ne.2.1.symm
  have hm4' : MapF w4 encP g.bc (setF (chF S) (r, key) (.iface 76 (.agg #[.string kk, .string kvv, .int .i64 kcr, .int .i64 kmo, .int .i64 kve, .int .i64 kle]))) (if (chF S (r, key)).isSome then g.nc else g.nc + 1) := hm4
  clear hup4 hc3 hcd hs3 s4 o1 o2 o3 o4 o5 a1 a2 a3 hm4 hu4
  have HM4 := Hid.mk'' hm4'
  have HU4 := Hid.mk'' hu4'
  clear hm4' hu4'
  obtain ⟨w5, hup5, hm5, hu5⟩ := (show MapF w4.drew encB g.bt (thF S) S.nth from ht4).set law65 Try.underlying62 key (.int .i64 r)
  have hup5' : (Instr.mapUpdate 62 (.map (some g.bt)) (.string key) (.int .i64 r)).run Try.prog w4.drew = .ok () w5 := hup5
  have HFIN : Hid (∃ g', St (n + 1) w5 s (layS S r key (some ⟨kk, kvv, kcr, kmo, kve, kle⟩)) g' o ∧ KpM w w5 s g g' ∧ g'.lv = g.lv) := by
    have := H2.out.laid HL.out HRV.out HX3.out HT3.out HM4.out HU4.out hm5 hu5.undrew (fun k => thF_lay S r key k (HL.out.kv _ rfl).2.1) (by
      show _ = (layS S r key (some ⟨kk, kvv, kcr, kmo, kve, kle⟩)).nth
      unfold layS thF
      cases thereH (S.kh key) <;> rfl)
    exact ⟨_, this.1, (KpM.same HB2.out.drew).trans this.2, rfl⟩
  clear hup5 hm5 hu5 ht4 HM4 HU4 HX3 HT3 H2 HB2 HL HH HS3 hput
  go_region
  go_upto_region 5 with fail
  go_region
  all_goals
    go_wp2
    first | go_end0 | refine bodyPost_ret (results_none rfl _ _ _) rfl ?_
    exact ⟨rfl, HFIN.out⟩
set_option maxRecDepth 100000 in
set_option maxHeartbeats 2000000 in
theorem lay_del {n : Nat} {w : World} {s : Nat} {S : Sto} {g : Sg} {o : Value} (h : St n w s S g o) (hn : n ≤ 900000) {r : Int} {key : ByteArray} (L : LayOk S r key none) (hr : r = S.rev) (hrb : r ≤ 1000000) :
    Calls Try.prog 36 #[ptr s, .agg #[.int .i64 r, .string key], encC key none] w fun e w' => e = .returned (.tuple #[]) ∧ ∃ g', St (n + 1) w' s (layS S r key none) g' o ∧ KpM w w' s g g' ∧ g'.lv = g.lv := by
  have hta := ta_no
  dsimp only [encC, encKV]
  obtain ⟨w2, hw2⟩ : ∃ w2, w2 = (w.alloc (.cells #[.int .i64 r, .string key] 88)).alloc (.cells #[.string ⟨#[]⟩, .string ⟨#[]⟩, .int .i64 0, .int .i64 0, .int .i64 0, .int .i64 0] 76) := ⟨_, rfl⟩
  have hb2 : Below w.heap.size w w2 := by rw [hw2]; exact ((Below.refl _ w).alloc (Nat.le_refl _) _).alloc (by simp) _
  have hp2 : w2.heap[w.heap.size]? = some (.cells #[.int .i64 r, .string key] 88 (0, 0)) := by rw [hw2]; exact (heap_alloc_old _ _ (by simp)).trans (row_alloc w _ _)
  obtain ⟨bp, hbp⟩ : ∃ bp, bp = w.heap.size := ⟨_, rfl⟩
  have HH := Hid.mk'' h
  have HL := Hid.mk'' L
  have hpos := L.pos
  have hsz := L.sz
  have HRV := Hid.mk'' hr
  clear h L hr
  go_enter Try.func36, Try.ntmps36
  go_upto_region 2 with fail
  rw [← hw2]
  rw [← hbp] at hp2 ⊢
  have h2 := HH.out.below (hb2.drew)
  have hput := put_xd h2.ix h2.bd (by omega) key r true (by omega) (by omega)
  obtain ⟨-, -, c2, -⟩ := h2.cells
  have p0 : w2.drew.cell? ⟨bp, 0, none⟩ = some (.int .i64 r) := cell_of_row _ _ _ _ _ _ hp2
  have p1 : w2.drew.cell? ⟨bp, 1, none⟩ = some (.string key) := cell_of_row _ _ _ _ _ _ hp2
  have hE := (putE_lay h2 HL.out).1
  dsimp only [Option.isNone_some, Option.isNone_none] at hE
  rw [hE] at hput
  have hS2 : w2.drew.cell? ⟨s, 2, none⟩ = some (ptr g.x) ∧ w2.drew.cell? ⟨bp, 0, none⟩ = some (.int .i64 r) ∧ w2.drew.cell? ⟨bp, 1, none⟩ = some (.string key) := ⟨c2, p0, p1⟩
  have hpl : bp < w2.drew.heap.size := (Array.getElem?_eq_some_iff.1 hp2).1
  have hpn : bp ∉ g.Fi := fun hm => (h2.ix.kind _ hm).ne (b := bp) hp2 (by simp) rfl
  have hsl := h2.lt (.inl rfl)
  have HS3 : Hid (∀ w3 F', Step w2.drew w3 g.Fi F' → w3.cell? ⟨s, 2, none⟩ = some (ptr g.x) ∧ w3.cell? ⟨bp, 0, none⟩ = some (.int .i64 r) ∧ w3.cell? ⟨bp, 1, none⟩ = some (.string key)) := fun w3 F' hs => ⟨(hs.upd.cell (p := ⟨s, 2, none⟩) hsl h2.off.1).trans c2, (hs.upd.cell (p := ⟨bp, 0, none⟩) hpl hpn).trans p0, (hs.upd.cell (p := ⟨bp, 1, none⟩) hpl hpn).trans p1⟩
  have H2 := Hid.mk'' h2
  have HB2 := Hid.mk'' hb2
  have HBP := Hid.mk'' hbp
  clear h2 c2 p0 p1 hE hta hw2 hb2 hbp
  go_region_held_law (fun V => V.cell? ⟨s, 2, none⟩ = some (ptr g.x) ∧ V.cell? ⟨bp, 0, none⟩ = some (.int .i64 r) ∧ V.cell? ⟨bp, 1, none⟩ = some (.string key)) (first | with_reducible assumption | (show _ ∧ _ ∧ _; with_reducible assumption)) (first | (go_at_call 40; refine hput.mono ?_; rintro e w3 ⟨rfl, F', hx3, hs3⟩; have hS3 := HS3.out w3 F' hs3; have HX3 := Hid.mk'' hx3; have HT3 := Hid.mk'' hs3; clear hx3 hs3))
  go_upto_region 3 with fail
  obtain ⟨o1, o2, o3, o4, o5⟩ := H2.out.off
  have hc3 := (H2.out.ch.upd HT3.out.upd o2)
  have hcd : MapF w3.drew encP g.bc (chF S) g.nc := hc3
  obtain ⟨w4, hup4, hm4, hu4⟩ := hcd.set law60 Try.underlying60 (r, key) (.iface 79 (.agg #[.string key]))
  have hup4' : (Instr.mapUpdate 60 (.map (some g.bc)) (.agg #[.int .i64 r, .string key]) (.iface 79 (.agg #[.string key]))).run Try.prog w3.drew = .ok () w4 := hup4
  have hs3 : w3.heap[s]? = _ := (HT3.out.upd.block s hsl o1).trans H2.out.blk
  have c33 : w3.cell? ⟨s, 3, none⟩ = some (.map (some g.bc)) := cell_of_row _ _ _ _ _ _ hs3
  obtain ⟨-, q30, q31⟩ := hS3
  obtain ⟨a1, a2, a3⟩ := H2.out.offm (b := g.bc) (.inl rfl)
  have hsl3 : s < w3.heap.size := Nat.lt_of_lt_of_le hsl HT3.out.upd.size
  have hpl3 : bp < w3.heap.size := Nat.lt_of_lt_of_le hpl HT3.out.upd.size
  have hpb : bp ≠ g.bc ∧ bp ≠ g.bt := by
    have h1 := HH.out.lt (.inr (.inl rfl))
    have h2 := HH.out.lt (.inr (.inr (.inr (.inl rfl))))
    have h3 := HBP.out
    omega
  have hu4' : Upd w3 w4 (fun k => k = g.bc) := hu4.undrew
  have s4 : w4.heap[s]? = _ := (hu4'.block s hsl3 a1).trans hs3
  have c45 : w4.cell? ⟨s, 5, none⟩ = some (.map (some g.bt)) := cell_of_row _ _ _ _ _ _ s4
  have q40 : w4.cell? ⟨bp, 0, none⟩ = some (.int .i64 r) := (hu4'.cell (p := ⟨bp, 0, none⟩) hpl3 hpb.1).trans q30
  have q41 : w4.cell? ⟨bp, 1, none⟩ = some (.string key) := (hu4'.cell (p := ⟨bp, 1, none⟩) hpl3 hpb.1).trans q31
  have ht4 : MapF w4 encB g.bt (thF S) S.nth := (H2.out.th.upd HT3.out.upd o4).upd hu4' H2.out.ne.2.1.symm
  have hm4' : MapF w4 encP g.bc (setF (chF S) (r, key) (.iface 79 (.agg #[.string key]))) (if (chF S (r, key)).isSome then g.nc else g.nc + 1) := hm4
  clear hup4 hc3 hcd hs3 s4 o1 o2 o3 o4 o5 a1 a2 a3 hm4 hu4
  have HM4 := Hid.mk'' hm4'
  have HU4 := Hid.mk'' hu4'
  clear hm4' hu4'
  obtain ⟨w5, hup5, hm5, hu5⟩ := (show MapF w4.drew encB g.bt (thF S) S.nth from ht4).del law65 Try.underlying62 key 0
  have hup5' : (Builtin.delete_ #[62, 9] 0 #[.map (some g.bt), .string key]).run Try.prog w4.drew = .ok (.tuple #[]) w5 := hup5
  have HFIN : Hid (∃ g', St (n + 1) w5 s (layS S r key none) g' o ∧ KpM w w5 s g g' ∧ g'.lv = g.lv) := by
    have := H2.out.laid HL.out HRV.out HX3.out HT3.out HM4.out HU4.out hm5 hu5.undrew (fun k => thF_layD S r key k) (by
      show _ = (layS S r key none).nth
      unfold layS thF
      cases thereH (S.kh key) <;> rfl)
    exact ⟨_, this.1, (KpM.same HB2.out.drew).trans this.2, rfl⟩
  clear hup5 hm5 hu5 ht4 HM4 HU4 HX3 HT3 H2 HB2 HL HH HS3 hput
  go_region
  go_upto_region 6 with fail
  go_region
  all_goals
    go_wp2
    first | go_end0 | refine bodyPost_ret (results_none rfl _ _ _) rfl ?_
    exact ⟨rfl, HFIN.out⟩
end Go.Proofs.Yteeflkkoifgcbaa
