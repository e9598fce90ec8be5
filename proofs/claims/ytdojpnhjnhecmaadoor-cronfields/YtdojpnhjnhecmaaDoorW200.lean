/- CronDays, walked. -/
import Derived.Test.YtdojpnhjnhecmaaDoorD0
import Derived.Laws.IdiomStrings
namespace Go.Proofs.YtdojpnhjnhecmaaDoor
open Go Go.RowKit
theorem conv_at {W : World} {g : Nat} {l : List UInt8} {cs : Array Value} (h : W.heap[g]? = some (.cells cs 5 (0, 0))) (hc : cs = (l.map fun b => Value.int .u8 (b.toNat : Int)).toArray) (n cap : Nat) (hn : n = l.length) :
    (convert 53 9 (.slice (some ⟨g, 0, none⟩) n cap)).run Tryd.prog W = .ok (.string ⟨l.toArray⟩) W := by
  subst hn hc
  refine run_convert_bytes_back W 53 9 5 ⟨g, 0, none⟩ cap l Tryd.underlying53 Tryd.underlying5 Tryd.underlying9 (fun j hj => ?_)
  rw [Addr.add_lit, Nat.zero_add]
  exact (cell_of_row _ _ _ _ _ _ h).trans (by simp [hj])
def byteN (n : Nat) : UInt8 := UInt8.ofNat n
theorem byteN_nat {n : Nat} (h : n < 256) : (byteN n).toNat = n := by simp [byteN]; omega
set_option maxRecDepth 100000 in
set_option maxHeartbeats 2000000 in
theorem days_walkfalsefalse (x0 x1 x4 : Int) (w : World) (hT : HasT w) : Calls Tryd.prog 7 #[.int .i64 x0, .int .i64 x1, .bool false, .bool false, .int .i64 x4] w fun e w' => e = .returned (.bool true) ∧ Below w.heap.size w w' := by
  have hkn := known_any w hT
  have HT : Hid (∀ w3, Below w.heap.size w w3 → HasT w3) := fun w3 h => hT.below h
  have hw0 := fun W => within_any x0 31 W (by decide) (by decide)
  have hb0 := withinF_bd x0 31 (by decide)
  have hw1 := fun W => within_any x1 7 W (by decide) (by decide)
  have hb1 := withinF_bd x1 7 (by decide)
  have hm := fun W => minF_any x4 W
  have hmb := minF_bd x4
  obtain ⟨d, hd⟩ : ∃ d : Nat, withinF x0 31 = d := ⟨(withinF x0 31).toNat, by omega⟩
  obtain ⟨wd, hwd⟩ : ∃ d : Nat, withinF x1 7 = d := ⟨(withinF x1 7).toNat, by omega⟩
  rw [hd] at hw0 hb0
  rw [hwd] at hw1 hb1
  clear hd hwd
  generalize minF x4 = a at *
  clear hT
  have cB : (byteN (48 + wd)).toNat = 48 + wd := byteN_nat (by omega)
  have eB : (#[Value.int .u8 (48 + (wd : Int))] : Array Value) = ([byteN (48 + wd)].map fun b => Value.int .u8 (b.toNat : Int)).toArray := by simp [cB]
  have cA : (byteN (48 + (1 + d) / 10)).toNat = 48 + (1 + d) / 10 := byteN_nat (by omega)
  have cA' : (byteN (48 + (1 + d) % 10)).toNat = 48 + (1 + d) % 10 := byteN_nat (by omega)
  have eA : (#[Value.int .u8 (48 + (1 + (d : Int)) / 10), Value.int .u8 (48 + (1 + (d : Int)) % 10)] : Array Value) = ([byteN (48 + (1 + d) / 10), byteN (48 + (1 + d) % 10)].map fun b => Value.int .u8 (b.toNat : Int)).toArray := by simp [cA, cA']
  have HPA : Hid (parseL (numsOf ((⟨#[42, 32, 42, 32]⟩ : ByteArray) ++ ⟨[byteN (48 + (1 + d) / 10), byteN (48 + (1 + d) % 10)].toArray⟩ ++ ⟨#[32, 42, 32]⟩ ++ ⟨[byteN (48 + wd)].toArray⟩)) = some (daysE (1 + d) wd false false)) := by
    show _ = _
    rw [← days_parse false false (1 + d) wd (by omega) (by omega) (by omega)]
    simp [numsOf, ByteArray.data_append, cA, cA', cB]
  have HPS : Hid (((⟨#[42, 32, 42, 32]⟩ : ByteArray) ++ ⟨[byteN (48 + (1 + d) / 10), byteN (48 + (1 + d) % 10)].toArray⟩ ++ ⟨#[32, 42, 32]⟩ ++ ⟨[byteN (48 + wd)].toArray⟩).size ≤ 100) := by
    show ((⟨#[42, 32, 42, 32]⟩ : ByteArray) ++ ⟨[byteN (48 + (1 + d) / 10), byteN (48 + (1 + d) % 10)].toArray⟩ ++ ⟨#[32, 42, 32]⟩ ++ ⟨[byteN (48 + wd)].toArray⟩).data.size ≤ 100
    simp [ByteArray.data_append]
  have HOK := Hid.mk'' (days_ok (1 + d) wd false false (by omega) (by omega))
  generalize byteN (48 + wd) = B0 at *
  generalize byteN (48 + (1 + d) / 10) = A0 at *
  generalize byteN (48 + (1 + d) % 10) = A1 at *
  have HCB := Hid.mk'' (fun (W : World) (g : Nat) (h : W.heap[g]? = some (.cells #[Value.int .u8 (48 + (wd : Int))] 5 (0, 0))) => conv_at h eB 1 1 rfl)
  have HCA := Hid.mk'' (fun (W : World) (g : Nat) (h : W.heap[g]? = some (.cells #[Value.int .u8 (48 + (1 + (d : Int)) / 10), Value.int .u8 (48 + (1 + (d : Int)) % 10)] 5 (0, 0))) => conv_at h eA 2 2 rfl)
  clear eB eA cB cA cA'
  go_enter Tryd.func7, Tryd.ntmps7
  go_wp2_with fail
  refine hkn.mono ?_
  rintro e w1 ⟨rfl, hb⟩
  have HB1 := Hid.mk'' hb
  clear hkn hb
  go_wp2_with (go_at_call 22; first | (with_reducible refine (hw0 _).mono ?_; rintro e w2 ⟨rfl, rfl⟩) | (with_reducible refine (hw1 _).mono ?_; rintro e w2 ⟨rfl, rfl⟩))
  have v1 := HCB.out (w2.alloc (.cells #[Value.int .u8 (48 + (wd : Int))] 5)).drew w2.heap.size (heap_alloc_new w2 _)
  have v2 := fun o => HCB.out ((w2.alloc (.cells #[Value.int .u8 (48 + (wd : Int))] 5)).alloc o).drew w2.heap.size ((heap_alloc_old _ _ (by simp)).trans (heap_alloc_new w2 _))
  have v3 := fun o => HCB.out ((w2.alloc o).alloc (.cells #[Value.int .u8 (48 + (wd : Int))] 5)).drew (w2.heap.size + 1) (by have := heap_alloc_new (w2.alloc o) (.cells #[Value.int .u8 (48 + (wd : Int))] 5); rwa [show (w2.alloc o).heap.size = w2.heap.size + 1 by simp] at this)
  have u1 := HCA.out (w2.alloc (.cells #[Value.int .u8 (48 + (1 + (d : Int)) / 10), Value.int .u8 (48 + (1 + (d : Int)) % 10)] 5)).drew w2.heap.size (heap_alloc_new w2 _)
  have u2 := fun o => HCA.out ((w2.alloc (.cells #[Value.int .u8 (48 + (1 + (d : Int)) / 10), Value.int .u8 (48 + (1 + (d : Int)) % 10)] 5)).alloc o).drew w2.heap.size ((heap_alloc_old _ _ (by simp)).trans (heap_alloc_new w2 _))
  have u3 := fun o => HCA.out ((w2.alloc o).alloc (.cells #[Value.int .u8 (48 + (1 + (d : Int)) / 10), Value.int .u8 (48 + (1 + (d : Int)) % 10)] 5)).drew (w2.heap.size + 1) (by have := heap_alloc_new (w2.alloc o) (.cells #[Value.int .u8 (48 + (1 + (d : Int)) / 10), Value.int .u8 (48 + (1 + (d : Int)) % 10)] 5); rwa [show (w2.alloc o).heap.size = w2.heap.size + 1 by simp] at this)
  go_region
  all_goals
    generalize hV : World.drew (World.alloc (World.alloc w2 _) _) = V
    have HBV : Hid (Below w.heap.size w V) := by show Below _ _ _; rw [← hV]; exact ((HB1.out.alloc HB1.out.size _).alloc (by have := HB1.out.size; simp; omega) _).drew
    clear hV v1 v2 v3 u1 u2 u3 hw0 hw1
    have hp := parse_yes _ _ HPA.out HPS.out V (HT.out _ HBV.out)
    go_wp2_with fail
    refine hp.mono ?_
    rintro e w3 ⟨rfl, hb3⟩
    have hb3' : Below w.heap.size w w3 := HBV.out.trans (hb3.mono HBV.out.size)
    have HE := Hid.mk'' (EW.start (x := daysE (1 + d) wd false false) hb3' (HT.out _ hb3'))
    have HDA : Hid (∀ {n y m d' h mi wd'}, IsAt n y m d' h mi wd' → okAt (daysE (1 + d) wd false false) m d' h mi wd' = _) := fun hA => days_at (1 + d) wd false false hA
    have HXA : Hid ((daysE (1 + d) wd false false).ad = false ∧ (daysE (1 + d) wd false false).aw = false) := ⟨rfl, rfl⟩
    clear hp hb3 hb3' HBV HPA HPS HCB HCA HB1
    generalize daysE (1 + d) wd false false = x at *
    unfold expV
    obtain ⟨U, hU⟩ : ∃ U, U = w3.alloc (.cells #[.int .u64 x.mi, .int .u64 x.ho, .int .u64 x.da, .int .u64 x.mo, .int .u64 x.wk, .bool x.ad, .bool x.aw] 25) := ⟨_, rfl⟩
    rw [← hU] at HE
    go_upto_region 10 with (fail)
    rw [← hU]
    clear hU
    generalize w3.heap.size = E at *
    have hof := of_yes a U HE.out.tab (by omega) (by omega)
    go_wp2_with (go_at_call 21; refine (hm _).mono ?_; rintro e w4 ⟨rfl, rfl⟩)
    refine hof.mono ?_
    rintro e w5 ⟨⟨y, m, d', h, mi, wd', rfl, hA⟩, hb5⟩
    have HE5 := Hid.mk'' (HE.out.below hb5)
    have HE6 : Hid (∀ o, EW x E w (w5.alloc o)) := fun o => HE5.out.below ((Below.refl _ _).alloc (Nat.le_refl _) o)
    have mt : ∀ o, Calls Tryd.prog 19 #[expV x, .int .i64 a] (w5.alloc o) _ := fun o => matches_at x HOK.out a y m d' h mi wd' hA (by omega) (by omega) (w5.alloc o) (HE6.out o).tab
    rw [HDA.out hA] at mt
    obtain ⟨k0, k1, k2, k3, k4, k5, k6⟩ := HE5.out.cells
    have hlt := HE5.out.lt
    clear hof hb5 HE HDA hm hA
    rw [HXA.out.1] at k5
    rw [HXA.out.2] at k6
    unfold expV at mt
    rw [HXA.out.1, HXA.out.2] at mt
    have e1 : (((1 + d : Nat) : Int)) = 1 + (d : Int) := by omega
    rw [e1] at mt
    clear e1
    cases q1 : (d' == 1 + (d : Int)) <;> cases q2 : (wd' == (wd : Int))
    all_goals
      rw [q1, q2] at mt
      go_wp2_with fail
      refine (mt _).mono ?_
      rintro e w6 ⟨rfl, hb6⟩
      have HE7 := Hid.mk'' ((HE6.out _).below hb6)
      clear mt hb6 k0 k1 k2 k3 k4 k5 k6
      obtain ⟨k0, k1, k2, k3, k4, k5, k6⟩ := HE7.out.cells
      rw [HXA.out.1] at k5
      rw [HXA.out.2] at k6
      go_wp2
      go_ret
      exact ⟨rfl, HE7.out.bel⟩
end Go.Proofs.YtdojpnhjnhecmaaDoor
