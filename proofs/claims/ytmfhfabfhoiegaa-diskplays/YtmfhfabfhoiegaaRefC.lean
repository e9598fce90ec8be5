/- The document's disk: files without one, with one more. -/
import Derived.Test.YtmfhfabfhoiegaaRefB
import Derived.BigQuiet
namespace Go.Proofs.Ytmfhfabfhoiegaa
open Go Go.RowKit
theorem info74 : (Try.prog.info? 74).map (fun i => (i.zero.map (fun z => z.cells.size), i.size, decide (i.bytes ≤ 1000))) = some (some 3, 3, true) := by kernel_rfl
theorem info74_parts : ∃ i z, Try.prog.info? 74 = some i ∧ i.zero = some z ∧ i.size = 3 ∧ z.cells.size = 3 ∧ i.bytes ≤ 1000 := by
  have h := info74
  cases hi : Try.prog.info? 74 with
  | none => rw [hi] at h; cases h
  | some i =>
    rw [hi] at h
    simp only [Option.map_some, Option.some.injEq, Prod.mk.injEq, decide_eq_true_eq] at h
    obtain ⟨h1, h2, h3⟩ := h
    cases hz : i.zero with
    | none => rw [hz] at h1; cases h1
    | some z => rw [hz] at h1; exact ⟨i, z, rfl, hz, h2, Option.some.inj h1, h3⟩
/-- The cells that are read through a slice of files. -/
theorem Src_rows {w : World} {g off n cap : Nat} {l : List Rl} (hl : l.length = n) (hc : ∀ j u, (rrow l)[j]? = some u → w.cell? ⟨g, off + j, none⟩ = some u) (hs : ∀ f ∈ l, ∃ zs, Sees w f.v zs) : Src Try.prog 3 54 (.slice (some ⟨g, off, none⟩) n cap) n (rrow l) w := by
  refine Src.ofSlice w Try.underlying54 ⟨g, off, none⟩ n cap (rrow l) (by rw [rrow_len, hl]) (fun j u h => ?_) (rrow_oneCell hs)
  rw [Addr.add_lit]
  exact hc j u h
theorem Src_new {w : World} (f : Rl) (fr : Nat × Nat) (hs : ∃ zs, Sees w f.v zs) : Src Try.prog 3 54 (.slice (some ⟨w.heap.size, 0, none⟩) 1 1) 1 (rrow [f]) (w.alloc (.cells #[.string f.s, f.v, .int .i64 f.pf.sy] 74 fr)) := by
  have hb : Below w.heap.size w (w.alloc (.cells #[.string f.s, f.v, .int .i64 f.pf.sy] 74 fr)) := (Below.refl _ _).alloc (Nat.le_refl _) _
  refine Src_rows rfl (fun j u h => ?_) (fun g hg => ?_)
  · rw [cell_of_row _ _ _ _ _ _ (heap_alloc_new w _)]
    rw [Nat.zero_add]
    have e : rrow [f] = #[.string f.s, f.v, .int .i64 f.pf.sy].toList := rfl
    rw [e] at h
    simpa using h
  · obtain rfl : g = f := by simpa using hg
    obtain ⟨zs, hz⟩ := hs
    exact ⟨zs, hz.below hb⟩
theorem del_take_succ {nm : List UInt8} {l : List Rl} {k : Nat} (hk : k < l.length) : delK Rl.nm nm (l.take (k + 1)) = delK Rl.nm nm (l.take k) ++ (if l[k].nm == nm then [] else [l[k]]) := by
  unfold delK
  rw [List.take_succ_eq_append_getElem hk, List.filter_append]
  congr 1
  cases h : l[k].nm == nm <;> simp [h]
theorem del_len (nm : List UInt8) (l : List Rl) : (delK Rl.nm nm l).length ≤ l.length := List.length_filter_le _ _
def withoutRel (w wx : World) (nm : List UInt8) (l : List Rl) (k : Nat) (v : Value) : Prop :=
  wx.ownsRow w.heap.size 74 3 v (delK Rl.nm nm (l.take k)).length (rrow (delK Rl.nm nm (l.take k))) ∧ Below w.heap.size w wx
set_option maxRecDepth 100000 in
set_option maxHeartbeats 1000000 in
theorem without_any (B : Nat) (v : Value) (l : List Rl) (s : ByteArray) (w : World) (hr : w.ownsRow B 74 3 v l.length (rrow l)) (hok : ∀ f ∈ l, OkR w f) (hn : l.length < 1000000) :
    Calls Try.prog 42 #[v, .string s] w fun e w' => ∃ v', e = .returned v' ∧ w'.ownsRow w.heap.size 74 3 v' (delK Rl.nm s.data.toList l).length (rrow (delK Rl.nm s.data.toList l)) ∧ Below w.heap.size w w' := by
  obtain ⟨i0, z0, hi, hz, hsz, hzs, hby⟩ := info74_parts
  obtain ⟨ao, c, hv⟩ : ∃ ao c, v = .slice ao l.length c := by
    rcases hr.2 with ⟨e, e0⟩ | ⟨g, cap, cur, e, _⟩
    · exact ⟨_, _, by rw [e, e0]⟩
    · exact ⟨_, _, e⟩
  subst hv
  have HA : Hid (∀ k (hk : k < l.length), ∃ g, ao = some ⟨g, 0, none⟩ ∧ (∀ wx, Below w.heap.size w wx → wx.cell? ⟨g, k * 3, none⟩ = some (.string l[k].s) ∧ wx.cell? ⟨g, k * 3 + 1, none⟩ = some l[k].v ∧ wx.cell? ⟨g, k * 3 + 2, none⟩ = some (.int .i64 l[k].pf.sy)) ∧ OkR w l[k]) := by
    intro k hkl
    obtain ⟨g, cc, hve, _, hg, e0, e1, e2⟩ := row_at hr hkl
    have hve := Value.slice.inj hve
    exact ⟨g, hve.1, fun wx hb => ⟨(hb.cell (p := ⟨g, k * 3, none⟩) hg).trans e0, (hb.cell (p := ⟨g, k * 3 + 1, none⟩) hg).trans e1, (hb.cell (p := ⟨g, k * 3 + 2, none⟩) hg).trans e2⟩, hok l[k] (List.getElem_mem hkl)⟩
  have HE : Hid (delK Rl.nm s.data.toList (l.take l.length) = delK Rl.nm s.data.toList l) := by show _ = _; rw [List.take_length]
  have HT : Hid (∀ k (hk : k < l.length), delK Rl.nm s.data.toList (l.take (k + 1)) = delK Rl.nm s.data.toList (l.take k) ++ (if l[k].nm == s.data.toList then [] else [l[k]])) := fun k hk => del_take_succ hk
  have HLE : Hid (∀ k, (delK Rl.nm s.data.toList (l.take k)).length ≤ l.length) := fun k => Nat.le_trans (del_len _ _) (by simp; omega)
  obtain ⟨n, hnn⟩ : ∃ n, l.length = n := ⟨_, rfl⟩
  rw [hnn] at hn HE HLE ⊢
  clear hr hok
  go_enter Try.func42, Try.ntmps42
  go_wp2
  go_loopg [5, 6] n (fun g0 o i wx => ∃ k : Nat, k ≤ n ∧ g0 = n - k ∧ i = .int .i64 k ∧ withoutRel w wx s.data.toList l k o)
  case atStart => exact ⟨0, by omega, rfl, rfl, World.ownsRow_nil _ _ _ _, Below.refl _ _⟩
  case round =>
    obtain ⟨k, hk, hg0, rfl, ho, hb⟩ := hrel
    by_cases hlt : k < n
    · obtain ⟨g, rfl, hcs, hokk⟩ := HA.out k (by omega)
      obtain ⟨e0, e1, e2⟩ := hcs _ hb
      have hts := HT.out k (by omega)
      have hnm : l[k].s.data.toList = l[k].nm := hokk.name
      have hlk := HLE.out k
      by_cases he : l[k].s.data.toList = s.data.toList
      · rw [← hnm, he, beq_self_eq_true, if_pos rfl, List.append_nil] at hts
        have HREL : Hid (withoutRel w wr s.data.toList l (k + 1) u5) := by show _ ∧ _; rw [hts]; exact ⟨ho, hb⟩
        have hse := str_eq he
        generalize l[k].s = t at *
        clear ho hb hokk he hnm hts e1 e2
        go_wp2
        go_roundg (n - (k + 1))
        case measure => omega
        case rel => exact ⟨k + 1, by omega, rfl, by go_num, HREL.out⟩
      · rw [← hnm, if_neg (by simpa using he)] at hts
        have hse := str_ne he
        obtain ⟨bo, bc, hbv⟩ := sees_form hokk.sees
        have hsrc := Src_new (w := wr) l[k] (0, 0) ⟨_, hokk.sees.below hb⟩
        have hal := hb.alloc hb.size (.cells #[.string l[k].s, l[k].v, .int .i64 l[k].pf.sy] 74)
        have ho2 := ownsRow_upd ho (Upd.alloc wr (.cells #[.string l[k].s, l[k].v, .int .i64 l[k].pf.sy] 74) (fun _ => False)) (fun _ _ h => h)
        have hs2 := hal.size
        have HF : Hid (∀ v' w', w'.ownsRow w.heap.size 74 3 v' ((delK Rl.nm s.data.toList (l.take k)).length + 1) (rrow (delK Rl.nm s.data.toList (l.take k)) ++ rrow [l[k]]) → Upd (wr.alloc (.cells #[.string l[k].s, l[k].v, .int .i64 l[k].pf.sy] 74)) w' (fun k => some k = u5.ownBlock) → withoutRel w w' s.data.toList l (k + 1) v') := by
          intro v' w' q1 q2
          refine ⟨?_, hal.trans (q2.below hs2 (fun j hj e => ?_))⟩
          · rw [hts, rrow_append, List.length_append]; exact q1
          · have := (ho.lt j e.symm).1; omega
        rw [hbv] at e1 hsrc HF ho2 hs2
        generalize (delK Rl.nm s.data.toList (l.take k)).length = L at *
        generalize hrr : rrow (delK Rl.nm s.data.toList (l.take k)) = R at *
        generalize hr1 : rrow [l[k]] = R1 at *
        generalize l[k].s = t at *
        generalize l[k].pf.sy = sy at *
        generalize l[k].pf.xs.length = m at *
        clear ho hb hokk he hnm hts hbv hal
        go_wp2_with (at_builtin; refine wpList_appS _ rfl (.tmp 20) (.tmp 25) 54 54 rfl w.heap.size 74 i0 z0 3 Try.underlying54 hi hz hsz hzs hby _ L R rfl ho2 _ rfl 1 R1 hsrc (by omega) hs2 ?_; intro v' w' h1 h2 h3 h4)
        have HX := Hid.mk' (HF.out _ _ h1 h2)
        clear h1 h2 h3 h4
        go_wp2
        go_roundg (n - (k + 1))
        case measure => omega
        case rel => exact ⟨k + 1, by omega, rfl, by go_num, HX.out⟩
    · obtain rfl : k = n := by omega
      have HX : Hid (wr.ownsRow w.heap.size 74 3 u5 (delK Rl.nm s.data.toList l).length (rrow (delK Rl.nm s.data.toList l)) ∧ Below w.heap.size w wr) := by rw [← HE.out]; exact ⟨ho, hb⟩
      clear ho hb
      go_wp2
      go_ret
      exact ⟨_, rfl, HX.out.1, HX.out.2⟩
end Go.Proofs.Ytmfhfabfhoiegaa
