/- The document's disk: New, begin, Stop, Used, at, Name. -/
import Derived.Test.YtmfhfabfhoiegaaRefD
namespace Go.Proofs.Ytmfhfabfhoiegaa
open Go Go.RowKit
theorem rnew_no (room : Int) (w : World) (h : room < 0) : Calls Try.prog 11 #[.int .i64 room] w fun e w' => e = .returned (.tuple #[.pointer none, .int .i64 1]) ∧ w' = w := by
  go_enter Try.func11, Try.ntmps11
  go_wp2
  go_ret2
  exact ⟨rfl, rfl⟩
theorem rnew_yes (room : Int) (w : World) (h : 0 ≤ room) : Calls Try.prog 11 #[.int .i64 room] w fun e w' => e = .returned (.tuple #[ptr w.heap.size, .int .i64 0]) ∧ w' = w.alloc (.cells #[.slice none 0 0, .int .i64 room, .int .i64 0, .int .i64 0, .bool false] 56) := by
  go_enter Try.func11, Try.ntmps11
  go_wp2
  go_ret2
  exact ⟨rfl, rfl⟩
theorem Rk.new {B : Nat} {w : World} {room : Int} (hB : B ≤ w.heap.size) : Rk B (w.alloc (.cells #[.slice none 0 0, .int .i64 room, .int .i64 0, .int .i64 0, .bool false] 56)) w.heap.size ⟨.slice none 0 0, []⟩ (q0 room) 0 := by
  refine ⟨rfl, ?_, ⟨World.ownsRow_nil _ _ _ _, fun _ h => (by cases h), hB, by simp [Value.ownBlock], fun _ h => (by cases h)⟩, ⟨fun _ => rfl, by decide, by decide⟩, List.Pairwise.nil⟩
  constructor <;> simp [q0]
theorem rnew_rk (B : Nat) (room : Int) (w : World) (h : 0 ≤ room) (hB : B ≤ w.heap.size) : Calls Try.prog 11 #[.int .i64 room] w fun e w' => ∃ x, x = w.heap.size ∧ e = .returned (.tuple #[ptr x, .int .i64 0]) ∧ Rk B w' x ⟨.slice none 0 0, []⟩ (q0 room) 0 ∧ Below w.heap.size w w' := by
  refine (rnew_yes room w h).mono ?_
  rintro e w' ⟨rfl, rfl⟩
  exact ⟨_, rfl, rfl, Rk.new hB, (Below.refl _ _).alloc (Nat.le_refl _) _⟩
set_option maxRecDepth 100000 in
set_option maxHeartbeats 1000000 in
theorem rbegin_any (B x : Nat) (h : Ru) (p : PS) (left : Int) (w : World) (hd : Rk B w x h p left) (hs : p.sane) :
    Calls Try.prog 36 #[ptr x] w fun e w' => e = .returned (.bool (!p.stopped)) ∧ ∃ left', Rk B w' x h p.begun left' ∧ Upd w w' (fun k => k = x) := by
  have hc := hd.cells
  have c2 := hc.c2; have c3 := hc.c3; have c4 := hc.c4; have f2 := hc.f2; have f3 := hc.f3; have f4 := hc.f4
  have o0 := hs.ops0; have o1 := hs.ops1
  obtain ⟨l0, l1, l2⟩ := hd.left
  have HD := Hid.mk' hd
  clear hs hc hd
  cases h2 : p.dead with
  | true =>
    have hst : p.stopped = true := by simp [PS.stopped, h2]
    have HB := Hid.mk' (begun_stopped hst)
    rw [h2] at c4
    clear l0
    go_enter Try.func36, Try.ntmps36
    go_wp2
    go_ret
    refine ⟨ret_bool (by rw [hst]; rfl), left, ?_, Upd.refl _ _⟩
    rw [HB.out, show ({ p with dead := true } : PS) = p from by rw [← h2]]
    exact HD.out
  | false =>
    have hl := l0 h2
    rw [h2] at c4
    clear l0
    by_cases h1 : p.stops = 1
    · have hst : p.stopped = true := by simp [PS.stopped, h1]
      have HB := Hid.mk' (begun_stopped hst)
      obtain rfl : left = 1 := by rw [hl, h1]; decide
      clear hl h1
      go_enter Try.func36, Try.ntmps36
      go_wp2
      go_ret
      refine ⟨ret_bool (by rw [hst]; rfl), 0, ?_, (upd_cell _ _ _ _).trans (upd_cell _ _ _ _) (fun _ _ h => h)⟩
      rw [HB.out]
      exact ⟨HD.out.view, (HD.out.cells.set3 _).set4 _, (HD.out.rest.set (upd_cell _ _ _ _)).set (upd_cell _ _ _ _), ⟨fun e => (by cases e), by decide, by decide⟩, HD.out.up⟩
    · have hst : p.stopped = false := by simp [PS.stopped, h1, h2]
      by_cases h3 : 0 < p.stops
      · have HB : Hid (p.begun = ⟨p.fs, p.room, p.ops + 1, p.stops - 1, p.dead⟩) := by show _ = _; unfold PS.begun; simp [hst, h3]
        have hl2 : left = p.stops := by rw [hl]; omega
        have hl3 : 1 < left := by omega
        have hl4 : (left - 1 == 0) = false := by rw [beq_eq_false_iff_ne]; omega
        have HL : Hid (leftOk p.begun (left - 1)) := by
          show leftOk _ _
          rw [HB.out]
          exact ⟨fun _ => by show _ = max (p.stops - 1) 0; omega, by omega, by omega⟩
        clear hl hl2 h1 h3
        go_enter Try.func36, Try.ntmps36
        go_wp2
        go_ret
        refine ⟨ret_bool (by rw [hst]; rfl), left - 1, ?_, (upd_cell _ _ _ _).trans (upd_cell _ _ _ _) (fun _ _ h => h)⟩
        have hlo := HL.out
        rw [HB.out] at hlo ⊢
        exact ⟨HD.out.view, (HD.out.cells.set3 _).set2 _, (HD.out.rest.set (upd_cell _ _ _ _)).set (upd_cell _ _ _ _), hlo, HD.out.up⟩
      · have HB : Hid (p.begun = ⟨p.fs, p.room, p.ops + 1, p.stops, p.dead⟩) := by show _ = _; unfold PS.begun; simp [hst, h3]
        obtain rfl : left = 0 := by rw [hl]; omega
        have HL : Hid (leftOk p.begun 0) := by
          show leftOk _ _
          rw [HB.out]
          exact ⟨fun _ => by show _ = max p.stops 0; omega, by omega, by omega⟩
        clear hl h1 h3
        go_enter Try.func36, Try.ntmps36
        go_wp2
        go_ret
        refine ⟨ret_bool (by rw [hst]; rfl), 0, ?_, upd_cell _ _ _ _⟩
        have hlo := HL.out
        rw [HB.out] at hlo ⊢
        exact ⟨HD.out.view, HD.out.cells.set2 _, HD.out.rest.set (upd_cell _ _ _ _), hlo, HD.out.up⟩
theorem rstop_any (B x : Nat) (h : Ru) (p : PS) (left n : Int) (w : World) (hd : Rk B w x h p left) (hn : n ≤ 9223372036854775807) :
    Calls Try.prog 25 #[ptr x, .int .i64 n] w fun e w' => e = .returned (.tuple #[]) ∧ RkPost B w w' x h { p with stops := n } := by
  have c3 := hd.cells.c3; have f3 := hd.cells.f3
  have HD := Hid.mk' hd
  clear hd
  go_enter Try.func25, Try.ntmps25
  go_wp2
  go_end0
  exact ⟨rfl, RkPost.same (left := max n 0) ⟨HD.out.view, HD.out.cells.set3 _, HD.out.rest.set (upd_cell _ _ _ _), ⟨fun _ => rfl, by omega, by omega⟩, HD.out.up⟩ (upd_cell _ _ _ _)⟩
theorem total_take_succ {fs : List PF} {k : Nat} (h : k < fs.length) : total (fs.take (k + 1)) = total (fs.take k) + fs[k].xs.length := by
  rw [List.take_succ_eq_append_getElem h, total_append]; simp [total]
theorem total_take_le (fs : List PF) (k : Nat) : total (fs.take k) ≤ total fs := by
  have := total_append (fs.take k) (fs.drop k)
  rw [List.take_append_drop] at this; omega
theorem sees_form {w : World} {v : Value} {zs : List Int} (h : Sees w v zs) : ∃ ao cap, v = .slice ao zs.length cap := by
  rcases h with ⟨e, ao, cap, e', _⟩ | ⟨b, off, cap, e', _⟩
  · exact ⟨_, _, by rw [e', e]; rfl⟩
  · exact ⟨_, _, e'⟩
set_option maxRecDepth 100000 in
set_option maxHeartbeats 1000000 in
theorem rused_any (B x : Nat) (h : Ru) (p : PS) (left : Int) (w : World) (hd : Rk B w x h p left) (ht : total p.fs ≤ 1000000) (hn : p.fs.length < 1000000) :
    Calls Try.prog 30 #[ptr x] w fun e w' => e = .returned (.int .i64 (total p.fs)) ∧ w' = w := by
  have c0 := hd.cells.c0
  have hlen := hd.len
  obtain ⟨ao, c, hv⟩ := hd.form
  rw [hv, hlen] at c0
  have HA : Hid (∀ k, k < p.fs.length → ∃ g m bo bc s, ao = some ⟨g, 0, none⟩ ∧ w.cell? ⟨g, k * 3, none⟩ = some (.string s) ∧ w.cell? ⟨g, k * 3 + 1, none⟩ = some (.slice bo m bc) ∧ total (p.fs.take (k + 1)) = total (p.fs.take k) + m ∧ total (p.fs.take (k + 1)) ≤ 1000000) := by
    intro k hk
    have hkl : k < h.l.length := by omega
    have hr := hd.rest.row
    rw [hv] at hr
    obtain ⟨g, cc, hve, _, _, e0, e1, e2⟩ := row_at hr hkl
    have hve := Value.slice.inj hve
    obtain ⟨bo, bc, hbv⟩ := sees_form (hd.rest.ok h.l[k] (List.getElem_mem hkl)).sees
    rw [hbv] at e1
    have hpf : h.l[k].pf = p.fs[k] := by simp [hd.view]
    have := total_take_le p.fs (k + 1)
    exact ⟨g, _, bo, bc, _, hve.1, e0, e1, by rw [total_take_succ hk, hpf], by omega⟩
  have HE : Hid (total (p.fs.take p.fs.length) = total p.fs) := by show _ = _; rw [List.take_length]
  generalize p.fs.length = n at *
  clear hd hlen hv
  go_enter Try.func30, Try.ntmps30
  go_wp2
  go_loopg [3, 4] n (fun g0 s i wx => ∃ k : Nat, k ≤ n ∧ g0 = n - k ∧ i = .int .i64 k ∧ s = .int .i64 (total (p.fs.take k)) ∧ wx = w)
  case atStart => exact ⟨0, by omega, rfl, rfl, rfl, rfl⟩
  case round =>
    obtain ⟨k, hk, hg0, rfl, rfl, rfl⟩ := hrel
    by_cases hlt : k < n
    · obtain ⟨g, m, bo, bc, s, rfl, e0, e1, hts, htk1⟩ := HA.out k hlt
      have HTS : Hid (((total (p.fs.take (k + 1)) : Nat) : Int) = (total (p.fs.take k) : Int) + m) := by show _ = _; rw [hts]; exact Int.natCast_add _ _
      rw [hts] at htk1
      generalize total (p.fs.take k) = T at *
      clear hts
      go_wp2
      go_roundg (n - (k + 1))
      case measure => omega
      case rel => exact ⟨k + 1, by omega, rfl, by go_num, by rw [HTS.out], rfl⟩
    · have HK : Hid (k = n) := by show _ = _; omega
      go_wp2
      go_ret
      exact ⟨ret_int (by rw [HK.out, HE.out]), rfl⟩
end Go.Proofs.Ytmfhfabfhoiegaa
