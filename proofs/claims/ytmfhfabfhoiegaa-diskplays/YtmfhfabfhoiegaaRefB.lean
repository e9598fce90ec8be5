/- The document's disk: at, Name. -/
import Derived.Test.YtmfhfabfhoiegaaRefA
namespace Go.Proofs.Ytmfhfabfhoiegaa
open Go Go.RowKit
theorem atK_none {nm : List UInt8} {l : List Rl} (h : lookK Rl.nm nm l = none) : atK nm l = -1 := by
  have : l.findIdx? (fun f => f.nm == nm) = none := List.findIdx?_eq_none_iff.2 (fun f hf => by simpa using look_none h f hf)
  unfold atK
  rw [this]
theorem atK_some {nm : List UInt8} {l : List Rl} {k : Nat} (hk : k < l.length) (h : l[k].nm = nm) (hb : ∀ j (hj : j < l.length), j < k → l[j].nm ≠ nm) : atK nm l = k := by
  have : l.findIdx? (fun f => f.nm == nm) = some k := List.findIdx?_eq_some_iff_getElem.2 ⟨hk, by simpa using h, fun j hj => by simpa using hb j (by omega) hj⟩
  unfold atK
  rw [this]
theorem atK_end {nm : List UInt8} {l : List Rl} (hb : ∀ j (hj : j < l.length), l[j].nm ≠ nm) : atK nm l = -1 := by
  have : l.findIdx? (fun f => f.nm == nm) = none := List.findIdx?_eq_none_iff.2 (fun f hf => by
    obtain ⟨j, hj, rfl⟩ := List.getElem_of_mem hf
    simpa using hb j hj)
  unfold atK
  rw [this]
theorem str_eq {s t : ByteArray} (h : s.data.toList = t.data.toList) : (s.toList == t.toList) = true := by rw [ByteArray.toList_eq, ByteArray.toList_eq, h]; simp
theorem str_ne {s t : ByteArray} (h : ¬ s.data.toList = t.data.toList) : (s.toList == t.toList) = false := by rw [ByteArray.toList_eq, ByteArray.toList_eq]; exact beq_eq_false_iff_ne.2 h
set_option maxRecDepth 100000 in
set_option maxHeartbeats 1000000 in
theorem rat_any (B x : Nat) (h : Ru) (p : PS) (left : Int) (s : ByteArray) (w : World) (hd : Rk B w x h p left) (hn : p.fs.length < 1000000) :
    Calls Try.prog 37 #[ptr x, .string s] w fun e w' => e = .returned (.int .i64 (atK s.data.toList h.l)) ∧ w' = w := by
  have c0 := hd.cells.c0
  have hlen := hd.len
  obtain ⟨ao, c, hv⟩ := hd.form
  rw [hv] at c0
  rw [← hlen] at hn
  have HA : Hid (∀ k (hk : k < h.l.length), ∃ g, ao = some ⟨g, 0, none⟩ ∧ w.cell? ⟨g, k * 3, none⟩ = some (.string h.l[k].s) ∧ h.l[k].s.data.toList = h.l[k].nm) := by
    intro k hkl
    have hr := hd.rest.row
    rw [hv] at hr
    obtain ⟨g, cc, hve, _, _, e0, e1, e2⟩ := row_at hr hkl
    have hve := Value.slice.inj hve
    exact ⟨g, hve.1, e0, (hd.rest.ok h.l[k] (List.getElem_mem hkl)).name⟩
  clear hd hlen hv
  obtain ⟨n, hnn⟩ : ∃ n, h.l.length = n := ⟨_, rfl⟩
  rw [hnn] at hn c0
  go_enter Try.func37, Try.ntmps37
  go_wp2
  go_loopg [5] n (fun g0 i wx => ∃ k : Nat, k ≤ n ∧ g0 = n - k ∧ i = .int .i64 k ∧ wx = w ∧ Hid (∀ j (hj : j < h.l.length), j < k → h.l[j].nm ≠ s.data.toList))
  case atStart => exact ⟨0, by omega, rfl, rfl, rfl, Hid.mk' (fun j _ h => by omega)⟩
  case round =>
    obtain ⟨k, hk, hg0, rfl, rfl, HB⟩ := hrel
    by_cases hlt : k < n
    · obtain ⟨g, rfl, e0, hnm⟩ := HA.out k (by omega)
      by_cases he : h.l[k].s.data.toList = s.data.toList
      · have HR : Hid (atK s.data.toList h.l = k) := atK_some (by omega) (by rw [← hnm, he]) (fun j hj hjk => HB.out j hj hjk)
        have hse := str_eq he
        generalize h.l[k].s = t at *
        clear HB he hnm
        go_wp2
        go_ret
        exact ⟨ret_int HR.out.symm, rfl⟩
      · have HB2 : Hid (∀ j (hj : j < h.l.length), j < k + 1 → h.l[j].nm ≠ s.data.toList) := fun j hj hjk => by
          rcases Nat.lt_or_ge j k with h' | h'
          · exact HB.out j hj h'
          · obtain rfl : j = k := by omega
            rw [← hnm]; exact he
        have hse := str_ne he
        generalize h.l[k].s = t at *
        clear HB he hnm
        go_wp2
        go_roundg (n - (k + 1))
        case measure => omega
        case rel => exact ⟨k + 1, by omega, rfl, by go_num, rfl, HB2⟩
    · have HR : Hid (atK s.data.toList h.l = -1) := atK_end (fun j hj => HB.out j hj (by omega))
      clear HB
      go_wp2
      go_ret
      exact ⟨ret_int HR.out.symm, rfl⟩
set_option maxRecDepth 100000 in
set_option maxHeartbeats 1000000 in
theorem rname_any (s : ByteArray) (w : World) (hs : s.size ≤ 1000000) : Calls Try.prog 32 #[.string s] w fun e w' => e = .returned (.bool (okName s.data.toList)) ∧ w' = w := by
  go_enter Try.func32, Try.ntmps32
  go_wp2
  go_loopg [3] s.size (fun g0 i wx => ∃ k : Nat, k ≤ s.size ∧ g0 = s.size - k ∧ i = .int .i64 k ∧ wx = w ∧ Hid (∀ j (hj : j < s.size), j < k → okR s[j].toNat = true))
  case atStart => exact ⟨0, by omega, rfl, rfl, rfl, Hid.mk' (fun j _ h => by omega)⟩
  case round =>
    obtain ⟨k, hk, hg0, rfl, rfl, HA⟩ := hrel
    by_cases hlt : k < s.size
    · have hb := s[k].toNat_lt
      cases hok : okR s[k].toNat with
      | false =>
        have HN := Hid.mk' (okName_at s k hlt hok)
        have hno : ¬ ((97 ≤ (s[k].toNat : Int) ∧ (s[k].toNat : Int) ≤ 122) ∨ (48 ≤ (s[k].toNat : Int) ∧ (s[k].toNat : Int) ≤ 57) ∨ (s[k].toNat : Int) = 46 ∨ (s[k].toNat : Int) = 45) := fun e => by rw [okR_yes e] at hok; cases hok
        clear HA hok
        go_wp2
        all_goals first
          | (exfalso; (try simp only [bne_iff_ne, ne_eq, bne_eq_false_iff_eq] at *) <;> omega)
          | (go_ret; exact ⟨ret_bool HN.out.symm, rfl⟩)
      | true =>
        have hyes : (97 ≤ (s[k].toNat : Int) ∧ (s[k].toNat : Int) ≤ 122) ∨ (48 ≤ (s[k].toNat : Int) ∧ (s[k].toNat : Int) ≤ 57) ∨ (s[k].toNat : Int) = 46 ∨ (s[k].toNat : Int) = 45 := Classical.byContradiction (fun e => by rw [okR_no e] at hok; cases hok)
        have HB2 : Hid (∀ j (hj : j < s.size), j < k + 1 → okR s[j].toNat = true) := fun j hj hjk => by
          rcases Nat.lt_or_ge j k with h' | h'
          · exact HA.out j hj h'
          · obtain rfl : j = k := by omega
            exact hok
        clear HA hok
        go_wp2
        all_goals first
          | (exfalso; (try simp only [bne_iff_ne, ne_eq, bne_eq_false_iff_eq] at *) <;> omega)
          | (go_roundg (s.size - (k + 1)); (case measure => omega); (case rel => exact ⟨k + 1, by omega, rfl, by go_num, rfl, HB2⟩))
    · have HA2 : Hid (∀ j (hj : j < s.size), okR s[j].toNat = true) := fun j hj => HA.out j hj (by omega)
      clear HA
      by_cases h1 : 1 ≤ s.size
      · by_cases h2 : s.size ≤ 40
        · have HN := Hid.mk' (okName_all s h1 h2 HA2.out)
          have h1' : decide (1 ≤ (s.size : Int)) = true := decide_eq_true (by omega)
          have h2' : decide ((s.size : Int) ≤ 40) = true := decide_eq_true (by omega)
          go_wp2
          go_ret
          exact ⟨ret_bool HN.out.symm, rfl⟩
        · have HN := Hid.mk' (okName_short s (.inr (by omega)))
          have h1' : decide (1 ≤ (s.size : Int)) = true := decide_eq_true (by omega)
          have h2' : decide ((s.size : Int) ≤ 40) = false := decide_eq_false (by omega)
          go_wp2
          go_ret
          exact ⟨ret_bool HN.out.symm, rfl⟩
      · have HN := Hid.mk' (okName_short s (.inl (by omega)))
        have h1' : decide (1 ≤ (s.size : Int)) = false := decide_eq_false (by omega)
        go_wp2
        go_ret
        exact ⟨ret_bool HN.out.symm, rfl⟩
end Go.Proofs.Ytmfhfabfhoiegaa
