/- Trim, where there is a whole snapshot and the disk goes on. -/
import Derived.Test.YtdcpfjlnagigaaaGreatDoorSL1
namespace Go.Proofs.YtdcpfjlnagigaaaGreatDoor
open Go Go.RowKit
/-- One file is taken away, if it is not the one that is kept. -/
def trim1 (keep : Int) (p : PS) (m : Int) : PS := if m = keep then p else remP p (sname m.toNat)
def trimP (keep : Int) (p : PS) (ms : List Int) : PS := ms.foldl (trim1 keep) p
theorem trimP_succ (keep : Int) (p : PS) (ms : List Int) {j : Nat} (h : j < ms.length) : trimP keep p (ms.take (j + 1)) = trim1 keep (trimP keep p (ms.take j)) ms[j] := by
  unfold trimP
  rw [List.take_succ_eq_append_getElem h, List.foldl_append]
  rfl
theorem PlayAt.mono {p : PS} {rm : Int} {k l : Nat} (h : PlayAt p rm k) (hl : k ≤ l) : PlayAt p rm l :=
  ⟨h.room, h.room0, h.room1, h.stops0, h.stops1, h.ops0, by have := h.ops1; omega, by have := h.tot; omega, by have := h.len; omega⟩
theorem PlayAt.trim {p : PS} {rm : Int} {k : Nat} (h : PlayAt p rm k) (keep : Int) (ms : List Int) : PlayAt (trimP keep p ms) rm (k + ms.length) := by
  induction ms generalizing p k with
  | nil => exact h
  | cons m r ih =>
    show PlayAt (trimP keep (trim1 keep p m) r) rm _
    have h1 : PlayAt (trim1 keep p m) rm (k + 1) := by
      unfold trim1
      split
      · exact h.more
      · exact h.rem _
    have := ih h1
    rw [List.length_cons, show k + (r.length + 1) = k + 1 + r.length by omega]
    exact this
set_option maxRecDepth 100000 in
set_option maxHeartbeats 4000000 in
theorem trim_yes (hPY : ParseYes) (B d : Nat) (g : Gu) (p : PS) (rm : Int) (kk : Nat) (w : World) (hd : Dk B w d g p) (hp : PlayAt p rm kk) (hkk : kk + (ixs p).length ≤ 300) (hlive : p.dead = false) (hnm : ∀ f ∈ p.fs, ShotName f.name) (hT : HasTab w)
    (got : Int → Option Sh) (hF : ∀ m ∈ ixs p, FileAt p got m) (keep : Int) (hex : ∃ m ∈ ixs p, got m ≠ none)
    (hkeep : ∀ k s, k < (ixs p).length → got (fromBack (ixs p) k).2 = some s → (∀ j, j < k → got (fromBack (ixs p) j).2 = none) → s.i = keep)
    (hOK : ∀ j (h : j < (ixs p).length), (ixs p)[j] ≠ keep → opE (trimP keep p ((ixs p).take j)) (sname (ixs p)[j].toNat) = 0) :
    Calls Tryz.prog 15 #[ptr d] w fun e w' => e = .returned (.int .i64 0) ∧ DkPost B w w' d g (trimP keep p (ixs p)) := by
  have ht : total p.fs ≤ 1000000 := by have := hp.tot; omega
  have hfl : p.fs.length < 1000000 := by have := hp.len; omega
  have hfi := filesOf_any B d g p w hd hfl hlive hnm
  have hms : ∀ m ∈ ixs p, ∃ n : Nat, m = n ∧ n < 100 := fun m hm => by obtain ⟨n, h1, h2, _⟩ := hF m hm; exact ⟨n, h1, h2⟩
  obtain ⟨ms, hmsE⟩ : ∃ ms, ms = ixs p := ⟨_, rfl⟩
  rw [← hmsE] at hms hkk hF hex hkeep hOK ⊢
  have hfi2 : Calls Tryz.prog 41 #[ptr d] w fun e w' => ∃ v', e = .returned (.tuple #[v', .int .i64 0]) ∧ RowO w' w.heap.size 3 1 v' ms.length (i64s ms) ∧ Below w.heap.size w w' := by rw [hmsE]; exact hfi
  clear hfi
  go_enter Tryz.func15, Tryz.ntmps15
  go_wp2_with fail
  refine hfi2.mono ?_
  rintro e w1 ⟨v1, rfl, hr1, hb1⟩
  have hIn : IntsIn w1.heap.size w1 v1 ms := by
    rcases hr1.2 with ⟨h, h0⟩ | ⟨g', off, cap, cur, h, _⟩
    · exact .inl ⟨h, List.eq_nil_of_length_eq_zero h0⟩
    · exact rowO_ints hr1 (.inr ⟨g', off, cap, h⟩)
  obtain ⟨a1, c1, rfl, _, _⟩ := hr1.form
  have hlen : ms.length ≤ 300 := by omega
  have hnw := newest_any hPY B d g p w1 (hd.below hb1) ht (hT.below hb1) a1 _ c1 ms (by omega) hIn got hF
  clear hIn hF hT hnm hfi2
  obtain ⟨N, hN⟩ : ∃ N, N = ms.length := ⟨_, rfl⟩
  have HN := Hid.mk' hN
  rw [← hN] at hnw hr1 hlen ⊢
  have HR1 := Hid.mk' hr1
  have HHD := Hid.mk' hd
  clear hN hr1 hd
  go_wp2_with fail
  refine hnw.mono ?_
  rintro e w2 ⟨hres, hb2⟩
  rcases hres with ⟨rfl, hno⟩ | ⟨k, s, vv, dv, hk, hgk, hj, rfl, hvv, hdv, hfv, hfd⟩
  · obtain ⟨m, hm, hmn⟩ := hex
    exact absurd (hno m hm) hmn
  · have hsk : s.i = keep := hkeep k s (by rw [← HN.out]; exact hk) hgk hj
    rw [hsk]
    obtain ⟨vo, vc, rfl⟩ := hvv.form
    obtain ⟨do_, dc, rfl⟩ := hdv.form
    have HB2 : Hid (Below w.heap.size w w2) := hb1.trans (hb2.mono hb1.size)
    have HR2 : Hid (RowO w2 w.heap.size 3 1 (.slice a1 N c1) N (i64s ms)) := HR1.out.upd (Upd.ofBelow hb2 : Upd w1 w2 (fun _ => False)) (fun _ _ => id)
    clear hb1 hb2 hvv hdv hfv hfd hgk hj hk hnw hkeep HR1 hex
    go_wp2_with fail
    obtain ⟨w3, hw3⟩ : ∃ w3, w3 = w2.alloc (.cells #[.int .i64 keep, .int .i64 s.t, .slice vo s.vs.length vc, .slice do_ s.d.length dc] 81) := ⟨_, rfl⟩
    rw [← hw3]
    have HX3 : Hid (w3.heap[w2.heap.size]? = some (.cells #[.int .i64 keep, .int .i64 s.t, .slice vo s.vs.length vc, .slice do_ s.d.length dc] 81)) := by rw [hw3]; exact heap_alloc_new w2 _
    have HB3 : Hid (Below w.heap.size w w3) := by rw [hw3]; exact HB2.out.alloc HB2.out.size _
    have HR3 : Hid (RowO w3 w.heap.size 3 1 (.slice a1 N c1) N (i64s ms)) := by rw [hw3]; exact HR2.out.upd (Upd.alloc w2 _ (fun _ => False)) (fun _ _ => id)
    have HS : Hid (w.heap.size ≤ w2.heap.size ∧ w2.heap.size < w3.heap.size) := ⟨HB2.out.size, by rw [hw3]; simp⟩
    have HFT : Hid (∀ k, Foot d g k → k < w.heap.size) := fun k hk => HHD.out.lt hk
    have HD3 : Hid (Dk B w3 d g p) := HHD.out.below HB3.out
    have HP := Hid.mk' hp
    have HOK := Hid.mk' hOK
    have HMS := Hid.mk' hms
    clear hw3 hp hOK hms HB2 HR2 HHD
    go_loopg [30] N (fun kx s30 wr => ∃ j : Nat, s30 = .int .i64 j ∧ j ≤ N ∧ N - j ≤ kx ∧ Hid (DkPost B w3 wr d g (trimP keep p (ms.take j))))
    case atStart => exact ⟨0, rfl, Nat.zero_le _, by omega, Hid.mk' ⟨g, HD3.out, Upd.refl _ _, fun _ h => .inl h⟩⟩
    case round =>
      obtain ⟨j, rfl, hj, hjx, HPO⟩ := hrel
      obtain ⟨g', hd', hu', hf'⟩ := HPO.out
      have hlt3 := HS.out.2
      have hrr := HR3.out.upd hu' (fun k hk h => by have := HFT.out k h; have := (HR3.out.lt hk).1; omega)
      have hxr := (hu'.block w2.heap.size hlt3 (fun h => by have := HFT.out _ h; have := HS.out.1; omega)).trans HX3.out
      obtain ⟨x0, _, _, _⟩ := row4 hxr
      by_cases hlt : j < N
      · have hjm : j < ms.length := by rw [← HN.out]; exact hlt
        obtain ⟨n, hmn, hn⟩ := HMS.out ms[j] (List.getElem_mem hjm)
        obtain ⟨gg, off, hgo⟩ : ∃ gg off, a1 = some ⟨gg, off, none⟩ := by
          rcases hrr.2 with ⟨h', h0⟩ | ⟨gg, off, cap, cur, h', _⟩
          · omega
          · simp only [Value.slice.injEq, true_and] at h'
            exact ⟨gg, off, h'.1⟩
        subst hgo
        have hcell : wr.cell? ⟨gg, off + j, none⟩ = some (.int .i64 n) := by
          have := hrr.cell j (.int .i64 ms[j]) (by simp [i64s, hjm])
          rw [hmn] at this
          exact this
        have HSU : Hid (trimP keep p (ms.take (j + 1)) = trim1 keep (trimP keep p (ms.take j)) n) := by show _ = _; rw [trimP_succ keep p ms hjm, hmn]
        by_cases hne : (n : Int) = keep
        · have he : trim1 keep (trimP keep p (ms.take j)) n = trimP keep p (ms.take j) := by unfold trim1; rw [if_pos hne]
          have HFIN : Hid (DkPost B w3 wr d g (trimP keep p (ms.take (j + 1)))) := by show DkPost _ _ _ _ _ _; rw [HSU.out, he]; exact HPO.out
          clear hd' hu' hf' hrr hxr he
          rw [← hne] at x0
          go_wp2_with fail
          go_roundg (N - (j + 1))
          case measure => omega
          case rel => exact ⟨j + 1, by simp, by omega, by omega, HFIN⟩
        · have hop : opE (trimP keep p (ms.take j)) (sname n) = 0 := by
            have := HOK.out j hjm (by rw [hmn]; exact hne)
            rw [hmn] at this
            exact this
          have he : trim1 keep (trimP keep p (ms.take j)) n = remP (trimP keep p (ms.take j)) (sname n) := by unfold trim1; rw [if_neg hne]; rfl
          have hpl : PlayAt (trimP keep p (ms.take j)) rm (kk + N) := by
            have h1 := HP.out.trim keep (ms.take j)
            rw [List.length_take, Nat.min_eq_left (by omega)] at h1
            exact h1.mono (by omega)
          have hrem := remove_any B d g' (trimP keep p (ms.take j)) ⟨(sname n).toArray⟩ wr hd' (hpl.sane (by have := HN.out; omega))
          have hnm : (⟨(sname n).toArray⟩ : ByteArray).data.toList = sname n := rfl
          rw [hnm, hop] at hrem
          have HFIN : Hid (∀ w', DkPost B wr w' d g' (remP (trimP keep p (ms.take j)) (sname n)) → DkPost B w3 w' d g (trimP keep p (ms.take (j + 1)))) := by
            intro w' h
            rw [HSU.out, he]
            exact DkPost.next hu' hf' h
          have hg1 : ((n : Int) == keep) = false := by simpa using hne
          clear hd' hu' hf' hrr hxr he hpl hop hnm
          go_wp2_with (first | (go_at_call 33; refine (fileName_any n _ hn).mono ?_; rintro e w' ⟨rfl, rfl⟩) | (go_at_call 46; refine hrem.mono ?_; rintro e w' ⟨rfl, hpo⟩))
          go_roundg (N - (j + 1))
          case measure => omega
          case rel => exact ⟨j + 1, by simp, by omega, by omega, Hid.mk' (HFIN.out _ hpo)⟩
      · obtain rfl : j = N := by omega
        have he : ms.take j = ms := List.take_of_length_le (by rw [← HN.out]; exact Nat.le_refl _)
        have HFIN : Hid (DkPost B w wr d g (trimP keep p ms)) := by
          have h := HPO.out
          rw [he] at h
          obtain ⟨g2, h1, h2, h3⟩ := h
          have hub : Upd w w3 (Foot d g) := Upd.ofBelow HB3.out
          exact ⟨g2, h1, hub.trans h2 (fun _ _ h => h), fun k hk => by rcases h3 k hk with h | h; exact .inl h; exact .inr (Nat.le_trans HB3.out.size h)⟩
        clear hd' hu' hf' hrr hxr he
        go_wp2_with fail
        go_ret
        exact ⟨rfl, HFIN.out⟩
end Go.Proofs.YtdcpfjlnagigaaaGreatDoor
