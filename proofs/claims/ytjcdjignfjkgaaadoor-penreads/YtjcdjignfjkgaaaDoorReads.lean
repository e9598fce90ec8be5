/- The walk of PenReads: whatever the bytes and the kinds, it returns true and turns nothing that was there. -/
import Derived.Test.YtjcdjignfjkgaaaDoorRef
namespace Go.Proofs.YtjcdjignfjkgaaaDoor
open Go Go.RowKit
theorem Re.drewN {B : Nat} {w : World} {b : Nat} {v : Value} {xs : List Int} {a : Nat} {e : Int} (h : Re B w b v xs a e) (n : Nat) : Re B (w.drewN n) b v xs a e := h.upd (Upd.drewN w n (fun _ => False)) (fun h => h) (fun _ _ h => h)
theorem rErrQ {B : Nat} {w : World} {b : Nat} {v : Value} {xs : List Int} {a : Nat} {e : Int} (h : Re B w b v xs a e) (n : Nat) : Calls Tryd.prog 26 #[.pointer (some ⟨b, 0, none⟩)] (w.drewN n) fun en w' => en = .returned (.int .i64 e) ∧ ∃ m, w' = w.drewN m :=
  (rErr _ _ _ _ _ _ _ (h.drewN n)).mono fun _ _ ⟨he, hw⟩ => ⟨he, n, hw.symm⟩
theorem rAtQ {B : Nat} {w : World} {b : Nat} {v : Value} {xs : List Int} {a : Nat} {e : Int} (h : Re B w b v xs a e) (n : Nat) : Calls Tryd.prog 28 #[.pointer (some ⟨b, 0, none⟩)] (w.drewN n) fun en w' => en = .returned (.int .i64 a) ∧ ∃ m, w' = w.drewN m :=
  (rAt _ _ _ _ _ _ _ (h.drewN n)).mono fun _ _ ⟨he, hw⟩ => ⟨he, n, hw.symm⟩
theorem leftQ {B : Nat} {w : World} {b : Nat} {v : Value} {xs : List Int} {a : Nat} {e : Int} (h : Re B w b v xs a e) (n : Nat) : Calls Tryd.prog 27 #[.pointer (some ⟨b, 0, none⟩)] (w.drewN n) fun en w' => en = .returned (.int .i64 ((xs.length : Int) - a)) ∧ ∃ m, w' = w.drewN m :=
  Calls.quiet_of (left_any _ _ _ _ _ _ _ (h.drewN n))
theorem fErrQ {w : World} {b : Nat} {v : Value} {xs : List Int} {a : Nat} {e : Int} (h : Rf w b v xs a e) (n : Nat) : Calls Tryd.prog 33 #[.pointer (some ⟨b, 0, none⟩)] (w.drewN n) fun en w' => en = .returned (.int .i64 e) ∧ ∃ m, w' = w.drewN m :=
  (fErr _ _ _ _ _ _ (h.drewN n)).mono fun _ _ ⟨he, hw⟩ => ⟨he, n, hw.symm⟩

theorem sees_lt {w : World} {v : Value} {zs : List Int} (h : Sees w v zs) {k : Nat} (hk : v.ownBlock = some k) (h0 : 0 < zs.length) : k < w.heap.size := by
  rcases h with ⟨rfl, _⟩ | ⟨b, off, cap, rfl, _, _, _, hc⟩
  · simp at h0
  · have := Option.some.inj (show some b = some k from hk)
    subst this
    exact World.block_lt_of_cell? _ _ (hc 0 h0)

/-- Two readers side by side, of the same bytes, at the same place. -/
structure Two (B : Nat) (W w : World) (rb xb : Nat) (vr v0 : Value) (zs : List Int) (a : Nat) (e : Int) : Prop where
  re : Re B w rb vr zs a e
  rf : Rf w xb v0 zs a e
  up : Below W.heap.size W w
  ne : rb ≠ xb
  n1 : vr.ownBlock ≠ some xb
  n2 : ∀ k, v0.ownBlock = some k → 0 < zs.length → k ≠ rb
  lo : W.heap.size ≤ rb ∧ W.heap.size ≤ xb

/-- The one has gone on, the other not yet. -/
theorem Two.half {B : Nat} {W w w1 : World} {rb xb : Nat} {vr v0 : Value} {zs : List Int} {a a' : Nat} {e e' : Int} (h : Two B W w rb xb vr v0 zs a e) (hp : RePost B w w1 rb vr zs a' e') : Rf w1 xb v0 zs a e ∧ Below W.heap.size W w1 :=
  ⟨h.rf.upd hp.2 (fun e => h.ne e.symm) (fun k hk h0 => h.n2 k hk h0), h.up.trans (hp.2.below h.up.size (fun k hk e => by have := h.lo; omega))⟩
theorem Two.step {B : Nat} {W w w1 w2 : World} {rb xb : Nat} {vr v0 : Value} {zs : List Int} {a a' : Nat} {e e' : Int} (h : Two B W w rb xb vr v0 zs a e) (hp : RePost B w w1 rb vr zs a' e') (hq : RfPost w1 w2 xb v0 zs a' e') : Two B W w2 rb xb vr v0 zs a' e' :=
  have h1 := (h.half hp).2
  ⟨hp.1.upd hq.2 h.ne (fun k hk e => h.n1 (by rw [hk, e])), hq.1, h1.trans (hq.2.below h1.size (fun k hk e => by have := h.lo; omega)), h.ne, h.n1, h.n2, h.lo⟩
theorem Two.drewN {B : Nat} {W w : World} {rb xb : Nat} {vr v0 : Value} {zs : List Int} {a : Nat} {e : Int} (h : Two B W w rb xb vr v0 zs a e) (n : Nat) : Two B W (w.drewN n) rb xb vr v0 zs a e :=
  ⟨h.re.drewN n, h.rf.drewN n, below_drewN h.up n, h.ne, h.n1, h.n2, h.lo⟩

set_option maxRecDepth 100000 in
set_option maxHeartbeats 1000000 in
theorem reads_walk (v0 v1 : Value) (zs ks : List Int) (w : World) (hT : HasTab w) (h0 : Sees w v0 zs) (hb : isB zs) (hl : zs.length ≤ maxLen) (h1 : SeesI w v1 ks) (hk : ks.length ≤ maxLen) :
    Calls Tryd.prog 4 #[v0, v1] w fun e w' => e = .returned (.bool true) ∧ Below w.heap.size w w' := by
  obtain ⟨i0, hi, hz0, hz1, hz2⟩ := info_parts info5
  obtain ⟨a0, cap0, rfl, _, _⟩ := h0.form
  obtain ⟨a1, cap1, rfl⟩ := h1.form
  unfold maxLen at hl hk
  by_cases hbig : 2000 < zs.length
  · go_enter Tryd.func4, Tryd.ntmps4
    go_wp2_with (go_at_call 9; refine (known_any _ hT).mono ?_; rintro e w1 ⟨rfl, hb1⟩)
    go_ret
    exact ⟨rfl, hb1⟩
  · go_enter Tryd.func4, Tryd.ntmps4
    go_wp2_with (first | (go_at_call 9; refine (known_any _ hT).mono ?_; rintro e w1 ⟨rfl, hb1⟩; have hsrc := Src_sees ((h0.below hb1).below ((Below.refl _ _).alloc (Nat.le_refl _) (.cells #[] 5))); have hown : (w1.alloc (.cells #[] 5)).ownsRow w1.heap.size 5 1 (.slice (some ⟨w1.heap.size, 0, none⟩) 0 0) 0 [] := World.ownsRow_lit (size := 1) (e := 5) w1 #[] 0 (Nat.le_refl _) (by decide) rfl) | (at_builtin; refine wpList_app _ rfl (.tmp 14) (.tmp 15) 27 27 rfl w1.heap.size 5 i0 Tryd.underlying27 hi hz0 hz1 hz2 _ 0 [] rfl hown _ rfl _ _ hsrc (by omega) (by simp) ?_; intro va w2 ha1 ha2 ha3 ha4; simp only [Nat.zero_add, List.nil_append] at ha1) | (go_at_call 21; refine (rNew _ zs _ (sees_own ha1) hb (by omega)).mono ?_; rintro e w3 ⟨rb, vr, rfl, hr, hb3⟩))
    have hb2 : Below w1.heap.size w1 w2 := ((Below.refl _ _).alloc (Nat.le_refl _) _).trans (ha2.below (by simp) (fun k hk e => by have := Option.some.inj (show some k = some w1.heap.size from e); omega))
    have hbw : Below w.heap.size w w3 := (hb1.trans (hb2.mono hb1.size)).trans (hb3.mono (by have := hb1.size; have := hb2.size; omega))
    have hrl := hr.lt
    have hrb := hr.base
    have hs1 := hb1.size
    have hs2 := hb2.size
    have H2 : Hid (Two w2.heap.size w (w3.alloc (.cells #[.slice a0 zs.length cap0, .int .i64 0, .bool false] 44)) rb w3.heap.size vr (.slice a0 zs.length cap0) zs 0 0) := by
      refine ⟨hr.upd (Upd.alloc w3 _ (fun _ => False)) (fun h => h) (fun _ _ h => h), ⟨by simp, by simp, by simp, by simp, by simp, (h0.below hbw).below ((Below.refl _ _).alloc (Nat.le_refl _) _), ?_, .inl rfl, Nat.zero_le _, by omega, hb⟩, hbw.alloc hbw.size _, by omega, ?_, ?_, by omega, by omega⟩
      · intro k hk h0l
        have := sees_lt h0 hk h0l
        omega
      · intro e
        have := (hr.own.lt _ e).2
        omega
      · intro k hk h0l
        have := sees_lt h0 hk h0l
        omega
    have H1 : Hid (SeesI w (.slice a1 ks.length cap1) ks) := h1
    clear hr hb3 ha1 ha2 ha3 ha4 hsrc hown hb2 h0 h1 hbw
    go_loopg [7] 60 (fun g i wx => ∃ (j a : Nat) (e : Int), j ≤ 60 ∧ g = 60 - j ∧ i = .int .i64 j ∧ Two w2.heap.size w wx rb w3.heap.size vr (.slice a0 zs.length cap0) zs a e)
    case atStart => exact ⟨0, 0, 0, by omega, rfl, rfl, H2.out⟩
    case round =>
      obtain ⟨j, a, e, hj60, hg, rfl, h2⟩ := hrel
      by_cases hjk : j < ks.length
      · by_cases hj : j < 60
        · obtain ⟨b1, off1, c1, he1, _, hbl, hcell⟩ : ∃ b off cap, (Value.slice a1 ks.length cap1) = .slice (some ⟨b, off, none⟩) ks.length cap ∧ 0 < ks.length ∧ b < w.heap.size ∧ ∀ i, i < ks.length → w.cell? ⟨b, off + i, none⟩ = some (.int .i64 (ks.getD i 0)) := by
            rcases H1.out with ⟨h, _⟩ | h
            · subst h; simp at hjk
            · exact h
          cases he1
          have hc := (h2.up.cell (p := ⟨b1, off1 + j, none⟩) hbl).trans (hcell j hjk)
          clear hcell
          generalize ks.getD j 0 = q at hc
          go_wp2_with (first | (go_at_call 22; refine (rU8 _ _ _ _ _ _ _ h2.re).mono ?_; rintro e w4 ⟨rfl, hp⟩; have hf := (h2.half hp).1) | (go_at_call 23; refine (rU32 _ _ _ _ _ _ _ h2.re).mono ?_; rintro e w4 ⟨rfl, hp⟩; have hf := (h2.half hp).1) | (go_at_call 24; refine (rInt _ _ _ _ _ _ _ h2.re).mono ?_; rintro e w4 ⟨rfl, hp⟩; have hf := (h2.half hp).1) | (go_at_call 25; refine (rText _ _ _ _ _ _ _ h2.re).mono ?_; rintro e w4 ⟨rfl, hp⟩; have hf := (h2.half hp).1) | (go_at_call 29; refine (fU8 _ _ _ _ _ _ hf).mono ?_; rintro e w5 ⟨rfl, hq⟩; have h3 := h2.step hp hq) | (go_at_call 30; refine (fU32 _ _ _ _ _ _ hf).mono ?_; rintro e w5 ⟨rfl, hq⟩; have h3 := h2.step hp hq) | (go_at_call 31; refine (fInt _ _ _ _ _ _ hf).mono ?_; rintro e w5 ⟨rfl, hq⟩; have h3 := h2.step hp hq) | (go_at_call 32; refine (fText _ _ _ _ _ _ hf).mono ?_; rintro e w5 ⟨rfl, hq⟩; have h3 := h2.step hp hq))
          all_goals
            obtain ⟨a', e', h4⟩ : ∃ a' e', Two w2.heap.size w w5 rb w3.heap.size vr (.slice a0 zs.length cap0) zs a' e' := ⟨_, _, h3⟩
            have c1' := h4.rf.c1
            have hle' := h4.rf.le
            have hsm' := h4.rf.small
            clear h3 hp hq hf
            go_quiet ((first | (go_at_call 26; exact rErrQ h4.re _) | (go_at_call 33; exact fErrQ h4.rf _) | (go_at_call 28; exact rAtQ h4.re _) | (go_at_call 27; exact leftQ h4.re _)))
            go_wp2
            go_roundg (60 - (j + 1))
            case measure => omega
            case rel => exact ⟨j + 1, a', e', by omega, rfl, by go_num, h4.drewN _⟩
        · go_wp2
          go_ret
          exact ⟨rfl, h2.up⟩
      · go_wp2
        go_ret
        exact ⟨rfl, h2.up⟩
end Go.Proofs.YtjcdjignfjkgaaaDoor
