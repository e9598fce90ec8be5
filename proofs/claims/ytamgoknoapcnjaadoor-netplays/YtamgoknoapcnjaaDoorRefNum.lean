/- What the document's own bytes of a number are, laid behind bytes that the call owns. -/
import Derived.Test.YtamgoknoapcnjaaDoorRefSum
import Derived.Deep.LoopGhost
namespace Go.Proofs.YtamgoknoapcnjaaDoor
open Go Go.RowKit
/-- Bytes ys are owned now by v'; nothing else has turned but v's own row. -/
def OwPost (B : Nat) (w w' : World) (v v' : Value) (ys : List Int) : Prop :=
  w'.ownsRow B 5 1 v' ys.length (u8s ys) ∧ Upd w w' (fun k => some k = v.ownBlock) ∧ (v'.ownBlock = v.ownBlock ∨ ∃ g, w.heap.size ≤ g ∧ v'.ownBlock = some g)
theorem OwPost.refl {B : Nat} {w : World} {v : Value} {ys : List Int} (h : w.ownsRow B 5 1 v ys.length (u8s ys)) : OwPost B w w v v ys := ⟨h, Upd.refl _ _, .inl rfl⟩
theorem OwPost.trans {B : Nat} {w w1 w2 : World} {v v1 v2 : Value} {ys zs : List Int} (h : OwPost B w w1 v v1 ys) (k : OwPost B w1 w2 v1 v2 zs) : OwPost B w w2 v v2 zs := by
  obtain ⟨_, u1, o1⟩ := h
  obtain ⟨h2, u2, o2⟩ := k
  have hs := u1.size
  refine ⟨h2, u1.trans u2 (fun j hj e => ?_), ?_⟩
  · rcases o1 with o1 | ⟨g, hg, o1⟩
    · exact e.trans o1
    · rw [o1] at e; have := Option.some.inj e; omega
  · rcases o2 with o2 | ⟨g, hg, o2⟩
    · rcases o1 with o1 | ⟨g, hg, o1⟩
      · exact .inl (o2.trans o1)
      · exact .inr ⟨g, hg, o2.trans o1⟩
    · exact .inr ⟨g, by omega, o2⟩
theorem OwPost.app {B : Nat} {w w1 w2 : World} {v v1 v2 : Value} {ys zs : List Int} {m : Nat} {o : Obj} (h : OwPost B w w1 v v1 ys) (hm : zs.length = m) (h1 : w2.ownsRow B 5 1 v2 (ys.length + m) (u8s ys ++ u8s zs)) (h2 : Upd (w1.alloc o) w2 (fun k => some k = v1.ownBlock))
    (h3 : v2.ownBlock = v1.ownBlock ∨ v2.ownBlock = some (w1.alloc o).heap.size) : OwPost B w w2 v v2 (ys ++ zs) := by
  subst hm
  refine h.trans ⟨by simpa using h1, (Upd.alloc w1 o _).trans h2 (fun _ _ e => e), ?_⟩
  rcases h3 with h3 | h3
  · exact .inl h3
  · exact .inr ⟨_, by simp, h3⟩

set_option maxRecDepth 100000 in
set_option maxHeartbeats 2000000 in
theorem fNum4 (B : Nat) (v : Value) (xs : List Int) (u : Int) (w : World) (hown : w.ownsRow B 5 1 v xs.length (u8s xs)) (hl : xs.length ≤ 900000) (hB : B ≤ w.heap.size) (_hu0 : 0 ≤ u) (_hu1 : u < 18446744073709551616) :
    Calls Tryd.prog 62 #[v, .int .i64 4, .int .u64 u] w fun e w' => ∃ v', e = .returned v' ∧ OwPost B w w' v v' (xs ++ (be u).drop 4) := by
  obtain ⟨i0, hi, hz0, hz1, hz2⟩ := info_parts info5
  have H0 : Hid (OwPost B w w v v (xs ++ ((be u).drop 4).take 0)) := OwPost.refl (by simpa using hown)
  clear hown
  go_enter Tryd.func62, Tryd.ntmps62
  go_wp2
  go_loopg [0, 7] 4 (fun g b i wr => ∃ k : Nat, k ≤ 4 ∧ g = 4 - k ∧ i = .int .i64 (3 - (k : Int)) ∧ OwPost B w wr v b (xs ++ ((be u).drop 4).take k))
  case atStart => exact ⟨0, by omega, rfl, by go_num, H0.out⟩
  case round =>
    obtain ⟨k, hk, hg, rfl, hp⟩ := hrel
    have hsz := hp.2.1.size
    by_cases hk4 : k < 4
    · have hlen : (xs ++ ((be u).drop 4).take k).length ≤ 900000 + 4 := by simp [be_len]; omega
      obtain ⟨ys, HY⟩ : ∃ ys, Hid (ys = xs ++ ((be u).drop 4).take k) := ⟨_, rfl⟩
      rw [← HY.out] at hp hlen
      rcases (by omega : k = 0 ∨ k = 1 ∨ k = 2 ∨ k = 3) with rfl | rfl | rfl | rfl
      · go_wp2_with (at_builtin; refine wpList_app _ rfl (.tmp 14) (.tmp 20) 26 26 rfl B 5 i0 Tryd.underlying26 hi hz0 hz1 hz2 u0 ys.length (u8s ys) rfl (hp.1.alloc _) _ rfl 1 (u8s [u / 16777216 % 256]) (Src.ofSlice _ Tryd.underlying26 ⟨wr.heap.size, 0, none⟩ 1 1 _ rfl (cell_one_new _ _ _) (ints_oneCell _ _)) (by omega) (by simp; omega) ?_; intro v' w' h1 h2 h3 h4)
        go_roundg (gk - 1)
        case measure => omega
        case rel =>
          have hh := OwPost.app (zs := [u / 16777216 % 256]) hp rfl h1 h2 h3
          rw [HY.out, List.append_assoc] at hh
          exact ⟨1, by omega, by omega, by go_num, hh⟩
      · go_wp2_with (at_builtin; refine wpList_app _ rfl (.tmp 14) (.tmp 20) 26 26 rfl B 5 i0 Tryd.underlying26 hi hz0 hz1 hz2 u0 ys.length (u8s ys) rfl (hp.1.alloc _) _ rfl 1 (u8s [u / 65536 % 256]) (Src.ofSlice _ Tryd.underlying26 ⟨wr.heap.size, 0, none⟩ 1 1 _ rfl (cell_one_new _ _ _) (ints_oneCell _ _)) (by omega) (by simp; omega) ?_; intro v' w' h1 h2 h3 h4)
        go_roundg (gk - 1)
        case measure => omega
        case rel =>
          have hh := OwPost.app (zs := [u / 65536 % 256]) hp rfl h1 h2 h3
          rw [HY.out, List.append_assoc] at hh
          exact ⟨2, by omega, by omega, by go_num, hh⟩
      · go_wp2_with (at_builtin; refine wpList_app _ rfl (.tmp 14) (.tmp 20) 26 26 rfl B 5 i0 Tryd.underlying26 hi hz0 hz1 hz2 u0 ys.length (u8s ys) rfl (hp.1.alloc _) _ rfl 1 (u8s [u / 256 % 256]) (Src.ofSlice _ Tryd.underlying26 ⟨wr.heap.size, 0, none⟩ 1 1 _ rfl (cell_one_new _ _ _) (ints_oneCell _ _)) (by omega) (by simp; omega) ?_; intro v' w' h1 h2 h3 h4)
        go_roundg (gk - 1)
        case measure => omega
        case rel =>
          have hh := OwPost.app (zs := [u / 256 % 256]) hp rfl h1 h2 h3
          rw [HY.out, List.append_assoc] at hh
          exact ⟨3, by omega, by omega, by go_num, hh⟩
      · go_wp2_with (at_builtin; refine wpList_app _ rfl (.tmp 14) (.tmp 20) 26 26 rfl B 5 i0 Tryd.underlying26 hi hz0 hz1 hz2 u0 ys.length (u8s ys) rfl (hp.1.alloc _) _ rfl 1 (u8s [u % 256]) (Src.ofSlice _ Tryd.underlying26 ⟨wr.heap.size, 0, none⟩ 1 1 _ rfl (cell_one_new _ _ _) (ints_oneCell _ _)) (by omega) (by simp; omega) ?_; intro v' w' h1 h2 h3 h4)
        go_roundg (gk - 1)
        case measure => omega
        case rel =>
          have hh := OwPost.app (zs := [u % 256]) hp rfl h1 h2 h3
          rw [HY.out, List.append_assoc] at hh
          exact ⟨4, by omega, by omega, by go_num, hh⟩
    · obtain rfl : k = 4 := by omega
      go_wp2
      go_ret
      exact ⟨_, rfl, hp⟩

set_option maxRecDepth 100000 in
set_option maxHeartbeats 2000000 in
theorem fNum8 (B : Nat) (v : Value) (xs : List Int) (u : Int) (w : World) (hown : w.ownsRow B 5 1 v xs.length (u8s xs)) (hl : xs.length ≤ 900000) (hB : B ≤ w.heap.size) (_hu0 : 0 ≤ u) (_hu1 : u < 18446744073709551616) :
    Calls Tryd.prog 62 #[v, .int .i64 8, .int .u64 u] w fun e w' => ∃ v', e = .returned v' ∧ OwPost B w w' v v' (xs ++ (be u).drop 0) := by
  obtain ⟨i0, hi, hz0, hz1, hz2⟩ := info_parts info5
  have H0 : Hid (OwPost B w w v v (xs ++ ((be u).drop 0).take 0)) := OwPost.refl (by simpa using hown)
  clear hown
  go_enter Tryd.func62, Tryd.ntmps62
  go_wp2
  go_loopg [0, 7] 8 (fun g b i wr => ∃ k : Nat, k ≤ 8 ∧ g = 8 - k ∧ i = .int .i64 (7 - (k : Int)) ∧ OwPost B w wr v b (xs ++ ((be u).drop 0).take k))
  case atStart => exact ⟨0, by omega, rfl, by go_num, H0.out⟩
  case round =>
    obtain ⟨k, hk, hg, rfl, hp⟩ := hrel
    have hsz := hp.2.1.size
    by_cases hk4 : k < 8
    · have hlen : (xs ++ ((be u).drop 0).take k).length ≤ 900000 + 8 := by simp [be_len]; omega
      obtain ⟨ys, HY⟩ : ∃ ys, Hid (ys = xs ++ ((be u).drop 0).take k) := ⟨_, rfl⟩
      rw [← HY.out] at hp hlen
      rcases (by omega : k = 0 ∨ k = 1 ∨ k = 2 ∨ k = 3 ∨ k = 4 ∨ k = 5 ∨ k = 6 ∨ k = 7) with rfl | rfl | rfl | rfl | rfl | rfl | rfl | rfl
      · go_wp2_with (at_builtin; refine wpList_app _ rfl (.tmp 14) (.tmp 20) 26 26 rfl B 5 i0 Tryd.underlying26 hi hz0 hz1 hz2 u0 ys.length (u8s ys) rfl (hp.1.alloc _) _ rfl 1 (u8s [u / 72057594037927936]) (Src.ofSlice _ Tryd.underlying26 ⟨wr.heap.size, 0, none⟩ 1 1 _ rfl (cell_one_new _ _ _) (ints_oneCell _ _)) (by omega) (by simp; omega) ?_; intro v' w' h1 h2 h3 h4)
        go_roundg (gk - 1)
        case measure => omega
        case rel =>
          have hh := OwPost.app (zs := [u / 72057594037927936]) hp rfl h1 h2 h3
          rw [HY.out, List.append_assoc] at hh
          exact ⟨1, by omega, by omega, by go_num, hh⟩
      · go_wp2_with (at_builtin; refine wpList_app _ rfl (.tmp 14) (.tmp 20) 26 26 rfl B 5 i0 Tryd.underlying26 hi hz0 hz1 hz2 u0 ys.length (u8s ys) rfl (hp.1.alloc _) _ rfl 1 (u8s [u / 281474976710656 % 256]) (Src.ofSlice _ Tryd.underlying26 ⟨wr.heap.size, 0, none⟩ 1 1 _ rfl (cell_one_new _ _ _) (ints_oneCell _ _)) (by omega) (by simp; omega) ?_; intro v' w' h1 h2 h3 h4)
        go_roundg (gk - 1)
        case measure => omega
        case rel =>
          have hh := OwPost.app (zs := [u / 281474976710656 % 256]) hp rfl h1 h2 h3
          rw [HY.out, List.append_assoc] at hh
          exact ⟨2, by omega, by omega, by go_num, hh⟩
      · go_wp2_with (at_builtin; refine wpList_app _ rfl (.tmp 14) (.tmp 20) 26 26 rfl B 5 i0 Tryd.underlying26 hi hz0 hz1 hz2 u0 ys.length (u8s ys) rfl (hp.1.alloc _) _ rfl 1 (u8s [u / 1099511627776 % 256]) (Src.ofSlice _ Tryd.underlying26 ⟨wr.heap.size, 0, none⟩ 1 1 _ rfl (cell_one_new _ _ _) (ints_oneCell _ _)) (by omega) (by simp; omega) ?_; intro v' w' h1 h2 h3 h4)
        go_roundg (gk - 1)
        case measure => omega
        case rel =>
          have hh := OwPost.app (zs := [u / 1099511627776 % 256]) hp rfl h1 h2 h3
          rw [HY.out, List.append_assoc] at hh
          exact ⟨3, by omega, by omega, by go_num, hh⟩
      · go_wp2_with (at_builtin; refine wpList_app _ rfl (.tmp 14) (.tmp 20) 26 26 rfl B 5 i0 Tryd.underlying26 hi hz0 hz1 hz2 u0 ys.length (u8s ys) rfl (hp.1.alloc _) _ rfl 1 (u8s [u / 4294967296 % 256]) (Src.ofSlice _ Tryd.underlying26 ⟨wr.heap.size, 0, none⟩ 1 1 _ rfl (cell_one_new _ _ _) (ints_oneCell _ _)) (by omega) (by simp; omega) ?_; intro v' w' h1 h2 h3 h4)
        go_roundg (gk - 1)
        case measure => omega
        case rel =>
          have hh := OwPost.app (zs := [u / 4294967296 % 256]) hp rfl h1 h2 h3
          rw [HY.out, List.append_assoc] at hh
          exact ⟨4, by omega, by omega, by go_num, hh⟩
      · go_wp2_with (at_builtin; refine wpList_app _ rfl (.tmp 14) (.tmp 20) 26 26 rfl B 5 i0 Tryd.underlying26 hi hz0 hz1 hz2 u0 ys.length (u8s ys) rfl (hp.1.alloc _) _ rfl 1 (u8s [u / 16777216 % 256]) (Src.ofSlice _ Tryd.underlying26 ⟨wr.heap.size, 0, none⟩ 1 1 _ rfl (cell_one_new _ _ _) (ints_oneCell _ _)) (by omega) (by simp; omega) ?_; intro v' w' h1 h2 h3 h4)
        go_roundg (gk - 1)
        case measure => omega
        case rel =>
          have hh := OwPost.app (zs := [u / 16777216 % 256]) hp rfl h1 h2 h3
          rw [HY.out, List.append_assoc] at hh
          exact ⟨5, by omega, by omega, by go_num, hh⟩
      · go_wp2_with (at_builtin; refine wpList_app _ rfl (.tmp 14) (.tmp 20) 26 26 rfl B 5 i0 Tryd.underlying26 hi hz0 hz1 hz2 u0 ys.length (u8s ys) rfl (hp.1.alloc _) _ rfl 1 (u8s [u / 65536 % 256]) (Src.ofSlice _ Tryd.underlying26 ⟨wr.heap.size, 0, none⟩ 1 1 _ rfl (cell_one_new _ _ _) (ints_oneCell _ _)) (by omega) (by simp; omega) ?_; intro v' w' h1 h2 h3 h4)
        go_roundg (gk - 1)
        case measure => omega
        case rel =>
          have hh := OwPost.app (zs := [u / 65536 % 256]) hp rfl h1 h2 h3
          rw [HY.out, List.append_assoc] at hh
          exact ⟨6, by omega, by omega, by go_num, hh⟩
      · go_wp2_with (at_builtin; refine wpList_app _ rfl (.tmp 14) (.tmp 20) 26 26 rfl B 5 i0 Tryd.underlying26 hi hz0 hz1 hz2 u0 ys.length (u8s ys) rfl (hp.1.alloc _) _ rfl 1 (u8s [u / 256 % 256]) (Src.ofSlice _ Tryd.underlying26 ⟨wr.heap.size, 0, none⟩ 1 1 _ rfl (cell_one_new _ _ _) (ints_oneCell _ _)) (by omega) (by simp; omega) ?_; intro v' w' h1 h2 h3 h4)
        go_roundg (gk - 1)
        case measure => omega
        case rel =>
          have hh := OwPost.app (zs := [u / 256 % 256]) hp rfl h1 h2 h3
          rw [HY.out, List.append_assoc] at hh
          exact ⟨7, by omega, by omega, by go_num, hh⟩
      · go_wp2_with (at_builtin; refine wpList_app _ rfl (.tmp 14) (.tmp 20) 26 26 rfl B 5 i0 Tryd.underlying26 hi hz0 hz1 hz2 u0 ys.length (u8s ys) rfl (hp.1.alloc _) _ rfl 1 (u8s [u % 256]) (Src.ofSlice _ Tryd.underlying26 ⟨wr.heap.size, 0, none⟩ 1 1 _ rfl (cell_one_new _ _ _) (ints_oneCell _ _)) (by omega) (by simp; omega) ?_; intro v' w' h1 h2 h3 h4)
        go_roundg (gk - 1)
        case measure => omega
        case rel =>
          have hh := OwPost.app (zs := [u % 256]) hp rfl h1 h2 h3
          rw [HY.out, List.append_assoc] at hh
          exact ⟨8, by omega, by omega, by go_num, hh⟩
    · obtain rfl : k = 8 := by omega
      go_wp2
      go_ret
      exact ⟨_, rfl, hp⟩
end Go.Proofs.YtamgoknoapcnjaaDoor
