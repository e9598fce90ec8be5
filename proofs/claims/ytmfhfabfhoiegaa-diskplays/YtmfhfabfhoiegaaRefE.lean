/- The document's disk: files with one more. -/
import Derived.Test.YtmfhfabfhoiegaaRefC
import Derived.Deep.QuietTactic
import Derived.BigQuiet
namespace Go.Proofs.Ytmfhfabfhoiegaa
open Go Go.RowKit
theorem less_before : ∀ a b : List UInt8, Op.bytesLess a b = bytesBefore a b
  | [], [] => rfl
  | [], _ :: _ => rfl
  | _ :: _, [] => rfl
  | a :: r, b :: s => by
    unfold Op.bytesLess bytesBefore
    rw [less_before r s]
theorem str_less {s t : ByteArray} {a b : List UInt8} (h1 : s.data.toList = a) (h2 : t.data.toList = b) : Op.bytesLess s.toList t.toList = bytesBefore a b := by rw [ByteArray.toList_eq, ByteArray.toList_eq, h1, h2, less_before]
theorem before_not {a b : List UInt8} (h : bytesBefore a b = true) : bytesBefore b a = false := by
  cases hb : bytesBefore b a with
  | false => rfl
  | true => have := WideShapes.bytes_trans _ _ _ h hb; rw [WideAt.bytes_irrefl] at this; cases this
/-- A row of files as far as a world goes on. -/
theorem own_low {B B' : Nat} {w : World} {v : Value} {n : Nat} {xs : List Value} (h : w.ownsRow B 74 3 v n xs) (hB : B' ≤ B) : w.ownsRow B' 74 3 v n xs := by
  obtain ⟨h1, h2⟩ := h
  refine ⟨h1, ?_⟩
  rcases h2 with h2 | ⟨g, cap, cur, rfl, hg, r⟩
  · exact .inl h2
  · exact .inr ⟨g, cap, cur, rfl, by omega, r⟩
theorem own_below {B : Nat} {w w' : World} {v : Value} {n : Nat} {xs : List Value} (h : w.ownsRow B 74 3 v n xs) (hb : Below w.heap.size w w') : w'.ownsRow B 74 3 v n xs := ownsRow_upd h (Upd.ofBelow hb (S := fun _ => False)) (fun _ _ h => h)
theorem row_form {B : Nat} {w : World} {v : Value} {l : List Rl} (hr : w.ownsRow B 74 3 v l.length (rrow l)) : (v = .slice none 0 0 ∧ l = []) ∨ ∃ g c, v = .slice (some ⟨g, 0, none⟩) l.length c ∧ l.length ≤ c ∧ c ≤ maxLen := by
  rcases hr.2 with ⟨e, e0⟩ | ⟨g, cap, cur, e, _, _, h1, h2, _⟩
  · exact .inl ⟨e, List.eq_nil_of_length_eq_zero e0⟩
  · exact .inr ⟨g, cap, e, h1, h2⟩
theorem Src_front {B : Nat} {w : World} {g c : Nat} {l : List Rl} (hr : w.ownsRow B 74 3 (.slice (some ⟨g, 0, none⟩) l.length c) l.length (rrow l)) (hs : ∀ f ∈ l, ∃ zs, Sees w f.v zs) {k : Nat} (hk : k ≤ l.length) (c' : Nat) : Src Try.prog 3 54 (.slice (some ⟨g, 0, none⟩) k c') k (rrow (l.take k)) w := by
  refine Src_rows (by simp; omega) (fun j u h => ?_) (fun f hf => hs f (List.mem_of_mem_take hf))
  rw [rrow_take, List.getElem?_take] at h
  split at h
  · have := hr.cells (g := g) rfl j u h
    rwa [Addr.add_lit] at this
  · cases h
theorem Src_back {B : Nat} {w : World} {g c : Nat} {l : List Rl} (hr : w.ownsRow B 74 3 (.slice (some ⟨g, 0, none⟩) l.length c) l.length (rrow l)) (hs : ∀ f ∈ l, ∃ zs, Sees w f.v zs) {k : Nat} (hk : k ≤ l.length) (hc : l.length ≤ c) (c' : Nat) : Src Try.prog 3 54 (.slice (if c = k then some ⟨g, 0, none⟩ else some ⟨g, k * 3, none⟩) (l.length - k) c') (l.length - k) (rrow (l.drop k)) w := by
  split
  · have e : l.length - k = 0 := by omega
    rw [e, List.drop_of_length_le (by omega)]
    exact Src_rows (l := []) rfl (fun j u h => by simp [rrow] at h) (fun f hf => by cases hf)
  · refine Src_rows (by simp) (fun j u h => ?_) (fun f hf => hs f (List.mem_of_mem_drop hf))
    rw [rrow_drop, List.getElem?_drop] at h
    have := hr.cells (g := g) rfl _ u h
    rwa [Addr.add_lit, Nat.zero_add] at this
theorem Src_zero (w : World) (ao : Option Addr) (c : Nat) : Src Try.prog 3 54 (.slice ao 0 c) 0 [] w := by
  cases ao with
  | none => exact Src.ofNil w Try.underlying54 c
  | some a => exact Src.ofSlice w Try.underlying54 a 0 c [] rfl (fun j u h => by simp at h) (fun u h => by cases h)
set_option maxRecDepth 100000 in
set_option maxHeartbeats 2000000 in
theorem with_any (B : Nat) (v : Value) (l : List Rl) (f : Rl) (w : World) (hr : w.ownsRow B 74 3 v l.length (rrow l)) (hok : ∀ f ∈ l, OkR w f) (hf : OkR w f) (hup : upK Rl.nm l) (hn : l.length < 1000000) :
    Calls Try.prog 38 #[v, .agg #[.string f.s, f.v, .int .i64 f.pf.sy]] w fun e w' => ∃ v', e = .returned v' ∧ w'.ownsRow w.heap.size 74 3 v' (insK Rl.nm f (delK Rl.nm f.nm l)).length (rrow (insK Rl.nm f (delK Rl.nm f.nm l))) ∧ Below w.heap.size w w' := by
  obtain ⟨i0, z0, hi, hz, hsz, hzs, hby⟩ := info74_parts
  have hal : Below w.heap.size w (w.alloc (.cells #[.string f.s, f.v, .int .i64 f.pf.sy] 74)) := (Below.refl _ _).alloc (Nat.le_refl _) _
  have hwo := without_any B v l f.s _ (own_below hr hal) (fun g hg => (hok g hg).below hal) hn
  rw [show f.s.data.toList = f.nm from hf.name] at hwo
  obtain ⟨pre, post, e1, e2, e3, e4⟩ := ins_split f (up_del (nm := f.nm) hup) del_ne
  have hdl := del_len f.nm l
  have hokd : ∀ g ∈ delK Rl.nm f.nm l, OkR w g := fun g hg => hok g (mem_del hg).1
  rw [e2]
  rw [e1] at hwo hdl hokd
  have HF := Hid.mk' hf
  have HOK := Hid.mk' hokd
  have HB := Hid.mk' (And.intro e3 e4)
  obtain ⟨bo, bc, hbv⟩ := sees_form hf.sees
  rw [hbv] at hwo hal ⊢
  have HBV := Hid.mk' hbv
  clear hr hok hup hokd e1 e2 e3 e4 hf hbv
  obtain ⟨m, hm⟩ : ∃ m, f.pf.xs.length = m := ⟨_, rfl⟩
  rw [hm] at hwo hal HBV ⊢
  clear hm
  go_enter Try.func38, Try.ntmps38
  go_wp2_with (go_at_call 42; refine hwo.mono ?_; rintro e w2 ⟨v1, rfl, hr1, hb1⟩)
  have hs1 := hb1.size
  have hws : (w.alloc (.cells #[.string f.s, (.slice bo m bc), .int .i64 f.pf.sy] 74)).heap.size = w.heap.size + 1 := by simp
  have hb2 : Below w.heap.size w w2 := hal.trans (hb1.mono (by omega))
  have hc0 : ∀ j, w2.cell? ⟨w.heap.size, j, none⟩ = (w.alloc (.cells #[.string f.s, (.slice bo m bc), .int .i64 f.pf.sy] 74)).cell? ⟨w.heap.size, j, none⟩ := fun j => hb1.cell (p := ⟨w.heap.size, j, none⟩) (by simp)
  have d0 : w2.cell? ⟨w.heap.size, 0, none⟩ = some (.string f.s) := (hc0 0).trans (by simp)
  have d1 : w2.cell? ⟨w.heap.size, 1, none⟩ = some (.slice bo m bc) := (hc0 1).trans (by simp)
  have d2 : w2.cell? ⟨w.heap.size, 2, none⟩ = some (.int .i64 f.pf.sy) := (hc0 2).trans (by simp)
  have hwl : w.heap.size < w2.heap.size := by omega
  rw [hws] at hr1
  have HR1 := Hid.mk' hr1
  have HB2 := Hid.mk' hb2
  have hform := row_form hr1
  have HA : Hid (∀ k (hk : k < (pre ++ post).length), ∃ g c, v1 = .slice (some ⟨g, 0, none⟩) (pre ++ post).length c ∧ (∀ wx, Below w2.heap.size w2 wx → wx.cell? ⟨g, k * 3, none⟩ = some (.string (pre ++ post)[k].s)) ∧ (pre ++ post)[k].s.data.toList = (pre ++ post)[k].nm) := by
    intro k hkl
    obtain ⟨g, cc, hve, _, hg, e0, _, _⟩ := row_at hr1 hkl
    exact ⟨g, cc, hve, fun wx hb => (hb.cell (p := ⟨g, k * 3, none⟩) hg).trans e0, (HOK.out _ (List.getElem_mem hkl)).name⟩
  obtain ⟨ao, c, hv1⟩ : ∃ ao c, v1 = .slice ao (pre ++ post).length c := by
    rcases hform with ⟨e, e'⟩ | ⟨g, c, e, _⟩
    · exact ⟨_, _, by rw [e, e']; rfl⟩
    · exact ⟨_, _, e⟩
  subst hv1
  have hnm := HF.out.name
  obtain ⟨n, hnn⟩ : ∃ n, (pre ++ post).length = n := ⟨_, rfl⟩
  have hpn : pre.length ≤ n := by rw [← hnn]; simp
  rw [hnn] at hdl ⊢
  clear hwo hal hb1 hc0 hws hr1 hb2
  go_wp2_with fail
  go_loopg [5] pre.length (fun g0 i wx => ∃ k : Nat, k ≤ pre.length ∧ g0 = pre.length - k ∧ i = .int .i64 k ∧ Below w2.heap.size w2 wx)
  case atStart => exact ⟨0, by omega, rfl, rfl, Below.refl _ _⟩
  case round =>
    obtain ⟨k, hk, hg0, rfl, hb⟩ := hrel
    have x0 := (hb.cell (p := ⟨w.heap.size, 0, none⟩) hwl).trans d0
    have HBX := Hid.mk' hb
    by_cases hlt : k < pre.length
    · obtain ⟨g, c', hve, hcs, hnk⟩ := HA.out k (by omega)
      have hve := Value.slice.inj hve
      obtain ⟨rfl, _, rfl⟩ := hve
      have e0 := hcs _ hb
      have hgk : (pre ++ post)[k]'(by omega) = pre[k] := List.getElem_append_left hlt
      have hbef := HB.out.1 pre[k] (List.getElem_mem hlt)
      have hls : Op.bytesLess (pre ++ post)[k].s.toList f.s.toList = true := by rw [str_less hnk hnm, hgk]; exact hbef
      have hd1 : decide ((k : Int) < (n : Int)) = true := decide_eq_true (by omega)
      have hkn : (k : Int) < (n : Int) := by omega
      generalize (pre ++ post)[k].s = t at *
      clear hcs hnk hgk hbef hb
      go_wp2_with fail
      go_quiet (fail)
      go_wp2_with fail
      go_roundg (pre.length - (k + 1))
      case measure => omega
      case rel => exact ⟨k + 1, by omega, rfl, by go_num, HBX.out.trans ((Upd.drewN _ _ (fun _ => False)).below HBX.out.size (fun _ _ h => h))⟩
    · obtain rfl : k = pre.length := by omega
      rcases hform with ⟨hvn, hnil⟩ | ⟨g, c', hve, hlc, hcm⟩
      · have hvn := Value.slice.inj hvn
        obtain ⟨rfl, hn0, rfl⟩ := hvn
        obtain ⟨hpre, hpost⟩ := List.append_eq_nil_iff.1 hnil
        obtain rfl : n = 0 := by omega
        have hp0 : pre.length = 0 := by rw [hpre]; rfl
        have hd1 : decide (((0 : Nat) : Int) < ((0 : Nat) : Int)) = false := by decide
        clear hb
        clear HA
        rw [hp0]
        go_wp2_with fail
        go_quiet (fail)
        generalize hW : wr.drewN nq = W
        have HW : Hid (Below w2.heap.size w2 W) := by show Below _ _ _; rw [← hW]; exact HBX.out.trans ((Upd.drewN _ _ (fun _ => False)).below HBX.out.size (fun _ _ h => h))
        have hWs := HW.out.size
        have y0 := (HW.out.cell (p := ⟨w.heap.size, 0, none⟩) hwl).trans d0
        have y1 := (HW.out.cell (p := ⟨w.heap.size, 1, none⟩) hwl).trans d1
        have y2 := (HW.out.cell (p := ⟨w.heap.size, 2, none⟩) hwl).trans d2
        have HOKW : Hid (∀ q ∈ pre ++ post, OkR W q) := fun q hq => (HOK.out q hq).below ((HB2.out).trans (HW.out.mono (by omega)))
        have HFW : Hid (OkR W f) := HF.out.below ((HB2.out).trans (HW.out.mono (by omega)))
        have hrW := own_below HR1.out HW.out
        have hsrc1 : Src Try.prog 3 54 (.slice none 0 0) 0 (rrow pre) W := (by have := Src.ofNil (P := Try.prog) (size := 3) W Try.underlying54 0; rw [hpre]; exact this)
        have HRW := Hid.mk' hrW
        clear hW hrW x0 d0 d1 d2
        go_wp2_with (first
          | (at_builtin
             refine wpList_appS _ rfl (.tmp 27) (.tmp 30) 54 54 rfl W.heap.size 74 i0 z0 3 Try.underlying54 hi hz hsz hzs hby _ 0 [] rfl (World.ownsRow_nil _ _ _ _) _ rfl 0 (rrow pre) hsrc1 (by omega) (Nat.le_refl _) ?_
             intro v2 w3 f1 f2 f3 f4
             rw [List.nil_append, Nat.zero_add] at f1
             have hb3 : Below W.heap.size W w3 := f2.below (Nat.le_refl _) (fun j _ e => by cases e)
             have hs3 := hb3.size
             have hwW : w.heap.size < W.heap.size := by omega
             have z0' := (hb3.cell (p := ⟨w.heap.size, 0, none⟩) hwW).trans y0
             have z1' := (hb3.cell (p := ⟨w.heap.size, 1, none⟩) hwW).trans y1
             have z2' := (hb3.cell (p := ⟨w.heap.size, 2, none⟩) hwW).trans y2
             have hsrc2 := Src_new (w := w3) f (0, 0) ⟨_, (HFW.out.below hb3).sees⟩
             have hown2 := own_below f1 ((Below.refl _ _).alloc (Nat.le_refl _) (.cells #[.string f.s, f.v, .int .i64 f.pf.sy] 74))
             rw [HBV.out] at hsrc2 hown2
             have HFK : Hid (∀ j, some j = v2.ownBlock → W.heap.size ≤ j) := fun j e => (f1.lt j e.symm).1
             have HB3 := Hid.mk' hb3
             clear hsrc1 f1 f2 f3 f4 y0 y1 y2 hb3)
          | (at_builtin
             refine wpList_appS _ rfl (.tmp 32) (.tmp 34) 54 54 rfl W.heap.size 74 i0 z0 3 Try.underlying54 hi hz hsz hzs hby _ 0 (rrow pre) rfl hown2 _ rfl 1 (rrow [f]) hsrc2 (by omega) (by simp; omega) ?_
             intro v3 w4 f1 f2 f3 f4
             have hb4 : Below W.heap.size W w4 := (HB3.out.alloc hs3 _).trans (f2.below (by simp; omega) (fun j hj e => by have := HFK.out j e; omega))
             have hs4 := hb4.size
             have hrW := own_below HRW.out hb4
             have HFK2 : Hid (∀ j, some j = v3.ownBlock → W.heap.size ≤ j) := fun j e => (f1.lt j e.symm).1
             have hsrc3 : Src Try.prog 3 54 (.slice none 0 0) 0 (rrow post) w4 := by have := Src.ofNil (P := Try.prog) (size := 3) w4 Try.underlying54 0; rw [hpost]; exact this
             have HB4 := Hid.mk' hb4
             have f1' := f1
             clear hsrc2 f1 f2 f3 f4 hrW hb4 z0' z1' z2' hown2)
          | (at_builtin
             refine wpList_appS _ rfl (.tmp 36) (.tmp 39) 54 54 rfl W.heap.size 74 i0 z0 3 Try.underlying54 hi hz hsz hzs hby _ (0 + 1) (rrow pre ++ rrow [f]) rfl f1' _ rfl 0 (rrow post) hsrc3 (by omega) hs4 ?_
             intro v4 w5 f1 f2 f3 f4
             have hb5 : Below W.heap.size W w5 := HB4.out.trans (f2.below hs4 (fun j hj e => by have := HFK2.out j e; omega))
             have e1 : rrow (pre ++ f :: post) = rrow pre ++ rrow [f] ++ rrow post := by rw [rrow_append, List.append_assoc]; rfl
             have e2 : (pre ++ f :: post).length = 0 + 1 + 0 := by rw [hpre, hpost]; rfl
             have HX : Hid (Below w.heap.size w w5) := HB2.out.trans ((HW.out.mono (by omega)).trans (hb5.mono (by omega)))
             have HY : Hid (w5.ownsRow w.heap.size 74 3 v4 (pre ++ f :: post).length (rrow (pre ++ f :: post))) := by rw [e1, e2]; exact own_low f1 (by omega)
             clear f1 f2 f3 f4 hb5 e1 e2))
        go_wp2_with fail
        go_ret
        exact ⟨_, rfl, HY.out, HX.out⟩
      · have hve := Value.slice.inj hve
        obtain ⟨rfl, _, rfl⟩ := hve
        rw [hnn] at hlc
        cases hpo : post with
        | nil =>
          have hnp : n = pre.length := by rw [← hnn, hpo]; simp
          obtain rfl := hnp
          have hd1 : decide ((pre.length : Int) < (pre.length : Int)) = false := decide_eq_false (by omega)
          have HPO := Hid.mk' hpo
          clear hpo
          clear hb
          go_wp2_with fail
          go_quiet (fail)
          generalize hW : wr.drewN nq = W
          have HW : Hid (Below w2.heap.size w2 W) := by show Below _ _ _; rw [← hW]; exact HBX.out.trans ((Upd.drewN _ _ (fun _ => False)).below HBX.out.size (fun _ _ h => h))
          have hWs := HW.out.size
          have y0 := (HW.out.cell (p := ⟨w.heap.size, 0, none⟩) hwl).trans d0
          have y1 := (HW.out.cell (p := ⟨w.heap.size, 1, none⟩) hwl).trans d1
          have y2 := (HW.out.cell (p := ⟨w.heap.size, 2, none⟩) hwl).trans d2
          have HOKW : Hid (∀ q ∈ pre ++ post, OkR W q) := fun q hq => (HOK.out q hq).below ((HB2.out).trans (HW.out.mono (by omega)))
          have HFW : Hid (OkR W f) := HF.out.below ((HB2.out).trans (HW.out.mono (by omega)))
          have hrW := own_below HR1.out HW.out
          have hsrc1 : Src Try.prog 3 54 (.slice (some ⟨g, 0, none⟩) pre.length c) pre.length (rrow pre) W := (by have := Src_front hrW (fun q hq => ⟨_, (HOKW.out q hq).sees⟩) (k := pre.length) (by simp) c; rw [List.take_left] at this; exact this)
          have HRW := Hid.mk' hrW
          clear hW hrW x0 d0 d1 d2
          go_wp2_with (first
            | (at_builtin
               refine wpList_appS _ rfl (.tmp 27) (.tmp 30) 54 54 rfl W.heap.size 74 i0 z0 3 Try.underlying54 hi hz hsz hzs hby _ 0 [] rfl (World.ownsRow_nil _ _ _ _) _ rfl pre.length (rrow pre) hsrc1 (by omega) (Nat.le_refl _) ?_
               intro v2 w3 f1 f2 f3 f4
               rw [List.nil_append, Nat.zero_add] at f1
               have hb3 : Below W.heap.size W w3 := f2.below (Nat.le_refl _) (fun j _ e => by cases e)
               have hs3 := hb3.size
               have hwW : w.heap.size < W.heap.size := by omega
               have z0' := (hb3.cell (p := ⟨w.heap.size, 0, none⟩) hwW).trans y0
               have z1' := (hb3.cell (p := ⟨w.heap.size, 1, none⟩) hwW).trans y1
               have z2' := (hb3.cell (p := ⟨w.heap.size, 2, none⟩) hwW).trans y2
               have hsrc2 := Src_new (w := w3) f (0, 0) ⟨_, (HFW.out.below hb3).sees⟩
               have hown2 := own_below f1 ((Below.refl _ _).alloc (Nat.le_refl _) (.cells #[.string f.s, f.v, .int .i64 f.pf.sy] 74))
               rw [HBV.out] at hsrc2 hown2
               have HFK : Hid (∀ j, some j = v2.ownBlock → W.heap.size ≤ j) := fun j e => (f1.lt j e.symm).1
               have HB3 := Hid.mk' hb3
               clear hsrc1 f1 f2 f3 f4 y0 y1 y2 hb3)
            | (at_builtin
               refine wpList_appS _ rfl (.tmp 32) (.tmp 34) 54 54 rfl W.heap.size 74 i0 z0 3 Try.underlying54 hi hz hsz hzs hby _ pre.length (rrow pre) rfl hown2 _ rfl 1 (rrow [f]) hsrc2 (by omega) (by simp; omega) ?_
               intro v3 w4 f1 f2 f3 f4
               have hb4 : Below W.heap.size W w4 := (HB3.out.alloc hs3 _).trans (f2.below (by simp; omega) (fun j hj e => by have := HFK.out j e; omega))
               have hs4 := hb4.size
               have hrW := own_below HRW.out hb4
               have HFK2 : Hid (∀ j, some j = v3.ownBlock → W.heap.size ≤ j) := fun j e => (f1.lt j e.symm).1
               have HB4 := Hid.mk' hb4
               have f1' := f1
               clear hsrc2 f1 f2 f3 f4 hrW hb4 z0' z1' z2' hown2)
            | (at_builtin
               refine wpList_appS _ rfl (.tmp 36) (.tmp 39) 54 54 rfl W.heap.size 74 i0 z0 3 Try.underlying54 hi hz hsz hzs hby _ (pre.length + 1) (rrow pre ++ rrow [f]) rfl f1' _ rfl 0 (rrow post) (by rw [HPO.out]; exact Src_zero _ _ _) (by omega) hs4 ?_
               intro v4 w5 f1 f2 f3 f4
               have hb5 : Below W.heap.size W w5 := HB4.out.trans (f2.below hs4 (fun j hj e => by have := HFK2.out j e; omega))
               have e1 : rrow (pre ++ f :: post) = rrow pre ++ rrow [f] ++ rrow post := by rw [rrow_append, List.append_assoc]; rfl
               have e2 : (pre ++ f :: post).length = pre.length + 1 + 0 := by have h1 : (pre ++ f :: post).length = (pre ++ post).length + 1 := (by simp; omega); omega
               have HX : Hid (Below w.heap.size w w5) := HB2.out.trans ((HW.out.mono (by omega)).trans (hb5.mono (by omega)))
               have HY : Hid (w5.ownsRow w.heap.size 74 3 v4 (pre ++ f :: post).length (rrow (pre ++ f :: post))) := by rw [e1, e2]; exact own_low f1 (by omega)
               clear f1 f2 f3 f4 hb5 e1 e2))
          all_goals
            go_wp2_with fail
            go_ret
            exact ⟨_, rfl, (by have := HY.out; simp only [List.length_append, List.length_cons] at this; exact this), HX.out⟩
        | cons q r =>
          have hnp : pre.length < n := by rw [← hnn, hpo]; simp
          obtain ⟨g', c', hve, hcs, hnk⟩ := HA.out pre.length (by omega)
          have hve := Value.slice.inj hve
          obtain ⟨hge, _, _⟩ := hve
          have hge := Option.some.inj hge
          obtain rfl : g = g' := by injection hge
          have e0 := hcs _ hb
          have hgk : (pre ++ post)[pre.length]'(by omega) = q := by simp [hpo]
          have hbef := HB.out.2 q (by rw [hpo]; simp)
          have hls : Op.bytesLess (pre ++ post)[pre.length].s.toList f.s.toList = false := by rw [str_less hnk hnm, hgk]; exact before_not hbef
          have hd1 : decide ((pre.length : Int) < (n : Int)) = true := decide_eq_true (by omega)
          have hkn : (pre.length : Int) < (n : Int) := by omega
          have hcne : ¬ c = pre.length := by omega
          generalize (pre ++ post)[pre.length].s = t at *
          clear hcs hnk hgk hbef hb
          go_wp2_with fail
          go_quiet (fail)
          generalize hW : wr.drewN nq = W
          have HW : Hid (Below w2.heap.size w2 W) := by show Below _ _ _; rw [← hW]; exact HBX.out.trans ((Upd.drewN _ _ (fun _ => False)).below HBX.out.size (fun _ _ h => h))
          have hWs := HW.out.size
          have y0 := (HW.out.cell (p := ⟨w.heap.size, 0, none⟩) hwl).trans d0
          have y1 := (HW.out.cell (p := ⟨w.heap.size, 1, none⟩) hwl).trans d1
          have y2 := (HW.out.cell (p := ⟨w.heap.size, 2, none⟩) hwl).trans d2
          have HOKW : Hid (∀ q ∈ pre ++ post, OkR W q) := fun q hq => (HOK.out q hq).below ((HB2.out).trans (HW.out.mono (by omega)))
          have HFW : Hid (OkR W f) := HF.out.below ((HB2.out).trans (HW.out.mono (by omega)))
          have hrW := own_below HR1.out HW.out
          have hsrc1 : Src Try.prog 3 54 (.slice (some ⟨g, 0, none⟩) pre.length c) pre.length (rrow pre) W := (by have := Src_front hrW (fun q hq => ⟨_, (HOKW.out q hq).sees⟩) (k := pre.length) (by simp) c; rw [List.take_left] at this; exact this)
          have HRW := Hid.mk' hrW
          clear hW hrW x0 d0 d1 d2
          go_wp2_with (first
            | (at_builtin
               refine wpList_appS _ rfl (.tmp 27) (.tmp 30) 54 54 rfl W.heap.size 74 i0 z0 3 Try.underlying54 hi hz hsz hzs hby _ 0 [] rfl (World.ownsRow_nil _ _ _ _) _ rfl pre.length (rrow pre) hsrc1 (by omega) (Nat.le_refl _) ?_
               intro v2 w3 f1 f2 f3 f4
               rw [List.nil_append, Nat.zero_add] at f1
               have hb3 : Below W.heap.size W w3 := f2.below (Nat.le_refl _) (fun j _ e => by cases e)
               have hs3 := hb3.size
               have hwW : w.heap.size < W.heap.size := by omega
               have z0' := (hb3.cell (p := ⟨w.heap.size, 0, none⟩) hwW).trans y0
               have z1' := (hb3.cell (p := ⟨w.heap.size, 1, none⟩) hwW).trans y1
               have z2' := (hb3.cell (p := ⟨w.heap.size, 2, none⟩) hwW).trans y2
               have hsrc2 := Src_new (w := w3) f (0, 0) ⟨_, (HFW.out.below hb3).sees⟩
               have hown2 := own_below f1 ((Below.refl _ _).alloc (Nat.le_refl _) (.cells #[.string f.s, f.v, .int .i64 f.pf.sy] 74))
               rw [HBV.out] at hsrc2 hown2
               have HFK : Hid (∀ j, some j = v2.ownBlock → W.heap.size ≤ j) := fun j e => (f1.lt j e.symm).1
               have HB3 := Hid.mk' hb3
               clear hsrc1 f1 f2 f3 f4 y0 y1 y2 hb3)
            | (at_builtin
               refine wpList_appS _ rfl (.tmp 32) (.tmp 34) 54 54 rfl W.heap.size 74 i0 z0 3 Try.underlying54 hi hz hsz hzs hby _ pre.length (rrow pre) rfl hown2 _ rfl 1 (rrow [f]) hsrc2 (by omega) (by simp; omega) ?_
               intro v3 w4 f1 f2 f3 f4
               have hb4 : Below W.heap.size W w4 := (HB3.out.alloc hs3 _).trans (f2.below (by simp; omega) (fun j hj e => by have := HFK.out j e; omega))
               have hs4 := hb4.size
               have hrW := own_below HRW.out hb4
               have HFK2 : Hid (∀ j, some j = v3.ownBlock → W.heap.size ≤ j) := fun j e => (f1.lt j e.symm).1
               have hsrc3 : Src Try.prog 3 54 (.slice (some ⟨g, pre.length * 3, none⟩) (n - pre.length) (c - pre.length)) (n - pre.length) (rrow post) w4 := by have := Src_back hrW (fun q hq => ⟨_, ((HOKW.out q hq).below hb4).sees⟩) (k := pre.length) (by simp) (by omega) (c - pre.length); rw [List.drop_left, hnn, if_neg hcne] at this; exact this
               have HB4 := Hid.mk' hb4
               have f1' := f1
               clear hsrc2 f1 f2 f3 f4 hrW hb4 z0' z1' z2' hown2)
            | (at_builtin
               refine wpList_appS _ rfl (.tmp 36) (.tmp 39) 54 54 rfl W.heap.size 74 i0 z0 3 Try.underlying54 hi hz hsz hzs hby _ (pre.length + 1) (rrow pre ++ rrow [f]) rfl f1' _ rfl (n - pre.length) (rrow post) hsrc3 (by omega) hs4 ?_
               intro v4 w5 f1 f2 f3 f4
               have hb5 : Below W.heap.size W w5 := HB4.out.trans (f2.below hs4 (fun j hj e => by have := HFK2.out j e; omega))
               have e1 : rrow (pre ++ f :: post) = rrow pre ++ rrow [f] ++ rrow post := by rw [rrow_append, List.append_assoc]; rfl
               have e2 : (pre ++ f :: post).length = pre.length + 1 + (n - pre.length) := by have h1 : (pre ++ f :: post).length = (pre ++ post).length + 1 := (by simp; omega); omega
               have HX : Hid (Below w.heap.size w w5) := HB2.out.trans ((HW.out.mono (by omega)).trans (hb5.mono (by omega)))
               have HY : Hid (w5.ownsRow w.heap.size 74 3 v4 (pre ++ f :: post).length (rrow (pre ++ f :: post))) := by rw [e1, e2]; exact own_low f1 (by omega)
               clear f1 f2 f3 f4 hb5 e1 e2))
          go_wp2_with fail
          go_ret
          exact ⟨_, rfl, HY.out, HX.out⟩
end Go.Proofs.Ytmfhfabfhoiegaa
