/- Calls that come in; a call that is not too much. -/
import Derived.Test.YteeflkkoifgcbaaRW
import Derived.Test.YteeflkkoifgcbaaProg
import Derived.Deep.LoopGhost
import Derived.Deep.QuietTactic
import Derived.BigQuiet
import Derived.Handy
import Derived.Deep.CutRange
import Derived.Deep.RegionHeldLaw
import Derived.Test.YteeflkkoifgcbaaRows
import Derived.ProofKit
import Derived.OpenShut
import Derived.SizedLaws
import Derived.Stop.Joined
import Derived.Deep.Grids
import Derived.Deep.Strs
namespace Go.Proofs.Yteeflkkoifgcbaa
open Go Go.RowKit
theorem Hid.mk {p : Prop} (h : p) : Hid p := h
structure Dd where
  kind : Int
  lease : Int
  key : ByteArray
  hi : ByteArray
  value : ByteArray
structure Cd where
  kind : Int
  rev : Int
  limit : Int
  lo : ByteArray
  hi : ByteArray
  does : List Dd
def noDd : Dd := ⟨0, 0, ByteArray.empty, ByteArray.empty, ByteArray.empty⟩
def noCd : Cd := ⟨0, 0, 0, ByteArray.empty, ByteArray.empty, []⟩
structure HasD (w : World) (b o : Nat) (d : Dd) : Prop where
  c0 : w.cell? ⟨b, o, none⟩ = some (.int .i64 d.kind)
  c1 : w.cell? ⟨b, o + 1, none⟩ = some (.int .i64 d.lease)
  c2 : w.cell? ⟨b, o + 2, none⟩ = some (.string d.key)
  c3 : w.cell? ⟨b, o + 3, none⟩ = some (.string d.hi)
  c4 : w.cell? ⟨b, o + 4, none⟩ = some (.string d.value)
  s2 : d.key.size ≤ 140737488355328
  s3 : d.hi.size ≤ 140737488355328
  s4 : d.value.size ≤ 140737488355328
theorem HasD.below {w w' : World} {b o : Nat} {c : Dd} {B : Nat} (h : HasD w b o c) (hl : b < B) (hb : Below B w w') : HasD w' b o c :=
  ⟨(hb.cell (p := ⟨b, _, none⟩) hl).trans h.c0, (hb.cell (p := ⟨b, _, none⟩) hl).trans h.c1, (hb.cell (p := ⟨b, _, none⟩) hl).trans h.c2, (hb.cell (p := ⟨b, _, none⟩) hl).trans h.c3, (hb.cell (p := ⟨b, _, none⟩) hl).trans h.c4, h.s2, h.s3, h.s4⟩
def SeesD (w : World) (v : Value) (ds : List Dd) : Prop :=
  (ds = [] ∧ ∃ ao cap, v = .slice ao 0 cap) ∨
  ∃ b off cap, v = .slice (some ⟨b, off, none⟩) ds.length cap ∧ 0 < ds.length ∧ b < w.heap.size ∧ ∀ i, i < ds.length → HasD w b (off + i * 5) (ds.getD i noDd)
theorem SeesD.form {w : World} {v : Value} {zs : List Dd} (h : SeesD w v zs) : ∃ ao cap, v = .slice ao zs.length cap := by
  rcases h with ⟨rfl, ao, cap, rfl⟩ | ⟨b, off, cap, rfl, _⟩ <;> exact ⟨_, _, rfl⟩
theorem SeesD.at {w : World} {a : Option Addr} {cap : Nat} {cs : List Dd} (h : SeesD w (.slice a cs.length cap) cs) {j : Nat} (hj : j < cs.length) :
    ∃ b off, a = some ⟨b, off, none⟩ ∧ b < w.heap.size ∧ HasD w b (off + j * 5) (cs.getD j noDd) := by
  rcases h with ⟨h, _⟩ | ⟨b, off, c, he, _, hb, hc⟩
  · subst h; simp at hj
  · cases he; exact ⟨b, off, rfl, hb, hc j hj⟩
theorem SeesD.below {w w' : World} {v : Value} {ds : List Dd} (h : SeesD w v ds) (hb : Below w.heap.size w w') : SeesD w' v ds := by
  rcases h with h | ⟨b, off, cap, e, h1, h2, h3⟩
  · exact .inl h
  · exact .inr ⟨b, off, cap, e, h1, Nat.lt_of_lt_of_le h2 hb.size, fun i hi => (h3 i hi).below h2 hb⟩
structure HasC (w : World) (b o : Nat) (c : Cd) : Prop where
  c0 : w.cell? ⟨b, o, none⟩ = some (.int .i64 c.kind)
  c1 : w.cell? ⟨b, o + 1, none⟩ = some (.int .i64 c.rev)
  c2 : w.cell? ⟨b, o + 2, none⟩ = some (.int .i64 c.limit)
  c3 : w.cell? ⟨b, o + 3, none⟩ = some (.string c.lo)
  c4 : w.cell? ⟨b, o + 4, none⟩ = some (.string c.hi)
  c5 : ∃ v, w.cell? ⟨b, o + 5, none⟩ = some v ∧ SeesD w v c.does
  s3 : c.lo.size ≤ 140737488355328
  s4 : c.hi.size ≤ 140737488355328
  s5 : c.does.length ≤ 9223372036854775807
theorem HasC.below {w w' : World} {b o : Nat} {c : Cd} (h : HasC w b o c) (hl : b < w.heap.size) (hb : Below w.heap.size w w') : HasC w' b o c := by
  obtain ⟨v, h1, h2⟩ := h.c5
  exact ⟨(hb.cell (p := ⟨b, _, none⟩) hl).trans h.c0, (hb.cell (p := ⟨b, _, none⟩) hl).trans h.c1, (hb.cell (p := ⟨b, _, none⟩) hl).trans h.c2, (hb.cell (p := ⟨b, _, none⟩) hl).trans h.c3, (hb.cell (p := ⟨b, _, none⟩) hl).trans h.c4, ⟨v, (hb.cell (p := ⟨b, _, none⟩) hl).trans h1, h2.below hb⟩, h.s3, h.s4, h.s5⟩
def SeesC (w : World) (v : Value) (cs : List Cd) : Prop :=
  (cs = [] ∧ ∃ ao cap, v = .slice ao 0 cap) ∨
  ∃ b off cap, v = .slice (some ⟨b, off, none⟩) cs.length cap ∧ 0 < cs.length ∧ b < w.heap.size ∧ ∀ i, i < cs.length → HasC w b (off + i * 6) (cs.getD i noCd)
theorem SeesC.form {w : World} {v : Value} {zs : List Cd} (h : SeesC w v zs) : ∃ ao cap, v = .slice ao zs.length cap := by
  rcases h with ⟨rfl, ao, cap, rfl⟩ | ⟨b, off, cap, rfl, _⟩ <;> exact ⟨_, _, rfl⟩
theorem SeesC.at {w : World} {a : Option Addr} {cap : Nat} {cs : List Cd} (h : SeesC w (.slice a cs.length cap) cs) {j : Nat} (hj : j < cs.length) :
    ∃ b off, a = some ⟨b, off, none⟩ ∧ b < w.heap.size ∧ HasC w b (off + j * 6) (cs.getD j noCd) := by
  rcases h with ⟨h, _⟩ | ⟨b, off, c, he, _, hb, hc⟩
  · subst h; simp at hj
  · cases he; exact ⟨b, off, rfl, hb, hc j hj⟩
def FewP (c : Cd) (e : Ending) : Prop := ∃ bl, e = .returned (.bool bl) ∧ (bl = true → c.does.length ≤ 30)
set_option maxRecDepth 100000 in
set_option maxHeartbeats 1000000 in
theorem few_any (c : Cd) (v : Value) (w : World) (hD : SeesD w v c.does) (hl : c.does.length ≤ 9223372036854775807) (s3 : c.lo.size ≤ 140737488355328) (s4 : c.hi.size ≤ 140737488355328) :
    Calls Try.prog 8 #[.agg #[.int .i64 c.kind, .int .i64 c.rev, .int .i64 c.limit, .string c.lo, .string c.hi, v]] w fun e w' => FewP c e ∧ Below w.heap.size w w' := by
  obtain ⟨ao, cap, rfl⟩ := hD.form
  obtain ⟨w1, hw1⟩ : ∃ w1, w1 = w.alloc (.cells #[.int .i64 c.kind, .int .i64 c.rev, .int .i64 c.limit, .string c.lo, .string c.hi, .slice ao c.does.length cap] 29) := ⟨_, rfl⟩
  have hb1 : Below w.heap.size w w1 := by rw [hw1]; exact (Below.refl _ _).alloc (Nat.le_refl _) _
  have k3 : w1.cell? ⟨w.heap.size, 3, none⟩ = some (.string c.lo) := by rw [hw1]; simp
  have k4 : w1.cell? ⟨w.heap.size, 4, none⟩ = some (.string c.hi) := by rw [hw1]; simp
  have k5 : w1.cell? ⟨w.heap.size, 5, none⟩ = some (.slice ao c.does.length cap) := by rw [hw1]; simp
  have HD := Hid.mk (hD.below hb1)
  have HB := Hid.mk hb1
  clear hD hb1
  go_enter Try.func8, Try.ntmps8
  go_upto_region 1 with fail
  rw [← hw1]
  clear hw1
  obtain ⟨bx, hbx0⟩ : ∃ bx, bx = w.heap.size := ⟨_, rfl⟩
  have HBX := Hid.mk hbx0
  rw [← hbx0] at k3 k4 k5 ⊢
  clear hbx0
  go_wp2
  have hbx : bx < w1.heap.size := World.block_lt_of_cell? _ _ k5
  go_loopg [3, 4] (c.does.length + 1) (fun kx s3 s4 wq => ∃ (m : Int) (i : Nat), s3 = .int .i64 m ∧ s4 = .int .i64 i ∧ kx + i = c.does.length + 1 ∧ i ≤ c.does.length ∧ Hid (Below w1.heap.size w1 wq))
  case atStart => exact ⟨_, 0, rfl, rfl, rfl, Nat.zero_le _, Below.refl _ _⟩
  case round =>
    obtain ⟨m, i, rfl, rfl, hk, hi, HW⟩ := hrel
    have e5 := (HW.out.cell (p := ⟨bx, 5, none⟩) hbx).trans k5
    by_cases hlt : i < c.does.length
    · obtain ⟨b, off, rfl, hbl, hd⟩ := HD.out.at hlt
      obtain ⟨d0, d1, d2, d3, d4, z2, z3, z4⟩ := hd.below hbl HW.out
      generalize c.does.getD i noDd = dd at *
      have HN : Hid (∀ q, Below w1.heap.size w1 (wr.drewN q)) := fun q => ⟨HW.out.os, HW.out.tape, HW.out.output, HW.out.size, HW.out.block⟩
      clear hd k5 HD
      go_wp2
      go_quiet (fail)
      go_wp2
      all_goals
        go_roundg (c.does.length - i)
        case measure => omega
        case rel => exact ⟨_, i + 1, rfl, by congr 1, by omega, by omega, HN.out _⟩
    · obtain rfl : i = c.does.length := by omega
      have HE : Hid (Below w.heap.size w wr) := HB.out.trans (HW.out.mono HB.out.size)
      by_cases h30 : c.does.length ≤ 30
      · have h30' : (c.does.length : Int) ≤ 30 := by omega
        by_cases hm : m ≤ 20000
        · go_wp2
          go_ret
          exact ⟨⟨_, rfl, fun _ => h30⟩, HE.out⟩
        · go_wp2
          go_ret
          exact ⟨⟨_, rfl, fun _ => h30⟩, HE.out⟩
      · have h30' : ¬ (c.does.length : Int) ≤ 30 := by omega
        go_wp2
        go_ret
        exact ⟨⟨false, rfl, fun h => by cases h⟩, HE.out⟩
end Go.Proofs.Yteeflkkoifgcbaa
/- Calls that came in, with what they do. -/
namespace Go.Proofs.Yteeflkkoifgcbaa
open Go.ChangeShapes Go.WideShapes Go.ChangeAt Go.RowKit
theorem own : ownKnob Try.prog.godebug = none := by kernel_rfl
theorem laidOut : laidOutB Try.prog = true := by kernel_rfl
theorem weigh {H : Type} {ts : List TypeId} {ds : List (DataW H)} (h : (DataW.weightsEach Try.prog ts ds).all (· ≤ reachBytes) = true) {j : Nat} {t : TypeId} {d : DataW H} (ht : ts[j]? = some t) (hd : ds[j]? = some d) : ∀ n ∈ d.weights Try.prog t, n ≤ reachBytes := fun n hn => by
  have := List.all_eq_true.1 h _ (DataW.weights_mem_each ht hd n hn)
  simpa using this
theorem cells29 : Try.prog.cellsOf 29 = 6 := by kernel_rfl
theorem cells33 : Try.prog.cellsOf 33 = 5 := by kernel_rfl
theorem cells3 : Try.prog.cellsOf 3 = 1 := by kernel_rfl
theorem cells9 : Try.prog.cellsOf 9 = 1 := by kernel_rfl
theorem cells27 : Try.prog.cellsOf 27 = 1 := by kernel_rfl
theorem str_len {H : Type} {s : ByteArray} (hw : ∀ n ∈ (DataW.lit (H := H) (.string s.data.toList)).weights Try.prog 9, n ≤ reachBytes) : s.size ≤ 140737488355328 := by
  have := hw s.data.toList.length (by simp [DataW.weights])
  rw [Array.length_toList] at this
  have h3 : s.size ≤ reachBytes := this
  unfold reachBytes at h3; omega
theorem struct5 {H : Type} {enc : TypeId × Value → H} {P : Program} {w : World} {base : Nat} {spare : Nat → Bool} {held : Bool} {t : TypeId} {f0 f1 f2 f3 f4 : Field} {fuel : Nat} {cs : List Value} {x : DataW H × List MemPlace} (ht : P.underlying t = some (.struct #[f0, f1, f2, f3, f4])) (h : DataW.trod enc P w base spare held fuel t cs = some x) :
    ∃ y0 y1 y2 y3 y4 n, x.1 = .agg [y0.1, y1.1, y2.1, y3.1, y4.1] ∧ cs.length = P.cellsOf t ∧ DataW.trod enc P w base spare held n f0.type ((cs.drop f0.offset).take (P.cellsOf f0.type)) = some y0 ∧
      DataW.trod enc P w base spare held n f1.type ((cs.drop f1.offset).take (P.cellsOf f1.type)) = some y1 ∧ DataW.trod enc P w base spare held n f2.type ((cs.drop f2.offset).take (P.cellsOf f2.type)) = some y2 ∧
      DataW.trod enc P w base spare held n f3.type ((cs.drop f3.offset).take (P.cellsOf f3.type)) = some y3 ∧ DataW.trod enc P w base spare held n f4.type ((cs.drop f4.offset).take (P.cellsOf f4.type)) = some y4 := by
  obtain ⟨xs, n, _, rfl, hl, hlen, hf⟩ := DataW.trod_struct ht h
  match xs, hlen with
  | [y0, y1, y2, y3, y4], _ => exact ⟨y0, y1, y2, y3, y4, n, by simp, hl, by simpa using hf 0 f0 rfl, by simpa using hf 1 f1 rfl, by simpa using hf 2 f2 rfl, by simpa using hf 3 f3 rfl, by simpa using hf 4 f4 rfl⟩
theorem struct6 {H : Type} {enc : TypeId × Value → H} {P : Program} {w : World} {base : Nat} {spare : Nat → Bool} {held : Bool} {t : TypeId} {f0 f1 f2 f3 f4 f5 : Field} {fuel : Nat} {cs : List Value} {x : DataW H × List MemPlace} (ht : P.underlying t = some (.struct #[f0, f1, f2, f3, f4, f5])) (h : DataW.trod enc P w base spare held fuel t cs = some x) :
    ∃ y0 y1 y2 y3 y4 y5 n, x.1 = .agg [y0.1, y1.1, y2.1, y3.1, y4.1, y5.1] ∧ cs.length = P.cellsOf t ∧ DataW.trod enc P w base spare held n f0.type ((cs.drop f0.offset).take (P.cellsOf f0.type)) = some y0 ∧
      DataW.trod enc P w base spare held n f1.type ((cs.drop f1.offset).take (P.cellsOf f1.type)) = some y1 ∧ DataW.trod enc P w base spare held n f2.type ((cs.drop f2.offset).take (P.cellsOf f2.type)) = some y2 ∧
      DataW.trod enc P w base spare held n f3.type ((cs.drop f3.offset).take (P.cellsOf f3.type)) = some y3 ∧ DataW.trod enc P w base spare held n f4.type ((cs.drop f4.offset).take (P.cellsOf f4.type)) = some y4 ∧
      DataW.trod enc P w base spare held n f5.type ((cs.drop f5.offset).take (P.cellsOf f5.type)) = some y5 := by
  obtain ⟨xs, n, _, rfl, hl, hlen, hf⟩ := DataW.trod_struct ht h
  match xs, hlen with
  | [y0, y1, y2, y3, y4, y5], _ => exact ⟨y0, y1, y2, y3, y4, y5, n, by simp, hl, by simpa using hf 0 f0 rfl, by simpa using hf 1 f1 rfl, by simpa using hf 2 f2 rfl, by simpa using hf 3 f3 rfl, by simpa using hf 4 f4 rfl, by simpa using hf 5 f5 rfl⟩
theorem weightsAll_mem {H : Type} {P : Program} {e : TypeId} {n : Nat} : ∀ {l : List (DataW H)} {d : DataW H}, d ∈ l → n ∈ d.weights P e → n ∈ DataW.weightsAll P e l
  | x :: r, d, hd, hn => by
    simp only [DataW.weightsAll, List.mem_append]
    rcases List.mem_cons.1 hd with rfl | hd
    · exact .inl hn
    · exact .inr (weightsAll_mem hd hn)
/-- A slice of parts that came in. -/
theorem does_in {H : Type} {enc : TypeId × Value → H} {W : World} {base : Nat} {sp : Nat → Bool} {held : Bool} {cs : List Value} {x : DataW H × List MemPlace} {fuel : Nat}
    (hf : DataW.trod enc Try.prog W base sp held fuel 27 cs = some x) (hw : ∀ n ∈ x.1.weights Try.prog 27, n ≤ reachBytes) : ∃ (v : Value) (ds : List Dd), cs = [v] ∧ ds.length ≤ maxLen ∧ SeesD W v ds := by
  rcases Deep.open_slice Try.underlying27 hf with ⟨hcs, _⟩ | ⟨y, len, cap, m, n, D, Pl, hcs, _, hl, hm, hmm, hx, hel⟩
  · exact ⟨_, [], hcs, by decide, .inl ⟨rfl, _, _, rfl⟩⟩
  · have hlm : len ≤ m := by rw [hmm]; split <;> omega
    have each : ∀ i, i < len → ∃ c : Dd, W.cell? (y.add (i * 5)) = some (.int .i64 c.kind) ∧ W.cell? (y.add (i * 5 + 1)) = some (.int .i64 c.lease) ∧ W.cell? (y.add (i * 5 + 2)) = some (.string c.key) ∧ W.cell? (y.add (i * 5 + 3)) = some (.string c.hi) ∧
        W.cell? (y.add (i * 5 + 4)) = some (.string c.value) ∧ c.key.size ≤ 140737488355328 ∧ c.hi.size ≤ 140737488355328 ∧ c.value.size ≤ 140737488355328 := by
      intro i hi
      obtain ⟨cs', h1, h2⟩ := hel i (by omega)
      have hwi : ∀ q ∈ (D i).weights Try.prog 33, q ≤ reachBytes := fun q hq => hw q (by
        rw [hx]
        simp only [DataW.weights, Try.underlying27, List.mem_cons, List.mem_append]
        exact .inr (.inl (weightsAll_mem (List.mem_map.2 ⟨i, List.mem_range.2 hi, rfl⟩) hq)))
      rw [cells33] at h1
      obtain ⟨y0, y1, y2, y3, y4, n', hD, hlen, t0, t1, t2, t3, t4⟩ := struct5 Try.underlying33 h2
      have hD : D i = .agg [y0.1, y1.1, y2.1, y3.1, y4.1] := hD
      have hwe : ∀ q ∈ DataW.weightsEach Try.prog [3, 3, 9, 9, 9] [y0.1, y1.1, y2.1, y3.1, y4.1], q ≤ reachBytes := fun q hq => hwi q (by
        rw [hD]
        simp only [DataW.weights, Try.underlying33]
        exact hq)
      have hwj : ∀ (j : Nat) (t : TypeId) (d : DataW H), [3, 3, 9, 9, 9][j]? = some t → [y0.1, y1.1, y2.1, y3.1, y4.1][j]? = some d → ∀ q ∈ d.weights Try.prog t, q ≤ reachBytes := fun j t d ht hd q hq => hwe q (DataW.weights_mem_each ht hd q hq)
      rw [cells33] at hlen
      obtain ⟨_, _, hc⟩ := World.cells?_some h1
      simp only [cells3, cells9] at t0 t1 t2 t3 t4
      match cs', hlen, t0, t1, t2, t3, t4, hc with
      | [q0, q1, q2, q3, q4], _, t0, t1, t2, t3, t4, hc =>
        obtain ⟨k, e0, _, _⟩ := DataW.trod_int Try.underlying3 t0
        obtain ⟨nn, e1, _, _⟩ := DataW.trod_int Try.underlying3 t1
        obtain ⟨sa, e2, x2, _⟩ := DataW.trod_string Try.underlying9 t2
        obtain ⟨sb, e3, x3, _⟩ := DataW.trod_string Try.underlying9 t3
        obtain ⟨sc, e4, x4, _⟩ := DataW.trod_string Try.underlying9 t4
        simp at e0 e1 e2 e3 e4
        subst e0 e1 e2 e3 e4
        have b2 : sa.size ≤ 140737488355328 := by
          have := hwj 2 9 y2.1 rfl rfl
          rw [x2] at this
          exact str_len this
        have b3 : sb.size ≤ 140737488355328 := by
          have := hwj 3 9 y3.1 rfl rfl
          rw [x3] at this
          exact str_len this
        have b4 : sc.size ≤ 140737488355328 := by
          have := hwj 4 9 y4.1 rfl rfl
          rw [x4] at this
          exact str_len this
        have g0 := hc 0 (by omega)
        have g1 := hc 1 (by omega)
        have g2 := hc 2 (by omega)
        have g3 := hc 3 (by omega)
        have g4 := hc 4 (by omega)
        rw [Deep.add_add] at g0 g1 g2 g3 g4
        exact ⟨⟨k, nn, sa, sb, sc⟩, by simpa using g0, by simpa using g1, by simpa using g2, by simpa using g3, by simpa using g4, b2, b3, b4⟩
    haveI : Inhabited Dd := ⟨noDd⟩
    obtain ⟨f, hfn⟩ := Deep.choose_lt (α := Dd) (p := fun i c => W.cell? (y.add (i * 5)) = some (.int .i64 c.kind) ∧ W.cell? (y.add (i * 5 + 1)) = some (.int .i64 c.lease) ∧ W.cell? (y.add (i * 5 + 2)) = some (.string c.key) ∧ W.cell? (y.add (i * 5 + 3)) = some (.string c.hi) ∧
        W.cell? (y.add (i * 5 + 4)) = some (.string c.value) ∧ c.key.size ≤ 140737488355328 ∧ c.hi.size ≤ 140737488355328 ∧ c.value.size ≤ 140737488355328) each
    have hpl : ((List.range len).map f).length = len := by simp
    refine ⟨_, (List.range len).map f, hcs, by omega, ?_⟩
    by_cases h0 : len = 0
    · subst h0
      exact .inl ⟨by simp, _, _, rfl⟩
    · obtain ⟨g0, _⟩ := hfn 0 (by omega)
      obtain ⟨b, off, spot⟩ := y
      have hspot : spot = none := by simpa [Addr.add] using World.cell?_spot g0
      subst hspot
      refine .inr ⟨b, off, cap, by rw [hpl], by omega, ?_, fun i hi => ?_⟩
      · have := World.block_lt_of_cell? _ _ g0
        simpa [Addr.add] using this
      · have hi' : i < len := by omega
        have e : ((List.range len).map f).getD i noDd = f i := by simp [List.getD_eq_getElem?_getD, hi']
        rw [e]
        obtain ⟨c0, c1, c2, c3, c4, r4, r5, r6⟩ := hfn i hi'
        rw [Addr.add_lit] at c0 c1 c2 c3 c4
        exact ⟨c0, c1, c2, c3, c4, r4, r5, r6⟩
theorem calls_in {H : Type} {enc : TypeId × Value → H} {W : World} {base : Nat} {sp : Nat → Bool} {held : Bool} {a : Option Addr} {len cap : Nat} {x : DataW H × List MemPlace} {fuel : Nat}
    (hf : DataW.trod enc Try.prog W base sp held fuel 22 (Value.cells (.slice a len cap)).toList = some x) (hw : ∀ n ∈ x.1.weights Try.prog 22, n ≤ reachBytes) : ∃ cs : List Cd, cs.length ≤ maxLen ∧ SeesC W (.slice a len cap) cs := by
  rcases Deep.open_slice Try.underlying22 hf with ⟨hcs, _⟩ | ⟨y, l, c, m, n, D, Pl, hcs, _, hl, hm, hmm, hx, hel⟩
  · simp [Value.cells] at hcs
    obtain ⟨rfl, rfl, rfl⟩ := hcs
    exact ⟨[], by decide, .inl ⟨rfl, _, _, rfl⟩⟩
  · simp [Value.cells] at hcs
    obtain ⟨rfl, rfl, rfl⟩ := hcs
    have hlm : len ≤ m := by rw [hmm]; split <;> omega
    have each : ∀ i, i < len → ∃ c : Cd, W.cell? (y.add (i * 6)) = some (.int .i64 c.kind) ∧ W.cell? (y.add (i * 6 + 1)) = some (.int .i64 c.rev) ∧ W.cell? (y.add (i * 6 + 2)) = some (.int .i64 c.limit) ∧ W.cell? (y.add (i * 6 + 3)) = some (.string c.lo) ∧ W.cell? (y.add (i * 6 + 4)) = some (.string c.hi) ∧
        (∃ v, W.cell? (y.add (i * 6 + 5)) = some v ∧ SeesD W v c.does) ∧ c.lo.size ≤ 140737488355328 ∧ c.hi.size ≤ 140737488355328 ∧ c.does.length ≤ 9223372036854775807 := by
      intro i hi
      obtain ⟨cs', h1, h2⟩ := hel i (by omega)
      have hwi : ∀ q ∈ (D i).weights Try.prog 29, q ≤ reachBytes := fun q hq => hw q (by
        rw [hx]
        simp only [DataW.weights, Try.underlying22, List.mem_cons, List.mem_append]
        exact .inr (.inl (weightsAll_mem (List.mem_map.2 ⟨i, List.mem_range.2 hi, rfl⟩) hq)))
      rw [cells29] at h1
      obtain ⟨y0, y1, y2, y3, y4, y5, n', hD, hlen, t0, t1, t2, t3, t4, t5⟩ := struct6 Try.underlying29 h2
      have hD : D i = .agg [y0.1, y1.1, y2.1, y3.1, y4.1, y5.1] := hD
      have hwe : ∀ q ∈ DataW.weightsEach Try.prog [3, 3, 3, 9, 9, 27] [y0.1, y1.1, y2.1, y3.1, y4.1, y5.1], q ≤ reachBytes := fun q hq => hwi q (by
        rw [hD]
        simp only [DataW.weights, Try.underlying29]
        exact hq)
      have hwj : ∀ (j : Nat) (t : TypeId) (d : DataW H), [3, 3, 3, 9, 9, 27][j]? = some t → [y0.1, y1.1, y2.1, y3.1, y4.1, y5.1][j]? = some d → ∀ q ∈ d.weights Try.prog t, q ≤ reachBytes := fun j t d ht hd q hq => hwe q (DataW.weights_mem_each ht hd q hq)
      rw [cells29] at hlen
      obtain ⟨_, _, hc⟩ := World.cells?_some h1
      simp only [cells3, cells9, cells27] at t0 t1 t2 t3 t4 t5
      match cs', hlen, t0, t1, t2, t3, t4, t5, hc with
      | [q0, q1, q2, q3, q4, q5], _, t0, t1, t2, t3, t4, t5, hc =>
        obtain ⟨k, e0, _, _⟩ := DataW.trod_int Try.underlying3 t0
        obtain ⟨nn, e1, _, _⟩ := DataW.trod_int Try.underlying3 t1
        obtain ⟨ll, e2, _, _⟩ := DataW.trod_int Try.underlying3 t2
        obtain ⟨sa, e3, x3, _⟩ := DataW.trod_string Try.underlying9 t3
        obtain ⟨sb, e4, x4, _⟩ := DataW.trod_string Try.underlying9 t4
        obtain ⟨v, ds, e5, hdl, hds⟩ := does_in t5 (hwj 5 27 y5.1 rfl rfl)
        simp at e0 e1 e2 e3 e4 e5
        subst e0 e1 e2 e3 e4 e5
        have b3 : sa.size ≤ 140737488355328 := by
          have := hwj 3 9 y3.1 rfl rfl
          rw [x3] at this
          exact str_len this
        have b4 : sb.size ≤ 140737488355328 := by
          have := hwj 4 9 y4.1 rfl rfl
          rw [x4] at this
          exact str_len this
        have g0 := hc 0 (by omega)
        have g1 := hc 1 (by omega)
        have g2 := hc 2 (by omega)
        have g3 := hc 3 (by omega)
        have g4 := hc 4 (by omega)
        have g5 := hc 5 (by omega)
        rw [Deep.add_add] at g0 g1 g2 g3 g4 g5
        exact ⟨⟨k, nn, ll, sa, sb, ds⟩, by simpa using g0, by simpa using g1, by simpa using g2, by simpa using g3, by simpa using g4, ⟨q5, by simpa using g5, hds⟩, b3, b4, by unfold maxLen at hdl; exact hdl⟩
    haveI : Inhabited Cd := ⟨noCd⟩
    obtain ⟨f, hfn⟩ := Deep.choose_lt (α := Cd) (p := fun i c => W.cell? (y.add (i * 6)) = some (.int .i64 c.kind) ∧ W.cell? (y.add (i * 6 + 1)) = some (.int .i64 c.rev) ∧ W.cell? (y.add (i * 6 + 2)) = some (.int .i64 c.limit) ∧ W.cell? (y.add (i * 6 + 3)) = some (.string c.lo) ∧ W.cell? (y.add (i * 6 + 4)) = some (.string c.hi) ∧
        (∃ v, W.cell? (y.add (i * 6 + 5)) = some v ∧ SeesD W v c.does) ∧ c.lo.size ≤ 140737488355328 ∧ c.hi.size ≤ 140737488355328 ∧ c.does.length ≤ 9223372036854775807) each
    have hpl : ((List.range len).map f).length = len := by simp
    refine ⟨(List.range len).map f, by omega, ?_⟩
    by_cases h0 : len = 0
    · subst h0
      exact .inl ⟨by simp, _, _, rfl⟩
    · obtain ⟨g0, _⟩ := hfn 0 (by omega)
      obtain ⟨b, off, spot⟩ := y
      have hspot : spot = none := by simpa [Addr.add] using World.cell?_spot g0
      subst hspot
      refine .inr ⟨b, off, cap, by rw [hpl], by omega, ?_, fun i hi => ?_⟩
      · have := World.block_lt_of_cell? _ _ g0
        simpa [Addr.add] using this
      · have hi' : i < len := by omega
        have e : ((List.range len).map f).getD i noCd = f i := by simp [List.getD_eq_getElem?_getD, hi']
        rw [e]
        obtain ⟨c0, c1, c2, c3, c4, ⟨v, c5, c6⟩, r3, r4, r5⟩ := hfn i hi'
        rw [Addr.add_lit] at c0 c1 c2 c3 c4 c5
        exact ⟨c0, c1, c2, c3, c4, ⟨v, c5, c6⟩, r3, r4, r5⟩
end Go.Proofs.Yteeflkkoifgcbaa
