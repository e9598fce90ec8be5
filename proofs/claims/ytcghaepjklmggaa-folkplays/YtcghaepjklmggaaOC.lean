/- strings.Clone; ownKV: a key and what is with it, anew. -/
import Derived.Test.YtcghaepjklmggaaRW
import Derived.Test.YtcghaepjklmggaaProg
import Derived.Deep.LoopGhost
import Derived.Deep.CutRange
import Derived.Deep.RegionWith
import Derived.Deep.RegionHeldLaw
import Derived.Deep.QuietTactic
import Derived.BigQuiet
import Derived.Handy
import Derived.Laws.MakeOwn
import Derived.Lib.UnsafeStr
import Derived.Lib.OthersKept
import Derived.Lib.BufferWrite
namespace Go.Proofs.Ytcghaepjklmggaa
open Go Go.RowKit
theorem Hid.mk'' {p : Prop} (h : p) : Hid p := h
theorem info5 : (Try.prog.info? 5).map (fun i => (i.zero, i.size, i.bytes)) = some (some (.int .u8 0), 1, 1) := by kernel_rfl
theorem size5 : (Try.prog.info? 5).map (·.size) = some 1 := by kernel_rfl
theorem cells5 : Try.prog.cellsOf 5 = 1 := by kernel_rfl
set_option maxRecDepth 100000 in
set_option maxHeartbeats 1000000 in
theorem slite_clone (s : ByteArray) (w : World) (h0 : 1 ≤ s.size) (h1 : s.size ≤ 140737488355328) :
    Calls Try.prog 43 #[.string s] w fun e w' => e = .returned (.string s) ∧ Below w.heap.size w w' := by
  obtain ⟨i0, hi, hz0, hz1, hz2⟩ := info_parts info5
  obtain ⟨cur, hcur, hmk⟩ : ∃ cur : Array Value, cur.size = s.size ∧ (Instr.makeSlice 96 (.int .i64 s.size) (.int .i64 s.size)).run Try.prog w = .ok (.slice (some ⟨w.heap.size, 0, none⟩) s.size s.size) (w.alloc (.cells cur 5)) := by
    have := run_make (P := Try.prog) w 96 5 i0 (.int .u8 0) Try.underlying96 hi hz0 .i64 .i64 s.size s.size (by omega) (by omega) (by rw [hz2]; omega) (by omega)
    simp only [Int.toNat_natCast] at this
    refine ⟨_, ?_, this⟩
    rw [size_madeCells, hz1]; simp
  have hg : (w.alloc (.cells cur 5)).heap[w.heap.size]? = some (.cells cur 5 (0, 0)) := heap_alloc_new w _
  have hsl : s.data.toList.length = s.size := by rw [Array.length_toList]; rfl
  have hcp := fun ty => Lib.run_copy_row_string (P := Try.prog) (w.alloc (.cells cur 5)) 96 9 ty 5 w.heap.size 0 s.size s.size s cur 5 Try.underlying96 size5 hg (Nat.le_refl _) (by omega)
  simp only [List.take_zero, List.nil_append, Nat.zero_add] at hcp
  rw [List.drop_of_length_le (by rw [Array.length_toList]; omega), List.append_nil] at hcp
  have hg2 : ((w.alloc (.cells cur 5)).setRow w.heap.size (Lib.byteCells s.data.toList).toArray).heap[w.heap.size]? = some (.cells (Lib.byteCells s.data.toList).toArray 5 (0, 0)) := setRow_heap _ _ cur _ 5 _ hg
  have hun := fun ty => Lib.run_unsafeString_row (P := Try.prog) ((w.alloc (.cells cur 5)).setRow w.heap.size (Lib.byteCells s.data.toList).toArray) 97 3 ty 5 Try.underlying97 cells5 w.heap.size s.size (by
      unfold World.shape?; rw [hg2]; show some (_, _) = _; rw [List.size_toArray, Lib.byteCells_length, hsl]) s.data.toList (by intro e; rw [e] at hsl; simp at hsl; omega) (by omega) (by omega) (fun j x hj => by
      rw [Addr.add_lit, cell_of_row _ _ _ _ _ _ hg2]
      simp only [Lib.byteCells, List.getElem?_toArray, Nat.zero_add, List.getElem?_map, hj, Option.map_some])
  rw [hsl] at hun
  generalize hW1 : w.alloc (.cells cur 5) = W1 at *
  generalize hW2 : W1.setRow w.heap.size (Lib.byteCells s.data.toList).toArray = W2 at *
  have hb2 : Below w.heap.size w W2 := by
    rw [← hW2, ← hW1]
    refine ((Below.refl _ _).alloc (Nat.le_refl _) _).trans ⟨rfl, rfl, rfl, by simp, fun k hk => setRow_other _ _ k _ (by omega)⟩
  have HB := Hid.mk'' (Lib.below_freeze hb2 (p := ⟨w.heap.size, 0, none⟩) (Nat.le_refl _) s.size)
  clear hb2 hW1 hW2 hg hg2 hcur hsl hz0 hz1 hz2 hi
  go_enter Try.func43, Try.ntmps43
  go_wp2
  go_ret
  exact ⟨rfl, HB.out⟩
set_option maxHeartbeats 1000000 in
theorem sclone (s : ByteArray) (w : World) (h0 : 1 ≤ s.size) (h1 : s.size ≤ 140737488355328) :
    Calls Try.prog 31 #[.string s] w fun e w' => e = .returned (.string s) ∧ Below w.heap.size w w' := by
  go_enter Try.func31, Try.ntmps31
  go_wp2_with (go_at_call 43; refine (slite_clone _ _ h0 h1).mono ?_; rintro e w' ⟨rfl, hb⟩)
  go_ret
  exact ⟨rfl, hb⟩
theorem sz0 {k : ByteArray} (h : ¬ 1 ≤ k.size) : k = ByteArray.empty := by
  suffices k.data.toList = ByteArray.empty.data.toList by
    cases k; simp only [ByteArray.empty] at *; congr 1; exact Array.toList_inj.1 this
  have : k.data.size = 0 := by
    have : k.size = 0 := by omega
    exact this
  have e : k.data = #[] := Array.eq_empty_of_size_eq_zero this
  rw [e]; rfl
set_option maxHeartbeats 400000 in
theorem slite_clone0 (w : World) : Calls Try.prog 43 #[.string ByteArray.empty] w fun e w' => e = .returned (.string ByteArray.empty) ∧ Below w.heap.size w w' := by
  have h0 : ByteArray.empty.size = 0 := rfl
  go_enter Try.func43, Try.ntmps43
  go_wp2
  go_ret
  exact ⟨rfl, Below.refl _ _⟩
set_option maxHeartbeats 400000 in
theorem clone_all (s : ByteArray) (h1 : s.size ≤ 140737488355328) (w : World) : Calls Try.prog 31 #[.string s] w fun e w' => e = .returned (.string s) ∧ Below w.heap.size w w' := by
  by_cases h0 : 1 ≤ s.size
  · exact sclone s w h0 h1
  · have := sz0 h0
    subst this
    have hs := slite_clone0 w
    go_enter Try.func31, Try.ntmps31
    go_wp2_with (go_at_call 43; refine hs.mono ?_; rintro e w1 ⟨rfl, hb⟩)
    go_ret
    exact ⟨rfl, hb⟩
structure KVd where
  key : ByteArray
  value : ByteArray
  create : Int
  mod : Int
  version : Int
  lease : Int
abbrev encKV (k : KVd) : Value := .agg #[.string k.key, .string k.value, .int .i64 k.create, .int .i64 k.mod, .int .i64 k.version, .int .i64 k.lease]
theorem heap_setCell_row {w : World} {g : Nat} {cur : Array Value} {e : TypeId} (hg : w.heap[g]? = some (.cells cur e (0, 0))) (k : Nat) (u : Value) : (w.setCell ⟨g, k, none⟩ u).heap[g]? = some (.cells (cur.setIfInBounds k u) e (0, 0)) := by
  have hlt : g < w.heap.size := (Array.getElem?_eq_some_iff.1 hg).1
  have hv : w.heap[g] = .cells cur e (0, 0) := (Array.getElem?_eq_some_iff.1 hg).2
  unfold World.setCell
  rw [Array.getElem?_eq_getElem (by simpa using hlt), Array.getElem_modify]
  simp [hv]
theorem setCell_same {w : World} {p : Addr} {u : Value} (h : w.cell? p = some u) (hp : p.spot = none) : w.setCell p u = w := by
  obtain ⟨g, o, sp⟩ := p
  obtain rfl : sp = none := hp
  have hlt : g < w.heap.size := World.block_lt_of_cell? _ _ h
  unfold World.setCell
  have : (w.heap.modify g fun x => match x with
      | .cells c elem frozen => .cells (if (none : Option Nat).isSome = true then c else c.setIfInBounds o u) elem frozen
      | o => o) = w.heap := by
    apply Array.ext_getElem?
    intro i
    rw [Array.getElem?_modify]
    split
    · rename_i hi
      subst hi
      cases hg : w.heap[g]? with
      | none => rfl
      | some ob =>
        cases ob with
        | cells c elem fr =>
          rw [cell_of_row _ _ _ _ _ _ hg] at h
          obtain ⟨ho, hu⟩ := Array.getElem?_eq_some_iff.1 h
          simp only [Option.map_some, Option.isSome_none, Bool.false_eq_true, if_false]
          congr 2
          rw [Array.setIfInBounds, dif_pos ho, ← hu, Array.set_getElem_self]
        | _ => rfl
    · rfl
  exact congrArg (fun h => ({ w with heap := h } : World)) this
/-- A box of six cells, and another one beside it, as a call goes on. -/
structure KB (w : World) (bx rx : Nat) (a b : ByteArray) (c d e f : Value) (W : World) : Prop where
  c0 : W.cell? ⟨bx, 0, none⟩ = some (.string a)
  c1 : W.cell? ⟨bx, 1, none⟩ = some (.string b)
  c2 : W.cell? ⟨bx, 2, none⟩ = some c
  c3 : W.cell? ⟨bx, 3, none⟩ = some d
  c4 : W.cell? ⟨bx, 4, none⟩ = some e
  c5 : W.cell? ⟨bx, 5, none⟩ = some f
  f0 : W.frozen? ⟨bx, 0, none⟩ = false
  f1 : W.frozen? ⟨bx, 1, none⟩ = false
  rx : W.heap[rx]? = some (.cells #[.string ⟨#[]⟩, .string ⟨#[]⟩, .int .i64 0, .int .i64 0, .int .i64 0, .int .i64 0] 68 (0, 0))
  bel : Below w.heap.size w W
theorem KB.below {w : World} {bx rx : Nat} {a b : ByteArray} {c d e f : Value} {W W' : World} (h : KB w bx rx a b c d e f W) (hb : Below W.heap.size W W') : KB w bx rx a b c d e f W' := by
  have hl : bx < W.heap.size := World.block_lt_of_cell? _ _ h.c0
  have hr : rx < W.heap.size := (Array.getElem?_eq_some_iff.1 h.rx).1
  have hc := fun j => hb.cell (p := ⟨bx, j, none⟩) hl
  have hf := fun j => hb.frozen (p := ⟨bx, j, none⟩) hl
  exact ⟨(hc 0).trans h.c0, (hc 1).trans h.c1, (hc 2).trans h.c2, (hc 3).trans h.c3, (hc 4).trans h.c4, (hc 5).trans h.c5, (hf 0).trans h.f0, (hf 1).trans h.f1, (hb.block rx hr).trans h.rx, h.bel.trans (hb.mono h.bel.size)⟩
set_option maxRecDepth 100000 in
set_option maxHeartbeats 1000000 in
theorem own_kv (k : KVd) (w : World) (h1 : k.key.size ≤ 140737488355328) (h2 : k.value.size ≤ 140737488355328) :
    Calls Try.prog 27 #[encKV k] w fun e w' => e = .returned (encKV k) ∧ Below w.heap.size w w' := by
  obtain ⟨a, b, c, d, g, f⟩ := k
  dsimp only [encKV] at *
  obtain ⟨bx, hbx⟩ : ∃ bx, bx = w.heap.size := ⟨_, rfl⟩
  have hc1 : Hid (∀ W, KB w bx (bx + 1) a b (.int .i64 c) (.int .i64 d) (.int .i64 g) (.int .i64 f) W → Calls Try.prog 31 #[.string a] W fun e w' => e = .returned (.string a) ∧ KB w bx (bx + 1) a b (.int .i64 c) (.int .i64 d) (.int .i64 g) (.int .i64 f) w') := fun W h => (clone_all a h1 W).mono (fun _ _ h' => ⟨h'.1, h.below h'.2⟩)
  have hc2 : Hid (∀ W, KB w bx (bx + 1) a b (.int .i64 c) (.int .i64 d) (.int .i64 g) (.int .i64 f) W → Calls Try.prog 31 #[.string b] W fun e w' => e = .returned (.string b) ∧ KB w bx (bx + 1) a b (.int .i64 c) (.int .i64 d) (.int .i64 g) (.int .i64 f) w') := fun W h => (clone_all b h2 W).mono (fun _ _ h' => ⟨h'.1, h.below h'.2⟩)
  go_enter Try.func27, Try.ntmps27
  go_upto_region 1 with fail
  obtain ⟨W0, hW0⟩ : ∃ W0, W0 = (w.alloc (.cells #[.string a, .string b, .int .i64 c, .int .i64 d, .int .i64 g, .int .i64 f] 68)).alloc (.cells #[.string ⟨#[]⟩, .string ⟨#[]⟩, .int .i64 0, .int .i64 0, .int .i64 0, .int .i64 0] 68) := ⟨_, rfl⟩
  have HK : Hid (KB w bx (bx + 1) a b (.int .i64 c) (.int .i64 d) (.int .i64 g) (.int .i64 f) W0) := by
    rw [hbx]
    refine ⟨?_, ?_, ?_, ?_, ?_, ?_, ?_, ?_, ?_, ?_⟩
    · rw [hW0]; simp
    · rw [hW0]; simp
    · rw [hW0]; simp
    · rw [hW0]; simp
    · rw [hW0]; simp
    · rw [hW0]; simp
    · rw [hW0]; simp
    · rw [hW0]; simp
    · rw [hW0]
      have := heap_alloc_new (w.alloc (.cells #[.string a, .string b, .int .i64 c, .int .i64 d, .int .i64 g, .int .i64 f] 68)) (.cells #[.string ⟨#[]⟩, .string ⟨#[]⟩, .int .i64 0, .int .i64 0, .int .i64 0, .int .i64 0] 68)
      simpa using this
    · rw [hW0]; exact ((Below.refl _ _).alloc (Nat.le_refl _) _).alloc (by simp) _
  rw [← hW0, ← hbx]
  have HBX := Hid.mk'' hbx
  clear hW0 hbx
  have HKd : Hid (KB w bx (bx + 1) a b (.int .i64 c) (.int .i64 d) (.int .i64 g) (.int .i64 f) W0.drew) := HK.out.below ⟨rfl, rfl, rfl, Nat.le_refl _, fun _ _ => rfl⟩
  have q0 := HKd.out.c0
  have q1 := HKd.out.c1
  have s0 : ∀ W : World, W.cell? ⟨bx, 0, none⟩ = some (.string a) → W.setCell ⟨bx, 0, none⟩ (.string a) = W := fun W h => setCell_same h rfl
  have s1 : ∀ W : World, W.cell? ⟨bx, 1, none⟩ = some (.string b) → W.setCell ⟨bx, 1, none⟩ (.string b) = W := fun W h => setCell_same h rfl
  go_region_held_law (fun W => W.cell? ⟨bx, 0, none⟩ = some (.string a) ∧ W.cell? ⟨bx, 1, none⟩ = some (.string b)) (first | with_reducible assumption | exact ⟨by with_reducible assumption, by with_reducible assumption⟩)
    (first
      | (go_at_call 31; with_reducible refine (hc1.out _ HKd.out).mono ?_; rintro e w1 ⟨rfl, hk1⟩; have HK1 := Hid.mk'' hk1; have q10 := hk1.c0; have q11 := hk1.c1; have g10 := hk1.f0; have g11 := hk1.f1; clear hk1)
      | (go_at_call 31; with_reducible refine (hc2.out _ HK1.out).mono ?_; rintro e w2 ⟨rfl, hk2⟩; have HK2 := Hid.mk'' hk2; have q20 := hk2.c0; have q21 := hk2.c1; have g20 := hk2.f0; have g21 := hk2.f1; clear hk2))
  have er := HK2.out.rx
  have e2 := HK2.out.c2
  have e3 := HK2.out.c3
  have e4 := HK2.out.c4
  have e5 := HK2.out.c5
  have r : ∀ j, w2.cell? ⟨bx + 1, j, none⟩ = #[Value.string ⟨#[]⟩, .string ⟨#[]⟩, .int .i64 0, .int .i64 0, .int .i64 0, .int .i64 0][j]? := fun j => cell_of_row _ _ _ _ _ _ er
  have r0 := r 0
  have r1 := r 1
  have r2 := r 2
  have r3 := r 3
  have r4 := r 4
  have r5 := r 5
  have fr : ∀ j, w2.frozen? ⟨bx + 1, j, none⟩ = false := fun j => by simp [World.frozen?, er]
  have HB : Hid (Below w.heap.size w w2) := HK2.out.bel
  have hle : Hid (w.heap.size ≤ bx + 1) := by rw [HBX.out]; exact Nat.le_succ _
  have HER := Hid.mk'' er
  clear hc1 hc2 HK HKd HK1 HK2 s0 s1 r er
  go_wp2
  have HQ := heap_setCell_row (heap_setCell_row (heap_setCell_row (heap_setCell_row (heap_setCell_row (heap_setCell_row HER.out 0 (.string a)) 1 (.string b)) 2 (.int .i64 c)) 3 (.int .i64 d)) 4 (.int .i64 g)) 5 (.int .i64 f)
  refine bodyPost_ret (results_cell_row rfl _ _ (bx + 1) 68 #[.string a, .string b, .int .i64 c, .int .i64 d, .int .i64 g, .int .i64 f] (0, 0) _ rfl HQ Try.underlying68 rfl (by kernel_rfl)) rfl ?_
  exact ⟨rfl, (((((HB.out.setCell hle.out _).setCell hle.out _).setCell hle.out _).setCell hle.out _).setCell hle.out _).setCell hle.out _⟩
end Go.Proofs.Ytcghaepjklmggaa
