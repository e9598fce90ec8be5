/- lastPut, at, look. -/
import Derived.Test.YteeflkkoifgcbaaMB
namespace Go.Proofs.Yteeflkkoifgcbaa
open Go Go.RowKit

def modOf (o : Option KVd) : Int := match o with | some kv => kv.mod | none => 0
theorem thF_get (S : Sto) (k : ByteArray) : (thF S k).getD (.int .i64 0) = .int .i64 (modOf (thereH (S.kh k))) := by
  unfold thF modOf
  cases thereH (S.kh k) <;> rfl
set_option maxRecDepth 100000 in
set_option maxHeartbeats 400000 in
/-- lastPut at the present. -/
theorem last_now {n : Nat} {w : World} {s : Nat} {S : Sto} {g : Sg} {o : Value} (h : St n w s S g o) (key : ByteArray) : Calls Try.prog 37 #[ptr s, .string key, .int .i64 S.rev] w fun e w' => e = .returned (.int .i64 (modOf (thereH (S.kh key)))) ∧ Below w.heap.size w w' := by
  have hb : Below w.heap.size w (w.alloc (.cells #[.int .i64 S.rev] 3)) := (Below.refl _ w).alloc (Nat.le_refl _) _
  have h1 := h.below hb
  have hbd : ∀ q, Below w.heap.size w ((w.alloc (.cells #[.int .i64 S.rev] 3)).drewN q) := fun q => by
    induction q with
    | zero => exact hb
    | succ q ih => exact ih.drew
  obtain ⟨c0, -, -, -, -, c5, -⟩ := h1.cells
  have hl : ∀ q, (Instr.lookup 62 (.map (some g.bt)) (.string key) false).run Try.prog ((w.alloc (.cells #[.int .i64 S.rev] 3)).drewN q) = .ok (.int .i64 (modOf (thereH (S.kh key)))) ((w.alloc (.cells #[.int .i64 S.rev] 3)).drewN q) := fun q => by
    rw [← thF_get]
    exact (h.below (hbd q)).th.look law65 Try.underlying62 (zero3 _) key false
  have HBD : ∀ q, Hid (Below w.heap.size w ((w.alloc (.cells #[.int .i64 S.rev] 3)).drewN q)) := fun q => hbd q
  clear h h1 hb hbd
  go_enter Try.func37, Try.ntmps37
  go_wp2
  go_quiet (fail)
  go_wp2
  go_ret
  exact ⟨rfl, (HBD _).out⟩
theorem find_mem : ∀ {h : Hs} {r : Int} {o : Option KVd}, h.Pairwise (fun p q => p.1 < q.1) → (r, o) ∈ h → h.find? (fun q => decide (q.1 = r)) = some (r, o)
  | [], _, _, _, hm => by cases hm
  | p :: h, r, o, hp, hm => by
    obtain ⟨h1, h2⟩ := List.pairwise_cons.1 hp
    rcases List.mem_cons.1 hm with rfl | hm
    · simp
    · have := h1 _ hm
      rw [List.find?_cons_of_neg (by simp; dsimp only at this; omega)]
      exact find_mem h2 hm
theorem chF_at {n : Nat} {w : World} {s : Nat} {S : Sto} {g : Sg} {o : Value} (h : St n w s S g o) {key : ByteArray} {rev : Int} {kv : KVd} (e : atH (S.kh key) rev = some kv) : chF S (kv.mod, key) = some (.iface 76 (encKV kv)) ∧ 0 < kv.mod := by
  obtain ⟨r, hm, _⟩ := atH_mem e
  obtain ⟨_, e2, _⟩ := (h.hok key).kv r kv hm
  have := ((h.hok key).pos _ hm).1
  rw [e2]
  refine ⟨?_, this⟩
  unfold chF
  rw [find_mem (h.hok key).asc hm]
  rfl
set_option maxRecDepth 100000 in
set_option maxHeartbeats 400000 in
/-- A key as it was at a revision. -/
theorem at_any {n : Nat} {w : World} {s : Nat} {S : Sto} {g : Sg} {o : Value} (h : St n w s S g o) (key : ByteArray) (rev : Int)
    (hl : ∀ W, Below w.heap.size w W → Calls Try.prog 37 #[ptr s, .string key, .int .i64 rev] W fun e w' => e = .returned (.int .i64 (modOf (atH (S.kh key) rev))) ∧ Below W.heap.size W w') :
    Calls Try.prog 31 #[ptr s, .string key, .int .i64 rev] w fun e w' => e = .returned (.tuple #[encKV ((atH (S.kh key) rev).getD noKV), .bool (atH (S.kh key) rev).isSome]) ∧ Below w.heap.size w w' := by
  have hb0 : Below w.heap.size w (w.alloc (.cells #[.string ⟨#[]⟩, .string ⟨#[]⟩, .int .i64 0, .int .i64 0, .int .i64 0, .int .i64 0] 56)) := (Below.refl _ w).alloc (Nat.le_refl _) _
  have hlast := hl _ hb0
  have r0 := row_alloc w #[.string ⟨#[]⟩, .string ⟨#[]⟩, .int .i64 0, .int .i64 0, .int .i64 0, .int .i64 0] 56
  generalize hV : w.alloc (.cells #[.string ⟨#[]⟩, .string ⟨#[]⟩, .int .i64 0, .int .i64 0, .int .i64 0, .int .i64 0] 56) = V at *
  have hVs : V.heap.size = w.heap.size + 1 := by rw [← hV]; simp
  have HL : Hid (∀ W kv, Below w.heap.size w W → atH (S.kh key) rev = some kv → (Instr.lookup 60 (.map (some g.bc)) (.agg #[.int .i64 kv.mod, .string key]) false).run Try.prog W = .ok (.iface 76 (encKV kv)) W) := fun W kv hb e => by
    have := (h.below hb).ch.look law60 Try.underlying60 (zero71 _) (kv.mod, key) false
    rw [(chF_at h e).1] at this
    exact this
  have HC : Hid (∀ W, Below w.heap.size w W → W.cell? ⟨s, 3, none⟩ = some (.map (some g.bc))) := fun W hb => (h.below hb).cells.2.2.2.1
  have HP : Hid (∀ kv, atH (S.kh key) rev = some kv → ¬ kv.mod = 0) := fun kv e => by have := (chF_at h e).2; omega
  clear hl
  cases e : atH (S.kh key) rev with
  | none =>
    rw [e] at hlast
    dsimp only [modOf] at hlast
    clear h e HL HC HP
    go_enter Try.func31, Try.ntmps31
    go_upto_region 3 with (go_at_call 37; refine hlast.mono ?_; rintro e w3 ⟨rfl, hb3⟩)
    have r3 := (hb3.block w.heap.size (by omega)).trans r0
    have HB : Hid (Below w.heap.size w w3) := hb0.trans (hb3.mono (by omega))
    obtain ⟨⟨k0, k1, k2, k3, k4, k5⟩, f0, f1, f2, f3, f4, f5⟩ := box6 r3
    have HR := Hid.mk'' r3
    clear r3 r0 hb3 hlast hb0 hVs hV
    go_wp2
    refine bodyPost_ret (results_ct rfl _ _ w.heap.size 56 #[.string ⟨#[]⟩, .string ⟨#[]⟩, .int .i64 0, .int .i64 0, .int .i64 0, .int .i64 0] (0, 0) _ rfl (set6 HR.out _ _ _ _ _ _) Try.underlying56 rfl size56) rfl ?_
    exact ⟨rfl, below6 HB.out (Nat.le_refl _) _ _ _ _ _ _⟩
  | some kv =>
    rw [e] at hlast
    dsimp only [modOf] at hlast
    have hnz := HP.out kv e
    have HL2 : Hid (∀ W, Below w.heap.size w W → (Instr.lookup 60 (.map (some g.bc)) (.agg #[.int .i64 kv.mod, .string key]) false).run Try.prog W = .ok (.iface 76 (encKV kv)) W) := fun W hb => HL.out W kv hb e
    clear h e HL HP
    obtain ⟨kk, kvv, kcr, kmo, kve, kle⟩ := kv
    dsimp only [encKV] at hlast hnz HL2
    go_enter Try.func31, Try.ntmps31
    go_upto_region 4 with (go_at_call 37; refine hlast.mono ?_; rintro e w3 ⟨rfl, hb3⟩)
    have r3 := (hb3.block w.heap.size (by omega)).trans r0
    have HB : Hid (Below w.heap.size w w3) := hb0.trans (hb3.mono (by omega))
    obtain ⟨⟨k0, k1, k2, k3, k4, k5⟩, f0, f1, f2, f3, f4, f5⟩ := box6 r3
    have HR := Hid.mk'' r3
    have c3 := HC.out _ HB.out
    have hlk := HL2.out _ HB.out
    clear r3 r0 hb3 hlast hb0 hVs HC HL2 hV
    have hta := ta_must
    go_wp2
    refine bodyPost_ret (results_ct rfl _ _ w.heap.size 56 #[.string kk, .string kvv, .int .i64 kcr, .int .i64 kmo, .int .i64 kve, .int .i64 kle] (0, 0) _ rfl (set6 HR.out _ _ _ _ _ _) Try.underlying56 rfl size56) rfl ?_
    exact ⟨rfl, below6 HB.out (Nat.le_refl _) _ _ _ _ _ _⟩
end Go.Proofs.Yteeflkkoifgcbaa
