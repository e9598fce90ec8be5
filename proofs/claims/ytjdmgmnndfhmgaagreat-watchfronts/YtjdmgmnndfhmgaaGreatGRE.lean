/- walk: its own walk, over whatever its kids give. -/
import Derived.RangeFuncNested
import Derived.RangeFuncBound
import Derived.RangeFuncCalls
import Derived.RangeFuncLeaves
import Derived.RangeFuncBox
import Derived.Shelf.Abstract
import Derived.Shelf.RegionOpen
import Derived.WalkKit
import Derived.OwnWalkIn
import Derived.TacticsInMore
import Derived.LoopNIn
import Derived.LoopIn
import Derived.Test.YtjdmgmnndfhmgaaGreatGRD
import Derived.Lib.UnsafeStr
import Derived.Lib.OthersKept
import Derived.Lib.BufferWrite
namespace Go.Proofs.YtjdmgmnndfhmgaaGreat
open Go Go.RowKit Go.Shelf
attribute [local go_sem] Oper.semAt_some

theorem room_of_none' {F : Fence} (hd : F.depth = none) (k : Nat) : F.room k := fun d h => by rw [hd] at h; cases h
theorem RoundIn.anyDepth' {F : Fence} (hd : F.depth = none) {m m' : Nat} {P : Program} {l : Nat} {f : FuncId} {tmps : Array Value} {assign body : Code} {w : World} {R : Ending → World → Prop}
    (h : RoundIn F m P l f tmps assign body w R) : RoundIn F m' P l f tmps assign body w R := ⟨h.1, fun c cs _ => h.2 c cs (room_of_none' hd _)⟩
theorem YieldAt.anyDepth' {F : Fence} (hd : F.depth = none) {m : Nat} (m' : Nat) {P : Program} {l : Nat} {args : Array Value} {W : World} {R : Ending → World → Prop} (h : YieldAt F m P l args W R) : YieldAt F m' P l args W R := by
  obtain ⟨fn, tmps, assign, body, hy, hR⟩ := h
  exact ⟨fn, tmps, assign, body, hy, RoundIn.anyDepth' hd hR⟩

section
variable {α : Type} (l : Nat) (N : Nat) (enc : α → Addr) (nm : α → Itm) (KK : World → Prop) (J Jx : List α → World → Prop)
/-- What a walk below a pointer gives: all of xs have come, or a front of them. -/
def WalkG (xs : List Itm) (pre : List α) (e : Ending) (W' : World) : Prop :=
  (e = .returned (.bool true) ∧ ∃ ys : List α, ys.map nm = xs ∧ J (pre ++ ys) W' ∧ KK W') ∨ (e = .returned (.bool false) ∧ ∃ ys : List α, ys.map nm <+: xs ∧ Jx (pre ++ ys) W')
/-- The items from place j on, with what the kids ahead of each give; the last kid's. -/
def segs (kf : Nat → List Itm) (its : List Itm) (j : Nat) : List Itm := (its.drop j).zipIdx j |>.flatMap fun p => kf p.2 ++ [p.1]
theorem segs_at (kf : Nat → List Itm) (its : List Itm) (j : Nat) (it : Itm) (h : its[j]? = some it) : segs kf its j = kf j ++ it :: segs kf its (j + 1) := by
  obtain ⟨hj, rfl⟩ := List.getElem?_eq_some_iff.1 h
  unfold segs
  rw [List.drop_eq_getElem_cons hj, List.zipIdx_cons, List.flatMap_cons]
  simp
theorem segs_end (kf : Nat → List Itm) (its : List Itm) : segs kf its its.length = [] := by simp [segs]
set_option maxRecDepth 100000 in
set_option maxHeartbeats 4000000 in
theorem walk_gen (_w0 : World) (b g c p : Nat) (hb : Bool) (its : List Itm) (lo : ByteArray) (kp : Nat → Option Addr) (kf : Nat → List Itm) (sl : Nat → α)
    (hJb : ∀ pre W W', J pre W → Below W.heap.size W W' → J pre W') (hKb : ∀ W W', KK W → Below W.heap.size W W' → KK W')
    (hc0 : ∀ W, KK W → W.cell? ⟨b, 0, none⟩ = some (.slice (some ⟨g, 0, none⟩) its.length c)) (hp : p ≤ its.length) (hlen : its.length ≤ 100)
    (hpl : ∀ W, KK W → Calls Tryz.prog 113 #[ptr b, .string lo] W fun e w' => e = .returned (.tuple #[.int .i64 p, .bool hb]) ∧ Below W.heap.size W w')
    (hkid : ∀ j W, j ≤ its.length → KK W → Calls Tryz.prog 103 #[ptr b, .int .i64 j] W fun e w' => e = .returned (.pointer (kp j)) ∧ w' = W)
    (hsl : ∀ j it, its[j]? = some it → nm (sl j) = it ∧ enc (sl j) = ⟨g, j * 2, none⟩)
    (hY : ∀ m pre x W, J pre W → KK W → pre.length < N → YieldAt Fence.wide m Tryz.prog l #[.pointer (some (enc x))] W fun e W' => (e = .returned (.bool true) ∧ J (pre ++ [x]) W' ∧ KK W') ∨ (e = .returned (.bool false) ∧ Jx (pre ++ [x]) W'))
    (hrec : ∀ j m pre W, j ≤ its.length → KK W → J pre W → pre.length + (kf j).length ≤ N → CallsIn Fence.wide m Tryz.prog 98 #[.pointer (kp j), .string lo, .func (.yield l) #[] #[]] W (WalkG nm KK J Jx (kf j) pre))
    (n : Nat) (pre : List α) (W : World) (hK : KK W) (hJ : J pre W) (hN : pre.length + (segs kf its p ++ kf its.length).length ≤ N) :
    CallsIn Fence.wide n Tryz.prog 98 #[ptr b, .string lo, .func (.yield l) #[] #[]] W (WalkG nm KK J Jx (segs kf its p ++ kf its.length) pre) := by
  have hdd : ∀ k : Nat, (Fence.wide.depth.isSome = true → 1 ≤ k) := fun k h => by cases h
  refine callsIn_of_wp Tryz.func98 rfl trivial ?_ rfl
  simp only [Tryz.ntmps98, List.size_toArray, List.length_cons, List.length_nil, Nat.reduceAdd, Nat.reduceSub, Array.replicate_succ, Array.replicate_zero, List.push_toArray, List.append_toArray, List.nil_append, List.cons_append]
  gi_wp2_with (refine ⟨trivial, hdd _, ?_⟩; gi_at_call 113; refine (callsIn_wide.2 (hpl W hK)).mono ?_; rintro e w1 ⟨rfl, hb1⟩)
  have hK1 := hKb _ _ hK hb1
  have hJ1 := hJb _ _ _ hJ hb1
  clear hK hJ hpl
  have HC0 := Hid.mk'' hc0
  have HREC := Hid.mk'' hrec
  have HKID := Hid.mk'' hkid
  have HY := Hid.mk'' hY
  have HSL := Hid.mk'' hsl
  have HE := Hid.mk'' (segs_end kf its)
  have HA := Hid.mk'' (segs_at kf its)
  clear hc0 hrec hkid hY hJb hKb hsl
  gi_loopw [7] (fun s7 wr => ∃ (j : Nat) (ys : List α), s7 = .int .i64 j ∧ p ≤ j ∧ j ≤ its.length ∧ Hid (ys.map nm ++ segs kf its j = segs kf its p) ∧ Hid (J (pre ++ ys) wr) ∧ Hid (KK wr)) (fun s7 _ => its.length - (intOf s7).toNat)
  case atStart => exact ⟨p, [], rfl, Nat.le_refl _, hp, by simp [Hid], by simpa [Hid] using hJ1, hK1⟩
  case round =>
    clear hJ1 hK1 hb1
    obtain ⟨j, ys, rfl, hpj, hjn, HS, HJ, HK⟩ := hrel
    have c0 := HC0.out _ HK.out
    by_cases hlt : j < its.length
    · obtain ⟨it, hit⟩ : ∃ it, its[j]? = some it := ⟨_, List.getElem?_eq_getElem hlt⟩
      obtain ⟨hnm, henc⟩ := HSL.out j it hit
      have hsj := HA.out j it hit
      have HN1 : Hid ((pre ++ ys).length + (kf j).length ≤ N ∧ (pre ++ ys).length + (kf j).length + 1 ≤ N) := by
        have h1 := congrArg List.length HS.out
        rw [hsj] at h1
        simp only [List.length_append, List.length_map, List.length_cons] at h1 hN ⊢
        exact ⟨by omega, by omega⟩
      have hkd := HKID.out j wr hjn HK.out
      have hrc := HREC.out j (n - 1) (pre ++ ys) wr hjn HK.out HJ.out HN1.out.1
      have hrc' := hrc.mono (R' := fun e w3 => (e = .returned (.bool true) ∧ ∃ zs : List α, Hid (zs.map nm = kf j) ∧ w3.cell? ⟨b, 0, none⟩ = some (.slice (some ⟨g, 0, none⟩) its.length c) ∧ YieldAt Fence.wide (n - 1) Tryz.prog l #[.pointer (some ⟨g, j * 2, none⟩)] w3 fun e W' => (e = .returned (.bool true) ∧ Hid (J (pre ++ (ys ++ zs ++ [sl j])) W') ∧ Hid (KK W')) ∨ (e = .returned (.bool false) ∧ Hid (Jx (pre ++ (ys ++ zs ++ [sl j])) W'))) ∨ (e = .returned (.bool false) ∧ ∃ zs : List α, Hid (zs.map nm <+: kf j) ∧ Hid (Jx (pre ++ (ys ++ zs)) w3)))
        (fun e w3 h => h.elim (fun ⟨he, zs, hz, hJ3, hK3⟩ => .inl ⟨he, zs, hz, HC0.out _ hK3, by
          have hy := HY.out (n - 1) (pre ++ ys ++ zs) (sl j) w3 hJ3 hK3 (by have h1 := congrArg List.length hz; have h2 := HN1.out.2; simp only [List.length_append, List.length_map] at h1 h2 ⊢; omega)
          rw [henc] at hy
          exact YieldAt.mono hy fun e W' h => h.elim (fun ⟨a, b, c⟩ => .inl ⟨a, by simpa [Hid, List.append_assoc] using b, c⟩) (fun ⟨a, b⟩ => .inr ⟨a, by simpa [Hid, List.append_assoc] using b⟩)⟩)
          (fun ⟨he, zs, hz, hX⟩ => .inr ⟨he, zs, hz, by simpa [Hid, List.append_assoc] using hX⟩))
      have HSJ := Hid.mk'' hsj
      have HNM := Hid.mk'' hnm
      clear hsj hnm hit hrc HREC HY HKID
      gi_wp2_with (first
        | (refine ⟨trivial, hdd _, ?_⟩; gi_at_call 103; refine (callsIn_wide.2 hkd).mono ?_; rintro e w2 ⟨rfl, rfl⟩)
        | (refine ⟨trivial, hdd _, ?_⟩; gi_at_call 98; refine hrc'.mono ?_; clear hrc'; rintro e w3 (⟨rfl, zs, hz, c3, fn, tmps, assign, body, hy, hR⟩ | ⟨rfl, zs, hz, hX3⟩))
        | ((try refine ⟨hdd _, ?_⟩); refine hR.mono ?_; clear hR; rintro e w4 (⟨rfl, hJ4, hK4⟩ | ⟨rfl, hX4⟩)))
      · go_roundw
        case rel =>
          refine ⟨j + 1, ys ++ zs ++ [sl j], by go_num, by omega, by omega, ?_, hJ4, hK4⟩
          show _ = _
          rw [← HS.out, HSJ.out]
          simp only [List.map_append, List.map_cons, List.map_nil, hz.out, HNM.out, List.append_assoc, List.cons_append, List.nil_append]
        case measure => simp [intOf]; omega
      · go_ret
        refine .inr ⟨rfl, ys ++ zs ++ [sl j], ?_, hX4⟩
        rw [← HS.out, HSJ.out]
        simp only [List.map_append, List.map_cons, List.map_nil, hz.out, HNM.out]
        exact ⟨segs kf its (j + 1) ++ kf its.length, by simp⟩
      · refine ⟨fun _ h => (by cases h), ?_⟩
        gi_wp2
        go_ret
        refine .inr ⟨rfl, ys ++ zs, ?_, hX3⟩
        rw [← HS.out, HSJ.out, List.map_append]
        obtain ⟨t, ht⟩ := hz.out
        exact ⟨t ++ it :: segs kf its (j + 1) ++ kf its.length, by rw [← ht]; simp⟩
    · obtain rfl : j = its.length := by omega
      have HN1 : Hid ((pre ++ ys).length + (kf its.length).length ≤ N) := by
        have h1 := congrArg List.length HS.out
        rw [HE.out] at h1
        simp only [List.length_append, List.length_map, List.length_nil] at h1 hN ⊢
        show pre.length + ys.length + (kf its.length).length ≤ N
        omega
      have hkd := HKID.out its.length wr (Nat.le_refl _) HK.out
      have hrc := HREC.out its.length (n - 1) (pre ++ ys) wr (Nat.le_refl _) HK.out HJ.out HN1.out
      clear HREC HY HKID
      gi_wp2_with (first
        | (refine ⟨trivial, hdd _, ?_⟩; gi_at_call 103; refine (callsIn_wide.2 hkd).mono ?_; rintro e w2 ⟨rfl, rfl⟩)
        | (refine ⟨trivial, hdd _, ?_⟩; gi_at_call 98; refine hrc.mono ?_; clear hrc; rintro e w3 (⟨rfl, zs, hz, hJ3, hK3⟩ | ⟨rfl, zs, hz, hX3⟩)))
      · go_ret
        refine .inl ⟨rfl, ys ++ zs, ?_, by simpa [List.append_assoc] using hJ3, hK3⟩
        rw [← HS.out, HE.out, List.map_append, hz, List.append_nil]
      · go_ret
        refine .inr ⟨rfl, ys ++ zs, ?_, by simpa [List.append_assoc] using hX3⟩
        rw [← HS.out, HE.out, List.map_append, List.append_nil]
        obtain ⟨t, ht⟩ := hz
        exact ⟨t, by rw [← ht]; simp⟩
end
end Go.Proofs.YtjdmgmnndfhmgaaGreat
/- walk, of a tree whose marks may change meanwhile. -/
namespace Go.Proofs.YtjdmgmnndfhmgaaGreat
open Go Go.RowKit Go.Shelf
attribute [local go_sem] Oper.semAt_some

/-- A row of items. -/
def is66 (w : World) (k : Nat) : Prop := ∃ cur, w.heap[k]? = some (.cells cur 151 (0, 0))
/-- All cells of the tree are as they were, but for marks. -/
def KpT (w0 : World) (F : List Nat) (W W' : World) : Prop := ∀ p : Addr, p.block ∈ F → ((is66 w0 p.block → p.off % 2 = 0) → W'.cell? p = W.cell? p) ∧ ((W.cell? p).isSome = true → (W'.cell? p).isSome = true)
theorem KpT.refl (w0 : World) (F : List Nat) (W : World) : KpT w0 F W W := fun _ _ => ⟨fun _ => rfl, id⟩
theorem KpT.trans {w0 : World} {F : List Nat} {A B C : World} (h : KpT w0 F A B) (k : KpT w0 F B C) : KpT w0 F A C := fun p hp => ⟨fun hq => ((k p hp).1 hq).trans ((h p hp).1 hq), fun hs => (k p hp).2 ((h p hp).2 hs)⟩
theorem KpT.of_block {w0 : World} {F : List Nat} {W W' : World} (h : ∀ k ∈ F, W'.heap[k]? = W.heap[k]?) : KpT w0 F W W' := fun p hp => by
  have := World.cell?_of_block (w := W) (w' := W') (a := p) (h p.block hp)
  exact ⟨fun _ => this, fun hs => by rw [this]; exact hs⟩

theorem plc_keys {a b : List Itm} (h : keysI a = keysI b) (key : ByteArray) : plc a key = plc b key := by
  have e : ∀ l : List Itm, plc l key = ((keysI l).takeWhile fun k => klt k key).length := fun l => by
    unfold plc keysI
    rw [(map_takeWhile'' Itm.key (fun k => klt k key) l)]
    simp
  rw [e, e, h]
where
  map_takeWhile'' {α β : Type} (f : α → β) (p : β → Bool) : ∀ l : List α, (l.map f).takeWhile p = (l.takeWhile (fun a => p (f a))).map f
    | [] => by simp
    | a :: l => by
      by_cases h : p (f a) = true
      · simp [h, map_takeWhile'' f p l]
      · simp [h]
/-- A node's cells, in a world where marks may have changed. -/
theorem Nod.skel {w0 W : World} {F : List Nat} {b : Nat} {iv kv : Value} {its : List Itm} {ks : List Nat} (hN : Nod w0 b iv kv its ks) (hF : ∀ k ∈ nf b iv kv, k ∈ F) (hK : KpT w0 F w0 W) :
    W.cell? ⟨b, 0, none⟩ = some iv ∧ W.cell? ⟨b, 1, none⟩ = some kv ∧ (∀ g c, kv = .slice (some ⟨g, 0, none⟩) ks.length c → ∀ j k, ks[j]? = some k → W.cell? ⟨g, j, none⟩ = some (ptr k)) ∧
    (∀ g c, iv = .slice (some ⟨g, 0, none⟩) its.length c → ∃ its', keysI its' = keysI its ∧ its'.length = its.length ∧ ItsAt W g its') := by
  have no66 : ¬ is66 w0 b := fun ⟨cur, h⟩ => by rw [hN.blk] at h; simp at h
  refine ⟨((hK ⟨b, 0, none⟩ (hF b (by simp [nf]))).1 (fun h => absurd h no66)).trans hN.c0, ((hK ⟨b, 1, none⟩ (hF b (by simp [nf]))).1 (fun h => absurd h no66)).trans hN.c1, fun g c hkv j k hj => ?_, fun g c hiv => ?_⟩
  · have hg : g ∈ F := hF g (by simp [nf, hkv, Value.ownBlock])
    have no : ¬ is66 w0 g := fun ⟨cur, h⟩ => by
      rcases hN.kids.2 with ⟨e, _⟩ | ⟨g', cap, cur', e, _, hh, _⟩
      · rw [hkv] at e; cases e
      · rw [hkv] at e; cases e; rw [hh] at h; simp at h
    exact ((hK ⟨g, j, none⟩ hg).1 (fun h => absurd h no)).trans (hN.kid hkv hj)
  · have hg : g ∈ F := hF g (by simp [nf, hiv, Value.ownBlock])
    refine ⟨its.zipIdx.map (fun p => ⟨p.1.key, (W.cell? ⟨g, p.2 * 2 + 1, none⟩).getD undef⟩), ?_, by simp, fun j it hj => ?_⟩
    · simp only [keysI, List.map_map]
      have : (Itm.key ∘ fun p : Itm × Nat => (⟨p.1.key, (W.cell? ⟨g, p.2 * 2 + 1, none⟩).getD undef⟩ : Itm)) = Itm.key ∘ Prod.fst := rfl
      rw [this, ← List.map_map, List.zipIdx_map_fst]
    · rw [List.getElem?_map, List.getElem?_zipIdx] at hj
      cases h0 : its[j]? with
      | none => rw [h0] at hj; simp at hj
      | some it0 =>
        rw [h0] at hj
        simp only [Option.map_some, Option.some.injEq, Nat.zero_add] at hj
        subst hj
        obtain ⟨e0, e1⟩ := hN.item hiv h0
        refine ⟨((hK ⟨g, j * 2, none⟩ hg).1 (fun _ => by show j * 2 % 2 = 0; omega)).trans e0, ?_⟩
        have := (hK ⟨g, j * 2 + 1, none⟩ hg).2 (by rw [e1]; rfl)
        obtain ⟨v, hv⟩ := Option.isSome_iff_exists.1 this
        show W.cell? _ = some ((W.cell? _).getD undef)
        rw [hv]; rfl
/-- The place of a key, there. -/
theorem place_skel {w0 W : World} {F : List Nat} {b : Nat} {iv kv : Value} {its : List Itm} {ks : List Nat} (hN : Nod w0 b iv kv its ks) (hF : ∀ k ∈ nf b iv kv, k ∈ F) (hK : KpT w0 F w0 W) (h1 : 1 ≤ its.length) (hn : its.length ≤ 1000) (hs : Asc (keysI its)) (key : ByteArray) :
    Calls Tryz.prog 113 #[ptr b, .string key] W fun e w' => e = .returned (.tuple #[.int .i64 (plc its key), .bool (hre its key)]) ∧ Below W.heap.size W w' := by
  obtain ⟨g, c, hiv, _, _⟩ := owns_form1 hN.items h1
  obtain ⟨k0, _, _, k3⟩ := hN.skel hF hK
  obtain ⟨its', e1, e2, e3⟩ := k3 g c hiv
  rw [hiv, ← e2] at k0
  have := place_any b g c its' key W k0 e3 (by rw [e1]; exact hs) (by omega)
  have hp := plc_keys e1 key
  have hh : hre its' key = hre its key := by
    unfold hre
    rw [hp]
    have hk : (keysI its')[plc its key]? = (keysI its)[plc its key]? := by rw [e1]
    simp only [keysI, List.getElem?_map] at hk
    cases h1 : its'[plc its key]? <;> cases h2 : its[plc its key]? <;> simp [h1, h2] at hk ⊢
    rw [hk]
  rw [hp, hh] at this
  exact this
def filt (lo : ByteArray) (L : List Itm) : List Itm := L.filter fun it => !klt it.key lo
theorem filt_append (lo : ByteArray) (a b : List Itm) : filt lo (a ++ b) = filt lo a ++ filt lo b := by simp [filt]
theorem filt_none {lo : ByteArray} {L : List Itm} (h : ∀ x ∈ L, klt x.key lo = true) : filt lo L = [] := by
  unfold filt; rw [List.filter_eq_nil_iff]; intro x hx; simp [h x hx]
theorem filt_all {lo : ByteArray} {L : List Itm} (h : ∀ x ∈ L, klt x.key lo = false) : filt lo L = L := by
  unfold filt; rw [List.filter_eq_self]; intro x hx; simp [h x hx]
/-- What the kid at a place gives. -/
def kfOf (lo : ByteArray) (ks : List KidD) (j : Nat) : List Itm := ((ks[j]?).map fun k => filt lo k.L).getD []
def kpOf (ks : List KidD) (j : Nat) : Option Addr := (ks[j]?).map fun k => ⟨k.b, 0, none⟩
theorem segs_rest (lo : ByteArray) (ks : List KidD) (its : List Itm) (hl : ks.length = its.length + 1) : ∀ (D : List Itm) (j : Nat), its.drop j = D → j ≤ its.length → (∀ d ∈ D, klt d.key lo = false) → filt lo (weave (ks.drop j) D) = segs (kfOf lo ks) its j ++ kfOf lo ks its.length
  | [], j, hD, hj, _ => by
    have hjn : j = its.length := by have := congrArg List.length hD; simp at this; omega
    subst hjn
    obtain ⟨k, hk⟩ : ∃ k, ks[its.length]? = some k := ⟨_, List.getElem?_eq_getElem (by omega)⟩
    have hd : ks.drop its.length = [k] := by
      rw [List.drop_eq_getElem_cons (by omega), List.drop_eq_nil_of_le (by omega)]
      rw [List.getElem?_eq_getElem (by omega)] at hk
      simp at hk; rw [hk]
    rw [hd, segs_end]
    simp [weave, suf, kfOf, hk]
  | d :: D, j, hD, hj, hlo => by
    have hjn : j < its.length := by have := congrArg List.length hD; simp at this; omega
    have hd0 : its[j]? = some d := by
      have := congrArg (fun l => l[0]?) hD
      simpa using this
    have hD' : its.drop (j + 1) = D := by
      have := congrArg List.tail hD
      simpa using this
    obtain ⟨k, hk⟩ : ∃ k, ks[j]? = some k := ⟨_, List.getElem?_eq_getElem (by omega)⟩
    have hdk : ks.drop j = k :: ks.drop (j + 1) := by
      rw [List.drop_eq_getElem_cons (by omega)]
      rw [List.getElem?_eq_getElem (by omega)] at hk
      simp at hk; rw [hk]
    have ih := segs_rest lo ks its hl D (j + 1) hD' (by omega) (fun e he => hlo e (by simp [he]))
    rw [hdk, weave_cons _ _ _ _ (by intro e; have := congrArg List.length e; simp at this; omega), filt_append, segs_at _ _ _ d hd0]
    have hcons : filt lo (d :: weave (ks.drop (j + 1)) D) = d :: filt lo (weave (ks.drop (j + 1)) D) := by simp [filt, hlo d (by simp)]
    rw [hcons, ih]
    simp [kfOf, hk]
theorem segs_weave (lo : ByteArray) (ks : List KidD) (its : List Itm) (hl : ks.length = its.length + 1) (ha : Asc (keysI (weave ks its))) : segs (kfOf lo ks) its (plc its lo) ++ kfOf lo ks its.length = filt lo (weave ks its) := by
  have hai : Asc (keysI its) := asc_sublist ((weave_sublist ks its hl).map _) ha
  have hp := plc_le its lo
  rw [← segs_rest lo ks its hl _ (plc its lo) rfl hp (fun d hd => by
    obtain ⟨j, hj⟩ := List.getElem?_of_mem hd
    rw [List.getElem?_drop] at hj
    exact plc_ge hai (Nat.le_add_right _ _) hj)]
  obtain ⟨A, k, B, rfl, hAC, hBD, hAp, hw, hX, _⟩ := parted (key := lo) hl ha
  rw [hw, filt_append, filt_append, filt_none hX]
  have hd : (A ++ k :: B).drop (plc its lo) = k :: B := by rw [← hAp]; simp
  rw [hd]
  simp [weave, filt_append]
theorem segs_leaf (lo : ByteArray) (its : List Itm) (ha : Asc (keysI its)) : segs (kfOf lo []) its (plc its lo) ++ kfOf lo [] its.length = filt lo its := by
  have h1 : ∀ j, segs (kfOf lo []) its j = its.drop j := fun j => by
    unfold segs
    have : ∀ (l : List Itm) (i : Nat), (l.zipIdx i).flatMap (fun p => kfOf lo [] p.2 ++ [p.1]) = l := fun l => by
      induction l with
      | nil => intro i; rfl
      | cons a l ih => intro i; rw [List.zipIdx_cons, List.flatMap_cons, ih]; simp [kfOf]
    exact this _ _
  rw [h1]
  have e : filt lo its = its.drop (plc its lo) := by
    conv => lhs; rw [← List.take_append_drop (plc its lo) its]
    rw [filt_append, filt_none (fun x hx => ?_), filt_all (fun x hx => ?_), List.nil_append]
    · obtain ⟨j, hj⟩ := List.getElem?_of_mem hx
      rw [List.getElem?_drop] at hj
      exact plc_ge ha (Nat.le_add_right _ _) hj
    · obtain ⟨j, hj⟩ := List.getElem?_of_mem hx
      rw [List.getElem?_take] at hj
      split at hj
      · exact plc_lt ‹_› hj
      · cases hj
  rw [e]; simp [kfOf]
end Go.Proofs.YtjdmgmnndfhmgaaGreat
/- Where an item lies, by the way to it. -/
namespace Go.Proofs.YtjdmgmnndfhmgaaGreat
open Go Go.RowKit

/-- The i-th item of the row at g lies below the node b. -/
def Loc (w : World) : Nat → Nat → Nat → Nat → Prop
  | 0, b, g, i => ∃ n c, w.cell? ⟨b, 0, none⟩ = some (.slice (some ⟨g, 0, none⟩) n c) ∧ i < n
  | h + 1, b, g, i => (∃ n c, w.cell? ⟨b, 0, none⟩ = some (.slice (some ⟨g, 0, none⟩) n c) ∧ i < n) ∨ ∃ kg n c j k, w.cell? ⟨b, 1, none⟩ = some (.slice (some ⟨kg, 0, none⟩) n c) ∧ j < n ∧ w.cell? ⟨kg, j, none⟩ = some (ptr k) ∧ Loc w h k g i
theorem Loc.own {w : World} {h b g i n c : Nat} (h0 : w.cell? ⟨b, 0, none⟩ = some (.slice (some ⟨g, 0, none⟩) n c)) (hi : i < n) : Loc w h b g i := by
  cases h with
  | zero => exact ⟨n, c, h0, hi⟩
  | succ h => exact .inl ⟨n, c, h0, hi⟩
theorem Loc.kid {w : World} {h b : Nat} {iv kv : Value} {its : List Itm} {gk : List KidD} (hN : Nod w b iv kv its (gk.map KidD.b)) {k : KidD} (hk : k ∈ gk) {g i : Nat} (hl : Loc w h k.b g i) : Loc w (h + 1) b g i := by
  obtain ⟨j, hj, rfl⟩ := List.getElem_of_mem hk
  obtain ⟨kg, kc, hkv, _, _⟩ := owns_form1 hN.kids (by simp; omega)
  have h1 := hN.c1
  rw [hkv] at h1
  exact .inr ⟨kg, _, kc, j, _, h1, by simpa using hj, hN.kid hkv (j := j) (k := gk[j].b) (by simp [List.getElem?_eq_getElem hj]), hl⟩
/-- The way stays where marks alone may have changed. -/
theorem Loc.keep {w W : World} : ∀ {h b : Nat} {its L : List Itm} {F F' : List Nat}, Tre w h b its L F' → (∀ k ∈ F', k ∈ F) → KpT w F w W → ∀ {g i : Nat}, Loc w h b g i → Loc W h b g i
  | 0, b, its, L, F, F', ht, hF, hK, g, i, ⟨n, c, h0, hi⟩ => by
    obtain ⟨iv, kv, ks, hN, hsub, _⟩ := ht.nod
    have h2 := (hN.skel (fun k hk => hF k (hsub k hk)) hK).1
    rw [hN.c0] at h0
    exact ⟨n, c, h2.trans h0, hi⟩
  | h + 1, b, its, L, F, F', ht, hF, hK, g, i, hl => by
    obtain ⟨iv, kv, gk, hN, hg, rfl, rfl⟩ := ht.open_
    obtain ⟨h2, h3, h4, _⟩ := hN.skel (fun k hk => hF k (List.mem_append_left _ hk)) hK
    rcases hl with ⟨n, c, h0, hi⟩ | ⟨kg, n, c, j, k, h1, hj, hk, hl⟩
    · rw [hN.c0] at h0
      exact .inl ⟨n, c, h2.trans h0, hi⟩
    · rw [hN.c1] at h1
      have e : kv = .slice (some ⟨kg, 0, none⟩) n c := by simpa using h1
      obtain ⟨p, c', hkv, _, _⟩ := owns_form hN.kids
      have hn : n = gk.length := by rw [e] at hkv; simp at hkv; exact hkv.2.1
      have hjl : j < gk.length := by omega
      have e' : kv = .slice (some ⟨kg, 0, none⟩) (gk.map KidD.b).length c := by rw [e, hn]; simp
      have hkk := hN.kid e' (j := j) (k := gk[j].b) (by simp [List.getElem?_eq_getElem hjl])
      rw [hkk] at hk
      have ek : gk[j].b = k := by simpa using hk
      subst ek
      refine .inr ⟨kg, n, c, j, gk[j].b, h3.trans h1, hj, h4 kg c e' j gk[j].b (by simp [List.getElem?_eq_getElem hjl]), ?_⟩
      exact Loc.keep (hg.2 gk[j] (List.getElem_mem hjl)).1 (fun x hx => hF x (List.mem_append_right _ (List.mem_flatMap.2 ⟨_, List.getElem_mem hjl, hx⟩))) hK hl
theorem slot_own {w : World} {h b : Nat} {its L : List Itm} {F : List Nat} (ht : Tre w h b its L F) (hnd : F.Nodup) {g i n c : Nat} (h0 : w.cell? ⟨b, 0, none⟩ = some (.slice (some ⟨g, 0, none⟩) n c)) (hi : i < n) : ∃ it, Slot w h b its.length L F g i it := by
  obtain ⟨iv, kv, ks, hN, _, _⟩ := ht.nod
  obtain ⟨p, c', hiv, _, _⟩ := owns_form hN.items
  have e : iv = .slice (some ⟨g, 0, none⟩) n c := by have := hN.c0; rw [this] at h0; simpa using h0
  have hn : n = its.length := by rw [e] at hiv; cases hiv; rfl
  obtain ⟨g', c2, ⟨n', h1, _⟩, hs⟩ := Slot.own ht hnd (i := i) (it := its[i]'(by omega)) (by simp)
  rw [h1] at h0
  have e2 : g' = g := by simp at h0; exact h0.1
  subst e2
  exact ⟨_, hs⟩
theorem Slot.of_loc {w : World} : ∀ {h b : Nat} {its L : List Itm} {F : List Nat}, Tre w h b its L F → F.Nodup → ∀ {g i : Nat}, Loc w h b g i → ∃ it, Slot w h b its.length L F g i it
  | 0, _, _, _, _, ht, hnd, _, _, ⟨_, _, h0, hi⟩ => slot_own ht hnd h0 hi
  | h + 1, b, its, L, F, ht, hnd, g, i, hl => by
    rcases hl with ⟨n, c, h0, hi⟩ | ⟨kg, n, c, j, k, h1, hj, hk, hl⟩
    · exact slot_own ht hnd h0 hi
    · obtain ⟨iv, kv, gk, hN, hg, rfl, rfl⟩ := ht.open_
      have e : kv = .slice (some ⟨kg, 0, none⟩) n c := by have := hN.c1; rw [this] at h1; simpa using h1
      obtain ⟨p, c', hkv, _, _⟩ := owns_form hN.kids
      have hn : n = gk.length := by rw [e] at hkv; simp at hkv; exact hkv.2.1
      have hjl : j < gk.length := by omega
      have hgk : gk[j]? = some gk[j] := List.getElem?_eq_getElem hjl
      have hkk := hN.kid (g := kg) (c := c) (by rw [e, hn]; simp) (j := j) (k := gk[j].b) (by simp [hgk])
      rw [hkk] at hk
      have ek : gk[j].b = k := by simpa using hk
      subst ek
      obtain ⟨hp1, _⟩ := getElem_part hgk
      have hgl := hg.1
      have hkt := (hg.2 gk[j] (List.getElem_mem hjl)).1
      have hkF : (gk[j]).F.Nodup := by
        have h2 := (List.nodup_append.1 hnd).2.1
        rw [hp1, List.flatMap_append, List.flatMap_cons] at h2
        exact (List.nodup_append.1 (List.nodup_append.1 h2).2.1).1
      obtain ⟨it, hs⟩ := Slot.of_loc hkt hkF hl
      generalize gk[j] = x at *
      rw [hp1] at hN hg hnd ⊢
      exact ⟨it, Slot.kid (C := its.take j) (D := its.drop j) (List.take_append_drop _ _).symm (by simp; omega) hN hg hnd hs⟩
end Go.Proofs.YtjdmgmnndfhmgaaGreat
/- walk, by induction; from. -/
namespace Go.Proofs.YtjdmgmnndfhmgaaGreat
open Go Go.RowKit Go.Shelf
attribute [local go_sem] Oper.semAt_some

/-- An item's place in a tree. -/
structure SlotA (w0 : World) (h b n : Nat) (L : List Itm) (F : List Nat) where
  g : Nat
  i : Nat
  it : Itm
  ok : Slot w0 h b n L F g i it
  loc : Loc w0 h b g i
abbrev encA {w0 : World} {h b n : Nat} {L : List Itm} {F : List Nat} (x : SlotA w0 h b n L F) : Addr := ⟨x.g, x.i * 2, none⟩

set_option maxRecDepth 100000 in
set_option maxHeartbeats 1000000 in
theorem walk_nil (l : Nat) (lo : ByteArray) (n : Nat) (W : World) : CallsIn Fence.wide n Tryz.prog 98 #[.pointer none, .string lo, .func (.yield l) #[] #[]] W fun e W' => e = .returned (.bool true) ∧ W' = W := by
  refine callsIn_of_wp Tryz.func98 rfl trivial ?_ rfl
  simp only [Tryz.ntmps98, List.size_toArray, List.length_cons, List.length_nil, Nat.reduceAdd, Nat.reduceSub, Array.replicate_succ, Array.replicate_zero, List.push_toArray, List.append_toArray, List.nil_append, List.cons_append]
  gi_wp2
  go_ret
  exact ⟨rfl, rfl⟩
def KKT (w0 : World) (F : List Nat) (W : World) : Prop := KpT w0 F w0 W ∧ w0.heap.size ≤ W.heap.size
theorem KKT.below {w0 : World} {F : List Nat} (hF : ∀ k ∈ F, k < w0.heap.size) {W W' : World} (h : KKT w0 F W) (hb : Below W.heap.size W W') : KKT w0 F W' :=
  ⟨h.1.trans (KpT.of_block fun k hk => hb.block k (Nat.lt_of_lt_of_le (hF k hk) h.2)), Nat.le_trans h.2 hb.size⟩
section
variable {w0 : World} {hT bT nT : Nat} {LT : List Itm} {F : List Nat} (l N : Nat) (lo : ByteArray) (J Jx : List (SlotA w0 hT bT nT LT F) → World → Prop)
  (hJb : ∀ pre W W', J pre W → Below W.heap.size W W' → J pre W') (hFl : ∀ k ∈ F, k < w0.heap.size)
  (hY : ∀ m pre x W, J pre W → KKT w0 F W → pre.length < N → YieldAt Fence.wide m Tryz.prog l #[.pointer (some (encA x))] W fun e W' => (e = .returned (.bool true) ∧ J (pre ++ [x]) W' ∧ KKT w0 F W') ∨ (e = .returned (.bool false) ∧ Jx (pre ++ [x]) W'))
include hJb hFl hY
theorem walk_node {h b : Nat} {its L : List Itm} {F' : List Nat} {iv kv : Value} {g : List KidD} (ht : Tre w0 h b its L F') (hN : Nod w0 b iv kv its (g.map KidD.b)) (hg : Good w0 h its.length g) (hL : L = lv h g its) (hF : F' = ff b iv kv g) (hFF : ∀ k ∈ F', k ∈ F)
    (hsl : ∀ g i it, Slot w0 h b its.length L F' g i it → Loc w0 h b g i → Slot w0 hT bT nT LT F g i it ∧ Loc w0 hT bT g i) (hnd : F'.Nodup) (ha : Asc (keysI L)) (h1 : 1 ≤ its.length) (h5 : its.length ≤ 5)
    (hrec : ∀ k ∈ g, ∀ n pre W, KKT w0 F W → J pre W → pre.length + (filt lo k.L).length ≤ N → CallsIn Fence.wide n Tryz.prog 98 #[ptr k.b, .string lo, .func (.yield l) #[] #[]] W (WalkG (fun x => x.it) (KKT w0 F) J Jx (filt lo k.L) pre))
    (n : Nat) (pre : List (SlotA w0 hT bT nT LT F)) (W : World) (hK : KKT w0 F W) (hJ : J pre W) (hN2 : pre.length + (filt lo L).length ≤ N) :
    CallsIn Fence.wide n Tryz.prog 98 #[ptr b, .string lo, .func (.yield l) #[] #[]] W (WalkG (fun x => x.it) (KKT w0 F) J Jx (filt lo L) pre) := by
  have hnF : ∀ k ∈ nf b iv kv, k ∈ F := fun k hk => hFF k (by rw [hF]; exact List.mem_append_left _ hk)
  obtain ⟨gi, c, hiv, _, _⟩ := owns_form1 hN.items h1
  have hai := ht.asc ha
  have hsj : ∀ j, ∃ x : SlotA w0 hT bT nT LT F, ∀ it, its[j]? = some it → x.it = it ∧ encA x = ⟨gi, j * 2, none⟩ := fun j => by
    have hmk : ∀ j it, its[j]? = some it → ∃ x : SlotA w0 hT bT nT LT F, x.it = it ∧ encA x = ⟨gi, j * 2, none⟩ := fun j it hj => by
      obtain ⟨g', c', ⟨m, hc, hm⟩, hs⟩ := Slot.own ht hnd hj
      have hl : Loc w0 h b g' j := Loc.own hc (by rw [hm]; exact (List.getElem?_eq_some_iff.1 hj).1)
      have := hN.c0
      rw [hc, hiv] at this
      cases this
      exact ⟨⟨_, j, it, (hsl _ _ _ hs hl).1, (hsl _ _ _ hs hl).2⟩, rfl, rfl⟩
    by_cases hj : j < its.length
    · obtain ⟨x, q1, q2⟩ := hmk j _ (List.getElem?_eq_getElem hj)
      exact ⟨x, fun it h => by rw [List.getElem?_eq_getElem hj] at h; cases h; exact ⟨q1, q2⟩⟩
    · obtain ⟨x, _, _⟩ := hmk 0 _ (List.getElem?_eq_getElem (by omega))
      exact ⟨x, fun it h => by rw [List.getElem?_eq_none (by omega)] at h; cases h⟩
  have hfl : segs (kfOf lo g) its (plc its lo) ++ kfOf lo g its.length = filt lo L := by
    rw [hL] at ha ⊢
    cases h with
    | zero =>
      obtain rfl : g = [] := hg
      exact segs_leaf lo its ha
    | succ h => exact segs_weave lo g its hg.1 ha
  rw [← hfl] at hN2 ⊢
  refine walk_gen l N encA (fun x => x.it) (KKT w0 F) J Jx w0 b gi c (plc its lo) (hre its lo) its lo (kpOf g) (kfOf lo g) (fun j => Classical.choose (hsj j)) hJb (fun W W' h hb => h.below hFl hb) (fun W h => ?_) (plc_le its lo) (by omega)
    (fun W h => place_skel hN hnF h.1 h1 (by omega) hai lo) (fun j W hj h => ?_) (fun j it hj => Classical.choose_spec (hsj j) it hj) hY (fun j m pre W hj h hJ hn => ?_) n pre W hK hJ hN2
  · rw [← hiv]; exact (hN.skel hnF h.1).1
  · obtain ⟨_, k1, k2, _⟩ := hN.skel hnF h.1
    rcases hg.zero with rfl | hgl
    · obtain ⟨p, c', hkv, _⟩ := owns_form hN.kids
      rw [hkv] at k1
      exact kid_leaf b c' j p W k1
    · obtain ⟨kg, c', hkv, _⟩ := owns_form1 hN.kids (by simp; omega)
      obtain ⟨k, hk⟩ : ∃ k, g[j]? = some k := ⟨_, List.getElem?_eq_getElem (by omega)⟩
      rw [hkv] at k1
      have := kid_in b kg _ c' j k.b W k1 (by simp; omega) (k2 kg c' hkv j k.b (by simp [hk]))
      simpa [kpOf, hk] using this
  · rcases hg.zero with rfl | hgl
    · refine (walk_nil l lo m W).mono ?_
      rintro e W' ⟨rfl, rfl⟩
      exact .inl ⟨rfl, [], rfl, by simpa using hJ, h⟩
    · obtain ⟨k, hk⟩ : ∃ k, g[j]? = some k := ⟨_, List.getElem?_eq_getElem (by omega)⟩
      have hkf : kfOf lo g j = filt lo k.L := by simp [kfOf, hk]
      have hkp : kpOf g j = some ⟨k.b, 0, none⟩ := by simp [kpOf, hk]
      rw [hkf] at hn ⊢
      rw [hkp]
      exact hrec k (List.mem_of_getElem? hk) m pre W h hJ hn
theorem walk_tre : ∀ (h b : Nat) (its L : List Itm) (F' : List Nat), Tre w0 h b its L F' → (∀ k ∈ F', k ∈ F) → (∀ g i it, Slot w0 h b its.length L F' g i it → Loc w0 h b g i → Slot w0 hT bT nT LT F g i it ∧ Loc w0 hT bT g i) → F'.Nodup → Asc (keysI L) → 1 ≤ its.length → its.length ≤ 5 →
    ∀ (n : Nat) (pre : List (SlotA w0 hT bT nT LT F)) (W : World), KKT w0 F W → J pre W → pre.length + (filt lo L).length ≤ N →
      CallsIn Fence.wide n Tryz.prog 98 #[ptr b, .string lo, .func (.yield l) #[] #[]] W (WalkG (fun x => x.it) (KKT w0 F) J Jx (filt lo L) pre) := by
  intro h
  induction h with
  | zero =>
    intro b its L F' ht hFF hsl hnd ha h1 h5
    obtain ⟨iv, kv, g, hN, hg, hL, hF⟩ := ht.open_
    exact walk_node l N lo J Jx hJb hFl hY ht hN hg hL hF hFF hsl hnd ha h1 h5 (fun k hk => by obtain rfl : g = [] := hg; cases hk)
  | succ h ih =>
    intro b its L F' ht hFF hsl hnd ha h1 h5
    obtain ⟨iv, kv, g, hN, hg, hL, hF⟩ := ht.open_
    refine walk_node l N lo J Jx hJb hFl hY ht hN hg hL hF hFF hsl hnd ha h1 h5 (fun k hk => ?_)
    obtain ⟨A, B, rfl⟩ := List.append_of_mem hk
    have hgk := hg.2 k hk
    have hAl : A.length ≤ its.length := by have := hg.1; simp at this; omega
    have hw := weave_split A k B (its.take A.length) (its.drop A.length) (by rw [List.length_take]; omega)
    rw [List.take_append_drop] at hw
    subst hL hF
    refine ih k.b k.its k.L k.F hgk.1 (fun j hj => hFF j (List.mem_append_right _ (List.mem_flatMap.2 ⟨k, hk, hj⟩))) (fun g' i it hs hl => hsl g' i it ?_ (Loc.kid hN hk hl)) ?_ ?_ (by omega) (by omega)
    · exact Slot.kid (C := its.take A.length) (D := its.drop A.length) (by rw [List.take_append_drop]) (by rw [List.length_take]; omega) hN hg hnd hs
    · have hnd' := hnd
      simp only [ff, List.flatMap_append, List.flatMap_cons, List.nodup_append] at hnd'
      exact hnd'.2.1.2.1.1
    · have ha' : Asc (keysI (weave (A ++ k :: B) its)) := ha
      rw [hw] at ha'
      simp only [keysI, List.map_append, asc_append] at ha'
      exact ha'.1.2.1
end
end Go.Proofs.YtjdmgmnndfhmgaaGreat
/- strings.Clone. -/
namespace Go.Proofs.YtjdmgmnndfhmgaaGreat
open Go Go.RowKit
theorem info5 : (Tryz.prog.info? 5).map (fun i => (i.zero, i.size, i.bytes)) = some (some (.int .u8 0), 1, 1) := by kernel_rfl
theorem size5 : (Tryz.prog.info? 5).map (·.size) = some 1 := by kernel_rfl
theorem cells5 : Tryz.prog.cellsOf 5 = 1 := by kernel_rfl
set_option maxRecDepth 100000 in
set_option maxHeartbeats 1000000 in
theorem slite_clone (s : ByteArray) (w : World) (h0 : 1 ≤ s.size) (h1 : s.size ≤ 1000000) :
    Calls Tryz.prog 62 #[.string s] w fun e w' => e = .returned (.string s) ∧ Below w.heap.size w w' := by
  obtain ⟨i0, hi, hz0, hz1, hz2⟩ := info_parts info5
  obtain ⟨cur, hcur, hmk⟩ : ∃ cur : Array Value, cur.size = s.size ∧ (Instr.makeSlice 153 (.int .i64 s.size) (.int .i64 s.size)).run Tryz.prog w = .ok (.slice (some ⟨w.heap.size, 0, none⟩) s.size s.size) (w.alloc (.cells cur 5)) := by
    have := run_make (P := Tryz.prog) w 153 5 i0 (.int .u8 0) Tryz.underlying153 hi hz0 .i64 .i64 s.size s.size (by omega) (by omega) (by rw [hz2]; omega) (by omega)
    simp only [Int.toNat_natCast] at this
    refine ⟨_, ?_, this⟩
    rw [size_madeCells, hz1]; simp
  have hg : (w.alloc (.cells cur 5)).heap[w.heap.size]? = some (.cells cur 5 (0, 0)) := heap_alloc_new w _
  have hsl : s.data.toList.length = s.size := by rw [Array.length_toList]; rfl
  have hcp := fun ty => Lib.run_copy_row_string (P := Tryz.prog) (w.alloc (.cells cur 5)) 153 9 ty 5 w.heap.size 0 s.size s.size s cur 5 Tryz.underlying153 size5 hg (Nat.le_refl _) (by omega)
  simp only [List.take_zero, List.nil_append, Nat.zero_add] at hcp
  rw [List.drop_of_length_le (by rw [Array.length_toList]; omega), List.append_nil] at hcp
  have hg2 : ((w.alloc (.cells cur 5)).setRow w.heap.size (Lib.byteCells s.data.toList).toArray).heap[w.heap.size]? = some (.cells (Lib.byteCells s.data.toList).toArray 5 (0, 0)) := setRow_heap _ _ cur _ 5 _ hg
  have hun := fun ty => Lib.run_unsafeString_row (P := Tryz.prog) ((w.alloc (.cells cur 5)).setRow w.heap.size (Lib.byteCells s.data.toList).toArray) 154 3 ty 5 Tryz.underlying154 cells5 w.heap.size s.size (by
      unfold World.shape?; rw [hg2]; show some (_, _) = _; rw [List.size_toArray, Lib.byteCells_length, hsl]) s.data.toList (by intro e; rw [e] at hsl; simp at hsl; omega) (by omega) (by omega) (fun j x hj => by
      rw [Addr.add_lit, cell_of_row _ _ _ _ _ _ hg2]
      simp only [Lib.byteCells, List.getElem?_toArray, Nat.zero_add, List.getElem?_map, hj, Option.map_some])
  rw [hsl] at hun
  generalize hW1 : w.alloc (.cells cur 5) = W1 at *
  generalize hW2 : W1.setRow w.heap.size (Lib.byteCells s.data.toList).toArray = W2 at *
  have hb2 : Below w.heap.size w W2 := by
    rw [← hW2, ← hW1]
    refine ((Below.refl _ _).alloc (Nat.le_refl _) _).trans ⟨rfl, rfl, rfl, by simp, fun k hk => setRow_other _ _ k _ (by omega)⟩
  have HB := Hid.mk'' (Lib.below_freeze hb2 (p := ⟨w.heap.size, 0, none⟩) (Nat.le_refl _) s.size)
  clear hb2 hW1 hW2 hg hg2 hcur hsl hz0 hz1 hz2 hi
  go_enter Tryz.func62, Tryz.ntmps62
  go_wp2
  go_ret
  exact ⟨rfl, HB.out⟩
set_option maxRecDepth 100000 in
set_option maxHeartbeats 1000000 in
theorem sclone (s : ByteArray) (w : World) (h0 : 1 ≤ s.size) (h1 : s.size ≤ 1000000) :
    Calls Tryz.prog 45 #[.string s] w fun e w' => e = .returned (.string s) ∧ Below w.heap.size w w' := by
  go_enter Tryz.func45, Tryz.ntmps45
  go_wp2_with (go_at_call 62; refine (slite_clone _ _ h0 h1).mono ?_; rintro e w' ⟨rfl, hb⟩)
  go_ret
  exact ⟨rfl, hb⟩
end Go.Proofs.YtjdmgmnndfhmgaaGreat
/- Put: its walk. -/
namespace Go.Proofs.YtjdmgmnndfhmgaaGreat
open Go Go.RowKit

def PutPost (w w' : World) (x : Nat) (R : List IM) (F : List Nat) (key : ByteArray) (rev : Int) (del : Bool) : Prop :=
  ∃ R' F', Ix w' x R' F' ∧ dat R' = putD (dat R) key rev del ∧ Step w w' F F'
theorem PutPost.same {w w' : World} {x : Nat} {R : List IM} {F : List Nat} {key : ByteArray} {rev : Int} {del : Bool} (H : Ix w x R F) (hb : Below w.heap.size w w') (he : putE (dat R) key rev del ≠ 0) : PutPost w w' x R F key rev del :=
  ⟨R, F, H.below hb, by simp [putD, he], Step.below hb H.nd H.lt⟩
theorem lookR_none {R : List IM} {key : ByteArray} (h : key ∉ keysR R) : lookD (dat R) key = none := lookD_none (by rw [dat_keys]; exact h)
theorem At.look {w : World} {x : Nat} {R : List IM} {F : List Nat} {key : ByteArray} {g i mg c : Nat} {X Z : List IM} {ms : List Mk} (h : At w x R F key g i mg c X Z ms) (ha : Asc (keysR R)) : lookD (dat R) key = some ms := by
  rw [h.parts] at ha ⊢
  have : dat (X ++ ⟨⟨key, .slice (some ⟨mg, 0, none⟩) ms.length c⟩, ms⟩ :: Z) = dat X ++ (key, ms) :: dat Z := by simp [dat]
  rw [this]
  refine lookD_at ?_
  rw [← dat_keys, this] at ha
  exact ha
theorem At.set {w : World} {x : Nat} {R : List IM} {F : List Nat} {key : ByteArray} {g i mg c : Nat} {X Z : List IM} {ms : List Mk} (h : At w x R F key g i mg c X Z ms) (ha : Asc (keysR R)) (v' : Value) (ms' : List Mk) : dat (X ++ ⟨⟨key, v'⟩, ms'⟩ :: Z) = setD (dat R) key ms' := by
  rw [h.parts] at ha ⊢
  have : dat (X ++ ⟨⟨key, .slice (some ⟨mg, 0, none⟩) ms.length c⟩, ms⟩ :: Z) = dat X ++ (key, ms) :: dat Z := by simp [dat]
  rw [this, setD_at (by rw [← dat_keys, this] at ha; exact ha)]
  simp [dat]
theorem At.in {w : World} {x : Nat} {R : List IM} {F : List Nat} {key : ByteArray} {g i mg c : Nat} {X Z : List IM} {ms : List Mk} (h : At w x R F key g i mg c X Z ms) : key ∈ keysR R := by rw [h.parts]; simp [keysR]
/-- find where the key is not there. -/
theorem find_no {w : World} {x : Nat} {R : List IM} {F : List Nat} (H : Ix w x R F) {key : ByteArray} (hk : key ∉ keysR R) {rp : Option Addr} (hrp : w.cell? ⟨x, 0, none⟩ = some (.pointer rp)) :
    Calls Tryz.prog 95 #[.pointer rp, .string key] w fun e w' => e = .returned (.pointer none) ∧ Below w.heap.size w w' := by
  refine (find_ix H key hrp w (Below.refl _ _)).mono ?_
  rintro e w' ⟨hb, ⟨rfl, _⟩ | ⟨g, i, mg, c, X, Z, ms, rfl, hA, _⟩⟩
  · exact ⟨rfl, hb⟩
  · exact absurd hA.in hk
/-- find where it is. -/
theorem find_yes {w : World} {x : Nat} {R : List IM} {F : List Nat} (H : Ix w x R F) {key : ByteArray} {ms : List Mk} (hk : lookD (dat R) key = some ms) {rp : Option Addr} (hrp : w.cell? ⟨x, 0, none⟩ = some (.pointer rp)) :
    Calls Tryz.prog 95 #[.pointer rp, .string key] w fun e w' => ∃ g i mg c X Z, e = .returned (.pointer (some ⟨g, i * 2, none⟩)) ∧ Below w.heap.size w w' ∧ Hid (At w x R F key g i mg c X Z ms) ∧ Hid (Mks w (.slice (some ⟨mg, 0, none⟩) ms.length c) ms) ∧ 0 < ms.length ∧ w'.cell? ⟨g, i * 2 + 1, none⟩ = some (.slice (some ⟨mg, 0, none⟩) ms.length c) := by
  refine (find_ix H key hrp w (Below.refl _ _)).mono ?_
  rintro e w' ⟨hb, ⟨rfl, hno⟩ | ⟨g, i, mg, c, X, Z, ms', rfl, hA, hM, hp⟩⟩
  · rw [lookR_none hno] at hk; cases hk
  · have := hA.look H.asc
    rw [hk] at this
    cases this
    exact ⟨g, i, mg, c, X, Z, rfl, hb, hA, hM, hp, (hb.cell (p := ⟨g, i * 2 + 1, none⟩) (World.block_lt_of_cell? _ _ hA.mv)).trans hA.mv⟩
theorem lastM_get {ms : List Mk} (h : 0 < ms.length) : ms[ms.length - 1]? = some (lastM ms) := by
  unfold lastM
  rw [← List.getLast?_eq_getElem?]
  cases ms with
  | nil => simp at h
  | cons a l => simp [List.getLast?_eq_some_getLast, List.getLastD]
theorem look_or (R : List IM) (key : ByteArray) (H : Asc (keysR R)) : key ∉ keysR R ∨ ∃ ms, lookD (dat R) key = some ms := by
  by_cases h : key ∈ keysR R
  · right
    obtain ⟨r, hr, hk⟩ := List.mem_map.1 h
    obtain ⟨X, Z, rfl⟩ := List.append_of_mem hr
    refine ⟨r.ms, ?_⟩
    have : dat (X ++ r :: Z) = dat X ++ (key, r.ms) :: dat Z := by simp [dat, ← hk]
    rw [this]
    refine lookD_at ?_
    rw [← dat_keys, this] at H
    exact H
  · exact .inl h

section
variable {w : World} {x : Nat} {R : List IM} {F : List Nat} (H : Ix w x R F) (key : ByteArray) (rev : Int) (del : Bool) (hks : key.size ≤ 9223372036854775807)
include H hks
set_option maxRecDepth 100000 in
set_option maxHeartbeats 2000000 in
theorem put_bad (hbad : key.size = 0 ∨ 100 < key.size ∨ rev < 1) :
    Calls Tryz.prog 76 #[ptr x, .string key, .agg #[.int .i64 rev, .bool del]] w fun e w' => e = .returned (.int .i64 (putE (dat R) key rev del)) ∧ PutPost w w' x R F key rev del := by
  have he : putE (dat R) key rev del = 1 := by simp only [putE, if_pos hbad]
  have HP : Hid (∀ w', Below w.heap.size w w' → PutPost w w' x R F key rev del) := fun w' hb => PutPost.same H hb (by rw [he]; decide)
  rw [he]
  clear he H
  by_cases h1 : key.size = 0
  · have h1' : (key.size : Int) = 0 := by omega
    clear hbad
    go_enter Tryz.func76, Tryz.ntmps76
    go_wp2
    go_ret
    exact ⟨rfl, HP.out _ ((Below.refl _ _).alloc (Nat.le_refl _) _)⟩
  · by_cases h2 : 100 < key.size
    · have h2' : (100 : Int) < (key.size : Int) := by omega
      have h1' : ¬ ((key.size : Int) = 0) := by omega
      clear hbad
      go_enter Tryz.func76, Tryz.ntmps76
      go_wp2
      go_ret
      exact ⟨rfl, HP.out _ ((Below.refl _ _).alloc (Nat.le_refl _) _)⟩
    · have h3 : rev < 1 := by omega
      have h2' : ¬ ((100 : Int) < (key.size : Int)) := by omega
      have h1' : ¬ ((key.size : Int) = 0) := by omega
      clear hbad
      go_enter Tryz.func76, Tryz.ntmps76
      go_wp2
      go_ret
      exact ⟨rfl, HP.out _ ((Below.refl _ _).alloc (Nat.le_refl _) _)⟩
set_option maxRecDepth 100000 in
set_option maxHeartbeats 2000000 in
/-- Put of a Del where there is no mark. -/
theorem put_no (h0 : 0 < key.size) (h1 : key.size ≤ 100) (hr : 1 ≤ rev) (hd : del = true) (hk : key ∉ keysR R) :
    Calls Tryz.prog 76 #[ptr x, .string key, .agg #[.int .i64 rev, .bool del]] w fun e w' => e = .returned (.int .i64 (putE (dat R) key rev del)) ∧ PutPost w w' x R F key rev del := by
  have he : putE (dat R) key rev del = 2 := by simp only [putE, lookR_none hk, hd]; rw [if_neg (by omega)]; rfl
  have HP : Hid (∀ w', Below w.heap.size w w' → PutPost w w' x R F key rev del) := fun w' hb => PutPost.same H hb (by rw [he]; decide)
  rw [he]
  obtain ⟨W0, hW0⟩ : ∃ W0, W0 = w.alloc (.cells #[.int .i64 rev, .bool del] 144) := ⟨_, rfl⟩
  have hb0 : Below w.heap.size w W0 := by rw [hW0]; exact (Below.refl _ w).alloc (Nat.le_refl _) _
  have hr0 : W0.heap[w.heap.size]? = some (.cells #[.int .i64 rev, .bool del] 144 (0, 0)) := by rw [hW0]; exact row_alloc w _ _
  have H0 := H.below hb0
  obtain ⟨rp, Ft, hx, _, _⟩ := H0.ex
  have c0 := hx.c0
  have hf := find_no H0 hk c0
  have u0 : W0.cell? ⟨w.heap.size, 0, none⟩ = some (.int .i64 rev) := by simp [World.cell?, hr0]
  have HU : Hid (∀ W, Below W0.heap.size W0 W → W.cell? ⟨w.heap.size, 0, none⟩ = some (.int .i64 rev) ∧ W.cell? ⟨w.heap.size, 1, none⟩ = some (.bool del) ∧ Below w.heap.size w W) := fun W hb => by
    have := (hb.block _ (Array.getElem?_eq_some_iff.1 hr0).1).trans hr0
    exact ⟨by simp [World.cell?, this], by simp [World.cell?, this], hb0.trans (hb.mono hb0.size)⟩
  have k1 : ¬ (key = ByteArray.empty) := by intro e; rw [e] at h0; simp at h0
  have k2 : ¬ ((100 : Int) < (key.size : Int)) := by omega
  have k3 : ¬ (rev < 1) := by omega
  have k4 : ¬ (rev ≤ 0) := by omega
  subst hd
  clear H H0 hx he hr0 hk
  go_enter Tryz.func76, Tryz.ntmps76
  go_upto_region 1 with (fail)
  rw [← hW0]
  clear hW0
  go_wp2_with (first | (go_at_call 95; refine hf.mono ?_; rintro e w1 ⟨rfl, hb1⟩) | (go_at_call 104; refine (last_nil _).mono ?_; rintro e w2 ⟨rfl, hb2⟩; obtain ⟨a0, a1, hbw⟩ := HU.out (w2.alloc (.cells #[.int .i64 0, .bool true] 144)) ((hb1.trans (hb2.mono hb1.size)).alloc (by have := hb1.size; have := hb2.size; omega) _)))
  go_ret
  exact ⟨rfl, HP.out _ hbw⟩
end
end Go.Proofs.YtjdmgmnndfhmgaaGreat
/- Put of a key that is there. -/
namespace Go.Proofs.YtjdmgmnndfhmgaaGreat
open Go Go.RowKit
section
variable {w : World} {x : Nat} {R : List IM} {F : List Nat} (H : Ix w x R F) (key : ByteArray) (rev : Int) (del : Bool) (hks : key.size ≤ 9223372036854775807)
include H hks
set_option maxRecDepth 100000 in
set_option maxHeartbeats 2000000 in
theorem put_gap (h0 : 0 < key.size) (h1 : key.size ≤ 100) (hr : 1 ≤ rev) (ms : List Mk) (hk : lookD (dat R) key = some ms) (hml : ms.length ≤ 1000000) (hg : rev ≤ (lastM ms).1) :
    Calls Tryz.prog 76 #[ptr x, .string key, .agg #[.int .i64 rev, .bool del]] w fun e w' => e = .returned (.int .i64 (putE (dat R) key rev del)) ∧ PutPost w w' x R F key rev del := by
  have he : putE (dat R) key rev del = 15 := by simp only [putE, hk]; rw [if_neg (by omega)]; rw [if_pos hg]
  have HP : Hid (∀ w', Below w.heap.size w w' → PutPost w w' x R F key rev del) := fun w' hb => PutPost.same H hb (by rw [he]; decide)
  rw [he]
  obtain ⟨W0, hW0⟩ : ∃ W0, W0 = w.alloc (.cells #[.int .i64 rev, .bool del] 144) := ⟨_, rfl⟩
  have hb0 : Below w.heap.size w W0 := by rw [hW0]; exact (Below.refl _ w).alloc (Nat.le_refl _) _
  have hr0 : W0.heap[w.heap.size]? = some (.cells #[.int .i64 rev, .bool del] 144 (0, 0)) := by rw [hW0]; exact row_alloc w _ _
  have H0 := H.below hb0
  obtain ⟨rp, Ft, hx, hRt, hFF⟩ := H0.ex
  have c0 := hx.c0
  have u0 : W0.cell? ⟨w.heap.size, 0, none⟩ = some (.int .i64 rev) := by simp [World.cell?, hr0]
  have HU : Hid (∀ W, Below W0.heap.size W0 W → W.cell? ⟨w.heap.size, 0, none⟩ = some (.int .i64 rev) ∧ W.cell? ⟨w.heap.size, 1, none⟩ = some (.bool del) ∧ Below w.heap.size w W) := fun W hb => by
    have := (hb.block _ (Array.getElem?_eq_some_iff.1 hr0).1).trans hr0
    exact ⟨by simp [World.cell?, this], by simp [World.cell?, this], hb0.trans (hb.mono hb0.size)⟩
  have k1 : ¬ (key = ByteArray.empty) := by intro e; rw [e] at h0; simp at h0
  have k2 : ¬ ((100 : Int) < (key.size : Int)) := by omega
  have k3 : ¬ (rev < 1) := by omega
  have hf := find_yes H0 hk c0
  have HL : Hid (∀ (w1 : World) (g i mg c : Nat), Below W0.heap.size W0 w1 → Mks W0 (.slice (some ⟨mg, 0, none⟩) ms.length c) ms → 0 < ms.length → w1.cell? ⟨g, i * 2 + 1, none⟩ = some (.slice (some ⟨mg, 0, none⟩) ms.length c) → Calls Tryz.prog 104 #[.pointer (some ⟨g, i * 2, none⟩)] w1 fun e w' => e = .returned (.agg #[.int .i64 (lastM ms).1, .bool (lastM ms).2]) ∧ Below w1.heap.size w1 w') := fun w1 g i mg c hb hM hp hc =>
    last_any w1 g i mg c ms (lastM ms) hc (ownsRow_upd hM (Upd.ofBelow (S := fun _ => False) hb) (fun _ _ h => h)) (lastM_get hp) hml
  generalize lastM ms = m at *
  obtain ⟨m1, m2⟩ := m
  dsimp only at HL hg
  clear H H0 hx he hr0 hk hFF hRt
  go_enter Tryz.func76, Tryz.ntmps76
  go_upto_region 1 with (fail)
  rw [← hW0]
  clear hW0
  go_wp2_with (first | (go_at_call 95; refine hf.mono ?_; rintro e w1 ⟨g, i, mg, c, X, Z, rfl, hb1, hA, hM, hp, hc1⟩) | (go_at_call 104; refine (HL.out _ _ _ _ _ hb1 hM.out hp hc1).mono ?_; rintro e w2 ⟨rfl, hb2⟩; have hb3 : Below W0.heap.size W0 (w2.alloc (.cells #[.int .i64 m1, .bool m2] 144)) := (hb1.trans (hb2.mono hb1.size)).alloc (by have := hb1.size; have := hb2.size; omega) _; obtain ⟨a0, a1, hbw⟩ := HU.out _ hb3))
  go_ret
  exact ⟨rfl, HP.out _ hbw⟩
set_option maxRecDepth 100000 in
set_option maxHeartbeats 2000000 in
theorem put_twice (h0 : 0 < key.size) (h1 : key.size ≤ 100) (hr : 1 ≤ rev) (ms : List Mk) (hk : lookD (dat R) key = some ms) (hml : ms.length ≤ 1000000) (hg : (lastM ms).1 < rev) (hd : del = true) (hl : (lastM ms).2 = true) :
    Calls Tryz.prog 76 #[ptr x, .string key, .agg #[.int .i64 rev, .bool del]] w fun e w' => e = .returned (.int .i64 (putE (dat R) key rev del)) ∧ PutPost w w' x R F key rev del := by
  have he : putE (dat R) key rev del = 2 := by simp only [putE, hk]; rw [if_neg (by omega)]; rw [if_neg (by omega), hd, hl]; rfl
  have HP : Hid (∀ w', Below w.heap.size w w' → PutPost w w' x R F key rev del) := fun w' hb => PutPost.same H hb (by rw [he]; decide)
  rw [he]
  obtain ⟨W0, hW0⟩ : ∃ W0, W0 = w.alloc (.cells #[.int .i64 rev, .bool del] 144) := ⟨_, rfl⟩
  have hb0 : Below w.heap.size w W0 := by rw [hW0]; exact (Below.refl _ w).alloc (Nat.le_refl _) _
  have hr0 : W0.heap[w.heap.size]? = some (.cells #[.int .i64 rev, .bool del] 144 (0, 0)) := by rw [hW0]; exact row_alloc w _ _
  have H0 := H.below hb0
  obtain ⟨rp, Ft, hx, hRt, hFF⟩ := H0.ex
  have c0 := hx.c0
  have u0 : W0.cell? ⟨w.heap.size, 0, none⟩ = some (.int .i64 rev) := by simp [World.cell?, hr0]
  have HU : Hid (∀ W, Below W0.heap.size W0 W → W.cell? ⟨w.heap.size, 0, none⟩ = some (.int .i64 rev) ∧ W.cell? ⟨w.heap.size, 1, none⟩ = some (.bool del) ∧ Below w.heap.size w W) := fun W hb => by
    have := (hb.block _ (Array.getElem?_eq_some_iff.1 hr0).1).trans hr0
    exact ⟨by simp [World.cell?, this], by simp [World.cell?, this], hb0.trans (hb.mono hb0.size)⟩
  have k1 : ¬ (key = ByteArray.empty) := by intro e; rw [e] at h0; simp at h0
  have k2 : ¬ ((100 : Int) < (key.size : Int)) := by omega
  have k3 : ¬ (rev < 1) := by omega
  have hf := find_yes H0 hk c0
  have HL : Hid (∀ (w1 : World) (g i mg c : Nat), Below W0.heap.size W0 w1 → Mks W0 (.slice (some ⟨mg, 0, none⟩) ms.length c) ms → 0 < ms.length → w1.cell? ⟨g, i * 2 + 1, none⟩ = some (.slice (some ⟨mg, 0, none⟩) ms.length c) → Calls Tryz.prog 104 #[.pointer (some ⟨g, i * 2, none⟩)] w1 fun e w' => e = .returned (.agg #[.int .i64 (lastM ms).1, .bool (lastM ms).2]) ∧ Below w1.heap.size w1 w') := fun w1 g i mg c hb hM hp hc =>
    last_any w1 g i mg c ms (lastM ms) hc (ownsRow_upd hM (Upd.ofBelow (S := fun _ => False) hb) (fun _ _ h => h)) (lastM_get hp) hml
  generalize lastM ms = m at *
  obtain ⟨m1, m2⟩ := m
  dsimp only at HL hg hl
  subst hd hl
  have k4 : ¬ (rev ≤ m1) := by omega
  clear H H0 hx he hr0 hk hFF hRt
  go_enter Tryz.func76, Tryz.ntmps76
  go_upto_region 1 with (fail)
  rw [← hW0]
  clear hW0
  go_wp2_with (first | (go_at_call 95; refine hf.mono ?_; rintro e w1 ⟨g, i, mg, c, X, Z, rfl, hb1, hA, hM, hp, hc1⟩) | (go_at_call 104; refine (HL.out _ _ _ _ _ hb1 hM.out hp hc1).mono ?_; rintro e w2 ⟨rfl, hb2⟩; have hb3 : Below W0.heap.size W0 (w2.alloc (.cells #[.int .i64 m1, .bool true] 144)) := (hb1.trans (hb2.mono hb1.size)).alloc (by have := hb1.size; have := hb2.size; omega) _; obtain ⟨a0, a1, hbw⟩ := HU.out _ hb3))
  go_ret
  exact ⟨rfl, HP.out _ hbw⟩
end
end Go.Proofs.YtjdmgmnndfhmgaaGreat
