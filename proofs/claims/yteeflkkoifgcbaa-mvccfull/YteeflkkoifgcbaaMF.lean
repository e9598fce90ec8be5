/- MvccFull: names of three bytes, the full store, the second write, the statement's walk. -/
import Derived.Test.YteeflkkoifgcbaaMW1
namespace Go.Proofs.Yteeflkkoifgcbaa
open Go Go.RowKit

def nm (i : Nat) : ByteArray := ⟨#[107, UInt8.ofNat (i / 256), UInt8.ofNat (i % 256)]⟩
theorem u8_lt {a b : Nat} (ha : a < 256) (hb : b < 256) : (UInt8.ofNat a < UInt8.ofNat b) ↔ a < b := by
  rw [UInt8.lt_iff_toNat_lt, UInt8.toNat_ofNat', UInt8.toNat_ofNat']
  omega
theorem u8_eq {a b : Nat} (ha : a < 256) (hb : b < 256) : (UInt8.ofNat a = UInt8.ofNat b) ↔ a = b := by
  constructor
  · intro h
    have := congrArg UInt8.toNat h
    rw [UInt8.toNat_ofNat', UInt8.toNat_ofNat'] at this
    omega
  · rintro rfl; rfl
theorem nm_lt {i j : Nat} (hi : i < 65536) (hj : j < 65536) : klt (nm i) (nm j) = decide (i < j) := by
  unfold klt nm
  simp only [Op.bytesLess, UInt8.lt_irrefl, decide_false, Bool.false_or, beq_self_eq_true, Bool.true_and, Bool.and_false, Bool.or_false]
  rw [Bool.eq_iff_iff]
  simp only [Bool.or_eq_true, decide_eq_true_eq, Bool.and_eq_true, beq_iff_eq]
  rw [u8_lt (by omega) (by omega), u8_eq (by omega) (by omega), u8_lt (by omega) (by omega)]
  omega
theorem nm_inj {i j : Nat} (hi : i < 65536) (hj : j < 65536) (h : nm i = nm j) : i = j := by
  have h1 := nm_lt hi hj
  have h2 := nm_lt hj hi
  rw [h, klt_irrefl] at h1 h2
  have a := of_decide_eq_false h1.symm
  have b := of_decide_eq_false h2.symm
  omega
def nms (n : Nat) : List ByteArray := (List.range n).map nm
theorem mem_nms {n : Nat} {k : ByteArray} : k ∈ nms n ↔ ∃ i, i < n ∧ k = nm i := by
  unfold nms
  simp only [List.mem_map, List.mem_range]
  exact ⟨fun ⟨i, h1, h2⟩ => ⟨i, h1, h2.symm⟩, fun ⟨i, h1, h2⟩ => ⟨i, h1, h2.symm⟩⟩
theorem nms_succ (n : Nat) : nms (n + 1) = nms n ++ [nm n] := by
  unfold nms
  rw [List.range_succ, List.map_append]
  rfl
theorem nms_len (n : Nat) : (nms n).length = n := by simp [nms]
theorem nm_new {n : Nat} (hn : n < 65536) : hasK (nms n) (nm n) = false := by
  cases h : hasK (nms n) (nm n)
  · rfl
  · obtain ⟨i, h1, h2⟩ := mem_nms.1 (hasK_iff.1 h)
    have := nm_inj (by omega) (by omega) h2
    omega
theorem nm_size (n : Nat) : (nm n).size = 3 := rfl
/-- A write that finds no room. -/
theorem R1.full {w0 w : World} {s b : Nat} {ks vs : List ByteArray} {v : Value} (H : R1 w0 w s b ks v vs) (hk : 4096 ≤ ks.length) (hk2 : ks.length ≤ 5000) (key : ByteArray) (hsz : 0 < key.size ∧ key.size ≤ 100) (hm : hasK ks key = false) :
    Calls Try.prog 10 #[ptr b, .string key, .string ByteArray.empty, .int .i64 0] w fun e w' => e = .returned (.int .i64 14) ∧ Hid (R1 w0 w' s b ks v vs) := by
  obtain ⟨g, W, hw, h1, h2, h3, h4, h5, h6, h7, h8, h9, h10⟩ := H
  have hch : W.ch key = none := by rw [h6, hm]; rfl
  refine (wput_full h1 key ByteArray.empty 0 (by omega) (by show 0 ≤ _; omega) hsz (by decide) (by show ¬ 4096 < 0; omega) hch rfl (by rw [h7]; omega)).mono ?_
  rintro e w' ⟨rfl, hb⟩
  exact ⟨rfl, g, W, hw, h1.below hb, h2.trans (hb.mono h2.size), h3, h4, h5, h6, h7, h8, ownsRow_upd h9 (Upd.ofBelow (S := fun _ => False) hb) (fun _ _ h => h), h10⟩

/-- An open write upon the store of N names: what it changed, how many keys there will be. -/
def R3 (w0 w : World) (s b N : Nat) (chg : List ByteArray) (c : Int) : Prop :=
  ∃ n g S W hw, n ≤ 5000 ∧ Ow n w s b S W g hw ∧ Below w0.heap.size w0 w ∧ (∀ j, ftS s g j → w0.heap.size ≤ j) ∧ (∀ j, ftW b hw j → w0.heap.size ≤ j) ∧ S.rev = 1 ∧ (∀ k, S.kh k = if hasK (nms N) k then [(1, some (nkv k))] else []) ∧
    W.keys = chg ∧ (∀ k, (W.ch k).isSome = hasK chg k) ∧ W.count = c ∧ Wok S W
theorem r3_start {w0 w : World} {s N : Nat} {v : Value} {vs : List ByteArray} (H : R2 w0 w s (nms N) v vs) (hN : N ≤ 5000) (hr : 0 < N) : Calls Try.prog 9 #[ptr s] w fun e w' => ∃ b, e = .returned (ptr b) ∧ Hid (R3 w0 w' s b N [] N) := by
  obtain ⟨n, g, o, S, h1, h2, h3, h4, h5, h6, h7, h8, h9, h10⟩ := H
  rw [nms_len] at h1 h9
  have hrev : S.rev = 1 := h6.resolve_left (fun e => by
    have h0 : hasK (nms N) (nm 0) = true := hasK_iff.2 (mem_nms.2 ⟨0, hr, rfl⟩)
    rw [e] at h0; cases h0)
  refine (write_st h2).mono ?_
  rintro e w' ⟨rfl, hO, hu⟩
  refine ⟨_, rfl, n, g, S, _, _, by omega, hO, h7.trans (hu.below h7.size (fun j hj e => by have := h10 j (.inl e); omega)), h10, ?_, hrev, h5, rfl, fun k => rfl, ?_, fun j c hc => (by cases hc)⟩
  · rintro j (rfl | rfl | hj)
    · exact Nat.le_succ_of_le h7.size
    · exact h7.size
    · cases hj
  · show ((S.nth : Nat) : Int) = N
    rw [h9]
section
variable {w0 w : World} {s b N : Nat} {chg : List ByteArray} {c : Int} (H : R3 w0 w s b N chg c) (hN : N ≤ 5000) (hcl : chg.length ≤ 5000) (hc : -5000 ≤ c ∧ c ≤ 5000)
include H hcl hc
omit hc in
theorem R3.putOld (key value : ByteArray) (hk : hasK (nms N) key = true) (hch : hasK chg key = false) (hsz : 0 < key.size ∧ key.size ≤ 100) (hv : ¬ 4096 < value.size) : Calls Try.prog 10 #[ptr b, .string key, .string value, .int .i64 0] w fun e w' => e = .returned (.int .i64 0) ∧ Hid (R3 w0 w' s b N (chg ++ [key]) c) := by
  obtain ⟨n, g, S, W, hw, h1, h2, h3, h4, h5, h6, h7, h8, h9, h10, h11⟩ := H
  have hW : W.ch key = none := by have := h9 key; rw [hch] at this; cases e : W.ch key with
    | none => rfl
    | some x => rw [e] at this; cases this
  have ht : thereH (S.kh key) = some (nkv key) := by rw [h7, if_pos hk]; rfl
  refine (wput_there h2 key value 0 hsz hv (by decide) hW (by rw [h8]; omega) (by omega) ht (by show (0 : Int) ≤ 1 ∧ (1 : Int) ≤ _; decide)).mono ?_
  rintro e w' ⟨rfl, h', q1, q2⟩
  refine ⟨rfl, n, g, S, _, h', h1, q1, h3.trans (q2.1.below h3.size (fun j hj e => by have := h5 j e; omega)), h4, fun j hj => (q2.2 j hj).elim (h5 j) (fun e => Nat.le_trans h3.size e), h6, h7, ?_, ?_, h10, ?_⟩
  · show W.keys ++ [key] = _; rw [h8]
  · intro k
    show (if k = key then some (some _) else W.ch k).isSome = _
    rw [hasK_snoc, ← h9 k]
    by_cases e : k = key
    · subst e; simp
    · have : ¬ key = k := fun h => e h.symm
      simp [e, this]
  · intro k x hx
    have hx' : (if k = key then some (some _) else W.ch k) = some x := hx
    by_cases e : k = key
    · subst e
      rw [if_pos rfl] at hx'
      cases hx'
      refine ⟨hsz, fun v hv => ?_, fun hv => by cases hv⟩
      cases hv
      refine ⟨rfl, rfl, ?_, ?_⟩
      · show (1 : Int) ≤ 1 + 1; decide
      · show (1 : Int) + 1 ≤ (S.rev : Int) + 1; rw [h6]; decide
    · rw [if_neg e] at hx'
      exact h11 k x hx'
theorem R3.putNew (key : ByteArray) (hk : hasK (nms N) key = false) (hch : hasK chg key = false) (hsz : 0 < key.size ∧ key.size ≤ 100) : Calls Try.prog 10 #[ptr b, .string key, .string ByteArray.empty, .int .i64 0] w fun e w' => e = .returned (.int .i64 (if c < 4096 then 0 else 14)) ∧ Hid (if c < 4096 then R3 w0 w' s b N (chg ++ [key]) (c + 1) else R3 w0 w' s b N chg c) := by
  obtain ⟨n, g, S, W, hw, h1, h2, h3, h4, h5, h6, h7, h8, h9, h10, h11⟩ := H
  have hW : W.ch key = none := by have := h9 key; rw [hch] at this; cases e : W.ch key with
    | none => rfl
    | some x => rw [e] at this; cases this
  have ht : thereH (S.kh key) = none := by rw [h7, hk]; rfl
  by_cases hcc : c < 4096
  · rw [if_pos hcc]
    refine (wput_new h2 key ByteArray.empty 0 hsz (by show ¬ 4096 < 0; omega) (by decide) hW (by rw [h8]; omega) (by omega) ht (by rw [h10]; omega)).mono ?_
    rintro e w' ⟨rfl, h', q1, q2⟩
    refine ⟨rfl, ?_⟩
    rw [if_pos hcc]
    refine ⟨n, g, S, _, h', h1, q1, h3.trans (q2.1.below h3.size (fun j hj e => by have := h5 j e; omega)), h4, fun j hj => (q2.2 j hj).elim (h5 j) (fun e => Nat.le_trans h3.size e), h6, h7, ?_, ?_, ?_, ?_⟩
    · show W.keys ++ [key] = _; rw [h8]
    · intro k
      show (if k = key then some (some _) else W.ch k).isSome = _
      rw [hasK_snoc, ← h9 k]
      by_cases e : k = key
      · subst e; simp
      · have : ¬ key = k := fun h => e h.symm
        simp [e, this]
    · show W.count + 1 = _; rw [h10]
    · intro k x hx
      have hx' : (if k = key then some (some _) else W.ch k) = some x := hx
      by_cases e : k = key
      · subst e
        rw [if_pos rfl] at hx'
        cases hx'
        refine ⟨hsz, fun v hv => ?_, fun hv => by cases hv⟩
        cases hv
        refine ⟨rfl, rfl, ?_, ?_⟩
        · show (1 : Int) ≤ 0 + 1; decide
        · show (0 : Int) + 1 ≤ (S.rev : Int) + 1; rw [h6]; decide
      · rw [if_neg e] at hx'
        exact h11 k x hx'
  · rw [if_neg hcc]
    refine (wput_full h2 key ByteArray.empty 0 (by omega) (by show 0 ≤ _; omega) hsz (by decide) (by show ¬ 4096 < 0; omega) hW ht (by rw [h10]; omega)).mono ?_
    rintro e w' ⟨rfl, hb⟩
    refine ⟨rfl, ?_⟩
    rw [if_neg hcc]
    exact ⟨n, g, S, W, hw, h1, h2.below hb, h3.trans (hb.mono h3.size), h4, h5, h6, h7, h8, h9, h10, h11⟩
omit hc in
theorem R3.done (hne : chg ≠ []) : Calls Try.prog 12 #[ptr b] w fun e w' => e = .returned (.int .i64 2) ∧ Hid (Below w0.heap.size w0 w') := by
  obtain ⟨n, g, S, W, hw, h1, h2, h3, h4, h5, h6, h7, h8, h9, h10, h11⟩ := H
  refine (done_st h2 h11 (by rw [h8]; omega) (by omega)).mono ?_
  rintro e w' ⟨rfl, g', q1, q2, q3⟩
  refine ⟨?_, h3.trans (q2.below h3.size (fun j hj e => e.elim (fun e => by have := h4 j e; omega) (fun e => by have := h5 j e; omega)))⟩
  have e1 : doneS S W = takeS S W W.keys.length := if_neg (by rw [h8]; exact hne)
  rw [e1, (takeS_rev S W _).1, h6]
  rfl
include hN
/-- Names from 256 on are deleted. -/
theorem R3.del (gone : Nat) (hg : gone ≤ 5) (hN2 : 300 ≤ N) (hch : ∀ t, t < gone → hasK chg (nm (256 + t)) = false) : Calls Try.prog 11 #[ptr b, .string (nm 256), .string (nm (256 + gone))] w fun e w' => e = .returned (.int .i64 gone) ∧ Hid (∃ L, L.length = gone ∧ (∀ k ∈ L, hasK (nms N) k = true) ∧ R3 w0 w' s b N (chg ++ L) (c - gone)) := by
  obtain ⟨n, g, S, W, hw, h1, h2, h3, h4, h5, h6, h7, h8, h9, h10, h11⟩ := H
  have hmem : ∀ k, k ∈ S.ks ↔ k ∈ nms N := fun k => by
    rw [h2.st.mem k, h7 k]
    by_cases e : hasK (nms N) k = true
    · rw [if_pos e]; simp [hasK_iff.1 e]
    · rw [if_neg e]
      have hn : k ∉ nms N := fun h => e (hasK_iff.2 h)
      simp [hn]
  have hasc : Asc S.ks := by have := h2.st.bd.asc; rw [datS_keys] at this; exact this
  have hin : ∀ k, k ∈ rangeK S (nm 256) (nm (256 + gone)) ↔ ∃ t, t < gone ∧ k = nm (256 + t) := fun k => by
    unfold rangeK
    rw [List.mem_filter, hmem, mem_nms]
    have hne : ¬ nm (256 + gone) = ByteArray.empty := fun e => by
      have := congrArg ByteArray.size e
      rw [nm_size] at this
      cases this
    constructor
    · rintro ⟨⟨i, hi, rfl⟩, hr⟩
      unfold inR at hr
      rw [if_neg hne, nm_lt (by omega) (by omega), nm_lt (by omega) (by omega)] at hr
      simp at hr
      exact ⟨i - 256, by omega, by rw [show 256 + (i - 256) = i by omega]⟩
    · rintro ⟨t, ht, rfl⟩
      refine ⟨⟨256 + t, by omega, rfl⟩, ?_⟩
      unfold inR
      rw [if_neg hne, nm_lt (by omega) (by omega), nm_lt (by omega) (by omega)]
      simp
      omega
  have hgo : (rangeK S (nm 256) (nm (256 + gone))).filter (goesP S W) = rangeK S (nm 256) (nm (256 + gone)) := by
    rw [List.filter_eq_self]
    intro k hk
    obtain ⟨t, ht, rfl⟩ := (hin k).1 hk
    unfold goesP
    have e1 : (W.ch (nm (256 + t))).isNone = true := by have := h9 (nm (256 + t)); rw [hch t ht] at this; cases e : W.ch (nm (256 + t)) with
      | none => rfl
      | some x => rw [e] at this; cases this
    have e2 : thereH (S.kh (nm (256 + t))) = some (nkv (nm (256 + t))) := by rw [h7, if_pos (hasK_iff.2 (mem_nms.2 ⟨256 + t, by omega, rfl⟩))]; rfl
    rw [e1, e2]; rfl
  have hnd : (rangeK S (nm 256) (nm (256 + gone))).Nodup := asc_nodup (asc_sublist List.filter_sublist hasc)
  have hlen : (rangeK S (nm 256) (nm (256 + gone))).length = gone := by
    have hr : ((List.range gone).map (fun t => nm (256 + t))).Nodup := by
      rw [List.nodup_iff_pairwise_ne, List.pairwise_map]
      refine List.Pairwise.imp_of_mem ?_ (List.nodup_range (n := gone))
      intro a b ha hb hne e
      have ha' := List.mem_range.1 ha
      have hb' := List.mem_range.1 hb
      exact hne (by have := nm_inj (by omega) (by omega) e; omega)
    have := nodup_len hnd hr (fun a => by
      rw [hin a]
      simp only [List.mem_map, List.mem_range]
      exact ⟨fun ⟨t, h1, h2⟩ => ⟨t, h1, h2.symm⟩, fun ⟨t, h1, h2⟩ => ⟨t, h1, h2.symm⟩⟩)
    rw [this]; simp
  have hdel := delete_st h2 (by omega) (nm 256) (nm (256 + gone)) (by rw [nm_size]; omega) (by rw [nm_size]; omega) (by rw [h8]; omega) (by rw [h10]; omega)
  rw [hgo, hlen] at hdel
  refine hdel.mono ?_
  rintro e w' ⟨rfl, h', q1, q2⟩
  refine ⟨rfl, rangeK S (nm 256) (nm (256 + gone)), hlen, fun k hk => hasK_iff.2 ((hmem k).1 (List.mem_filter.1 hk).1), n, g, S, _, h', h1, q1, h3.trans (q2.1.below h3.size (fun j hj e => by have := h5 j e; omega)), h4, fun j hj => (q2.2 j hj).elim (h5 j) (fun e => Nat.le_trans h3.size e), h6, h7, ?_, ?_, ?_, ?_⟩
  · show W.keys ++ _ = _; rw [h8]
  · intro k
    show (if hasK _ k then some none else W.ch k).isSome = _
    have e1 : hasK (chg ++ rangeK S (nm 256) (nm (256 + gone))) k = (hasK chg k || hasK (rangeK S (nm 256) (nm (256 + gone))) k) := by unfold hasK; rw [List.any_append]
    rw [e1, ← h9 k]
    cases hasK (rangeK S (nm 256) (nm (256 + gone))) k <;> simp
  · show W.count - _ = _; rw [h10]
  · intro k x hx
    have hx' : (if hasK (rangeK S (nm 256) (nm (256 + gone))) k then some none else W.ch k) = some x := hx
    by_cases e : hasK (rangeK S (nm 256) (nm (256 + gone))) k = true
    · rw [if_pos e] at hx'
      cases hx'
      obtain ⟨t, ht, rfl⟩ := (hin k).1 (hasK_iff.1 e)
      refine ⟨by rw [nm_size]; omega, fun v hv => (by cases hv), fun _ => ?_⟩
      rw [h7, if_pos (hasK_iff.2 (mem_nms.2 ⟨256 + t, by omega, rfl⟩))]; rfl
    · rw [if_neg e] at hx'
      exact h11 k x hx'
end

def withinF (a n : Int) : Int := if a.tmod n < 0 then a.tmod n + n else a.tmod n
theorem withinF_bd (a n : Int) (hn : 0 < n) : 0 ≤ withinF a n ∧ withinF a n < n := by
  have h1 := Int.lt_tmod_of_pos a (b := n) hn
  have h2 := Int.tmod_lt_of_pos a (b := n) hn
  unfold withinF
  split <;> omega
set_option maxHeartbeats 1000000 in
theorem within_any (a n : Int) (w : World) (hn : 0 < n) (hm : n ≤ 1000000000000000) :
    Calls Try.prog 14 #[.int .i64 a, .int .i64 n] w fun e w' => e = .returned (.int .i64 (withinF a n)) ∧ w' = w := by
  have h1 := Int.lt_tmod_of_pos a (b := n) hn
  have h2 := Int.tmod_lt_of_pos a (b := n) hn
  have hn0 : (n == 0) = false := by simp; omega
  by_cases h : a.tmod n < 0
  · have HW : Hid (withinF a n = a.tmod n + n) := by show _ = _; rw [withinF, if_pos h]
    go_enter Try.func14, Try.ntmps14
    go_wp2
    go_ret
    exact ⟨ret_int HW.out.symm, rfl⟩
  · have HW : Hid (withinF a n = a.tmod n) := by show _ = _; rw [withinF, if_neg h]
    go_enter Try.func14, Try.ntmps14
    go_wp2
    go_ret
    exact ⟨ret_int HW.out.symm, rfl⟩
theorem r1_new (w0 w : World) (hb : Below w0.heap.size w0 w) : Calls Try.prog 7 #[] w fun e w' => ∃ s, e = .returned (ptr s) ∧ Hid (Calls Try.prog 9 #[ptr s] w' fun e w2 => ∃ b, e = .returned (ptr b) ∧ Hid (R1 w0 w2 s b [] (.slice none 0 0) [])) := by
  refine (new_st w).mono ?_
  rintro e w' ⟨s, g, rfl, h1, h2, h3⟩
  exact ⟨s, rfl, r1_start w0 w' (hb.trans (h2.mono hb.size)) h1 (fun k hk => Nat.le_trans hb.size (h3 k hk))⟩
theorem R1.later {w0 w W : World} {s b : Nat} {ks vs : List ByteArray} {v : Value} (H : R1 w0 w s b ks v vs) (hb : Below w.heap.size w W) : R1 w0 W s b ks v vs := by
  obtain ⟨g, W', hw, h1, h2, h3, h4, h5, h6, h7, h8, h9, h10⟩ := H
  exact ⟨g, W', hw, h1.below hb, h2.trans (hb.mono h2.size), h3, h4, h5, h6, h7, h8, ownsRow_upd h9 (Upd.ofBelow (S := fun _ => False) hb) (fun _ _ h => h), h10⟩
theorem R3.later {w0 w W : World} {s b N : Nat} {chg : List ByteArray} {c : Int} (H : R3 w0 w s b N chg c) (hb : Below w.heap.size w W) : R3 w0 W s b N chg c := by
  obtain ⟨n, g, S, W', hw, h1, h2, h3, h4, h5, h6, h7, h8, h9, h10, h11⟩ := H
  exact ⟨n, g, S, W', hw, h1, h2.below hb, h3.trans (hb.mono h3.size), h4, h5, h6, h7, h8, h9, h10, h11⟩
def zn (i : Nat) : ByteArray := ⟨#[122, UInt8.ofNat i]⟩
theorem zn_size (i : Nat) : (zn i).size = 2 := rfl
theorem zn_not (N i : Nat) : hasK (nms N) (zn i) = false := by
  cases h : hasK (nms N) (zn i)
  · rfl
  · obtain ⟨j, h1, h2⟩ := mem_nms.1 (hasK_iff.1 h)
    have := congrArg ByteArray.size h2
    rw [nm_size, zn_size] at this
    cases this
theorem nm_conv (i : Nat) (hi : i < 65536) (w : World) : (convert 52 9 (.slice (some ⟨w.heap.size, 0, none⟩) 3 3)).run Try.prog (w.alloc (.cells #[.int .u8 107, .int .u8 ((i : Int) / 256), .int .u8 ((i : Int) % 256)] 5)) = .ok (.string (nm i)) (w.alloc (.cells #[.int .u8 107, .int .u8 ((i : Int) / 256), .int .u8 ((i : Int) % 256)] 5)) := by
  have hn : strOfNums [107, (i : Int) / 256, (i : Int) % 256] = nm i := by
    have e1 : ((i : Int) / 256).toNat = i / 256 := by omega
    have e2 : ((i : Int) % 256).toNat = i % 256 := by omega
    simp [strOfNums, nm, e1, e2]
  rw [← hn]
  refine run_convert_bytes_arg _ 52 5 Try.underlying52 Try.underlying5 w.heap.size 0 3 3 _ rfl (fun i hi => ?_) 9 Try.underlying9
  rw [Nat.zero_add, cell_of_row _ _ _ _ _ _ (row_alloc w _ _)]
  match i, hi with
  | 0, _ => rfl
  | 1, _ => rfl
  | 2, _ => rfl
theorem gn_conv (g : Nat) (hg : g < 5) (w : World) : (convert 52 9 (.slice (some ⟨w.heap.size, 0, none⟩) 3 3)).run Try.prog (w.alloc (.cells #[.int .u8 107, .int .u8 1, .int .u8 g] 5)) = .ok (.string (nm (256 + g))) (w.alloc (.cells #[.int .u8 107, .int .u8 1, .int .u8 g] 5)) := by
  have := nm_conv (256 + g) (by omega) w
  have e1 : (((256 + g : Nat) : Int)) / 256 = 1 := by omega
  have e2 : (((256 + g : Nat) : Int)) % 256 = g := by omega
  rw [e1, e2] at this
  exact this
theorem zn_conv (i : Nat) (_hi : i < 5) (w : World) : (convert 52 9 (.slice (some ⟨w.heap.size, 0, none⟩) 2 2)).run Try.prog (w.alloc (.cells #[.int .u8 122, .int .u8 i] 5)) = .ok (.string (zn i)) (w.alloc (.cells #[.int .u8 122, .int .u8 i] 5)) := by
  have hn : strOfNums [122, (i : Int)] = zn i := by
    simp [strOfNums, zn]
  rw [← hn]
  refine run_convert_bytes_arg _ 52 5 Try.underlying52 Try.underlying5 w.heap.size 0 2 2 _ rfl (fun i hi => ?_) 9 Try.underlying9
  rw [Nat.zero_add, cell_of_row _ _ _ _ _ _ (row_alloc w _ _)]
  match i, hi with
  | 0, _ => rfl
  | 1, _ => rfl
theorem zn_inj {i j : Nat} (hi : i < 256) (hj : j < 256) (h : zn i = zn j) : i = j := by
  have h2 : #[122, UInt8.ofNat i] = #[122, UInt8.ofNat j] := congrArg ByteArray.data h
  have h3 : UInt8.ofNat i = UInt8.ofNat j := by simpa using h2
  have h4 := congrArg UInt8.toNat h3
  rw [UInt8.toNat_ofNat', UInt8.toNat_ofNat'] at h4
  omega
/-- Within the second write, i of the five new names are put. -/
def R4 (w0 w : World) (s b N gb i : Nat) : Prop :=
  ∃ chg, chg ≠ [] ∧ chg.length ≤ 10 + i ∧ (∀ t, i ≤ t → t < 5 → hasK chg (zn t) = false) ∧ R3 w0 w s b N chg (min ((N : Int) - gb + i) 4096)
theorem r4_start {w0 w : World} {s b N gb : Nat} (hN : N ≤ 4096) (hg : gb < 5) (H : ∃ L, L.length = gb ∧ (∀ k ∈ L, hasK (nms N) k = true) ∧ R3 w0 w s b N ([nm 0] ++ L) (N - gb)) : R4 w0 w s b N gb 0 := by
  obtain ⟨L, h1, h2, h3⟩ := H
  have e : min ((N : Int) - gb + (0 : Nat)) 4096 = (N : Int) - gb := by omega
  refine ⟨[nm 0] ++ L, List.cons_ne_nil _ _, by show L.length + 1 ≤ _; omega, fun t _ _ => ?_, by rw [e]; exact h3⟩
  show hasK ([nm 0] ++ L) (zn t) = false
  cases h : hasK ([nm 0] ++ L) (zn t)
  · rfl
  · have hm := hasK_iff.1 h
    have hn := zn_not N t
    rcases List.mem_append.1 hm with hm | hm
    · have e := congrArg ByteArray.size (List.mem_singleton.1 hm)
      rw [nm_size, zn_size] at e
      cases e
    · rw [h2 _ hm] at hn
      cases hn
theorem R4.put {w0 w : World} {s b N gb i : Nat} (H : R4 w0 w s b N gb i) (hi : i < 5) (hN : 4094 ≤ N ∧ N ≤ 4096) (hg : gb < 5) : Calls Try.prog 10 #[ptr b, .string (zn i), .string ByteArray.empty, .int .i64 0] w fun e w' => e = .returned (.int .i64 (if (N : Int) - gb + i < 4096 then 0 else 14)) ∧ Hid (R4 w0 w' s b N gb (i + 1)) := by
  obtain ⟨chg, h1, h2, h3, h4⟩ := H
  refine (h4.putNew (by omega) (by omega) (zn i) (zn_not N i) (h3 i (Nat.le_refl _) hi) (by rw [zn_size]; omega)).mono ?_
  rintro e w' ⟨rfl, HX⟩
  have HX := HX.out
  by_cases hc : (N : Int) - gb + i < 4096
  · have e1 : min ((N : Int) - gb + i) 4096 < 4096 := by omega
    have e2 : min ((N : Int) - gb + i) 4096 + 1 = min ((N : Int) - gb + (i + 1 : Nat)) 4096 := by omega
    rw [if_pos e1, e2] at HX
    rw [if_pos e1, if_pos hc]
    refine ⟨rfl, _, by simp, by rw [List.length_append]; show chg.length + 1 ≤ _; omega, fun t ht ht5 => ?_, HX⟩
    rw [hasK_snoc, h3 t (by omega) ht5]
    have : ¬ zn i = zn t := fun e => by have := zn_inj (by omega) (by omega) e; omega
    simp [this]
  · have e1 : ¬ min ((N : Int) - gb + i) 4096 < 4096 := by omega
    have e2 : min ((N : Int) - gb + i) 4096 = min ((N : Int) - gb + (i + 1 : Nat)) 4096 := by omega
    rw [if_neg e1, e2] at HX
    rw [if_neg e1, if_neg hc]
    exact ⟨rfl, chg, h1, by omega, fun t ht ht5 => h3 t (by omega) ht5, HX⟩
theorem R4.later {w0 w W : World} {s b N gb i : Nat} (H : R4 w0 w s b N gb i) (hb : Below w.heap.size w W) : R4 w0 W s b N gb i := by
  obtain ⟨chg, h1, h2, h3, h4⟩ := H
  exact ⟨chg, h1, h2, h3, h4.later hb⟩
theorem R4.done {w0 w : World} {s b N gb i : Nat} (H : R4 w0 w s b N gb i) (hi : i ≤ 5) : Calls Try.prog 12 #[ptr b] w fun e w' => e = .returned (.int .i64 2) ∧ Hid (Below w0.heap.size w0 w') := by
  obtain ⟨chg, h1, h2, h3, h4⟩ := H
  exact h4.done (by omega) h1
set_option maxRecDepth 100000 in
set_option maxHeartbeats 4000000 in
theorem mvccFull_walk (n0 gone0 : Int) (w : World) (_h0 : -9223372036854775808 ≤ n0 ∧ n0 ≤ 9223372036854775807) (_h1 : -9223372036854775808 ≤ gone0 ∧ gone0 ≤ 9223372036854775807) :
    Calls Try.prog 4 #[.int .i64 n0, .int .i64 gone0] w fun e w' => e = .returned (.bool true) ∧ Below w.heap.size w w' := by
  have hkn := known_st w
  have hwn := fun W => within_any n0 4 W (by decide) (by decide)
  have hwg := fun W => within_any gone0 5 W (by decide) (by decide)
  obtain ⟨nb, hnb⟩ : ∃ nb : Nat, (nb : Int) = withinF n0 4 := ⟨(withinF n0 4).toNat, by have := withinF_bd n0 4 (by decide); omega⟩
  obtain ⟨gb, hgb⟩ : ∃ gb : Nat, (gb : Int) = withinF gone0 5 := ⟨(withinF gone0 5).toNat, by have := withinF_bd gone0 5 (by decide); omega⟩
  have hnl : nb < 4 := by have := withinF_bd n0 4 (by decide); omega
  have hgl : gb < 5 := by have := withinF_bd gone0 5 (by decide); omega
  rw [← hnb] at hwn
  rw [← hgb] at hwg
  clear hnb hgb
  have HN : Hid (∀ W, Below w.heap.size w W → Calls Try.prog 7 #[] W fun e w' => ∃ s, e = .returned (ptr s) ∧ Hid (Calls Try.prog 9 #[ptr s] w' fun e w2 => ∃ b, e = .returned (ptr b) ∧ Hid (R1 w w2 s b [] (.slice none 0 0) []))) := fun W hb => r1_new w W hb
  go_enter Try.func4, Try.ntmps4
  go_upto_region 7 with (first | (go_at_call 6; refine hkn.mono ?_; rintro e w1 ⟨rfl, hb1⟩; have hnw := HN.out _ hb1) | (go_at_call 7; refine hnw.mono ?_; rintro e w2 ⟨s, rfl, HWR⟩; have hwr := HWR.out) | (go_at_call 14; refine (hwn _).mono ?_; rintro e w' ⟨rfl, hw'⟩; obtain rfl := hw'.symm) | (go_at_call 9; refine hwr.mono ?_; rintro e w3 ⟨b, rfl, HR⟩))
  clear hnw hwr HWR hkn HN hwn hb1
  go_wp2
  go_loopg [7] 4200 (fun kx s7 wr => ∃ i : Nat, s7 = .int .i64 i ∧ kx + i = 4200 ∧ i ≤ 4094 + nb ∧ Hid (R1 w wr s b (nms (min i 4096)) (.slice none 0 0) []))
  case atStart => exact ⟨0, rfl, rfl, Nat.zero_le _, HR⟩
  case round =>
    clear HR
    obtain ⟨i, rfl, hkx, hi, HM⟩ := hrel
    by_cases hlt : i < 4094 + nb
    · have hcv := nm_conv i (by omega) wr
      have hba : Below wr.heap.size wr (wr.alloc (.cells #[.int .u8 107, .int .u8 ((i : Int) / 256), .int .u8 ((i : Int) % 256)] 5)) := (Below.refl _ wr).alloc (Nat.le_refl _) _
      have HM1 := HM.out.later hba
      by_cases h4 : i < 4096
      · have hmi : min i 4096 = i := by omega
        have hmi2 : min (i + 1) 4096 = i + 1 := by omega
        rw [hmi] at HM1
        have hput := HM1.put (by rw [nms_len]; omega) (nm i) (by rw [nm_size]; omega)
        have hp0 : putR (nms i) (nm i) = 0 := by
          unfold putR
          rw [if_neg (fun h => h (by rw [nm_size]; omega)), nm_new (by omega)]
          rfl
        rw [hp0, if_pos rfl, ← nms_succ] at hput
        have HX : Hid (∀ W, R1 w W s b (nms (i + 1)) (.slice none 0 0) [] → R1 w W s b (nms (min (i + 1) 4096)) (.slice none 0 0) []) := fun W h => by rw [hmi2]; exact h
        clear HM HM1 hba hp0 hmi hmi2
        go_wp2_with (go_at_call 10; refine hput.mono ?_; rintro e w4 ⟨rfl, HM4⟩)
        go_roundg (4199 - i)
        case measure => omega
        case rel => exact ⟨i + 1, by congr 1, by omega, by omega, HX.out _ HM4.out⟩
      · have hmi : min i 4096 = 4096 := by omega
        have hmi2 : min (i + 1) 4096 = 4096 := by omega
        rw [hmi] at HM1
        have hput := HM1.full (by rw [nms_len]; omega) (by rw [nms_len]; omega) (nm i) (by rw [nm_size]; omega) (by
          cases h : hasK (nms 4096) (nm i)
          · rfl
          · obtain ⟨j, h1, h2⟩ := mem_nms.1 (hasK_iff.1 h)
            have := nm_inj (by omega) (by omega) h2
            omega)
        have HX : Hid (∀ W, R1 w W s b (nms 4096) (.slice none 0 0) [] → R1 w W s b (nms (min (i + 1) 4096)) (.slice none 0 0) []) := fun W h => by rw [hmi2]; exact h
        clear HM HM1 hba hmi hmi2
        go_wp2_with (go_at_call 10; refine hput.mono ?_; rintro e w4 ⟨rfl, HM4⟩)
        go_roundg (4199 - i)
        case measure => omega
        case rel => exact ⟨i + 1, by congr 1, by omega, by omega, HX.out _ HM4.out⟩
    · obtain rfl : i = 4094 + nb := by omega
      obtain ⟨N, hN⟩ : ∃ N, N = min (4094 + nb) 4096 := ⟨_, rfl⟩
      have hNb : 4094 ≤ N ∧ N ≤ 4096 := by omega
      rw [← hN] at HM
      have hdn := HM.out.done (by rw [nms_len]; omega)
      have hne : ¬ nms N = [] := fun e => by have := congrArg List.length e; rw [nms_len] at this; simp at this; omega
      rw [if_neg hne] at hdn
      have HST : Hid (∀ W v vs, R2 w W s (nms N) v vs → Calls Try.prog 9 #[ptr s] W fun e w' => ∃ b, e = .returned (ptr b) ∧ Hid (R3 w w' s b N [] N)) := fun W v vs h => r3_start h (by omega) (by omega)
      have HPO : Hid (∀ W b, R3 w W s b N [] N → Calls Try.prog 10 #[ptr b, .string ⟨#[107, 0, 0]⟩, .string ⟨#[120]⟩, .int .i64 0] W fun e w' => e = .returned (.int .i64 0) ∧ Hid (R3 w w' s b N [nm 0] N)) := fun W b h => h.putOld (by simp) (nm 0) ⟨#[120]⟩ (hasK_iff.2 (mem_nms.2 ⟨0, by omega, rfl⟩)) rfl (by decide) (by decide)
      have HDL : Hid (∀ W b, R3 w W s b N [nm 0] N → Calls Try.prog 11 #[ptr b, .string ⟨#[107, 1, 0]⟩, .string (nm (256 + gb))] W fun e w' => e = .returned (.int .i64 gb) ∧ Hid (∃ L, L.length = gb ∧ (∀ k ∈ L, hasK (nms N) k = true) ∧ R3 w w' s b N ([nm 0] ++ L) (N - gb))) := fun W b h => h.del (by omega) (by simp) (by omega) gb (by omega) (by omega) (fun t ht => by
        cases h : hasK [nm 0] (nm (256 + t))
        · rfl
        · have h2 := hasK_iff.1 h
          simp at h2
          have := nm_inj (by omega) (by omega) h2
          omega)
      have HNN := Hid.mk'' hN
      clear HM hne hN hlt
      go_upto_region 19 with (first | (go_at_call 12; refine hdn.mono ?_; rintro e w4 ⟨rfl, HR2, -⟩; have hst := HST.out _ _ _ HR2.out) | (go_at_call 9; refine hst.mono ?_; rintro e w5 ⟨b2, rfl, HR3⟩; have hpo := HPO.out _ _ HR3.out) | (go_at_call 10; refine hpo.mono ?_; rintro e w6 ⟨rfl, HR4⟩) | (go_at_call 14; refine (hwg _).mono ?_; rintro e w' ⟨rfl, hw'⟩; obtain rfl := hw'.symm))
      have hcv := gn_conv gb hgl w6
      have hba : Below w6.heap.size w6 (w6.alloc (.cells #[.int .u8 107, .int .u8 1, .int .u8 gb] 5)) := (Below.refl _ w6).alloc (Nat.le_refl _) _
      have hdl := HDL.out _ _ (HR4.out.later hba)
      clear HDL HR4 hba HPO HST hst hpo hdn HR2 HR3 hkx hwg
      go_upto_region 22 with (go_at_call 11; refine hdl.mono ?_; rintro e w7 ⟨rfl, HL⟩; have HR4 := Hid.mk'' (r4_start hNb.2 hgl HL.out); clear HL)
      · clear hdl hcv
        have hgb := ‹((gb : Int) == 0) = true›
        have hgz : (gb : Int) ≤ 0 := by have := eq_of_beq hgb; omega
        rw [hgb]
        go_wp2
        go_loopg [11] 6 (fun kx s11 wr => ∃ i : Nat, s11 = .int .i64 i ∧ kx + i = 6 ∧ i ≤ 5 ∧ Hid (R4 w wr s b2 N gb i))
        case atStart => exact ⟨0, rfl, rfl, Nat.zero_le _, HR4⟩
        case round =>
          clear HR4
          obtain ⟨i, rfl, hkx, hi, HM⟩ := hrel
          by_cases hlt : i < 5
          · have hcv := zn_conv i hlt wr
            have hba : Below wr.heap.size wr (wr.alloc (.cells #[.int .u8 122, .int .u8 i] 5)) := (Below.refl _ wr).alloc (Nat.le_refl _) _
            have hput := (HM.out.later hba).put hlt hNb hgl
            clear HM hba
            have hNN : (nb < 3 → N ≤ 4094 + nb ∧ 4094 + nb ≤ N) ∧ (3 ≤ nb → N ≤ 4096 ∧ 4096 ≤ N) := by have := HNN.out; omega
            by_cases hc : (N : Int) - gb + i < 4096
            · rw [if_pos hc] at hput
              by_cases hn3 : 3 ≤ nb
              · have hN2 : (N : Int) ≤ 4096 ∧ (4096 : Int) ≤ N := by omega
                go_wp2_with (go_at_call 10; refine hput.mono ?_; rintro e w8 ⟨rfl, HM8⟩)
              · have hN2 : (N : Int) ≤ 4094 + nb ∧ 4094 + (nb : Int) ≤ N := by omega
                go_wp2_with (go_at_call 10; refine hput.mono ?_; rintro e w8 ⟨rfl, HM8⟩)
                · exact absurd ‹(!decide (4094 + (nb : Int) + i < 4096)) = true› (by simp; omega)
                · go_roundg (5 - i)
                  case measure => omega
                  case rel => exact ⟨i + 1, by congr 1, by omega, by omega, HM8⟩
            · rw [if_neg hc] at hput
              by_cases hn3 : 3 ≤ nb
              · have hN2 : (N : Int) ≤ 4096 ∧ (4096 : Int) ≤ N := by omega
                go_wp2_with (go_at_call 10; refine hput.mono ?_; rintro e w8 ⟨rfl, HM8⟩)
                go_roundg (5 - i)
                case measure => omega
                case rel => exact ⟨i + 1, by congr 1, by omega, by omega, HM8⟩
              · have hN2 : (N : Int) ≤ 4094 + nb ∧ 4094 + (nb : Int) ≤ N := by omega
                go_wp2_with (go_at_call 10; refine hput.mono ?_; rintro e w8 ⟨rfl, HM8⟩)
                go_roundg (5 - i)
                case measure => omega
                case rel => exact ⟨i + 1, by congr 1, by omega, by omega, HM8⟩
          · obtain rfl : i = 5 := by omega
            have hdn := HM.out.done (Nat.le_refl _)
            clear HM
            go_wp2_with (go_at_call 12; refine hdn.mono ?_; rintro e w9 ⟨rfl, HB⟩)
            go_ret
            exact ⟨rfl, HB.out⟩
      · clear hdl hcv
        have hgb := ‹((gb : Int) == 0) = false›
        rw [hgb]
        go_wp2
        go_loopg [11] 6 (fun kx s11 wr => ∃ i : Nat, s11 = .int .i64 i ∧ kx + i = 6 ∧ i ≤ 5 ∧ Hid (R4 w wr s b2 N gb i))
        case atStart => exact ⟨0, rfl, rfl, Nat.zero_le _, HR4⟩
        case round =>
          clear HR4
          obtain ⟨i, rfl, hkx, hi, HM⟩ := hrel
          by_cases hlt : i < 5
          · have hcv := zn_conv i hlt wr
            have hba : Below wr.heap.size wr (wr.alloc (.cells #[.int .u8 122, .int .u8 i] 5)) := (Below.refl _ wr).alloc (Nat.le_refl _) _
            have hput := (HM.out.later hba).put hlt hNb hgl
            clear HM hba
            have hNN : (nb < 3 → N ≤ 4094 + nb ∧ 4094 + nb ≤ N) ∧ (3 ≤ nb → N ≤ 4096 ∧ 4096 ≤ N) := by have := HNN.out; omega
            by_cases hc : (N : Int) - gb + i < 4096
            · rw [if_pos hc] at hput
              by_cases hn3 : 3 ≤ nb
              · have hN2 : (N : Int) ≤ 4096 ∧ (4096 : Int) ≤ N := by omega
                go_wp2_with (go_at_call 10; refine hput.mono ?_; rintro e w8 ⟨rfl, HM8⟩)
                · exact absurd ‹(!decide (4096 - (gb : Int) + i < 4096)) = true› (by simp; omega)
                · go_roundg (5 - i)
                  case measure => omega
                  case rel => exact ⟨i + 1, by congr 1, by omega, by omega, HM8⟩
              · have hN2 : (N : Int) ≤ 4094 + nb ∧ 4094 + (nb : Int) ≤ N := by omega
                go_wp2_with (go_at_call 10; refine hput.mono ?_; rintro e w8 ⟨rfl, HM8⟩)
                · exact absurd ‹(!decide (4094 + (nb : Int) - gb + i < 4096)) = true› (by simp; omega)
                · go_roundg (5 - i)
                  case measure => omega
                  case rel => exact ⟨i + 1, by congr 1, by omega, by omega, HM8⟩
            · rw [if_neg hc] at hput
              by_cases hn3 : 3 ≤ nb
              · have hN2 : (N : Int) ≤ 4096 ∧ (4096 : Int) ≤ N := by omega
                go_wp2_with (go_at_call 10; refine hput.mono ?_; rintro e w8 ⟨rfl, HM8⟩)
                go_roundg (5 - i)
                case measure => omega
                case rel => exact ⟨i + 1, by congr 1, by omega, by omega, HM8⟩
              · have hN2 : (N : Int) ≤ 4094 + nb ∧ 4094 + (nb : Int) ≤ N := by omega
                go_wp2_with (go_at_call 10; refine hput.mono ?_; rintro e w8 ⟨rfl, HM8⟩)
                go_roundg (5 - i)
                case measure => omega
                case rel => exact ⟨i + 1, by congr 1, by omega, by omega, HM8⟩
          · obtain rfl : i = 5 := by omega
            have hdn := HM.out.done (Nat.le_refl _)
            clear HM
            go_wp2_with (go_at_call 12; refine hdn.mono ?_; rintro e w9 ⟨rfl, HB⟩)
            go_ret
            exact ⟨rfl, HB.out⟩
end Go.Proofs.Yteeflkkoifgcbaa
