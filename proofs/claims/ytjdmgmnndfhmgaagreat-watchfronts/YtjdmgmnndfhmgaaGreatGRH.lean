/- A store in memory, and a write of it. -/
import Derived.Test.YtjdmgmnndfhmgaaGreatGRG
import Derived.WalkSpells
import Derived.BigQuiet
import Derived.LaidEql
namespace Go.Proofs.YtjdmgmnndfhmgaaGreat
open Go Go.RowKit

/-- The kinds of blocks that the index has. -/
def Kind (w : World) (k : Nat) (ts : List Nat) : Prop := ∃ c t f, w.heap[k]? = some (.cells c t f) ∧ t ∈ ts
abbrev own7 : List Nat := [125, 186, 151, 123, 144]
theorem Kind.of_row {w : World} {B e s n : Nat} {v : Value} {xs : List Value} (h : w.ownsRow B e s v n xs) {k : Nat} (hk : v.ownBlock = some k) {ts : List Nat} (he : e ∈ ts) : Kind w k ts := by
  obtain ⟨_, c, f, hh⟩ := ownBlock_ge h hk
  exact ⟨c, e, f, hh, he⟩
theorem Nod.kind {w : World} {b : Nat} {iv kv : Value} {its : List Itm} {ks : List Nat} (h : Nod w b iv kv its ks) : ∀ k ∈ nf b iv kv, Kind w k own7 := fun k hk => by
  simp only [nf, List.mem_cons, List.mem_append, Option.mem_toList] at hk
  rcases hk with rfl | hk | hk
  · exact ⟨_, _, _, h.blk, by simp⟩
  · exact Kind.of_row h.items hk (by simp)
  · exact Kind.of_row h.kids hk (by simp)
theorem Tre.kind {w : World} : ∀ {h b : Nat} {its L : List Itm} {F : List Nat}, Tre w h b its L F → ∀ k ∈ F, Kind w k own7
  | 0, _, _, _, _, ⟨iv, kv, hN, _, hF⟩, k, hk => hN.kind k (by rw [← hF]; exact hk)
  | h + 1, _, _, _, _, ⟨iv, kv, ks, hN, hl, hks, hL, hF⟩, k, hk => by
    rw [hF, List.mem_append] at hk
    rcases hk with hk | hk
    · exact hN.kind k hk
    · obtain ⟨a, ha, hk⟩ := List.mem_flatMap.1 hk
      exact (hks a ha).1.kind k hk
theorem Xd.kind {w : World} {x : Nat} {D : Dat} {F : List Nat} (h : Xd w x D F) : ∀ k ∈ F, Kind w k own7 := fun k hk => by
  obtain ⟨R, h1, _⟩ := h
  obtain ⟨rp, Ft, hx, hR, hF⟩ := h1.ex
  rw [hF] at hk
  rcases List.mem_cons.1 hk with rfl | hk
  · exact ⟨_, _, _, hx, by simp⟩
  · rcases List.mem_append.1 hk with hk | hk
    · rcases hR with ⟨_, _, rfl⟩ | ⟨h, b, its, _, ht, _⟩
      · cases hk
      · exact ht.kind k hk
    · obtain ⟨r, hr, hk⟩ := List.mem_flatMap.1 hk
      simp only [ownM, Option.mem_toList] at hk
      exact Kind.of_row (h1.mks r hr).1 hk (by simp)
theorem Kind.ne {w : World} {k : Nat} (h : Kind w k own7) {c : Array Value} {t : Nat} {f : Nat × Nat} {b : Nat} (hb : w.heap[b]? = some (.cells c t f)) (ht : t ∉ own7) : k ≠ b := fun e => by
  obtain ⟨c', t', f', h1, h2⟩ := h
  rw [e, hb] at h1
  cases h1
  exact ht h2
theorem Kind.ne_map {w : World} {k : Nat} (h : Kind w k own7) {es : Array MapEntry} {c b : Nat} (hb : w.heap[b]? = some (.map es c)) : k ≠ b := fun e => by
  obtain ⟨c', t', f', h1, h2⟩ := h
  rw [e, hb] at h1
  cases h1

abbrev encB : ByteArray → Value := fun k => .string k
abbrev encI : Int → Value := fun r => .int .i64 r
abbrev encP : Int × ByteArray → Value := fun p => .agg #[.int .i64 p.1, .string p.2]
/-- A change as it is kept: a put, or a deletion. -/
def encC (k : ByteArray) : Option KVd → Value
  | some kv => .iface 96 (encKV kv)
  | none => .iface 88 (.agg #[.string k])
/-- A store as data: its revisions, the keys that it knows (rising), what was done to each, the keys of each revision, how many are there. -/
structure Sto where
  rev : Nat
  past : Nat
  ks : List ByteArray
  kh : ByteArray → Hs
  lg : Int → List ByteArray
  nth : Nat
def markOf (p : Int × Option KVd) : Mk := (p.1, p.2.isNone)
def datS (S : Sto) : Dat := S.ks.map fun k => (k, (S.kh k).map markOf)
def chF (S : Sto) : Int × ByteArray → Option Value := fun p => ((S.kh p.2).find? fun q => decide (q.1 = p.1)).map fun q => encC p.2 q.2
def thF (S : Sto) : ByteArray → Option Value := fun k => (thereH (S.kh k)).map fun kv => .int .i64 kv.mod
/-- Its blocks: the index, three maps, the rows of its log. -/
structure Sg where
  x : Nat
  bc : Nat
  bl : Nat
  bt : Nat
  Fi : List Nat
  lv : Int → Option Value
  nc : Nat
  nl : Nat
structure St (n : Nat) (w : World) (s : Nat) (S : Sto) (g : Sg) (o : Value) : Prop where
  blk : w.heap[s]? = some (.cells #[.int .i64 S.rev, .int .i64 S.past, ptr g.x, .map (some g.bc), .map (some g.bl), .map (some g.bt), o] 74 (0, 0))
  ix : Xd w g.x (datS S) g.Fi
  bd : Bd n (datS S)
  ch : MapF w encP g.bc (chF S) g.nc
  lg : MapF w encI g.bl g.lv g.nl
  th : MapF w encB g.bt (thF S) S.nth
  ne : g.bc ≠ g.bl ∧ g.bc ≠ g.bt ∧ g.bl ≠ g.bt
  rows : ∀ r v, g.lv r = some v → r ≤ S.rev ∧ w.ownsRow 0 9 1 v (S.lg r).length (strs (S.lg r))
  hok : ∀ k, HOk k S.rev (S.kh k)
  mem : ∀ k, k ∈ S.ks ↔ S.kh k ≠ []
  sz : ∀ k ∈ S.ks, 0 < k.size ∧ k.size ≤ 100
  past : S.past ≤ S.rev
/-- A store's blocks. -/
def ftS (s : Nat) (g : Sg) (k : Nat) : Prop := k = s ∨ k = g.bc ∨ k = g.bl ∨ k = g.bt ∨ k ∈ g.Fi ∨ ∃ r v, g.lv r = some v ∧ v.ownBlock = some k
theorem St.upd {n : Nat} {w w' : World} {s : Nat} {S : Sto} {g : Sg} {o : Value} {T : Nat → Prop} (h : St n w s S g o) (hu : Upd w w' T) (hT : ∀ k, ftS s g k → ¬ T k) : St n w' s S g o :=
  ⟨(hu.block s (Array.getElem?_eq_some_iff.1 h.blk).1 (hT s (.inl rfl))).trans h.blk, h.ix.upd hu (fun k hk => hT k (.inr (.inr (.inr (.inr (.inl hk)))))), h.bd,
   h.ch.upd hu (hT _ (.inr (.inl rfl))), h.lg.upd hu (hT _ (.inr (.inr (.inl rfl)))), h.th.upd hu (hT _ (.inr (.inr (.inr (.inl rfl))))), h.ne,
   fun r v hv => ⟨(h.rows r v hv).1, ownsRow_upd (h.rows r v hv).2 hu (fun k hk => hT k (.inr (.inr (.inr (.inr (.inr ⟨r, v, hv, hk⟩))))))⟩, h.hok, h.mem, h.sz, h.past⟩
theorem St.below {n : Nat} {w w' : World} {s : Nat} {S : Sto} {g : Sg} {o : Value} (h : St n w s S g o) (hb : Below w.heap.size w w') : St n w' s S g o := h.upd (T := fun _ => False) (Upd.ofBelow hb) (fun _ _ h => h)
theorem St.lt {n : Nat} {w : World} {s : Nat} {S : Sto} {g : Sg} {o : Value} (h : St n w s S g o) {k : Nat} (hk : ftS s g k) : k < w.heap.size := by
  rcases hk with rfl | rfl | rfl | rfl | hk | ⟨r, v, hv, hk⟩
  · exact (Array.getElem?_eq_some_iff.1 h.blk).1
  · exact h.ch.lt
  · exact h.lg.lt
  · exact h.th.lt
  · exact h.ix.lt k hk
  · exact ((h.rows r v hv).2.lt k hk).2
/-- A write as data: the keys that it changed, in order; their changes; how many keys there will be. -/
structure Wri where
  keys : List ByteArray
  ch : ByteArray → Option (Option KVd)
  count : Int
def wcF (W : Wri) : ByteArray → Option Value := fun k => (W.ch k).map (encC k)
structure Wg where
  bw : Nat
  v : Value
  nw : Nat
structure Wm (w : World) (b s : Nat) (W : Wri) (h : Wg) : Prop where
  blk : w.heap[b]? = some (.cells #[ptr s, h.v, .map (some h.bw), .int .i64 W.count] 80 (0, 0))
  mp : MapF w encB h.bw (wcF W) h.nw
  row : w.ownsRow 0 9 1 h.v W.keys.length (strs W.keys)
  cov : ∀ k, W.ch k ≠ none ↔ k ∈ W.keys
  nd : W.keys.Nodup
def ftW (b : Nat) (h : Wg) (k : Nat) : Prop := k = b ∨ k = h.bw ∨ h.v.ownBlock = some k
theorem Wm.upd {w w' : World} {b s : Nat} {W : Wri} {h : Wg} {T : Nat → Prop} (H : Wm w b s W h) (hu : Upd w w' T) (hT : ∀ k, ftW b h k → ¬ T k) : Wm w' b s W h :=
  ⟨(hu.block b (Array.getElem?_eq_some_iff.1 H.blk).1 (hT b (.inl rfl))).trans H.blk, H.mp.upd hu (hT _ (.inr (.inl rfl))), ownsRow_upd H.row hu (fun k hk => hT k (.inr (.inr hk))), H.cov, H.nd⟩
theorem Wm.below {w w' : World} {b s : Nat} {W : Wri} {h : Wg} (H : Wm w b s W h) (hb : Below w.heap.size w w') : Wm w' b s W h := H.upd (T := fun _ => False) (Upd.ofBelow hb) (fun _ _ h => h)
theorem Wm.lt {w : World} {b s : Nat} {W : Wri} {h : Wg} (H : Wm w b s W h) {k : Nat} (hk : ftW b h k) : k < w.heap.size := by
  rcases hk with rfl | rfl | hk
  · exact (Array.getElem?_eq_some_iff.1 H.blk).1
  · exact H.mp.lt
  · exact (H.row.lt k hk).2
/-- A store with its open write. -/
structure Ow (n : Nat) (w : World) (s b : Nat) (S : Sto) (W : Wri) (g : Sg) (h : Wg) : Prop where
  st : St n w s S g (ptr b)
  wr : Wm w b s W h
  ap : ∀ k, ftS s g k → ¬ ftW b h k
theorem Ow.below {n : Nat} {w w' : World} {s b : Nat} {S : Sto} {W : Wri} {g : Sg} {h : Wg} (H : Ow n w s b S W g h) (hb : Below w.heap.size w w') : Ow n w' s b S W g h := ⟨H.st.below hb, H.wr.below hb, H.ap⟩
theorem law65 : KLaw Tryz.prog 9 encB := law_string Tryz.underlying9
theorem law61 : KLaw Tryz.prog 3 encI := law_int Tryz.underlying3
theorem zero71 (w : World) : (zeroValue 85).run Tryz.prog w = .ok .nilIface w := by kernel_rfl
theorem zero3 (w : World) : (zeroValue 3).run Tryz.prog w = .ok (.int .i64 0) w := by kernel_rfl
theorem zero66 (w : World) : (zeroValue 37).run Tryz.prog w = .ok (.slice none 0 0) w := by kernel_rfl
theorem stood88 : Tryz.prog.stoodInHeld 122 = false := by kernel_rfl
theorem part0 (a k : Value) (w : World) : (part 3 #[a, k] 0).run Tryz.prog w = .ok a w := by kernel_rfl
theorem part1 (a k : Value) (w : World) : (part 9 #[a, k] 1).run Tryz.prog w = .ok k w := by kernel_rfl
theorem eqInt (n : Nat) (a b : Int) (w : World) : (Op.equalIn (n + 1) 3 (.int .i64 a) (.int .i64 b)).run Tryz.prog w = .ok (a == b) w := by
  unfold Op.equalIn
  simp [run_underlying Tryz.underlying3, Result.andThen]
theorem eqStr (n : Nat) (a b : ByteArray) (w : World) : (Op.equalIn (n + 1) 9 (.string a) (.string b)).run Tryz.prog w = .ok (a == b) w := by
  unfold Op.equalIn
  simp [run_underlying Tryz.underlying9, Result.andThen]
theorem eq88 (p q : Int × ByteArray) (w : World) : (Op.equal 122 (encP p) (encP q)).run Tryz.prog w = .ok (decide (p = q)) w := by
  obtain ⟨a, k⟩ := p
  obtain ⟨b, j⟩ := q
  show (Op.equalIn (9999 + 1) 122 _ _).run Tryz.prog w = _
  unfold Op.equalIn
  simp only [Sem.run_bind, run_underlying Tryz.underlying122, Result.andThen, run_program, stood88]
  simp [part0, eqInt, Result.andThen]
  by_cases h : a = b
  · have e9 := eqStr 9998 k j w
    by_cases hk : k = j
    · subst hk
      have hb : (k == k) = true := (MapKept.bytes_beq k k).2 rfl
      simp [h, part1, e9, hb, Result.andThen]
    · have hb : (k == j) = false := Bool.eq_false_iff.2 (fun e => hk ((MapKept.bytes_beq k j).1 e))
      simp [h, hk, part1, e9, hb, Result.andThen]
  · simp [h]
theorem chk88 (e : Bool) (p : Int × ByteArray) (w : World) : (Instr.checkKey e 10000 122 (encP p)).run Tryz.prog w = .ok () w := by
  obtain ⟨a, k⟩ := p
  show (Instr.checkKey e (9999 + 1) 122 _).run Tryz.prog w = _
  have c3 : ∀ a, (Instr.checkKey e 9999 3 (.int .i64 a)).run Tryz.prog w = .ok () w := fun a => MapKept.run_checkKey (k := .int .i64 a) Tryz.underlying3 rfl e 9998
  have c9 : ∀ k, (Instr.checkKey e 9999 9 (.string k)).run Tryz.prog w = .ok () w := fun k => MapKept.run_checkKey (k := .string k) Tryz.underlying9 trivial e 9998
  unfold Instr.checkKey
  simp [run_underlying Tryz.underlying122, Result.andThen, part0, part1, c3, c9]
theorem law60 : KLaw Tryz.prog 122 encP :=
  KLaw.asks Tryz.underlying122 (fun k j => rfl) eq88 (fun k => by simp [Instr.sameBits]; exact (MapKept.bytes_beq _ _).2 rfl) chk88
end Go.Proofs.YtjdmgmnndfhmgaaGreat
/- Small calls of a store and of a write: Rev, isOpen, isKey, rev. -/
namespace Go.Proofs.YtjdmgmnndfhmgaaGreat
open Go Go.RowKit

theorem St.cells {n : Nat} {w : World} {s : Nat} {S : Sto} {g : Sg} {o : Value} (h : St n w s S g o) : w.cell? ⟨s, 0, none⟩ = some (.int .i64 S.rev) ∧ w.cell? ⟨s, 1, none⟩ = some (.int .i64 S.past) ∧ w.cell? ⟨s, 2, none⟩ = some (ptr g.x) ∧ w.cell? ⟨s, 3, none⟩ = some (.map (some g.bc)) ∧ w.cell? ⟨s, 4, none⟩ = some (.map (some g.bl)) ∧ w.cell? ⟨s, 5, none⟩ = some (.map (some g.bt)) ∧ w.cell? ⟨s, 6, none⟩ = some o :=
  ⟨cell_of_row _ _ _ _ _ _ h.blk, cell_of_row _ _ _ _ _ _ h.blk, cell_of_row _ _ _ _ _ _ h.blk, cell_of_row _ _ _ _ _ _ h.blk, cell_of_row _ _ _ _ _ _ h.blk, cell_of_row _ _ _ _ _ _ h.blk, cell_of_row _ _ _ _ _ _ h.blk⟩
theorem Wm.cells {w : World} {b s : Nat} {W : Wri} {h : Wg} (H : Wm w b s W h) : w.cell? ⟨b, 0, none⟩ = some (ptr s) ∧ w.cell? ⟨b, 1, none⟩ = some h.v ∧ w.cell? ⟨b, 2, none⟩ = some (.map (some h.bw)) ∧ w.cell? ⟨b, 3, none⟩ = some (.int .i64 W.count) :=
  ⟨cell_of_row _ _ _ _ _ _ H.blk, cell_of_row _ _ _ _ _ _ H.blk, cell_of_row _ _ _ _ _ _ H.blk, cell_of_row _ _ _ _ _ _ H.blk⟩
set_option maxRecDepth 100000 in
set_option maxHeartbeats 400000 in
theorem rev_st {n : Nat} {w : World} {s : Nat} {S : Sto} {g : Sg} {o : Value} (h : St n w s S g o) : Calls Tryz.prog 31 #[ptr s] w fun e w' => e = .returned (.int .i64 S.rev) ∧ w' = w := by
  obtain ⟨c0, -⟩ := h.cells
  clear h
  go_enter Tryz.func31, Tryz.ntmps31
  go_wp2
  go_ret
  exact ⟨rfl, rfl⟩
theorem ptr_eqIn (n b : Nat) (W : World) : (Op.equalIn (n + 1) 42 (ptr b) (ptr b)).run Tryz.prog W = .ok true W := by
  unfold Op.equalIn
  have hs : (Go.sizeOf 80).run Tryz.prog W = .ok 4 W := by kernel_rfl
  simp [run_underlying Tryz.underlying42, Result.andThen, hs, run_sameAddr_same]
theorem ptr_eq (b : Nat) (W : World) : (binOp BinOp.eql 42 (ptr b) (ptr b)).run Tryz.prog W = .ok (.bool true) W := by
  have := ptr_eqIn 9999 b W
  simp only [Nat.reduceAdd] at this
  simp [binOp, Op.equal, Op.maxDepth, this, Result.andThen]
set_option maxRecDepth 100000 in
set_option maxHeartbeats 400000 in
theorem open_st {n : Nat} {w : World} {s b : Nat} {S : Sto} {W : Wri} {g : Sg} {h : Wg} (H : Ow n w s b S W g h) : Calls Tryz.prog 36 #[ptr b] w fun e w' => e = .returned (.bool true) ∧ w' = w := by
  obtain ⟨c0, -⟩ := H.wr.cells
  obtain ⟨-, -, -, -, -, -, d6⟩ := H.st.cells
  clear H
  have hpe := ptr_eq b
  go_enter Tryz.func36, Tryz.ntmps36
  go_wp2
  go_ret
  exact ⟨rfl, rfl⟩
set_option maxRecDepth 100000 in
set_option maxHeartbeats 400000 in
theorem iskey_any (k : ByteArray) (w : World) (hk : k.size ≤ 9223372036854775807) : Calls Tryz.prog 42 #[.string k] w fun e w' => e = .returned (.bool (decide (0 < k.size ∧ k.size ≤ 100))) ∧ w' = w := by
  by_cases h0 : 0 < k.size
  · by_cases h1 : k.size ≤ 100
    · rw [decide_eq_true ⟨h0, h1⟩]
      go_enter Tryz.func42, Tryz.ntmps42
      go_wp2
      go_ret
      exact ⟨ret_bool (a := decide ((k.size : Int) ≤ 100)) (decide_eq_true (by omega)), rfl⟩
    · rw [decide_eq_false (fun h => h1 h.2)]
      go_enter Tryz.func42, Tryz.ntmps42
      go_wp2
      go_ret
      exact ⟨ret_bool (a := decide ((k.size : Int) ≤ 100)) (decide_eq_false (by omega)), rfl⟩
  · rw [decide_eq_false (fun h => h0 h.1)]
    go_enter Tryz.func42, Tryz.ntmps42
    go_wp2
    go_ret
    exact ⟨rfl, rfl⟩
set_option maxRecDepth 100000 in
set_option maxHeartbeats 400000 in
theorem wrev_st {n : Nat} {w : World} {s b : Nat} {S : Sto} {W : Wri} {g : Sg} {h : Wg} (H : Ow n w s b S W g h) (hr : S.rev ≤ 1000000) : Calls Tryz.prog 44 #[ptr b] w fun e w' => e = .returned (.int .i64 ((S.rev : Int) + 1)) ∧ w' = w := by
  obtain ⟨c0, -⟩ := H.wr.cells
  obtain ⟨d0, -⟩ := H.st.cells
  clear H
  go_enter Tryz.func44, Tryz.ntmps44
  go_wp2
  go_ret
  exact ⟨rfl, rfl⟩
end Go.Proofs.YtjdmgmnndfhmgaaGreat
/- Boxes of six cells (a key as it was put), and results that lie in them. -/
namespace Go.Proofs.YtjdmgmnndfhmgaaGreat
open Go Go.RowKit

theorem results_ct {P : Program} {fn : Func} {u q : Tmp} {ty : TypeId} (h : fn.results = #[.cell u ty, .tmp q]) (tmps : Array Value) (w : World) (g : Nat) (t : TypeId) (cs : Array Value) (fr : Nat × Nat) (d : TypeDesc)
    (hp : tmps.getD u undef = .pointer (some ⟨g, 0, none⟩)) (hg : w.heap[g]? = some (.cells cs t fr))
    (hu : P.underlying ty = some d) (hd : (match d with | .struct _ | .array _ _ => true | _ => false) = true) (hi : (P.info? ty).map (·.size) = some cs.size) :
    (results fn tmps).run P w = .ok (.tuple #[.agg cs, tmps.getD q undef]) w := by
  have hp' : tmps[u]?.getD undef = .pointer (some ⟨g, 0, none⟩) := by simpa using hp
  simp [results, h, hp', asAddr, run_loadVar_row w g t ty cs fr d hg hu hd hi]
theorem size56 : (Tryz.prog.info? 61).map (·.size) = some 6 := by kernel_rfl
theorem size76 : (Tryz.prog.info? 96).map (·.size) = some 6 := by kernel_rfl
section
variable {W : World} {gb t : Nat} {a0 a1 a2 a3 a4 a5 : Value} (h : W.heap[gb]? = some (.cells #[a0, a1, a2, a3, a4, a5] t (0, 0)))
include h
theorem box6 : (W.cell? ⟨gb, 0, none⟩ = some a0 ∧ W.cell? ⟨gb, 1, none⟩ = some a1 ∧ W.cell? ⟨gb, 2, none⟩ = some a2 ∧ W.cell? ⟨gb, 3, none⟩ = some a3 ∧ W.cell? ⟨gb, 4, none⟩ = some a4 ∧ W.cell? ⟨gb, 5, none⟩ = some a5) ∧
    W.frozen? ⟨gb, 0, none⟩ = false ∧ W.frozen? ⟨gb, 1, none⟩ = false ∧ W.frozen? ⟨gb, 2, none⟩ = false ∧ W.frozen? ⟨gb, 3, none⟩ = false ∧ W.frozen? ⟨gb, 4, none⟩ = false ∧ W.frozen? ⟨gb, 5, none⟩ = false :=
  ⟨⟨cell_of_row _ _ _ _ _ _ h, cell_of_row _ _ _ _ _ _ h, cell_of_row _ _ _ _ _ _ h, cell_of_row _ _ _ _ _ _ h, cell_of_row _ _ _ _ _ _ h, cell_of_row _ _ _ _ _ _ h⟩, frozen_of_row _ _ _ _ _ h, frozen_of_row _ _ _ _ _ h, frozen_of_row _ _ _ _ _ h, frozen_of_row _ _ _ _ _ h, frozen_of_row _ _ _ _ _ h, frozen_of_row _ _ _ _ _ h⟩
theorem set6 (v0 v1 v2 v3 v4 v5 : Value) : ((((((W.setCell ⟨gb, 0, none⟩ v0).setCell ⟨gb, 1, none⟩ v1).setCell ⟨gb, 2, none⟩ v2).setCell ⟨gb, 3, none⟩ v3).setCell ⟨gb, 4, none⟩ v4).setCell ⟨gb, 5, none⟩ v5).heap[gb]? = some (.cells #[v0, v1, v2, v3, v4, v5] t (0, 0)) :=
  heap_setCell_row (heap_setCell_row (heap_setCell_row (heap_setCell_row (heap_setCell_row (heap_setCell_row h v0) v1) v2) v3) v4) v5
end
theorem below6 {B : Nat} {w W : World} (h : Below B w W) {gb : Nat} (hg : B ≤ gb) (v0 v1 v2 v3 v4 v5 : Value) : Below B w ((((((W.setCell ⟨gb, 0, none⟩ v0).setCell ⟨gb, 1, none⟩ v1).setCell ⟨gb, 2, none⟩ v2).setCell ⟨gb, 3, none⟩ v3).setCell ⟨gb, 4, none⟩ v4).setCell ⟨gb, 5, none⟩ v5) :=
  (((((h.setCell hg _).setCell hg _).setCell hg _).setCell hg _).setCell hg _).setCell hg _
theorem cell6 {W : World} {k i gb : Nat} {v : Value} (h : W.cell? ⟨k, i, none⟩ = some v) (hne : ¬ k = gb) (v0 v1 v2 v3 v4 v5 : Value) : ((((((W.setCell ⟨gb, 0, none⟩ v0).setCell ⟨gb, 1, none⟩ v1).setCell ⟨gb, 2, none⟩ v2).setCell ⟨gb, 3, none⟩ v3).setCell ⟨gb, 4, none⟩ v4).setCell ⟨gb, 5, none⟩ v5).cell? ⟨k, i, none⟩ = some v := by
  have hn : ∀ j, (⟨k, i, none⟩ : Addr) ≠ ⟨gb, j, none⟩ := fun j e => hne (by cases e; rfl)
  rw [World.cell?_setCell_other _ _ _ _ (by first | exact hn _ | exact (hn _).symm), World.cell?_setCell_other _ _ _ _ (by first | exact hn _ | exact (hn _).symm), World.cell?_setCell_other _ _ _ _ (by first | exact hn _ | exact (hn _).symm), World.cell?_setCell_other _ _ _ _ (by first | exact hn _ | exact (hn _).symm), World.cell?_setCell_other _ _ _ _ (by first | exact hn _ | exact (hn _).symm), World.cell?_setCell_other _ _ _ _ (by first | exact hn _ | exact (hn _).symm)]
  exact h
theorem ta_must (x : Value) (W : World) : (Instr.typeAssert (.iface 96 x) 85 96 false).run Tryz.prog W = .ok x W := by kernel_rfl
theorem ta_yes (x : Value) (W : World) : (Instr.typeAssert (.iface 96 x) 85 96 true).run Tryz.prog W = .ok (.tuple #[x, .bool true]) W := by kernel_rfl
theorem ta_no (x : Value) (W : World) : (Instr.typeAssert (.iface 88 x) 85 96 true).run Tryz.prog W = .ok (.tuple #[.agg #[.string ⟨#[]⟩, .string ⟨#[]⟩, .int .i64 0, .int .i64 0, .int .i64 0, .int .i64 0], .bool false]) W := by kernel_rfl
end Go.Proofs.YtjdmgmnndfhmgaaGreat
/- lastPut, at, look. -/
namespace Go.Proofs.YtjdmgmnndfhmgaaGreat
open Go Go.RowKit

def modOf (o : Option KVd) : Int := match o with | some kv => kv.mod | none => 0
theorem thF_get (S : Sto) (k : ByteArray) : (thF S k).getD (.int .i64 0) = .int .i64 (modOf (thereH (S.kh k))) := by
  unfold thF modOf
  cases thereH (S.kh k) <;> rfl
set_option maxRecDepth 100000 in
set_option maxHeartbeats 400000 in
/-- lastPut at the present. -/
theorem last_now {n : Nat} {w : World} {s : Nat} {S : Sto} {g : Sg} {o : Value} (h : St n w s S g o) (key : ByteArray) : Calls Tryz.prog 71 #[ptr s, .string key, .int .i64 S.rev] w fun e w' => e = .returned (.int .i64 (modOf (thereH (S.kh key)))) ∧ Below w.heap.size w w' := by
  have hb : Below w.heap.size w (w.alloc (.cells #[.int .i64 S.rev] 3)) := (Below.refl _ w).alloc (Nat.le_refl _) _
  have h1 := h.below hb
  have hbd : ∀ q, Below w.heap.size w ((w.alloc (.cells #[.int .i64 S.rev] 3)).drewN q) := fun q => by
    induction q with
    | zero => exact hb
    | succ q ih => exact ih.drew
  obtain ⟨c0, -, -, -, -, c5, -⟩ := h1.cells
  have hl : ∀ q, (Instr.lookup 72 (.map (some g.bt)) (.string key) false).run Tryz.prog ((w.alloc (.cells #[.int .i64 S.rev] 3)).drewN q) = .ok (.int .i64 (modOf (thereH (S.kh key)))) ((w.alloc (.cells #[.int .i64 S.rev] 3)).drewN q) := fun q => by
    rw [← thF_get]
    exact (h.below (hbd q)).th.look law65 Tryz.underlying72 (zero3 _) key false
  have HBD : ∀ q, Hid (Below w.heap.size w ((w.alloc (.cells #[.int .i64 S.rev] 3)).drewN q)) := fun q => hbd q
  clear h h1 hb hbd
  go_enter Tryz.func71, Tryz.ntmps71
  go_wp2
  go_quiet (fail)
  go_wp2
  go_ret
  exact ⟨rfl, (HBD _).out⟩
theorem find_mem : ∀ {h : Hs} {r : Int} {o : Option KVd}, h.Pairwise (fun p q => p.1 < q.1) → (r, o) ∈ h → h.find? (fun q => decide (q.1 = r)) = some (r, o)
  | [], _, _, _, hm => by cases hm
  | p :: h, r, o, hp, hm => by
    obtain ⟨h1, h2⟩ := List.pairwise_cons.1 hp
    rcases List.mem_cons.1 hm with rfl | hm
    · simp
    · have := h1 _ hm
      rw [List.find?_cons_of_neg (by simp; dsimp only at this; omega)]
      exact find_mem h2 hm
theorem chF_at {n : Nat} {w : World} {s : Nat} {S : Sto} {g : Sg} {o : Value} (h : St n w s S g o) {key : ByteArray} {rev : Int} {kv : KVd} (e : atH (S.kh key) rev = some kv) : chF S (kv.mod, key) = some (.iface 96 (encKV kv)) ∧ 0 < kv.mod := by
  obtain ⟨r, hm, _⟩ := atH_mem e
  obtain ⟨_, e2, _⟩ := (h.hok key).kv r kv hm
  have := ((h.hok key).pos _ hm).1
  rw [e2]
  refine ⟨?_, this⟩
  unfold chF
  rw [find_mem (h.hok key).asc hm]
  rfl
set_option maxRecDepth 100000 in
set_option maxHeartbeats 400000 in
/-- A key as it was at a revision. -/
theorem at_any {n : Nat} {w : World} {s : Nat} {S : Sto} {g : Sg} {o : Value} (h : St n w s S g o) (key : ByteArray) (rev : Int)
    (hl : ∀ W, Below w.heap.size w W → Calls Tryz.prog 71 #[ptr s, .string key, .int .i64 rev] W fun e w' => e = .returned (.int .i64 (modOf (atH (S.kh key) rev))) ∧ Below W.heap.size W w') :
    Calls Tryz.prog 61 #[ptr s, .string key, .int .i64 rev] w fun e w' => e = .returned (.tuple #[encKV ((atH (S.kh key) rev).getD noKV), .bool (atH (S.kh key) rev).isSome]) ∧ Below w.heap.size w w' := by
  have hb0 : Below w.heap.size w (w.alloc (.cells #[.string ⟨#[]⟩, .string ⟨#[]⟩, .int .i64 0, .int .i64 0, .int .i64 0, .int .i64 0] 61)) := (Below.refl _ w).alloc (Nat.le_refl _) _
  have hlast := hl _ hb0
  have r0 := row_alloc w #[.string ⟨#[]⟩, .string ⟨#[]⟩, .int .i64 0, .int .i64 0, .int .i64 0, .int .i64 0] 61
  generalize hV : w.alloc (.cells #[.string ⟨#[]⟩, .string ⟨#[]⟩, .int .i64 0, .int .i64 0, .int .i64 0, .int .i64 0] 61) = V at *
  have hVs : V.heap.size = w.heap.size + 1 := by rw [← hV]; simp
  have HL : Hid (∀ W kv, Below w.heap.size w W → atH (S.kh key) rev = some kv → (Instr.lookup 70 (.map (some g.bc)) (.agg #[.int .i64 kv.mod, .string key]) false).run Tryz.prog W = .ok (.iface 96 (encKV kv)) W) := fun W kv hb e => by
    have := (h.below hb).ch.look law60 Tryz.underlying70 (zero71 _) (kv.mod, key) false
    rw [(chF_at h e).1] at this
    exact this
  have HC : Hid (∀ W, Below w.heap.size w W → W.cell? ⟨s, 3, none⟩ = some (.map (some g.bc))) := fun W hb => (h.below hb).cells.2.2.2.1
  have HP : Hid (∀ kv, atH (S.kh key) rev = some kv → ¬ kv.mod = 0) := fun kv e => by have := (chF_at h e).2; omega
  clear hl
  cases e : atH (S.kh key) rev with
  | none =>
    rw [e] at hlast
    dsimp only [modOf] at hlast
    clear h e HL HC HP
    go_enter Tryz.func61, Tryz.ntmps61
    go_upto_region 3 with (go_at_call 71; refine hlast.mono ?_; rintro e w3 ⟨rfl, hb3⟩)
    have r3 := (hb3.block w.heap.size (by omega)).trans r0
    have HB : Hid (Below w.heap.size w w3) := hb0.trans (hb3.mono (by omega))
    obtain ⟨⟨k0, k1, k2, k3, k4, k5⟩, f0, f1, f2, f3, f4, f5⟩ := box6 r3
    have HR := Hid.mk'' r3
    clear r3 r0 hb3 hlast hb0 hVs hV
    go_wp2
    refine bodyPost_ret (results_ct rfl _ _ w.heap.size 61 #[.string ⟨#[]⟩, .string ⟨#[]⟩, .int .i64 0, .int .i64 0, .int .i64 0, .int .i64 0] (0, 0) _ rfl (set6 HR.out _ _ _ _ _ _) Tryz.underlying61 rfl size56) rfl ?_
    exact ⟨rfl, below6 HB.out (Nat.le_refl _) _ _ _ _ _ _⟩
  | some kv =>
    rw [e] at hlast
    dsimp only [modOf] at hlast
    have hnz := HP.out kv e
    have HL2 : Hid (∀ W, Below w.heap.size w W → (Instr.lookup 70 (.map (some g.bc)) (.agg #[.int .i64 kv.mod, .string key]) false).run Tryz.prog W = .ok (.iface 96 (encKV kv)) W) := fun W hb => HL.out W kv hb e
    clear h e HL HP
    obtain ⟨kk, kvv, kcr, kmo, kve, kle⟩ := kv
    dsimp only [encKV] at hlast hnz HL2
    go_enter Tryz.func61, Tryz.ntmps61
    go_upto_region 4 with (go_at_call 71; refine hlast.mono ?_; rintro e w3 ⟨rfl, hb3⟩)
    have r3 := (hb3.block w.heap.size (by omega)).trans r0
    have HB : Hid (Below w.heap.size w w3) := hb0.trans (hb3.mono (by omega))
    obtain ⟨⟨k0, k1, k2, k3, k4, k5⟩, f0, f1, f2, f3, f4, f5⟩ := box6 r3
    have HR := Hid.mk'' r3
    have c3 := HC.out _ HB.out
    have hlk := HL2.out _ HB.out
    clear r3 r0 hb3 hlast hb0 hVs HC HL2 hV
    have hta := ta_must
    go_wp2
    refine bodyPost_ret (results_ct rfl _ _ w.heap.size 61 #[.string kk, .string kvv, .int .i64 kcr, .int .i64 kmo, .int .i64 kve, .int .i64 kle] (0, 0) _ rfl (set6 HR.out _ _ _ _ _ _) Tryz.underlying61 rfl size56) rfl ?_
    exact ⟨rfl, below6 HB.out (Nat.le_refl _) _ _ _ _ _ _⟩
end Go.Proofs.YtjdmgmnndfhmgaaGreat
