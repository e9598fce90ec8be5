/- A store in memory, and a write of it. -/
import Derived.Test.YteeflkkoifgcbaaXD
import Derived.Test.YteeflkkoifgcbaaMQ
import Derived.Test.YteeflkkoifgcbaaMD
import Derived.WalkSpells
namespace Go.Proofs.Yteeflkkoifgcbaa
open Go Go.RowKit

/-- The kinds of blocks that the index has. -/
def Kind (w : World) (k : Nat) (ts : List Nat) : Prop := ∃ c t f, w.heap[k]? = some (.cells c t f) ∧ t ∈ ts
abbrev own7 : List Nat := [92, 123, 104, 90, 107]
theorem Kind.of_row {w : World} {B e s n : Nat} {v : Value} {xs : List Value} (h : w.ownsRow B e s v n xs) {k : Nat} (hk : v.ownBlock = some k) {ts : List Nat} (he : e ∈ ts) : Kind w k ts := by
  obtain ⟨_, c, f, hh⟩ := ownBlock_ge h hk
  exact ⟨c, e, f, hh, he⟩
theorem Nod.kind {w : World} {b : Nat} {iv kv : Value} {its : List Itm} {ks : List Nat} (h : Nod w b iv kv its ks) : ∀ k ∈ nf b iv kv, Kind w k own7 := fun k hk => by
  simp only [nf, List.mem_cons, List.mem_append, Option.mem_toList] at hk
  rcases hk with rfl | hk | hk
  · exact ⟨_, _, _, h.blk, by simp⟩
  · exact Kind.of_row h.items hk (by simp)
  · exact Kind.of_row h.kids hk (by simp)
theorem Tre.kind {w : World} : ∀ {h b : Nat} {its L : List Itm} {F : List Nat}, Tre w h b its L F → ∀ k ∈ F, Kind w k own7
  | 0, _, _, _, _, ⟨iv, kv, hN, _, hF⟩, k, hk => hN.kind k (by rw [← hF]; exact hk)
  | h + 1, _, _, _, _, ⟨iv, kv, ks, hN, hl, hks, hL, hF⟩, k, hk => by
    rw [hF, List.mem_append] at hk
    rcases hk with hk | hk
    · exact hN.kind k hk
    · obtain ⟨a, ha, hk⟩ := List.mem_flatMap.1 hk
      exact (hks a ha).1.kind k hk
theorem Xd.kind {w : World} {x : Nat} {D : Dat} {F : List Nat} (h : Xd w x D F) : ∀ k ∈ F, Kind w k own7 := fun k hk => by
  obtain ⟨R, h1, _⟩ := h
  obtain ⟨rp, Ft, hx, hR, hF⟩ := h1.ex
  rw [hF] at hk
  rcases List.mem_cons.1 hk with rfl | hk
  · exact ⟨_, _, _, hx, by simp⟩
  · rcases List.mem_append.1 hk with hk | hk
    · rcases hR with ⟨_, _, rfl⟩ | ⟨h, b, its, _, ht, _⟩
      · cases hk
      · exact ht.kind k hk
    · obtain ⟨r, hr, hk⟩ := List.mem_flatMap.1 hk
      simp only [ownM, Option.mem_toList] at hk
      exact Kind.of_row (h1.mks r hr).1 hk (by simp)
theorem Kind.ne {w : World} {k : Nat} (h : Kind w k own7) {c : Array Value} {t : Nat} {f : Nat × Nat} {b : Nat} (hb : w.heap[b]? = some (.cells c t f)) (ht : t ∉ own7) : k ≠ b := fun e => by
  obtain ⟨c', t', f', h1, h2⟩ := h
  rw [e, hb] at h1
  cases h1
  exact ht h2
theorem Kind.ne_map {w : World} {k : Nat} (h : Kind w k own7) {es : Array MapEntry} {c b : Nat} (hb : w.heap[b]? = some (.map es c)) : k ≠ b := fun e => by
  obtain ⟨c', t', f', h1, h2⟩ := h
  rw [e, hb] at h1
  cases h1

abbrev encB : ByteArray → Value := fun k => .string k
abbrev encI : Int → Value := fun r => .int .i64 r
abbrev encP : Int × ByteArray → Value := fun p => .agg #[.int .i64 p.1, .string p.2]
/-- A change as it is kept: a put, or a deletion. -/
def encC (k : ByteArray) : Option KVd → Value
  | some kv => .iface 76 (encKV kv)
  | none => .iface 79 (.agg #[.string k])
/-- A store as data: its revisions, the keys that it knows (rising), what was done to each, the keys of each revision, how many are there. -/
structure Sto where
  rev : Nat
  past : Nat
  ks : List ByteArray
  kh : ByteArray → Hs
  lg : Int → List ByteArray
  nth : Nat
def markOf (p : Int × Option KVd) : Mk := (p.1, p.2.isNone)
def datS (S : Sto) : Dat := S.ks.map fun k => (k, (S.kh k).map markOf)
def chF (S : Sto) : Int × ByteArray → Option Value := fun p => ((S.kh p.2).find? fun q => decide (q.1 = p.1)).map fun q => encC p.2 q.2
def thF (S : Sto) : ByteArray → Option Value := fun k => (thereH (S.kh k)).map fun kv => .int .i64 kv.mod
/-- Its blocks: the index, three maps, the rows of its log. -/
structure Sg where
  x : Nat
  bc : Nat
  bl : Nat
  bt : Nat
  Fi : List Nat
  lv : Int → Option Value
  nc : Nat
  nl : Nat
structure St (n : Nat) (w : World) (s : Nat) (S : Sto) (g : Sg) (o : Value) : Prop where
  blk : w.heap[s]? = some (.cells #[.int .i64 S.rev, .int .i64 S.past, ptr g.x, .map (some g.bc), .map (some g.bl), .map (some g.bt), o] 64 (0, 0))
  ix : Xd w g.x (datS S) g.Fi
  bd : Bd n (datS S)
  ch : MapF w encP g.bc (chF S) g.nc
  lg : MapF w encI g.bl g.lv g.nl
  th : MapF w encB g.bt (thF S) S.nth
  ne : g.bc ≠ g.bl ∧ g.bc ≠ g.bt ∧ g.bl ≠ g.bt
  rows : ∀ r v, g.lv r = some v → r ≤ S.rev ∧ w.ownsRow 0 9 1 v (S.lg r).length (strs (S.lg r))
  hok : ∀ k, HOk k S.rev (S.kh k)
  mem : ∀ k, k ∈ S.ks ↔ S.kh k ≠ []
  sz : ∀ k ∈ S.ks, 0 < k.size ∧ k.size ≤ 100
  past : S.past ≤ S.rev
/-- A store's blocks. -/
def ftS (s : Nat) (g : Sg) (k : Nat) : Prop := k = s ∨ k = g.bc ∨ k = g.bl ∨ k = g.bt ∨ k ∈ g.Fi ∨ ∃ r v, g.lv r = some v ∧ v.ownBlock = some k
theorem St.upd {n : Nat} {w w' : World} {s : Nat} {S : Sto} {g : Sg} {o : Value} {T : Nat → Prop} (h : St n w s S g o) (hu : Upd w w' T) (hT : ∀ k, ftS s g k → ¬ T k) : St n w' s S g o :=
  ⟨(hu.block s (Array.getElem?_eq_some_iff.1 h.blk).1 (hT s (.inl rfl))).trans h.blk, h.ix.upd hu (fun k hk => hT k (.inr (.inr (.inr (.inr (.inl hk)))))), h.bd,
   h.ch.upd hu (hT _ (.inr (.inl rfl))), h.lg.upd hu (hT _ (.inr (.inr (.inl rfl)))), h.th.upd hu (hT _ (.inr (.inr (.inr (.inl rfl))))), h.ne,
   fun r v hv => ⟨(h.rows r v hv).1, ownsRow_upd (h.rows r v hv).2 hu (fun k hk => hT k (.inr (.inr (.inr (.inr (.inr ⟨r, v, hv, hk⟩))))))⟩, h.hok, h.mem, h.sz, h.past⟩
theorem St.below {n : Nat} {w w' : World} {s : Nat} {S : Sto} {g : Sg} {o : Value} (h : St n w s S g o) (hb : Below w.heap.size w w') : St n w' s S g o := h.upd (T := fun _ => False) (Upd.ofBelow hb) (fun _ _ h => h)
theorem St.lt {n : Nat} {w : World} {s : Nat} {S : Sto} {g : Sg} {o : Value} (h : St n w s S g o) {k : Nat} (hk : ftS s g k) : k < w.heap.size := by
  rcases hk with rfl | rfl | rfl | rfl | hk | ⟨r, v, hv, hk⟩
  · exact (Array.getElem?_eq_some_iff.1 h.blk).1
  · exact h.ch.lt
  · exact h.lg.lt
  · exact h.th.lt
  · exact h.ix.lt k hk
  · exact ((h.rows r v hv).2.lt k hk).2
/-- A write as data: the keys that it changed, in order; their changes; how many keys there will be. -/
structure Wri where
  keys : List ByteArray
  ch : ByteArray → Option (Option KVd)
  count : Int
def wcF (W : Wri) : ByteArray → Option Value := fun k => (W.ch k).map (encC k)
structure Wg where
  bw : Nat
  v : Value
  nw : Nat
structure Wm (w : World) (b s : Nat) (W : Wri) (h : Wg) : Prop where
  blk : w.heap[b]? = some (.cells #[ptr s, h.v, .map (some h.bw), .int .i64 W.count] 68 (0, 0))
  mp : MapF w encB h.bw (wcF W) h.nw
  row : w.ownsRow 0 9 1 h.v W.keys.length (strs W.keys)
  cov : ∀ k, W.ch k ≠ none ↔ k ∈ W.keys
  nd : W.keys.Nodup
def ftW (b : Nat) (h : Wg) (k : Nat) : Prop := k = b ∨ k = h.bw ∨ h.v.ownBlock = some k
theorem Wm.upd {w w' : World} {b s : Nat} {W : Wri} {h : Wg} {T : Nat → Prop} (H : Wm w b s W h) (hu : Upd w w' T) (hT : ∀ k, ftW b h k → ¬ T k) : Wm w' b s W h :=
  ⟨(hu.block b (Array.getElem?_eq_some_iff.1 H.blk).1 (hT b (.inl rfl))).trans H.blk, H.mp.upd hu (hT _ (.inr (.inl rfl))), ownsRow_upd H.row hu (fun k hk => hT k (.inr (.inr hk))), H.cov, H.nd⟩
theorem Wm.below {w w' : World} {b s : Nat} {W : Wri} {h : Wg} (H : Wm w b s W h) (hb : Below w.heap.size w w') : Wm w' b s W h := H.upd (T := fun _ => False) (Upd.ofBelow hb) (fun _ _ h => h)
theorem Wm.lt {w : World} {b s : Nat} {W : Wri} {h : Wg} (H : Wm w b s W h) {k : Nat} (hk : ftW b h k) : k < w.heap.size := by
  rcases hk with rfl | rfl | hk
  · exact (Array.getElem?_eq_some_iff.1 H.blk).1
  · exact H.mp.lt
  · exact (H.row.lt k hk).2
/-- A store with its open write. -/
structure Ow (n : Nat) (w : World) (s b : Nat) (S : Sto) (W : Wri) (g : Sg) (h : Wg) : Prop where
  st : St n w s S g (ptr b)
  wr : Wm w b s W h
  ap : ∀ k, ftS s g k → ¬ ftW b h k
theorem Ow.below {n : Nat} {w w' : World} {s b : Nat} {S : Sto} {W : Wri} {g : Sg} {h : Wg} (H : Ow n w s b S W g h) (hb : Below w.heap.size w w') : Ow n w' s b S W g h := ⟨H.st.below hb, H.wr.below hb, H.ap⟩
theorem law65 : KLaw Try.prog 9 encB := law_string Try.underlying9
theorem law61 : KLaw Try.prog 3 encI := law_int Try.underlying3
theorem zero71 (w : World) : (zeroValue 71).run Try.prog w = .ok .nilIface w := by kernel_rfl
theorem zero3 (w : World) : (zeroValue 3).run Try.prog w = .ok (.int .i64 0) w := by kernel_rfl
theorem zero66 (w : World) : (zeroValue 66).run Try.prog w = .ok (.slice none 0 0) w := by kernel_rfl
theorem stood88 : Try.prog.stoodInHeld 88 = false := by kernel_rfl
theorem part0 (a k : Value) (w : World) : (part 3 #[a, k] 0).run Try.prog w = .ok a w := by kernel_rfl
theorem part1 (a k : Value) (w : World) : (part 9 #[a, k] 1).run Try.prog w = .ok k w := by kernel_rfl
theorem eqInt (n : Nat) (a b : Int) (w : World) : (Op.equalIn (n + 1) 3 (.int .i64 a) (.int .i64 b)).run Try.prog w = .ok (a == b) w := by
  unfold Op.equalIn
  simp [run_underlying Try.underlying3, Result.andThen]
theorem eqStr (n : Nat) (a b : ByteArray) (w : World) : (Op.equalIn (n + 1) 9 (.string a) (.string b)).run Try.prog w = .ok (a == b) w := by
  unfold Op.equalIn
  simp [run_underlying Try.underlying9, Result.andThen]
theorem eq88 (p q : Int × ByteArray) (w : World) : (Op.equal 88 (encP p) (encP q)).run Try.prog w = .ok (decide (p = q)) w := by
  obtain ⟨a, k⟩ := p
  obtain ⟨b, j⟩ := q
  show (Op.equalIn (9999 + 1) 88 _ _).run Try.prog w = _
  unfold Op.equalIn
  simp only [Sem.run_bind, run_underlying Try.underlying88, Result.andThen, run_program, stood88]
  simp [part0, eqInt, Result.andThen]
  by_cases h : a = b
  · have e9 := eqStr 9998 k j w
    by_cases hk : k = j
    · subst hk
      have hb : (k == k) = true := (MapKept.bytes_beq k k).2 rfl
      simp [h, part1, e9, hb, Result.andThen]
    · have hb : (k == j) = false := Bool.eq_false_iff.2 (fun e => hk ((MapKept.bytes_beq k j).1 e))
      simp [h, hk, part1, e9, hb, Result.andThen]
  · simp [h]
theorem chk88 (e : Bool) (p : Int × ByteArray) (w : World) : (Instr.checkKey e 10000 88 (encP p)).run Try.prog w = .ok () w := by
  obtain ⟨a, k⟩ := p
  show (Instr.checkKey e (9999 + 1) 88 _).run Try.prog w = _
  have c3 : ∀ a, (Instr.checkKey e 9999 3 (.int .i64 a)).run Try.prog w = .ok () w := fun a => MapKept.run_checkKey (k := .int .i64 a) Try.underlying3 rfl e 9998
  have c9 : ∀ k, (Instr.checkKey e 9999 9 (.string k)).run Try.prog w = .ok () w := fun k => MapKept.run_checkKey (k := .string k) Try.underlying9 trivial e 9998
  unfold Instr.checkKey
  simp [run_underlying Try.underlying88, Result.andThen, part0, part1, c3, c9]
theorem law60 : KLaw Try.prog 88 encP :=
  KLaw.asks Try.underlying88 (fun k j => rfl) eq88 (fun k => by simp [Instr.sameBits]; exact (MapKept.bytes_beq _ _).2 rfl) chk88
end Go.Proofs.Yteeflkkoifgcbaa
