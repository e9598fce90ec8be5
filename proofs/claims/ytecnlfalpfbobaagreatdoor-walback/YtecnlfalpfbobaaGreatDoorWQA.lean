/- A log's files as lists of records; what a Save leaves on the disk. -/
import Derived.Test.YtecnlfalpfbobaaGreatDoorWL9
namespace Go.Proofs.YtecnlfalpfbobaaGreatDoor
open Go Go.RowKit
/-- A log's file with these records. -/
def lf (i : Nat) (rs : List Rec) : PF := ⟨fname i, encs rs, (encs rs).length⟩
/-- A log's files, numbered from i on. -/
def lfs : Nat → List (List Rec) → List PF
  | _, [] => []
  | i, rs :: R => lf i rs :: lfs (i + 1) R
theorem lfs_append : ∀ (a b : List (List Rec)) (i : Nat), lfs i (a ++ b) = lfs i a ++ lfs (i + a.length) b
  | [], b, i => rfl
  | rs :: a, b, i => by
    simp only [List.cons_append, lfs, List.length_cons]
    rw [lfs_append a b (i + 1), show i + 1 + a.length = i + (a.length + 1) by omega]
theorem lfs_mem : ∀ {a : List (List Rec)} {i : Nat} {f : PF}, f ∈ lfs i a → ∃ j rs, i ≤ j ∧ j < i + a.length ∧ rs ∈ a ∧ f = lf j rs
  | rs :: a, i, f, h => by
    rcases List.mem_cons.1 h with rfl | h
    · exact ⟨i, rs, Nat.le_refl _, by simp, by simp, rfl⟩
    · obtain ⟨j, rs', h1, h2, h3, h4⟩ := lfs_mem h
      exact ⟨j, rs', by omega, by simp only [List.length_cons]; omega, by simp [h3], h4⟩
theorem fname_up : ∀ i j : Fin 100, i < j → bytesBefore (fname i) (fname j) = true := by decide +kernel
theorem fname_down : ∀ i j : Fin 100, i < j → bytesBefore (fname j) (fname i) = false := by decide +kernel
theorem fname_ne {i j : Nat} (h : i < j) (hj : j < 100) : fname i ≠ fname j := before_ne (fname_up ⟨i, by omega⟩ ⟨j, hj⟩ h)
theorem fname_ok : ∀ i : Fin 100, okName (fname i) = true := by decide +kernel
section
variable {α : Type} {k : α → List UInt8}
theorem insK_end {f : α} : ∀ {l : List α}, (∀ g ∈ l, bytesBefore (k f) (k g) = false) → insK k f l = l ++ [f]
  | [], _ => rfl
  | g :: r, h => by
    show (if bytesBefore (k f) (k g) then _ else _) = _
    rw [h g (by simp), if_neg (by decide), insK_end (fun x hx => h x (by simp [hx]))]
    rfl
theorem delK_end {nm : List UInt8} {l r : List α} (hl : ∀ g ∈ l, k g ≠ nm) (hr : ∀ g ∈ r, k g = nm) : delK k nm (l ++ r) = l := by
  unfold delK
  rw [List.filter_append, List.filter_eq_self.2 (fun g hg => by simp [hl g hg]), List.filter_eq_nil_iff.2 (fun g hg => by simp [hr g hg]), List.append_nil]
theorem lookK_end {nm : List UInt8} {l r : List α} (hl : ∀ g ∈ l, k g ≠ nm) : lookK k nm (l ++ r) = lookK k nm r := by
  unfold lookK
  rw [List.find?_append, List.find?_eq_none.2 (fun g hg => by simp [hl g hg])]
  rfl
end
theorem lfs_ne {a : List (List Rec)} {q : Nat} (hq : a.length < q) (hq2 : q < 100) : ∀ g ∈ lfs 1 a, g.name ≠ fname q := fun g hg => by
  obtain ⟨j, rs, h1, h2, _, rfl⟩ := lfs_mem hg
  exact fname_ne (by omega) hq2
theorem lfs_put {a : List (List Rec)} {q : Nat} (hq : q = a.length + 1) (hq2 : q < 100) {r : List PF} (hr : ∀ g ∈ r, g.name = fname q) (f : PF) (hf : f.name = fname q) : insK PF.name f (delK PF.name f.name (lfs 1 a ++ r)) = lfs 1 a ++ [f] := by
  rw [hf, delK_end (lfs_ne (by omega) hq2) hr, insK_end]
  intro g hg
  obtain ⟨j, rs, h1, h2, _, rfl⟩ := lfs_mem hg
  rw [hf]
  exact fname_down ⟨j, by omega⟩ ⟨q, hq2⟩ (by show j < q; omega)
/-- A disk that is up, and is not to stop. -/
structure Up (p : PS) : Prop where
  live : p.dead = false
  on : p.stops = 0
theorem Up.not {p : PS} (h : Up p) : p.stopped = false := by unfold PS.stopped; rw [h.live, h.on]; rfl
theorem Up.begun {p : PS} (h : Up p) : p.begun = { p with ops := p.ops + 1 } := by
  have h1 := h.not
  unfold PS.begun
  rw [h1, h.on]
  have h2 := h.on
  cases p
  simp at h2 ⊢
/-- What a Save leaves on the disk: its bytes behind those of the newest file (r: that one, or none). -/
theorem saved_fs {p : PS} {a : List (List Rec)} {q : Nat} {rs rr : List Rec} {r : List PF} (h : Up p) (hf : p.fs = lfs 1 a ++ r) (hr : (r = [] ∧ rs = []) ∨ r = [lf q rs]) (hq : q = a.length + 1) (hq2 : q < 100) (hroom : ((encs rr).length : Int) ≤ p.room - total p.fs) :
    appE p (fname q) (encs rr).length = 0 ∧ opE (appP p (fname q) (encs rr)) (fname q) = 0 ∧ (appP p (fname q) (encs rr)).fs = lfs 1 a ++ [⟨fname q, encs rs ++ encs rr, (oldF p (fname q)).sy⟩] ∧
      syncP (appP p (fname q) (encs rr)) (fname q) = ⟨lfs 1 (a ++ [rs ++ rr]), p.room, p.ops + 2, p.stops, p.dead⟩ := by
  have hrn : ∀ g ∈ r, g.name = fname q := by
    rcases hr with ⟨rfl, _⟩ | rfl
    · intro g hg; cases hg
    · intro g hg; rw [List.mem_singleton.1 hg]; rfl
  have ha : appE p (fname q) (encs rr).length = 0 := by
    unfold appE
    rw [h.not, fname_ok ⟨q, hq2⟩, if_neg (by decide), if_pos rfl, if_pos hroom]
  have hold : (oldF p (fname q)).xs = encs rs := by
    unfold oldF PS.look
    rw [hf, lookK_end (lfs_ne (by omega) hq2)]
    rcases hr with ⟨rfl, rfl⟩ | rfl
    · rfl
    · unfold lookK; simp [lf]
  have hap : appP p (fname q) (encs rr) = ⟨lfs 1 a ++ [⟨fname q, encs rs ++ encs rr, (oldF p (fname q)).sy⟩], p.room, p.ops + 1, p.stops, p.dead⟩ := by
    unfold appP
    rw [if_pos ha, hold, h.begun]
    unfold putP
    simp only [PS.mk.injEq, and_true]
    rw [hf]
    exact lfs_put hq hq2 hrn _ rfl
  have hup : Up (appP p (fname q) (encs rr)) := by rw [hap]; exact ⟨h.live, h.on⟩
  have hold2 : oldF (appP p (fname q) (encs rr)) (fname q) = ⟨fname q, encs rs ++ encs rr, (oldF p (fname q)).sy⟩ := by
    generalize (oldF p (fname q)).sy = sy0 at hap ⊢
    unfold oldF PS.look
    rw [hap]
    simp only
    rw [lookK_end (lfs_ne (by omega) hq2)]
    unfold lookK; simp
  have hop : opE (appP p (fname q) (encs rr)) (fname q) = 0 := by
    unfold opE PS.fault PS.look
    rw [hup.not, fname_ok ⟨q, hq2⟩, if_neg (by decide), if_pos rfl, hap]
    simp only
    rw [lookK_end (lfs_ne (by omega) hq2)]
    unfold lookK; simp
  refine ⟨ha, hop, by rw [hap], ?_⟩
  unfold syncP
  rw [if_pos hop, hold2, hup.begun, hap]
  unfold putP
  simp only [PS.mk.injEq, and_true]
  refine ⟨?_, trivial, by omega⟩
  rw [lfs_put hq hq2 (fun g hg => by rw [List.mem_singleton.1 hg]) _ rfl, lfs_append]
  have he : encs (rs ++ rr) = encs rs ++ encs rr := encs_append rs rr
  simp only [lfs, lf, he]
  rw [hq, Nat.add_comm]
end Go.Proofs.YtecnlfalpfbobaaGreatDoor
/- What a log's files say when they are opened: their records, one behind the other. -/
namespace Go.Proofs.YtecnlfalpfbobaaGreatDoor
open Go Go.RowKit
/-- Records that Save writes: none is a base. -/
def Plain (rs : List Rec) : Prop := ∀ r ∈ rs, r.ok ∧ r.isBase = false
theorem Plain.append {a b : List Rec} (ha : Plain a) (hb : Plain b) : Plain (a ++ b) := fun r hr => (List.mem_append.1 hr).elim (ha r) (hb r)
theorem Plain.first {rs : List Rec} (h : Plain rs) : baseFirst rs = false := by
  cases rs with
  | nil => rfl
  | cons r q => exact (h r (by simp)).2
theorem says_append (s : St En (List Int)) (a b : List Rec) : s.says (a ++ b) = (s.says a).says b := by simp [St.says]
theorem lfs_num {a : List (List Rec)} {f : PF} (ha : a.length < 99) (h : f ∈ lfs 1 a) : 0 < numW f.name ∧ LogName f.name := by
  obtain ⟨j, rs, h1, h2, _, rfl⟩ := lfs_mem h
  have hn : numW (lf j rs).name = j := numW_name j (by omega)
  exact ⟨by omega, .inl ⟨j, by omega, by omega, rfl⟩⟩
theorem lfs_says : ∀ {a : List (List Rec)} (i : Nat) (s : St En (List Int)), (∀ rs ∈ a, Plain rs) → (lfs i a).foldl (fun s f => s.sayFile [] (recsOf f.xs)) s = s.says a.flatten
  | [], _, _, _ => rfl
  | rs :: a, i, s, h => by
    have hp := h rs (by simp)
    simp only [lfs, List.foldl_cons, List.flatten_cons]
    rw [lfs_says (i + 1) _ (fun x hx => h x (by simp [hx])), says_append]
    congr 1
    show s.sayFile [] (recsOf (encs rs)) = _
    rw [recsOf_all (fun r hr => (hp r hr).1)]
    unfold St.sayFile
    rw [hp.first]
    rfl
theorem logFiles_lfs {p : PS} {a : List (List Rec)} (hf : p.fs = lfs 1 a) (ha : a.length < 99) : logFiles p = lfs 1 a := by
  unfold logFiles
  rw [hf]
  exact List.filter_eq_self.2 (fun f hm => by simp [(lfs_num ha hm).1])
/-- What such a log's files say: its records, one behind the other. -/
theorem openS_lfs {p : PS} {a : List (List Rec)} (hf : p.fs = lfs 1 a) (ha : a.length < 99) (hp : ∀ rs ∈ a, Plain rs) : openS p = (blankOf []).says a.flatten := by
  unfold openS
  rw [logFiles_lfs hf ha]
  exact lfs_says 1 _ hp
theorem lfs_len : ∀ (a : List (List Rec)) (i : Nat), (lfs i a).length = a.length
  | [], _ => rfl
  | _ :: a, i => by simp [lfs, lfs_len a]
theorem cnt_total (l : List PF) : cnt l = total l + l.length := by
  unfold cnt total
  induction l with
  | nil => rfl
  | cons f l ih => simp only [List.map_cons, List.sum_cons, List.length_cons]; omega
theorem readable_lfs {p : PS} {a : List (List Rec)} (hf : p.fs = lfs 1 a) (ha : a.length < 99) (hp : ∀ rs ∈ a, Plain rs ∧ (encs rs).length ≤ 70000) (hs : p.sane) (hd : p.dead = false) (ht : total p.fs ≤ 800000) : Readable p := by
  refine ⟨hs, hd, fun f h => ?_, fun f h _ => ?_, ?_⟩
  · rw [hf] at h; exact (lfs_num ha h).2
  · rw [hf] at h
    obtain ⟨j, rs, _, _, h3, rfl⟩ := lfs_mem h
    exact ⟨noB_encs (hp rs h3).1, (hp rs h3).2⟩
  · rw [cnt_total, hf, lfs_len, ← hf]; omega
theorem nums_lfs : ∀ (a : List (List Rec)) (i : Nat), i + a.length < 100 → (lfs i a).map (fun f => (numW f.name : Int)) = (List.range' i a.length).map (fun n : Nat => (n : Int))
  | [], _, _ => rfl
  | rs :: a, i, h => by
    simp only [List.length_cons] at h
    simp only [lfs, List.map_cons, List.length_cons, List.range'_succ]
    rw [nums_lfs a (i + 1) (by omega), show numW (lf i rs).name = i from numW_name i (by omega)]
theorem next_lfs {p : PS} {a : List (List Rec)} (hf : p.fs = lfs 1 a) (ha : a.length < 99) : nextOf (nums numW (p.fs.map PF.name)) = ((a.length + 1 : Nat) : Int) := by
  rw [nums_files, logFiles_lfs hf ha, nums_lfs a 1 (by omega)]
  unfold nextOf
  rcases Nat.eq_zero_or_pos a.length with h | h
  · rw [h]; rfl
  · rw [List.getLast?_map, List.getLast?_range', if_neg (by omega)]
    simp only [Option.map_some, Option.getD_some]
    omega
theorem count_lfs {p : PS} {a : List (List Rec)} (hf : p.fs = lfs 1 a) (ha : a.length < 99) : (nums numW (p.fs.map PF.name)).length = a.length := by
  rw [nums_files, logFiles_lfs hf ha, List.length_map, lfs_len]
end Go.Proofs.YtecnlfalpfbobaaGreatDoor
/- A Save on a disk that holds a log's files. -/
namespace Go.Proofs.YtecnlfalpfbobaaGreatDoor
open Go Go.RowKit
theorem total_app (a b : List PF) : total (a ++ b) = total a + total b := by simp [total]
/-- A Save on a disk that holds such a log's files, and has room. -/
theorem save_lfs (B l d : Nat) (g : Gu) (p : PS) (s : Sm) (ev hv v : Value) (h : Option (Int × Int × Int)) (xs : List Ev) (newest left room : Int) (q : Nat) (w : World) (a : List (List Rec)) (rs : List Rec) (r : List PF) (hl : Lg B w l d g p s ev newest left) (hB : B ≤ w.heap.size) (hT : HasTab w)
    (hh : HardAt w hv h) (hho : HardOk h) (hx : SeesE w v xs) (ht : Takes s xs) (hn : xs.length ≤ 100000) (hne : recsFor (xs.map Ev.e) h ≠ []) (hok : ∀ r ∈ recsFor (xs.map Ev.e) h, r.ok) (hes : s.es.length ≤ 100000)
    (hg : Goes p newest left q room) (hr2 : -10000000 ≤ room ∧ room ≤ 10000000) (hup : Up p) (hf : p.fs = lfs 1 a ++ r) (hr : (r = [] ∧ rs = []) ∨ r = [lf q rs]) (hq : q = a.length + 1) (hq2 : q < 100) (hs : p.sane) (hops : p.ops < 1000000)
    (hroom : ((encs (recsFor (xs.map Ev.e) h)).length : Int) ≤ p.room - total p.fs) (htot : total p.fs + (encs (recsFor (xs.map Ev.e) h)).length ≤ 900000) :
    Calls Tryz.prog 19 #[ptr l, hv, v] w fun e w' => e = .returned (.int .i64 0) ∧ ∃ g' s' ev', Lg B w' l d g' ⟨lfs 1 (a ++ [rs ++ recsFor (xs.map Ev.e) h]), p.room, p.ops + 2, p.stops, p.dead⟩ s' ev' q (room - (encs (recsFor (xs.map Ev.e) h)).length) ∧
      pureS s' = (pureS s).says (recsFor (xs.map Ev.e) h) ∧ LgUpd w w' l d g ev ∧ Owned w ev ev' ∧ Fresh w d g g' s s' := by
  obtain ⟨ha, hy, hfs, hend⟩ := saved_fs (rr := recsFor (xs.map Ev.e) h) hup hf hr hq hq2 hroom
  have hap : (appP p (fname q) (encs (recsFor (xs.map Ev.e) h))).room = p.room ∧ (appP p (fname q) (encs (recsFor (xs.map Ev.e) h))).ops = p.ops + 1 ∧ (appP p (fname q) (encs (recsFor (xs.map Ev.e) h))).stops = p.stops := by
    unfold appP
    rw [if_pos ha, hup.begun]
    exact ⟨rfl, rfl, rfl⟩
  have hrs : total r = (encs rs).length := by
    rcases hr with ⟨rfl, rfl⟩ | rfl
    · rfl
    · simp [total, lf]
  have hrl : r.length ≤ 1 := by
    rcases hr with ⟨rfl, rfl⟩ | rfl <;> simp
  have htt : total (appP p (fname q) (encs (recsFor (xs.map Ev.e) h))).fs = total p.fs + (encs (recsFor (xs.map Ev.e) h)).length := by
    rw [hfs, hf, total_app, total_app, hrs]
    simp [total]
    omega
  have hs2 : (appP p (fname q) (encs (recsFor (xs.map Ev.e) h))).sane := by
    obtain ⟨h1, h2, h3⟩ := hap
    refine ⟨by rw [h1]; exact hs.room0, by rw [h1]; exact hs.room1, by rw [h3]; exact hs.stops0, by rw [h3]; exact hs.stops1, by rw [h2]; have := hs.ops0; omega, by rw [h2]; omega, by rw [htt]; omega, ?_⟩
    rw [hfs, List.length_append, lfs_len]
    simp
    omega
  have := save_ok B l d g p s ev hv v h xs newest left room q w hl hB hT hh hho hx ht hn hne hok (by omega) hes hg hq2 hs hs2 ha hy hr2
  rw [hend] at this
  exact this
end Go.Proofs.YtecnlfalpfbobaaGreatDoor
/- A row of entries that was just built. -/
namespace Go.Proofs.YtecnlfalpfbobaaGreatDoor
open Go Go.RowKit
/-- A row of entries that was just built. -/
theorem seesE_new (w : World) (xs : List Ev) (hn : xs.length ≤ 100000) (hok : ∀ x ∈ xs, EvOk w x ∧ i64 x.e.i) (hl : (rowOf xs).length = xs.length * 4) :
    SeesE (w.alloc (.cells (rowOf xs).toArray 60)) (.slice (some ⟨w.heap.size, 0, none⟩) xs.length xs.length) xs := by
  have hb : Below w.heap.size w (w.alloc (.cells (rowOf xs).toArray 60)) := (Below.refl _ _).alloc (Nat.le_refl _) _
  refine ⟨⟨0, RowO.of_owns ⟨hl, .inr ⟨w.heap.size, xs.length, (rowOf xs).toArray, rfl, Nat.zero_le _, heap_alloc_new w _, Nat.le_refl _, Nat.le_trans hn (by decide), by simp [hl], ?_⟩⟩⟩, fun x hx => ⟨(hok x hx).1.upd (Upd.ofBelow hb : Upd w _ (fun _ => False)) (fun _ _ _ => id), (hok x hx).2⟩⟩
  rw [← hl]
  exact List.take_length
/-- An entry without Data. -/
def bareE (i t k : Int) : Ev := ⟨⟨i, t, k, []⟩, .slice none 0 0⟩
theorem bareE_ok (w : World) (i t k : Int) : EvOk w (bareE i t k) := ⟨.inl ⟨rfl, _, _, rfl, fun _ => rfl, by decide⟩, (fun _ h => by cases h), Nat.zero_le _⟩
end Go.Proofs.YtecnlfalpfbobaaGreatDoor
/- A log that grows by one entry at a time, as plain data; one more Save on it. -/
namespace Go.Proofs.YtecnlfalpfbobaaGreatDoor
open Go Go.RowKit
/-- How many files are smaller than Segment. -/
def smalls (a : List (List Rec)) : Nat := a.countP (fun rs => decide ((encs rs).length < 4096))
theorem smalls_snoc (a : List (List Rec)) (rs : List Rec) : smalls (a ++ [rs]) = smalls a + (if (encs rs).length < 4096 then 1 else 0) := by
  simp [smalls, List.countP_append, List.countP_cons]
/-- A log of n entries on a disk that is up, opened so many times: its files, what they say, how far its newest file is filled. -/
structure Bk (p : PS) (S : St En (List Int)) (a : List (List Rec)) (newest left : Int) (n opened : Nat) : Prop where
  up : Up p
  fs : p.fs = lfs 1 a
  room : p.room = 16777216
  ops : 0 ≤ p.ops ∧ p.ops ≤ 2 * n
  few : a.length ≤ n
  plain : ∀ rs ∈ a, Plain rs ∧ (encs rs).length ≤ 8000
  tot : total p.fs ≤ 3100 * n
  says : S = (blankOf []).says a.flatten
  mi : S.mi = 0
  len : S.es.length = n
  way : (left ≤ 0 ∧ -8000 ≤ left ∧ smalls a < opened) ∨ (∃ a0 rs, a = a0 ++ [rs] ∧ 0 < left ∧ newest = a.length ∧ ((encs rs).length : Int) = 4096 - left ∧ smalls a ≤ opened)
theorem Bk.sane {p : PS} {S : St En (List Int)} {a : List (List Rec)} {newest left : Int} {n opened : Nat} (h : Bk p S a newest left n opened) (hn : n ≤ 30) : p.sane := by
  have h1 := h.room; have h2 := h.up.on; have h3 := h.ops; have h4 := h.tot; have h5 := h.few
  have h6 : p.fs.length = a.length := by rw [h.fs, lfs_len]
  exact ⟨by omega, by omega, by omega, by omega, by omega, by omega, by omega, by omega⟩
theorem says_next (S : St En (List Int)) (e : En) (t v c : Int) (n : Nat) (hmi : S.mi = 0) (hes : S.es.length = n) (hi : e.i = n + 1) :
    S.says [.entry e, .hard t v c] = ⟨t, v, c, 0, S.mt, S.vs, S.es ++ [e]⟩ := by
  have hp : S.pos e.i = n := by unfold St.pos; omega
  have h1 : S.sayE e = { S with es := S.es ++ [e] } := by
    unfold St.sayE
    rw [if_pos (by show e.i = S.mi + S.pos e.i + 1; rw [hp]; omega)]
    show { S with es := S.es.take (S.pos e.i) ++ [e] } = _
    rw [hp, List.take_of_length_le (by omega)]
  show St.say (St.say S (.entry e)) (.hard t v c) = _
  unfold St.say
  simp only
  rw [h1]
  simp only [hmi]
theorem rec2_len (e : En) (t v c : Int) : (encs [.entry e, .hard t v c]).length = 63 + e.d.length := by
  rw [encs_cons, encs_cons, List.length_append, List.length_append, enc_len, enc_len, body_len, body_len]
  obtain ⟨i, t', k, d⟩ := e
  show 8 + (22 + d.length) + (8 + 25 + 0) = 63 + d.length
  omega
set_option maxHeartbeats 1000000 in
/-- One more Save of an entry behind the last one. -/
theorem bk_save (B l d : Nat) (g : Gu) (p : PS) (s : Sm) (ev hv v : Value) (x : Ev) (t c newest left : Int) (w : World) (a : List (List Rec)) (n opened : Nat) (hl : Lg B w l d g p s ev newest left) (hB : B ≤ w.heap.size) (hT : HasTab w)
    (hk : Bk p (pureS s) a newest left n opened) (hn : n < 30) (hh : HardAt w hv (some (t, 0, c))) (ht : 0 ≤ t ∧ t ≤ 1000) (hc : 0 ≤ c ∧ c ≤ 1000) (hx : SeesE w v [x]) (hxi : x.e.i = n + 1) (hxt : x.e.t = t) (hxk : x.e.k = 0) (hxd : x.e.d.length < 3000) :
    Calls Tryz.prog 19 #[ptr l, hv, v] w fun e w' => e = .returned (.int .i64 0) ∧ ∃ g' p' s' ev' a' newest' left', Lg B w' l d g' p' s' ev' newest' left' ∧ Bk p' (pureS s') a' newest' left' (n + 1) opened ∧ (pureS s').hc = c ∧
      LgUpd w w' l d g ev ∧ Owned w ev ev' ∧ Fresh w d g g' s s' := by
  have hes : s.es.length = n := by have := hk.len; simpa [pureS, St.map] using this
  have hmi : s.mi = 0 := hk.mi
  have hrec : recsFor ([x].map Ev.e) (some (t, 0, c)) = [.entry x.e, .hard t 0 c] := rfl
  have hrl := rec2_len x.e t 0 c
  have hxo := hx.ok x (by simp)
  have hro : ∀ r ∈ ([.entry x.e, .hard t 0 c] : List Rec), r.ok ∧ r.isBase = false := by
    intro r hr
    rcases List.mem_cons.1 hr with rfl | hr
    · refine ⟨?_, rfl⟩
      have h1 := hxo.1.isb; have h2 := hxo.1.len
      obtain ⟨⟨i, t', k, dd⟩, vv⟩ := x
      simp only at hxi hxt hxk hxd h1 h2
      refine ⟨⟨by omega, by omega⟩, ⟨by omega, by omega⟩, by omega, by omega, h1, h2⟩
    · rw [List.mem_singleton.1 hr]
      exact ⟨⟨⟨by omega, by omega⟩, ⟨by omega, by omega⟩, ⟨by omega, by omega⟩⟩, rfl⟩
  have htk : Takes s [x] := by
    refine ⟨fun y hy => ?_, fun _ => ?_, fun j hj => ?_⟩
    · rw [List.mem_singleton.1 hy]; exact ⟨by omega, by omega, by omega, by omega, by omega, by omega⟩
    · show x.e.i - 1 ≤ s.mi + s.es.length ∧ s.mi < x.e.i; omega
    · simp at hj
  have hsane := hk.sane (by omega)
  have hnew : ∀ (a' : List (List Rec)) (S' : St En (List Int)), S' = (pureS s).says [.entry x.e, .hard t 0 c] → a'.flatten = a.flatten ++ [.entry x.e, .hard t 0 c] → S' = (blankOf []).says a'.flatten ∧ S'.mi = 0 ∧ S'.es.length = n + 1 ∧ S'.hc = c := by
    intro a' S' h1 h2
    refine ⟨by rw [h1, h2, says_append, ← hk.says], ?_⟩
    rw [h1, says_next _ _ _ _ _ n hk.mi hk.len hxi]
    refine ⟨rfl, ?_, rfl⟩
    have h3 := hk.len
    show ((pureS s).es ++ [x.e]).length = n + 1
    rw [List.length_append, h3]
    rfl
  have hfew := hk.few
  have hops := hk.ops
  have htot := hk.tot
  have hroomv := hk.room
  rcases hk.way with ⟨hw1, hw2, hw3⟩ | ⟨a0, rs, rfl, hw1, hw2, hw3, hw4⟩
  · refine (save_lfs B l d g p s ev hv v (some (t, 0, c)) [x] newest left 4096 (a.length + 1) w a [] [] hl hB hT hh ⟨by omega, by omega, by omega⟩ hx htk (by simp) (by rw [hrec]; simp) (by rw [hrec]; exact fun r hr => (hro r hr).1) (by omega)
      (.inr ⟨hw1, rfl, hk.up.live, fun f hf => by rw [hk.fs] at hf; exact (lfs_num (by omega) hf).2, next_lfs hk.fs (by omega)⟩) (by omega) hk.up (by rw [hk.fs, List.append_nil]) (.inl ⟨rfl, rfl⟩) rfl (by omega) hsane (by omega) (by rw [hrec, hrl]; omega) (by rw [hrec, hrl]; omega)).mono ?_
    rintro e w' ⟨rfl, g', s', ev', hl', hs', hu', ho', hf'⟩
    rw [hrec] at hl' hs'
    obtain ⟨k1, k2, k3, k4⟩ := hnew (a ++ [[.entry x.e, .hard t 0 c]]) _ hs' (by simp)
    refine ⟨rfl, g', _, s', ev', a ++ [[.entry x.e, .hard t 0 c]], _, _, hl', ⟨⟨hk.up.live, hk.up.on⟩, rfl, hk.room, ?_, ?_, ?_, ?_, k1, k2, k3, ?_⟩, k4, hu', ho', hf'⟩
    · show 0 ≤ p.ops + 2 ∧ p.ops + 2 ≤ 2 * ((n + 1 : Nat) : Int); omega
    · rw [List.length_append]; simp; omega
    · intro r hr
      rcases List.mem_append.1 hr with hr | hr
      · exact hk.plain r hr
      · rw [List.mem_singleton.1 hr]; exact ⟨hro, by omega⟩
    · show total (lfs 1 (a ++ [[.entry x.e, .hard t 0 c]])) ≤ 3100 * (n + 1)
      rw [lfs_append, total_app, ← hk.fs]
      have : total (lfs (1 + a.length) [[.entry x.e, .hard t 0 c]]) = (encs [.entry x.e, .hard t 0 c]).length := by simp [lfs, lf, total]
      omega
    · rw [smalls_snoc]
      by_cases hb : (encs [.entry x.e, .hard t 0 c]).length < 4096
      · exact .inr ⟨a, _, rfl, by show (0 : Int) < 4096 - ((encs [.entry x.e, .hard t 0 c]).length : Int); omega, by rw [List.length_append]; rfl, by show _ = 4096 - (4096 - ((encs [.entry x.e, .hard t 0 c]).length : Int)); omega, by rw [if_pos hb]; omega⟩
      · exact .inl ⟨by show 4096 - ((encs [.entry x.e, .hard t 0 c]).length : Int) ≤ 0; omega, by show -8000 ≤ 4096 - ((encs [.entry x.e, .hard t 0 c]).length : Int); omega, by rw [if_neg hb]; omega⟩
  · have hln : (a0 ++ [rs]).length = a0.length + 1 := by simp
    have hpr := hk.plain rs (by simp)
    have he2 : (encs (rs ++ [.entry x.e, .hard t 0 c])).length = (encs rs).length + (63 + x.e.d.length) := by rw [encs_append, List.length_append, hrl]
    refine (save_lfs B l d g p s ev hv v (some (t, 0, c)) [x] newest left left (a0.length + 1) w a0 rs [lf (a0.length + 1) rs] hl hB hT hh ⟨by omega, by omega, by omega⟩ hx htk (by simp) (by rw [hrec]; simp) (by rw [hrec]; exact fun r hr => (hro r hr).1) (by omega)
      (.inl ⟨hw1, by rw [hw2, hln], rfl⟩) (by omega) hk.up (by rw [hk.fs, lfs_append, Nat.add_comm 1]; rfl) (.inr rfl) rfl (by omega) hsane (by omega) (by rw [hrec, hrl]; omega) (by rw [hrec, hrl]; omega)).mono ?_
    rintro e w' ⟨rfl, g', s', ev', hl', hs', hu', ho', hf'⟩
    rw [hrec] at hl' hs'
    obtain ⟨k1, k2, k3, k4⟩ := hnew (a0 ++ [rs ++ [.entry x.e, .hard t 0 c]]) _ hs' (by simp)
    have hsm := smalls_snoc a0 rs
    rw [if_pos (by omega)] at hsm
    refine ⟨rfl, g', _, s', ev', a0 ++ [rs ++ [.entry x.e, .hard t 0 c]], _, _, hl', ⟨⟨hk.up.live, hk.up.on⟩, rfl, hk.room, ?_, ?_, ?_, ?_, k1, k2, k3, ?_⟩, k4, hu', ho', hf'⟩
    · show 0 ≤ p.ops + 2 ∧ p.ops + 2 ≤ 2 * ((n + 1 : Nat) : Int); omega
    · rw [List.length_append] at hfew ⊢; simp at hfew ⊢; omega
    · intro r hr
      rcases List.mem_append.1 hr with hr | hr
      · exact hk.plain r (by simp [hr])
      · rw [List.mem_singleton.1 hr]; exact ⟨hpr.1.append hro, by omega⟩
    · show total (lfs 1 (a0 ++ [rs ++ [.entry x.e, .hard t 0 c]])) ≤ 3100 * (n + 1)
      have h1 : total p.fs = total (lfs 1 a0) + (encs rs).length := by rw [hk.fs, lfs_append, total_app]; simp [lfs, lf, total]
      have h2 : total (lfs (1 + a0.length) [rs ++ [.entry x.e, .hard t 0 c]]) = (encs (rs ++ [.entry x.e, .hard t 0 c])).length := by simp [lfs, lf, total]
      rw [lfs_append, total_app, h2, he2]
      omega
    · rw [smalls_snoc]
      by_cases hb : (encs (rs ++ [.entry x.e, .hard t 0 c])).length < 4096
      · exact .inr ⟨a0, _, rfl, by rw [hrl]; omega, by rw [List.length_append]; rfl, by rw [hrl]; omega, by rw [if_pos hb]; omega⟩
      · exact .inl ⟨by rw [hrl]; omega, by rw [hrl]; omega, by rw [if_neg hb]; omega⟩
/-- The log that opening it anew gives. -/
theorem Bk.again {p : PS} {S : St En (List Int)} {a : List (List Rec)} {newest left : Int} {n opened : Nat} (h : Bk p S a newest left n opened) (hn : n ≤ 30) : openS p = S ∧ Bk p S a 0 0 n (opened + 1) ∧ Readable p := by
  have hf := h.few
  have ht := h.tot
  refine ⟨by rw [openS_lfs h.fs (by omega) (fun rs hr => (h.plain rs hr).1), ← h.says], ⟨h.up, h.fs, h.room, h.ops, h.few, h.plain, h.tot, h.says, h.mi, h.len, .inl ⟨by omega, by omega, ?_⟩⟩, readable_lfs h.fs (by omega) (fun rs hr => ⟨(h.plain rs hr).1, by have := (h.plain rs hr).2; omega⟩) (h.sane hn) h.up.live (by omega)⟩
  rcases h.way with ⟨_, _, h1⟩ | ⟨_, _, _, _, _, _, h1⟩ <;> omega
theorem Bk.few_small {p : PS} {S : St En (List Int)} {a : List (List Rec)} {newest left : Int} {n opened : Nat} (h : Bk p S a newest left n opened) : smalls a ≤ opened := by
  rcases h.way with ⟨_, _, h1⟩ | ⟨_, _, _, _, _, _, h1⟩ <;> omega
theorem bk_new : Bk (q0 16777216) (blankOf []) [] 0 0 0 1 := ⟨⟨rfl, rfl⟩, rfl, rfl, by decide, by decide, (fun _ h => by cases h), by decide, rfl, rfl, rfl, .inl ⟨by decide, by decide, by decide⟩⟩
end Go.Proofs.YtecnlfalpfbobaaGreatDoor
/- A box beside a log; the example: known. -/
namespace Go.Proofs.YtecnlfalpfbobaaGreatDoor
open Go Go.RowKit
theorem row7 {w : World} {b : Nat} {c0 c1 c2 c3 c4 c5 c6 : Value} {t : TypeId} (h : w.heap[b]? = some (.cells #[c0, c1, c2, c3, c4, c5, c6] t (0, 0))) :
    w.cell? ⟨b, 0, none⟩ = some c0 ∧ w.cell? ⟨b, 1, none⟩ = some c1 ∧ w.cell? ⟨b, 2, none⟩ = some c2 ∧ w.cell? ⟨b, 3, none⟩ = some c3 ∧ w.cell? ⟨b, 4, none⟩ = some c4 ∧ w.cell? ⟨b, 5, none⟩ = some c5 ∧ w.cell? ⟨b, 6, none⟩ = some c6 := by
  have n0 := row_cells h 0; have n1 := row_cells h 1; have n2 := row_cells h 2; have n3 := row_cells h 3; have n4 := row_cells h 4; have n5 := row_cells h 5; have n6 := row_cells h 6
  simp only [List.getElem?_toArray, List.getElem?_cons_zero, List.getElem?_cons_succ] at n0 n1 n2 n3 n4 n5 n6
  exact ⟨n0, n1, n2, n3, n4, n5, n6⟩
theorem readable_q0 (room : Int) (h0 : 0 ≤ room) (h1 : room ≤ 9223372036854775807) : Readable (q0 room) := readable_lfs (a := []) rfl (by decide) (fun _ h => by cases h) (sane_q0 h0 h1) rfl (by show total [] ≤ 800000; decide)
theorem openS_q0 (room : Int) : openS (q0 room) = blankOf [] := rfl
/-- A block that is none of a log's, nor of its disk's. -/
structure Apart (x : Nat) (w : World) (l d : Nat) (g : Gu) (s : Sm) (ev : Value) : Prop where
  lt : x < w.heap.size
  nl : x ≠ l
  ne : ev.ownBlock ≠ some x
  nf : ¬ Foot d g x
  ae : ∀ y ∈ s.es, EvAway (fun j => j = x) y
  av : VvAway (fun j => j = x) s.vs
theorem Apart.next {x : Nat} {w w' : World} {l d : Nat} {g g' : Gu} {s s' : Sm} {ev ev' : Value} (h : Apart x w l d g s ev) (hu : w.heap.size ≤ w'.heap.size) (ho : Owned w ev ev') (hf : Fresh w d g g' s s') : Apart x w' l d g' s' ev' := by
  have hl := h.lt
  obtain ⟨h1, h2⟩ := hf.2 (fun j => j = x) (fun k e => by rw [e]; exact hl) h.ae h.av
  refine ⟨by omega, h.nl, ?_, fun e => (hf.1 x e).elim h.nf (fun k => by omega), h1, h2⟩
  rcases ho with e | e | ⟨j, hj, e⟩
  · rw [e]; exact h.ne
  · rw [e]; simp
  · rw [e]; simp; omega
theorem Apart.keep {x : Nat} {w w' : World} {l d : Nat} {g : Gu} {s : Sm} {ev : Value} (h : Apart x w l d g s ev) (hu : LgUpd w w' l d g ev) : w'.heap[x]? = w.heap[x]? := hu.block x h.lt (fun e => by
  rcases e with e | e | e
  · exact h.nl e
  · exact h.ne e.symm
  · exact h.nf e)
theorem Apart.below {x : Nat} {w w' : World} {l d : Nat} {g : Gu} {s : Sm} {ev : Value} (h : Apart x w l d g s ev) (hb : w.heap.size ≤ w'.heap.size) : Apart x w' l d g s ev := ⟨Nat.lt_of_lt_of_le h.lt hb, h.nl, h.ne, h.nf, h.ae, h.av⟩
/-- A block that was laid behind a log. -/
theorem Lg.behind {B : Nat} {w w' : World} {l d x : Nat} {g : Gu} {p : PS} {s : Sm} {ev : Value} {newest left : Int} (h : Lg B w l d g p s ev newest left) (hx : w.heap.size ≤ x) (hw : x < w'.heap.size) : Apart x w' l d g s ev := by
  have hl := h.sm.cells.lt
  refine ⟨hw, by omega, fun e => by have := (h.sm.rest.row.lt e).2; omega, fun e => by have := h.dk.lt e; omega, fun y hy k hk h0 e => ?_, fun k hk h0 e => ?_⟩
  · have := sees_lt (h.sm.rest.ents y hy).sees k hk h0; omega
  · rcases h.sm.rest.vot.sees with ⟨h1, _⟩ | ⟨b, off, cap, h1, _, hb, _⟩
    · rw [h1] at h0; simp at h0
    · rw [h1] at hk; simp [Value.ownBlock] at hk; omega
/-- What a call on a log leaves lies above. -/
theorem Lg.low {B : Nat} {w w' : World} {l d : Nat} {g : Gu} {p : PS} {s : Sm} {ev : Value} {newest left : Int} (h : Lg B w l d g p s ev newest left) (hl : B ≤ l) (hB : B ≤ w.heap.size) (hu : LgUpd w w' l d g ev) : Below B w w' := Upd.below hu hB (fun k hk e => by
  rcases e with e | e | e
  · omega
  · have := (h.sm.rest.row.lt e.symm).1; omega
  · have := h.dk.ge e; omega)
theorem rec1_len (e : En) : (encs [.entry e]).length = 30 + e.d.length := by
  rw [encs_cons, List.length_append, enc_len, body_len]
  obtain ⟨i, t', k, d⟩ := e
  show 8 + (22 + d.length) + 0 = 30 + d.length
  omega
theorem rec1b_len (e f : En) : (encs [.entry e, .entry f]).length = 60 + e.d.length + f.d.length := by
  rw [encs_cons, List.length_append, rec1_len, enc_len, body_len]
  obtain ⟨i, t', k, d⟩ := e
  show 8 + (22 + d.length) + (30 + f.d.length) = 60 + d.length + f.d.length
  omega
def kE (i t : Int) : En := ⟨i, t, 0, []⟩
theorem bare_okr (i t : Int) (h : decide (1 ≤ i ∧ i ≤ 9 ∧ 0 ≤ t ∧ t ≤ 9) = true) : (RecG.entry (kE i t) : Rec).ok := by
  have h := of_decide_eq_true h
  exact ⟨⟨by omega, by omega⟩, ⟨by omega, by omega⟩, by decide, by decide, (fun _ h => by cases h), by decide⟩
def kp1 : PS := ⟨lfs 1 [[.entry (kE 1 1)]], 1048576, 2, 0, false⟩
def kp2 : PS := ⟨lfs 1 [[.entry (kE 1 1), .entry (kE 1 2), .entry (kE 2 2)]], 1048576, 4, 0, false⟩
theorem kp1_total : total kp1.fs = 30 := by
  show (encs [.entry (kE 1 1)]).length + 0 = 30
  rw [rec1_len]; rfl
theorem kp2_len : (encs [.entry (kE 1 1), .entry (kE 1 2), .entry (kE 2 2)]).length = 90 := by
  rw [show ([.entry (kE 1 1), .entry (kE 1 2), .entry (kE 2 2)] : List Rec) = [.entry (kE 1 1)] ++ [.entry (kE 1 2), .entry (kE 2 2)] from rfl, encs_append, List.length_append, rec1_len, rec1b_len]; rfl
theorem kp2_total : total kp2.fs = 90 := by
  show (encs [.entry (kE 1 1), .entry (kE 1 2), .entry (kE 2 2)]).length + 0 = 90
  rw [kp2_len]
theorem kp1_sane : kp1.sane := ⟨by decide, by decide, by decide, by decide, by decide, by decide, by rw [kp1_total]; decide, by decide⟩
theorem kp2_sane : kp2.sane := ⟨by decide, by decide, by decide, by decide, by decide, by decide, by rw [kp2_total]; decide, by decide⟩
theorem kp2_plain : Plain [.entry (kE 1 1), .entry (kE 1 2), .entry (kE 2 2)] := by
  intro r hr
  rcases List.mem_cons.1 hr with rfl | hr
  · exact ⟨bare_okr _ _ (by decide), rfl⟩
  · rcases List.mem_cons.1 hr with rfl | hr
    · exact ⟨bare_okr _ _ (by decide), rfl⟩
    · rw [List.mem_singleton.1 hr]; exact ⟨bare_okr _ _ (by decide), rfl⟩
theorem kp2_readable : Readable kp2 := readable_lfs (a := [[.entry (kE 1 1), .entry (kE 1 2), .entry (kE 2 2)]]) rfl (by decide) (fun rs hr => by rw [List.mem_singleton.1 hr]; exact ⟨kp2_plain, by rw [kp2_len]; decide⟩) kp2_sane rfl (by rw [kp2_total]; decide)
theorem kp2_says : openS kp2 = ⟨0, -1, 0, 0, 0, [], [kE 1 2, kE 2 2]⟩ := by
  rw [openS_lfs (a := [[.entry (kE 1 1), .entry (kE 1 2), .entry (kE 2 2)]]) rfl (by decide) (fun rs hr => by rw [List.mem_singleton.1 hr]; exact kp2_plain)]
  rfl
/-- The first Save of the example. -/
theorem known1 (B l d : Nat) (g : Gu) (s : Sm) (ev v : Value) (w : World) (hl : Lg B w l d g (q0 1048576) s ev 0 0) (hB : B ≤ w.heap.size) (hT : HasTab w) (hs : pureS s = blankOf []) (hx : SeesE w v [bareE 1 1 0]) :
    Calls Tryz.prog 19 #[ptr l, .pointer none, v] w fun e w' => e = .returned (.int .i64 0) ∧ ∃ g' s' ev', Lg B w' l d g' kp1 s' ev' 1 4066 ∧ pureS s' = ⟨0, -1, 0, 0, 0, [], [kE 1 1]⟩ ∧ LgUpd w w' l d g ev ∧ Owned w ev ev' ∧ Fresh w d g g' s s' := by
  have hes : s.es = [] := List.map_eq_nil_iff.1 (congrArg St.es hs)
  have hmi : s.mi = 0 := congrArg St.mi hs
  have hrec : recsFor ([bareE 1 1 0].map Ev.e) none = [.entry (kE 1 1)] := rfl
  have hlen : (encs [.entry (kE 1 1)]).length = 30 := by rw [rec1_len]; rfl
  refine (save_lfs B l d g (q0 1048576) s ev (.pointer none) v none [bareE 1 1 0] 0 0 4096 1 w [] [] [] hl hB hT rfl trivial hx ⟨fun y hy => ?_, fun _ => ?_, fun j hj => ?_⟩ (by decide) (by rw [hrec]; simp) (by rw [hrec]; exact fun r hr => by rw [List.mem_singleton.1 hr]; exact bare_okr _ _ (by decide)) (by rw [hes]; decide)
    (.inr ⟨by decide, rfl, rfl, (fun f hf => by cases hf), next_lfs (a := []) rfl (by decide)⟩) (by decide) ⟨rfl, rfl⟩ rfl (.inl ⟨rfl, rfl⟩) rfl (by decide) (sane_q0 (by decide) (by decide)) (by decide) (by rw [hrec, hlen]; decide) (by rw [hrec, hlen]; decide)).mono ?_
  · rw [List.mem_singleton.1 hy]; exact ⟨by decide, by decide, by decide, by decide, by decide, by decide⟩
  · show (1 : Int) - 1 ≤ s.mi + s.es.length ∧ s.mi < 1; rw [hes, hmi]; decide
  · simp at hj
  · rintro e w' ⟨rfl, g', s', ev', hl', hs', hu', ho', hf'⟩
    rw [hrec, hlen] at hl'
    rw [hrec, hs] at hs'
    exact ⟨rfl, g', s', ev', hl', hs'.trans rfl, hu', ho', hf'⟩
/-- The second one. -/
theorem known2 (B l d : Nat) (g : Gu) (s : Sm) (ev v : Value) (w : World) (hl : Lg B w l d g kp1 s ev 1 4066) (hB : B ≤ w.heap.size) (hT : HasTab w) (hs : pureS s = ⟨0, -1, 0, 0, 0, [], [kE 1 1]⟩) (hx : SeesE w v [bareE 1 2 0, bareE 2 2 0]) :
    Calls Tryz.prog 19 #[ptr l, .pointer none, v] w fun e w' => e = .returned (.int .i64 0) ∧ ∃ g' s' ev', Lg B w' l d g' kp2 s' ev' 1 4006 ∧ LgUpd w w' l d g ev ∧ Owned w ev ev' ∧ Fresh w d g g' s s' := by
  have hes : s.es.length = 1 := by have := congrArg (fun x => x.es.length) hs; simpa [pureS, St.map] using this
  have hmi : s.mi = 0 := congrArg St.mi hs
  have hrec : recsFor ([bareE 1 2 0, bareE 2 2 0].map Ev.e) none = [.entry (kE 1 2), .entry (kE 2 2)] := rfl
  have hlen : (encs [.entry (kE 1 2), .entry (kE 2 2)]).length = 60 := by rw [rec1b_len]; rfl
  refine (save_lfs B l d g kp1 s ev (.pointer none) v none [bareE 1 2 0, bareE 2 2 0] 1 4066 4066 1 w [] [.entry (kE 1 1)] [lf 1 [.entry (kE 1 1)]] hl hB hT rfl trivial hx ⟨fun y hy => ?_, fun _ => ?_, fun j hj => ?_⟩ (by decide) (by rw [hrec]; simp) (by
      rw [hrec]; intro r hr
      rcases List.mem_cons.1 hr with rfl | hr
      · exact bare_okr _ _ (by decide)
      · rw [List.mem_singleton.1 hr]; exact bare_okr _ _ (by decide)) (by rw [hes]; decide)
    (.inl ⟨by decide, rfl, rfl⟩) (by decide) ⟨rfl, rfl⟩ rfl (.inr rfl) rfl (by decide) kp1_sane (by decide) (by rw [hrec, hlen, kp1_total]; decide) (by rw [hrec, hlen, kp1_total]; decide)).mono ?_
  · rcases List.mem_cons.1 hy with rfl | hy
    · exact ⟨by decide, by decide, by decide, by decide, by decide, by decide⟩
    · rw [List.mem_singleton.1 hy]; exact ⟨by decide, by decide, by decide, by decide, by decide, by decide⟩
  · show (1 : Int) - 1 ≤ s.mi + s.es.length ∧ s.mi < 1; rw [hes, hmi]; decide
  · have : j = 0 := by simp at hj; omega
    subst this; rfl
  · rintro e w' ⟨rfl, g', s', ev', hl', hs', hu', ho', hf'⟩
    rw [hrec, hlen] at hl'
    exact ⟨rfl, g', s', ev', hl', hu', ho', hf'⟩
end Go.Proofs.YtecnlfalpfbobaaGreatDoor
