/- What load does: a log that is read off a disk. -/
import Derived.Test.YtecnlfalpfbobaaGreatDoorWNA
import Derived.Test.YtecnlfalpfbobaaGreatDoorWC11
import Derived.Test.YtecnlfalpfbobaaGreatDoorWC13
namespace Go.Proofs.YtecnlfalpfbobaaGreatDoor
open Go Go.RowKit
section
variable (P : Ev → Prop) (Q : Vv → Prop)
def RecAll : RecV → Prop
  | .hard _ _ _ => True
  | .entry x => P x
  | .base _ _ vv => Q vv
def StAll (s : Sm) : Prop := (∀ x ∈ s.es, P x) ∧ Q s.vs
variable {P Q}
theorem StAll.say {s : Sm} (h : StAll P Q s) : ∀ {r : RecV}, RecAll P Q r → StAll P Q (s.say r)
  | .hard _ _ _, _ => h
  | .entry e, hr => by
    show StAll P Q (s.sayE e)
    unfold St.sayE
    split
    · exact ⟨fun x hx => by rcases List.mem_append.1 hx with hx | hx; exact h.1 x (List.mem_of_mem_take hx); rw [List.mem_singleton.1 hx]; exact hr, h.2⟩
    · exact ⟨fun x hx => h.1 x (List.mem_of_mem_take hx), h.2⟩
  | .base i t vv, hr => by
    show StAll P Q (s.sayB i t vv)
    unfold St.sayB
    split
    · exact ⟨fun x hx => h.1 x (List.mem_of_mem_drop hx), hr⟩
    · split
      · exact ⟨h.1, hr⟩
      · exact ⟨fun x hx => (by cases hx), hr⟩
theorem StAll.says : ∀ {rs : List RecV} {s : Sm}, StAll P Q s → (∀ r ∈ rs, RecAll P Q r) → StAll P Q (s.says rs)
  | [], _, h, _ => h
  | r :: rs, s, h, hr => by
    show StAll P Q ((s.say r).says rs)
    exact StAll.says (h.say (hr r (by simp))) (fun x hx => hr x (by simp [hx]))
theorem StAll.sayFile {s : Sm} {rs : List RecV} (h : StAll P Q s) (hn : Q noVv) (hr : ∀ r ∈ rs, RecAll P Q r) : StAll P Q (s.sayFile noVv rs) := by
  unfold St.sayFile
  split
  · exact StAll.says ⟨fun x hx => (by cases hx), hn⟩ hr
  · exact h.says hr
end
/-- Nothing below B leads to a state's entries and voters. -/
abbrev NewS (B : Nat) (s : Sm) : Prop := StAll (EvAway (fun j => j < B)) (VvAway (fun j => j < B)) s
theorem newR_all {B : Nat} : ∀ {r : RecV}, RecAway (fun j => j < B) r → RecAll (EvAway (fun j => j < B)) (VvAway (fun j => j < B)) r
  | .hard _ _ _, _ => trivial
  | .entry _, h => h
  | .base _ _ _, h => h
abbrev newName : List UInt8 := [119, 97, 108, 46, 110, 101, 119]
def LogName (nm : List UInt8) : Prop := (∃ n, 0 < n ∧ n < 100 ∧ nm = fname n) ∨ nm = newName
/-- The number of a log's name; 0: it has none. -/
def numW (nm : List UInt8) : Nat := if nm.length = 12 then val (nm.drop 4) else 0
theorem numW_name (n : Nat) (hn : n < 100) : numW (fname n) = n := by
  unfold numW
  rw [if_pos (show (fname n).length = 12 from rfl)]
  exact val_dig ⟨n, hn⟩
theorem numW_new : numW newName = 0 := rfl
theorem logName_num {nm : List UInt8} (h : LogName nm) (w : World) : Calls Tryz.prog 115 #[.string ⟨nm.toArray⟩] w fun e w' => e = .returned (.int .i64 (numW nm)) ∧ Below w.heap.size w w' := by
  rcases h with ⟨n, _, hn, rfl⟩ | rfl
  · rw [numW_name n hn]; exact numberOf_name n w hn
  · refine (numberOf_no w).mono ?_
    rintro e w' ⟨rfl, rfl⟩
    exact ⟨rfl, Below.refl _ _⟩
theorem logName_back {nm : List UInt8} (h : LogName nm) (h0 : 0 < numW nm) : numW nm < 100 ∧ fname (numW nm) = nm := by
  rcases h with ⟨n, _, hn, rfl⟩ | rfl
  · rw [numW_name n hn]; exact ⟨hn, rfl⟩
  · rw [numW_new] at h0; omega
/-- The state that a disk's files say. -/
def logFiles (p : PS) : List PF := p.fs.filter (fun f => decide (0 < numW f.name))
abbrev pureS (s : Sm) : St En (List Int) := s.map Ev.e Vv.vs
def openS (p : PS) : St En (List Int) := (logFiles p).foldl (fun s f => s.sayFile [] (recsOf f.xs)) (blankOf [])
theorem sayFile_pure (s : Sm) (rs : List RecV) : pureS (s.sayFile noVv rs) = (pureS s).sayFile [] (rs.map pureR) := sayFile_map (f := Ev.e) (g := Vv.vs) (fun _ => rfl) (fun _ => rfl) noVv s rs
theorem nums_files (p : PS) : nums numW (p.fs.map PF.name) = (logFiles p).map (fun f => (numW f.name : Int)) := by
  unfold nums logFiles
  rw [List.filter_map, List.map_map]
  rfl
def cnt (l : List PF) : Nat := (l.map (fun f => f.xs.length + 1)).sum
theorem cnt_snoc (l : List PF) (f : PF) : cnt (l ++ [f]) = cnt l + (f.xs.length + 1) := by simp [cnt]
theorem cnt_app (a b : List PF) : cnt (a ++ b) = cnt a + cnt b := by simp [cnt]
theorem cnt_filter (q : PF → Bool) : ∀ l : List PF, cnt (l.filter q) ≤ cnt l
  | [] => Nat.le_refl _
  | f :: r => by
    have := cnt_filter q r
    simp only [List.filter_cons]
    split <;> simp only [cnt, List.map_cons, List.sum_cons] at * <;> omega
theorem cnt_take (l : List PF) (k : Nat) : cnt (l.take k) ≤ cnt l := by
  conv => rhs; rw [← List.take_append_drop k l, cnt_app]
  omega
/-- What a log's disk must be that it can be read. -/
structure Readable (p : PS) : Prop where
  sane : p.sane
  live : p.dead = false
  names : ∀ f ∈ p.fs, LogName f.name
  files : ∀ f ∈ p.fs, 0 < numW f.name → NoB f.xs ∧ f.xs.length ≤ 70000
  small : cnt p.fs ≤ 900000
theorem recsF_len : ∀ (n : Nat) (zs : List Int), (recsF n zs).length ≤ n
  | 0, _ => Nat.le_refl _
  | n + 1, zs => by
    simp only [recsF]
    split
    · split
      · simp only [List.length_cons]; have := recsF_len n (zs.drop (unfN zs)); omega
      · simp
    · simp
theorem recsOf_len (zs : List Int) : (recsOf zs).length ≤ zs.length + 1 := recsF_len _ _
theorem sayFile_len (s : Sm) (rs : List RecV) : (s.sayFile noVv rs).es.length ≤ s.es.length + rs.length := by
  unfold St.sayFile
  split
  · have := says_len rs (blankOf noVv : Sm)
    have h0 : (blankOf noVv : Sm).es.length = 0 := rfl
    omega
  · exact says_len rs s
theorem total_mem : ∀ {fs : List PF} {f : PF}, f ∈ fs → f.xs.length ≤ total fs
  | g :: r, f, h => by
    rcases List.mem_cons.1 h with rfl | h
    · simp [total]
    · have := total_mem h
      simp only [total, List.map_cons, List.sum_cons] at *
      omega
theorem read_yes {p : PS} {f : PF} (hup : upK PF.name p.fs) (hd : p.dead = false) (hf : f ∈ p.fs) (hok : okName f.name = true) : readE p f.name = 0 ∧ readB p f.name = f.xs := by
  obtain ⟨pre, post, e⟩ := List.append_of_mem hf
  have hl : p.look f.name = some f := by
    unfold PS.look
    rw [e] at hup ⊢
    exact look_of_parts hup rfl
  have h1 : readE p f.name = 0 := by
    unfold readE PS.fault
    rw [hd, hok, hl]
    rfl
  refine ⟨h1, ?_⟩
  unfold readB
  rw [if_pos h1]
  unfold oldF
  rw [hl]
  rfl
theorem Dk.upP {B : Nat} {w : World} {d : Nat} {g : Gu} {p : PS} (h : Dk B w d g p) : upK PF.name p.fs := by
  rw [h.view]
  exact List.pairwise_map.2 h.rest.up
theorem Dk.file {B : Nat} {w : World} {d : Nat} {g : Gu} {p : PS} (h : Dk B w d g p) {f : PF} (hf : f ∈ p.fs) : okName f.name = true ∧ isB f.xs := by
  rw [h.view] at hf
  obtain ⟨x, hx, rfl⟩ := List.mem_map.1 hf
  have := h.rest.files x hx
  exact ⟨this.okn, this.bytes⟩
/-- What load leaves: a log in memory of its own. -/
structure Loaded (B : Nat) (w : World) (l d : Nat) (s : Sm) (ev : Value) (p : PS) : Prop where
  c0 : w.cell? ⟨l, 0, none⟩ = some (ptr d)
  sm : Smem B w l 1 s ev
  c8 : w.cell? ⟨l, 8, none⟩ = some (.int .i64 0)
  c9 : w.cell? ⟨l, 9, none⟩ = some (.int .i64 0)
  c10 : w.cell? ⟨l, 10, none⟩ = some (.bool false)
  says : pureS s = openS p
  new : NewS B s
  lnew : B ≤ l
set_option maxRecDepth 100000 in
set_option maxHeartbeats 4000000 in
theorem load_any (B d : Nat) (g : Gu) (p : PS) (w : World) (hd : Dk B w d g p) (hp : Readable p) (hT : HasTab w) :
    Calls Tryz.prog 38 #[ptr d] w fun e w' => ∃ l s ev, e = .returned (.tuple #[ptr l, .int .i64 0]) ∧ Loaded w.heap.size w' l d s ev p ∧ Below w.heap.size w w' := by
  have hli := list_any B d g p w hd (by have := hp.sane.len; omega)
  have hE : listE p = 0 := by unfold listE; rw [hp.live]; rfl
  have hBn : listB p = p.fs.map PF.name := by unfold listB; rw [hp.live]; rfl
  rw [hE, hBn] at hli
  have HD := Hid.mk' hd
  have HP := Hid.mk' hp
  have HT := Hid.mk' hT
  have HBN : Hid (blankOf noVv = (⟨0, -1, 0, 0, 0, noVv, []⟩ : Sm)) := rfl
  clear hd hp hT hE hBn
  go_enter Tryz.func38, Tryz.ntmps38
  go_wp2_with (first | (go_at_call 35; refine hli.mono ?_; rintro e w1 ⟨v1, rfl, hr1, hb1⟩; obtain ⟨a1, c1, rfl⟩ := owns_form hr1) | (go_at_call 81; refine (blank_any _).mono ?_; rintro e w2 ⟨rfl, hb2⟩))
  obtain ⟨W3, hW3⟩ : ∃ W3, W3 = w2.alloc (.cells #[.int .i64 0, .int .i64 (-1), .int .i64 0, .int .i64 0, .int .i64 0, .slice none 0 0, .slice none 0 0] 40) := ⟨_, rfl⟩
  have HB2 : Hid (Below w.heap.size w w2) := hb1.trans (hb2.mono hb1.size)
  have HB3 : Hid (Below w.heap.size w W3) := by rw [hW3]; exact HB2.out.alloc HB2.out.size _
  have hW3s : W3.heap.size = w2.heap.size + 1 := by rw [hW3]; simp
  have hsbw := HB2.out.size
  have HS0 : Hid (Smem w.heap.size W3 w2.heap.size 0 (blankOf noVv) (.slice none 0 0)) := by
    have hrow : W3.heap[w2.heap.size]? = some (.cells #[.int .i64 0, .int .i64 (-1), .int .i64 0, .int .i64 0, .int .i64 0, .slice none 0 0, .slice none 0 0] 40 (0, 0)) := by rw [hW3]; exact heap_alloc_new w2 _
    exact ⟨⟨row_cells hrow 0, row_cells hrow 1, row_cells hrow 2, row_cells hrow 3, row_cells hrow 4, row_cells hrow 5, row_cells hrow 6, fun j => frozen_of_row _ _ j _ _ hrow⟩, ⟨RowO.nil _ _ _ _, fun _ h => (by cases h), ⟨.inl ⟨rfl, _, _, rfl⟩, by decide⟩, (fun e => by cases e), fun _ h => (by cases h), fun k hk => (by cases hk), blank_ok _, by decide⟩⟩
  have hr3 : RowO W3 w.heap.size 9 1 (.slice a1 (p.fs.map PF.name).length c1) (p.fs.map PF.name).length (strs (p.fs.map PF.name)) := (RowO.of_owns hr1).upd (Upd.ofBelow (hb2.trans (by rw [hW3]; exact (Below.refl _ _).alloc hb2.size _)) : Upd w1 W3 (fun _ => False)) (fun _ _ => id)
  have hno := numbersOf_any numW _ (p.fs.map PF.name) W3 ⟨_, hr3⟩ (by rw [List.length_map]; have := HP.out.sane.len; omega) (fun x hx w' => by
    obtain ⟨f, hf, rfl⟩ := List.mem_map.1 hx
    exact logName_num (HP.out.names f hf) w')
  rw [nums_files, List.length_map] at hno
  rw [← hW3]
  refine hno.mono ?_
  rintro e w4 ⟨v4, rfl, hr4, hb4⟩
  obtain ⟨a4, c4, rfl, _, _⟩ := hr4.form
  have HB4 : Hid (Below w.heap.size w w4) := HB3.out.trans (hb4.mono HB3.out.size)
  have HS4 := Hid.mk' (HS0.out.below hb4)
  have HR4 := Hid.mk' hr4
  have hb4s := hb4.size
  obtain ⟨n, hn⟩ : ∃ n, n = (logFiles p).length := ⟨_, rfl⟩
  have hlm : ((logFiles p).map (fun f => (numW f.name : Int))).length = n := by rw [List.length_map, hn]
  rw [hlm] at HR4 ⊢
  have HN := Hid.mk' hn
  have hnb : n ≤ 1000000 := by
    have h1 : (logFiles p).length ≤ p.fs.length := List.length_filter_le _ _
    have := HP.out.sane.len
    omega
  clear hli hr1 hb1 hb2 hr3 hno hr4 hb4 hn hlm
  go_wp2_with fail
  go_loopg [23] n (fun kx s23 wr => ∃ (k : Nat) (s : Sm) (ev : Value), s23 = .int .i64 k ∧ k ≤ n ∧ n - k ≤ kx ∧ Hid (Smem w.heap.size wr w2.heap.size 0 s ev) ∧ Hid (pureS s = ((logFiles p).take k).foldl (fun s f => s.sayFile [] (recsOf f.xs)) (blankOf [])) ∧ Hid (NewS w.heap.size s) ∧ Hid (s.es.length ≤ cnt ((logFiles p).take k)) ∧ Hid (Below w.heap.size w wr) ∧ Hid (Upd w4 wr (fun j => j = w2.heap.size)) ∧ Hid (∀ j, ev.ownBlock = some j → w4.heap.size ≤ j))
  case atStart => exact ⟨0, _, _, rfl, Nat.zero_le _, by omega, HS4, Hid.mk' rfl, Hid.mk' ⟨fun _ h => (by cases h), fun k hk => (by cases hk)⟩, Hid.mk' (Nat.zero_le _), HB4, Hid.mk' (Upd.refl _ _), Hid.mk' (fun j hj => by cases hj)⟩
  case round =>
    obtain ⟨k, s, ev, rfl, hk, hkx, HS, HPU, HNS, HLN, HB, HU, HEV⟩ := hrel
    have hr5 := HR4.out.upd HU.out (fun j hj e => by have := (HR4.out.lt hj).1; omega)
    by_cases hlt : k < n
    · have hkr : k < (logFiles p).length := by rw [← HN.out]; exact hlt
      obtain ⟨g1, o1, hgo⟩ : ∃ g o, a4 = some ⟨g, o, none⟩ := by
        rcases hr5.2 with ⟨h', h0⟩ | ⟨g, off, cap, cur, h', _⟩
        · omega
        · simp only [Value.slice.injEq, true_and] at h'
          exact ⟨g, off, h'.1⟩
      subst hgo
      have hcell : wr.cell? ⟨g1, o1 + k, none⟩ = some (.int .i64 (numW (logFiles p)[k].name : Nat)) := hr5.cell k _ (by simp [i64s, hkr])
      have hfm := List.getElem_mem hkr
      have HTK : Hid ((logFiles p).take (k + 1) = (logFiles p).take k ++ [(logFiles p)[k]]) := by show _ = _; rw [List.take_succ_eq_append_getElem hkr]
      have HCT : Hid (cnt ((logFiles p).take (k + 1)) ≤ 900000) := Nat.le_trans (cnt_take _ _) (Nat.le_trans (cnt_filter _ _) HP.out.small)
      generalize (logFiles p)[k] = f at *
      obtain ⟨hfp, hf0⟩ := List.mem_filter.1 hfm
      have hf0 : 0 < numW f.name := of_decide_eq_true hf0
      obtain ⟨hf1, hf2⟩ := logName_back (HP.out.names f hfp) hf0
      have hfile := HD.out.file hfp
      have hrd := read_yes HD.out.upP HP.out.live hfp hfile.1
      have hff := HP.out.files f hfp hf0
      have hnm : (⟨(fname (numW f.name)).toArray⟩ : ByteArray).data.toList = f.name := hf2
      have hfn := fileName_any (numW f.name) wr hf1
      have hre := read_any B d g p ⟨(fname (numW f.name)).toArray⟩ wr (HD.out.below HB.out) HP.out.sane.tot
      rw [hnm, hrd.1, hrd.2] at hre
      have HFX : Hid (isB f.xs ∧ NoB f.xs ∧ f.xs.length ≤ 70000) := ⟨hfile.2, hff.1, hff.2⟩
      have HSB : Hid (w2.heap.size < wr.heap.size) := HS.out.cells.lt
      have HSZ : Hid (w4.heap.size ≤ wr.heap.size) := HU.out.size
      generalize (fname (numW f.name)).toArray = nmArr at *
      generalize numW f.name = q at *
      clear hkr hfm hfp hf0 hf1 hf2 hfile hrd hff hnm hr5
      go_wp2_with (first | (go_at_call 61; refine hfn.mono ?_; rintro e w5 ⟨rfl, h5⟩; have h5 := h5.symm; subst h5) | (go_at_call 36; refine hre.mono ?_; rintro e w6 ⟨v6, rfl, ho6, hb6⟩; have hs6 := sees_own ho6; obtain ⟨a6, c6, rfl⟩ := owns_form ho6))
      have HB6 : Hid (Below w.heap.size w w6) := HB.out.trans (hb6.mono HB.out.size)
      refine (recordsIn_any _ f.xs w6 (HT.out.below HB6.out) hs6 HFX.out.1 HFX.out.2.2 HFX.out.2.1).mono ?_
      rintro e w7 ⟨v7, rs, rfl, hsr, hnr, hrs, hb7⟩
      have HB7 : Hid (Below w.heap.size w w7) := HB6.out.trans (hb7.mono HB6.out.size)
      have hs67 := hb6.size
      have hs77 := hb7.size
      have hm7 := (HS.out.below hb6).below hb7
      have hrl : rs.length ≤ f.xs.length + 1 := by have := recsOf_len f.xs; rw [← hrs, List.length_map] at this; exact this
      have HLE : Hid (s.es.length + rs.length ≤ cnt ((logFiles p).take (k + 1))) := by
        show _ ≤ _
        rw [HTK.out, cnt_snoc]
        have := HLN.out
        omega
      have hsf := sayFile_any w.heap.size w2.heap.size 0 s ev v7 rs w7 hm7 hsr (hnr.away (fun j hj => by
        rcases hj with hj | hj
        · have := HSB.out; omega
        · have := (HS.out.rest.row.lt hj.symm).2; omega)) (by have := HLE.out; have := HCT.out; omega) HB7.out.size
      have HRS := Hid.mk' hrs
      have HNR := Hid.mk' hnr
      obtain ⟨a7, c7, rfl, _⟩ := hsr.form
      clear hre hfn ho6 hs6 hsr hnr hrs hm7
      go_wp2_with (go_at_call 82; refine hsf.mono ?_; rintro e w8 ⟨rfl, hp8⟩)
      go_roundg (n - (k + 1))
      case measure => omega
      case rel =>
        obtain ⟨ev8, hm8, hu8, ho8, _⟩ := hp8
        have hlow : ∀ r ∈ rs, RecAway (fun j => j < w.heap.size) r := fun r hr => (HNR.out.2 r hr).mono (fun j (hj : j < w.heap.size) => by have := HB6.out.size; show j < w6.heap.size; omega)
        have hu48 : Upd w4 w8 (fun j => j = w2.heap.size) := by
          refine ((HU.out.trans (Upd.ofBelow hb6 : Upd wr w6 (fun _ => False)) (fun _ _ h => h.elim)).trans (Upd.ofBelow hb7 : Upd w6 w7 (fun _ => False)) (fun _ _ h => h.elim)).trans hu8 (fun j hj h => ?_)
          rcases h with h | h
          · exact h
          · have := HEV.out j h.symm; omega
        refine ⟨k + 1, s.sayFile noVv rs, ev8, rfl, by omega, by omega, Hid.mk' hm8, Hid.mk' ?_, Hid.mk' (HNS.out.sayFile (fun j hj => by cases hj) (fun r hr => newR_all (hlow r hr))), Hid.mk' (Nat.le_trans (sayFile_len s rs) HLE.out), Hid.mk' ?_, Hid.mk' hu48, Hid.mk' (fun j hj => ?_)⟩
        · rw [sayFile_pure, HPU.out, HTK.out, List.foldl_append, HRS.out]; rfl
        · exact HB7.out.trans (hu8.below HB7.out.size (fun j hj h => by
            rcases h with h | h
            · omega
            · have := (HS.out.rest.row.lt h.symm).1; omega))
        · have := HSZ.out
          rcases ho8 with ho8 | ho8 | ⟨g8, hg8, ho8⟩
          · rw [ho8] at hj; exact HEV.out j hj
          · rw [ho8] at hj; cases hj
          · rw [ho8] at hj; have := Option.some.inj hj; omega
    · obtain rfl : k = n := by omega
      have HPO : Hid (pureS s = openS p) := by show _ = _; rw [HPU.out, List.take_of_length_le (by rw [← HN.out]; exact Nat.le_refl _)]; rfl
      have hoe := ownEntries_any ev s.es wr ⟨_, HS.out.rest.row⟩ HS.out.rest.ents HS.out.rest.few
      obtain ⟨ao, cp, rfl, _, _⟩ := HS.out.rest.row.form
      have c6 := HS.out.cells.c6
      have f6 := HS.out.cells.free (0 + 6)
      simp only [Nat.zero_add] at c6 f6
      clear hr5
      go_wp2_with (go_at_call 84; refine hoe.mono ?_; rintro e w5 ⟨v5, rfl, hr5, hb5⟩; obtain ⟨a5, c5, rfl, _, _⟩ := hr5.form; have HM5 := Hid.mk' (HS.out.below hb5); have d0 := HM5.out.cells.c0; have d1 := HM5.out.cells.c1; have d2 := HM5.out.cells.c2; have d3 := HM5.out.cells.c3; have d4 := HM5.out.cells.c4; have d5 := HM5.out.cells.c5; have d6 := HM5.out.cells.c6; have e6 := HM5.out.cells.free (0 + 6); simp only [Nat.zero_add] at d0 d1 d2 d3 d4 d5 d6 e6; obtain ⟨vo, vc, hvv⟩ := HM5.out.rest.vot.sees.form; have HVV := Hid.mk' hvv; rw [hvv] at d5; clear hvv)
      go_ret2
      obtain ⟨w6, hw6⟩ : ∃ w6, w6 = w5.setCell ⟨w2.heap.size, 6, none⟩ (.slice a5 s.es.length c5) := ⟨_, rfl⟩
      have hs6 : w6.heap.size = w5.heap.size := by rw [hw6]; simp [World.setCell]
      have hu6 : Upd w5 w6 (fun j => j = w2.heap.size) := by rw [hw6]; exact upd_cell _ _ _ _
      have hsb : w2.heap.size < wr.heap.size := HS.out.cells.lt
      have hs5 := hb5.size
      rw [← hw6]
      obtain ⟨w7, hw7⟩ : ∃ w7, w7 = w6.alloc (.cells #[ptr d, .int .i64 s.ht, .int .i64 s.hv, .int .i64 s.hc, .int .i64 s.mi, .int .i64 s.mt, .slice vo s.vs.vs.length vc, .slice a5 s.es.length c5, .int .i64 0, .int .i64 0, .bool false] 109) := ⟨_, rfl⟩
      rw [← hw7]
      have hrow : w7.heap[w5.heap.size]? = some (.cells #[ptr d, .int .i64 s.ht, .int .i64 s.hv, .int .i64 s.hc, .int .i64 s.mi, .int .i64 s.mt, .slice vo s.vs.vs.length vc, .slice a5 s.es.length c5, .int .i64 0, .int .i64 0, .bool false] 109 (0, 0)) := by rw [hw7, ← hs6]; exact heap_alloc_new w6 _
      have hu7 : Upd w5 w7 (fun j => j = w2.heap.size) := by rw [hw7]; exact hu6.trans (Upd.alloc w6 _ (fun _ => False)) (fun _ _ h => h.elim)
      have hbx : ∀ x ∈ s.es, ∀ j, x.v.ownBlock = some j → 0 < x.e.d.length → j < wr.heap.size ∧ j ≠ w2.heap.size := fun x hx j hj h0 => ⟨(HS.out.rest.ents x hx).lt hj h0, fun e => HS.out.rest.ea x hx j hj h0 (.inl e)⟩
      have hbv : ∀ j, s.vs.v.ownBlock = some j → 0 < s.vs.vs.length → j < wr.heap.size ∧ j ≠ w2.heap.size := fun j hj h0 => ⟨HS.out.rest.vot.lt hj h0, fun e => HS.out.rest.va j hj h0 (.inl e)⟩
      have hb57 : Below w.heap.size w w7 := (HB.out.trans (hb5.mono HB.out.size)).trans (hu7.below (by have := HB.out.size; omega) (fun j hj e => by omega))
      refine ⟨w5.heap.size, s, .slice a5 s.es.length c5, rfl, ⟨row_cells hrow 0, ⟨⟨row_cells hrow 1, row_cells hrow 2, row_cells hrow 3, row_cells hrow 4, row_cells hrow 5, ?_, row_cells hrow 7, fun j => frozen_of_row _ _ j _ _ hrow⟩, ⟨?_, ?_, ?_, ?_, ?_, ?_, HS.out.rest.ok, HS.out.rest.few⟩⟩, row_cells hrow 8, row_cells hrow 9, row_cells hrow 10, HPO.out, HNS.out, by have := HB.out.size; omega⟩, hb57⟩
      · rw [HVV.out]; exact row_cells hrow 6
      · have h9 := hr5.upd hu7 (fun j hj e => by have := (hr5.lt hj).1; omega)
        obtain ⟨g1, g2⟩ := h9
        refine ⟨g1, ?_⟩
        rcases g2 with g2 | ⟨g, off, cap, cur, g3, g4, g5⟩
        · exact .inl g2
        · exact .inr ⟨g, off, cap, cur, g3, by have := HB.out.size; omega, g5⟩
      · exact fun x hx => (HM5.out.rest.ents x hx).upd hu7 (fun j hj h0 e => (hbx x hx j hj h0).2 e)
      · exact HM5.out.rest.vot.upd hu7 (fun j hj h0 e => (hbv j hj h0).2 e)
      · intro e; have := (hr5.lt e).2; omega
      · intro x hx j hj h0 e
        have h1 := (hbx x hx j hj h0).1
        rcases e with e | e
        · omega
        · have := (hr5.lt e.symm).1; omega
      · intro j hj h0 e
        have h1 := (hbv j hj h0).1
        rcases e with e | e
        · omega
        · have := (hr5.lt e.symm).1; omega
end Go.Proofs.YtecnlfalpfbobaaGreatDoor
