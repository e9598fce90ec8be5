/- DiskPlays, walked: whatever is called, and wherever the disk stops and crashes, each call answers as the document says. -/
import Derived.Test.YtmfhfabfhoiegaaPlaysM
import Derived.Deep.RegionWith
import Derived.Deep.RegionHeldLaw
import Derived.Deep.CutRange
import Derived.Deep.CutBlock
import Derived.BigQuiet
namespace Go.Proofs.Ytmfhfabfhoiegaa
open Go Go.RowKit
def playsRel (B : Nat) (w0 wx : World) (d x : Nat) (rm : Int) (k : Nat) : Prop :=
  ∃ g h p left, Dk B wx d g p ∧ Rk B wx x h p left ∧ (∀ j, FootX x h j → ¬ Foot d g j) ∧ PlayAt p rm k ∧ Below B w0 wx
theorem playsRel.below {B d x k : Nat} {w0 wx w' : World} {rm : Int} (q : playsRel B w0 wx d x rm k) (hb : Below wx.heap.size wx w') (hB : B ≤ w0.heap.size) : playsRel B w0 w' d x rm k := by
  obtain ⟨g, h, p, left, h1, h2, h3, h4, h5⟩ := q
  have := h5.size
  exact ⟨g, h, p, left, h1.below hb, h2.below hb, h3, h4, h5.trans (hb.mono (by omega))⟩
theorem playsRel.more {B d x k : Nat} {w0 wx : World} {rm : Int} (q : playsRel B w0 wx d x rm k) : playsRel B w0 wx d x rm (k + 1) := by
  obtain ⟨g, h, p, left, h1, h2, h3, h4, h5⟩ := q
  exact ⟨g, h, p, left, h1, h2, h3, h4.more, h5⟩
def playsPost (B : Nat) (w0 wx : World) (d x y : Nat) (cs : Array Value) (rm : Int) (k : Nat) : Prop := ∃ p vm zs, Mid B w0 wx d x y cs vm zs p p ∧ PlayAt p rm k
theorem playsPost.rel {B d x y k : Nat} {w0 wx : World} {cs : Array Value} {rm : Int} (q : playsPost B w0 wx d x y cs rm k) : playsRel B w0 wx d x rm k := by
  obtain ⟨p, vm, zs, ⟨g, h, left, h1, h2, h3, h4, h5, h6⟩, hp⟩ := q
  exact ⟨g, h, p, left, h1, h2, h3, hp, h6⟩
def clCells (c : Cl) : Array Value := #[.int .i64 c.kind, .int .i64 c.n, .string c.a, .string c.b, c.dv, c.pv]
theorem playsRel.mid {B d x k : Nat} {w0 wx : World} {rm : Int} (q : playsRel B w0 wx d x rm k) (hB : B ≤ w0.heap.size) (cs : Array Value) (e : TypeId) : ∃ p, Mid B w0 (wx.alloc (.cells cs e)) d x wx.heap.size cs (.slice none 0 0) [] p p ∧ PlayAt p rm k := by
  obtain ⟨g, h, p, left, h1, h2, h3, h4, h5⟩ := q
  have hb : Below wx.heap.size wx (wx.alloc (.cells cs e)) := (Below.refl _ _).alloc (Nat.le_refl _) _
  have hs := h5.size
  refine ⟨p, ⟨g, h, left, h1.below hb, h2.below hb, h3, ⟨fun j => ?_, fun hf => ?_, fun hf => ?_, by simp⟩, ⟨World.ownsRow_nil _ _ _ _, fun j hj => by cases hj⟩, h5.trans (hb.mono (by omega))⟩, h4⟩
  · rw [cell_of_row _ _ _ _ _ _ (heap_alloc_new wx _)]
  · have := h1.lt hf; omega
  · have := h2.lt hf; omega
set_option maxRecDepth 100000 in
set_option maxHeartbeats 60000000 in
theorem plays_no (rm : Int) (v : Value) (cs : List Cl) (w : World) (_hx : -9223372036854775808 ≤ rm ∧ rm ≤ 9223372036854775807) (hv : SeesC w v cs) (_hl : cs.length ≤ maxLen) (hneg : rm < 0) :
    Calls Try.prog 3 #[.int .i64 rm, v] w fun e w' => e = .returned (.bool true) ∧ Below w.heap.size w w' := by
  obtain ⟨vo, vc, hvv⟩ := hv.form
  subst hvv
  have HV := Hid.mk' hv
  have heq : ∀ (w' : World) (d : Nat), (binOp .eql 24 (ptr d) (.pointer none)).run Try.prog w' = .ok (.bool false) w' := fun _ _ => by kernel_rfl
  have heq2 : ∀ (w' : World) (d : Nat), (binOp .eql 28 (ptr d) (.pointer none)).run Try.prog w' = .ok (.bool false) w' := fun _ _ => by kernel_rfl
  have heq3 : ∀ (w' : World) (d : Nat), (binOp .neq 24 (ptr d) (.pointer none)).run Try.prog w' = .ok (.bool true) w' := fun _ _ => by kernel_rfl
  have heq4 : ∀ (w' : World), (binOp .eql 24 (.pointer none) (.pointer none)).run Try.prog w' = .ok (.bool true) w' := fun _ => by kernel_rfl
  have heq5 : ∀ (w' : World), (binOp .eql 28 (.pointer none) (.pointer none)).run Try.prog w' = .ok (.bool true) w' := fun _ => by kernel_rfl
  have heq6 : ∀ (w' : World), (binOp .neq 24 (.pointer none) (.pointer none)).run Try.prog w' = .ok (.bool false) w' := fun _ => by kernel_rfl
  have hbn := neqB
  clear hv
  go_enter Try.func3, Try.ntmps3
  go_wp2_with (first | (go_at_call 9; refine (known_any _).mono ?_; rintro e w0 ⟨rfl, hb0⟩) | (go_at_call 10; refine (new_no _ _ hneg).mono ?_; rintro e w0 ⟨rfl, rfl⟩) | (go_at_call 11; refine (rnew_no _ _ hneg).mono ?_; rintro e w0 ⟨rfl, rfl⟩))
  go_loopg [9] 0 (fun _ i wx => i = .int .i64 0 ∧ wx = w0)
  case atStart => exact ⟨rfl, rfl⟩
  case round =>
    obtain ⟨rfl, rfl⟩ := hrel
    go_wp2_with fail
    go_ret
    exact ⟨rfl, hb0⟩
set_option maxRecDepth 100000 in
set_option maxHeartbeats 60000000 in
theorem plays_yes (rm : Int) (v : Value) (cs : List Cl) (w : World) (_hx : -9223372036854775808 ≤ rm ∧ rm ≤ 9223372036854775807) (hv : SeesC w v cs) (_hl : cs.length ≤ maxLen) (hneg : ¬ rm < 0) :
    Calls Try.prog 3 #[.int .i64 rm, v] w fun e w' => e = .returned (.bool true) ∧ Below w.heap.size w w' := by
  obtain ⟨vo, vc, hvv⟩ := hv.form
  subst hvv
  have HV := Hid.mk' hv
  have heq : ∀ (w' : World) (d : Nat), (binOp .eql 24 (ptr d) (.pointer none)).run Try.prog w' = .ok (.bool false) w' := fun _ _ => by kernel_rfl
  have heq2 : ∀ (w' : World) (d : Nat), (binOp .eql 28 (ptr d) (.pointer none)).run Try.prog w' = .ok (.bool false) w' := fun _ _ => by kernel_rfl
  have heq3 : ∀ (w' : World) (d : Nat), (binOp .neq 24 (ptr d) (.pointer none)).run Try.prog w' = .ok (.bool true) w' := fun _ _ => by kernel_rfl
  have heq4 : ∀ (w' : World), (binOp .eql 24 (.pointer none) (.pointer none)).run Try.prog w' = .ok (.bool true) w' := fun _ => by kernel_rfl
  have heq5 : ∀ (w' : World), (binOp .eql 28 (.pointer none) (.pointer none)).run Try.prog w' = .ok (.bool true) w' := fun _ => by kernel_rfl
  have heq6 : ∀ (w' : World), (binOp .neq 24 (.pointer none) (.pointer none)).run Try.prog w' = .ok (.bool false) w' := fun _ => by kernel_rfl
  have hbn := neqB
  clear hv
  go_enter Try.func3, Try.ntmps3
  go_wp2_with (go_at_call 9; refine (known_any _).mono ?_; rintro e w0 ⟨rfl, hb0⟩)
  have hs0 := hb0.size
  refine (new_dk w.heap.size rm w0 (by omega) hs0).mono ?_
  rintro e w1 ⟨d, hdd, rfl, hd1, hb1⟩
  have hs1 := hb1.size
  replace hb1 := hb0.trans (hb1.mono hs0)
  have HD1 := Hid.mk' hd1
  have hdl := hd1.cells.lt
  have HB1 := Hid.mk' hb1
  have hs1' := hb1.size
  clear hdd hb0 hd1 hb1
  go_wp2_with (go_at_call 11; refine (rnew_rk w.heap.size rm _ (by omega) hs1').mono ?_; rintro e w2 ⟨x, hxx, rfl, hx2, hb2⟩; have hxge := Nat.le_of_eq hxx.symm; clear hxx)
  have HI : Hid (playsRel w.heap.size w w2 d x rm 0) := ⟨_, _, _, _, HD1.out.below hb2, hx2, fun j hj hf => by
    have hj' : j = x := by rcases hj with e | e | ⟨f, hf, _⟩; exact e; cases e; cases hf
    have := HD1.out.lt hf
    omega, ⟨rfl, by omega, by omega, by simp [q0], by simp [q0], by simp [q0], by simp [q0], by simp [q0, total], by simp [q0]⟩, HB1.out.trans (hb2.mono hs1')⟩
  clear hx2 hb2 hxge HD1 HB1 hs1 hs1' hdl hs0
  go_wp2_with fail
  go_loopg [9] 100 (fun g0 i wx => ∃ (k : Nat), k ≤ 100 ∧ g0 = 100 - k ∧ i = .int .i64 k ∧ playsRel w.heap.size w wx d x rm k)
  case atStart => exact ⟨0, by omega, rfl, rfl, HI.out⟩
  case round =>
    obtain ⟨k, hk, hg0, rfl, hrel⟩ := hrel
    have HR := Hid.mk' hrel
    clear hrel HI heq heq2 heq4 heq5 heq6
    by_cases hlt : k < cs.length ∧ k < 100
    · obtain ⟨h1, h2⟩ := hlt
      have hB0 : Below w.heap.size w wr := by obtain ⟨_, _, _, _, _, _, _, _, hb6⟩ := HR.out; exact hb6
      obtain ⟨vb, off, rfl, hvb, hcl⟩ := HV.out.at h1
      generalize cs.getD k noCl = cl at hcl
      have hc := hcl.below hvb hB0
      have e0 := hc.c0; have e1 := hc.c1; have e2 := hc.c2; have e3 := hc.c3; have e4 := hc.c4; have e5 := hc.c5
      obtain ⟨co, cc, hdv⟩ := sees_form hc.data
      obtain ⟨po, pc, hpv⟩ := hc.picks.form
      rw [hdv] at e4
      rw [hpv] at e5
      have hdl := hc.dl
      have hpl := hc.pl
      have hal := hc.al
      have hbl := hc.bl
      have HCL := Hid.mk' hcl
      have HDV := Hid.mk' hdv
      have HPV := Hid.mk' hpv
      clear hcl hc hdv hpv hB0
      by_cases hl1 : 1000 < cl.data.length
      · have hl1i : (1000 : Int) < (cl.data.length : Int) := by omega
        as_aux_lemma =>
          have HREL : Hid (playsRel w.heap.size w (wr.alloc (.cells #[.int .i64 cl.kind, .int .i64 cl.n, .string cl.a, .string cl.b, .slice co cl.data.length cc, .slice po cl.picks.length pc] 34)) d x rm (k + 1)) := (HR.out.below ((Below.refl _ _).alloc (Nat.le_refl _) _) (Nat.le_refl _)).more
          clear HR HCL
          go_wp2_with fail
          go_roundg (100 - (k + 1))
          case measure => omega
          case rel => exact ⟨k + 1, by omega, rfl, by go_num, HREL.out⟩
      by_cases hl2 : 300 < cl.a.size + cl.b.size
      · have hl1i : decide ((1000 : Int) < (cl.data.length : Int)) = false := decide_eq_false (by omega)
        have hl2i : decide ((300 : Int) < (cl.a.size : Int) + (cl.b.size : Int)) = true := decide_eq_true (by omega)
        as_aux_lemma =>
          have HREL : Hid (playsRel w.heap.size w (wr.alloc (.cells #[.int .i64 cl.kind, .int .i64 cl.n, .string cl.a, .string cl.b, .slice co cl.data.length cc, .slice po cl.picks.length pc] 34)) d x rm (k + 1)) := (HR.out.below ((Below.refl _ _).alloc (Nat.le_refl _) _) (Nat.le_refl _)).more
          clear HR HCL
          go_wp2_with fail
          go_roundg (100 - (k + 1))
          case measure => omega
          case rel => exact ⟨k + 1, by omega, rfl, by go_num, HREL.out⟩
      by_cases hl3 : 100 < cl.picks.length
      · have hl1i : decide ((1000 : Int) < (cl.data.length : Int)) = false := decide_eq_false (by omega)
        have hl2i : decide ((300 : Int) < (cl.a.size : Int) + (cl.b.size : Int)) = false := decide_eq_false (by omega)
        have hl3i : decide ((100 : Int) < (cl.picks.length : Int)) = true := decide_eq_true (by omega)
        as_aux_lemma =>
          have HREL : Hid (playsRel w.heap.size w (wr.alloc (.cells #[.int .i64 cl.kind, .int .i64 cl.n, .string cl.a, .string cl.b, .slice co cl.data.length cc, .slice po cl.picks.length pc] 34)) d x rm (k + 1)) := (HR.out.below ((Below.refl _ _).alloc (Nat.le_refl _) _) (Nat.le_refl _)).more
          clear HR HCL
          go_wp2_with fail
          go_roundg (100 - (k + 1))
          case measure => omega
          case rel => exact ⟨k + 1, by omega, rfl, by go_num, HREL.out⟩
      have hl1i : decide ((1000 : Int) < (cl.data.length : Int)) = false := decide_eq_false (by omega)
      have hl2i : decide ((300 : Int) < (cl.a.size : Int) + (cl.b.size : Int)) = false := decide_eq_false (by omega)
      have hl3i : decide ((100 : Int) < (cl.picks.length : Int)) = false := decide_eq_false (by omega)
      obtain ⟨p, hmid, hpa⟩ := HR.out.mid (Nat.le_refl _) #[.int .i64 cl.kind, .int .i64 cl.n, .string cl.a, .string cl.b, .slice co cl.data.length cc, .slice po cl.picks.length pc] 34
      have HM := Hid.mk' hmid
      have HPA := Hid.mk' hpa
      clear HR hmid hpa HV
      go_upto_block 2 with fail
      go_cut [11, 12, 13, 14, 15, 16, 17, 18, 19, 20, 21, 22, 23] from 46 to 223 (fun s11 s12 _ _ _ _ _ _ _ _ _ _ _ wx => ∃ a : Int, s11 = .int .i64 a ∧ s12 = .int .i64 a ∧ playsPost w.heap.size w wx d x wr.heap.size #[.int .i64 cl.kind, .int .i64 cl.n, .string cl.a, .string cl.b, .slice co cl.data.length cc, .slice po cl.picks.length pc] rm (k + 1))
      case first =>
        by_cases hj : cl.kind = 0
        · as_aux_lemma =>
            have hk0 : (cl.kind == 0) = true := beq_iff_eq.2 hj
            clear hj
            have hsn := HPA.out.sane (by omega)
            have hup := HM.out.up
            have hby := HCL.out.bytes
            have hsd : Sees w (.slice co cl.data.length cc) cl.data := by have := HCL.out.data; rw [HDV.out] at this; exact this
            have HPN : Hid (PlayAt (appP p cl.a.data.toList cl.data) rm (k + 1)) := HPA.out.app hup cl.a.data.toList cl.data (by omega)
            have hd1 : ∀ (W : World) (p2 : PS) (vm : Value), Hid (Mid w.heap.size w W d x wr.heap.size #[.int .i64 cl.kind, .int .i64 cl.n, .string cl.a, .string cl.b, .slice co cl.data.length cc, .slice po cl.picks.length pc] vm cl.data p p2) → Calls Try.prog 12 #[ptr d, .string cl.a, vm] W fun e w' => e = .returned (.int .i64 (appE p cl.a.data.toList cl.data.length)) ∧ Mid w.heap.size w w' d x wr.heap.size #[.int .i64 cl.kind, .int .i64 cl.n, .string cl.a, .string cl.b, .slice co cl.data.length cc, .slice po cl.picks.length pc] vm cl.data (appP p cl.a.data.toList cl.data) p2 := fun _ _ _ q => dApp q.out hsn (Nat.le_refl _) cl.a hby (by omega)
            have hx1 : ∀ (W : World) (p1 : PS) (vm : Value), Hid (Mid w.heap.size w W d x wr.heap.size #[.int .i64 cl.kind, .int .i64 cl.n, .string cl.a, .string cl.b, .slice co cl.data.length cc, .slice po cl.picks.length pc] vm cl.data p1 p) → Calls Try.prog 13 #[ptr x, .string cl.a, .slice co cl.data.length cc] W fun e w' => e = .returned (.int .i64 (appE p cl.a.data.toList cl.data.length)) ∧ Mid w.heap.size w w' d x wr.heap.size #[.int .i64 cl.kind, .int .i64 cl.n, .string cl.a, .string cl.b, .slice co cl.data.length cc, .slice po cl.picks.length pc] vm cl.data p1 (appP p cl.a.data.toList cl.data) := fun _ _ _ q => xApp q.out hsn rfl cl.a (by omega) _ cl.data hsd hby (by omega)
            obtain ⟨i0, hi, hz0, hz1, hz2⟩ := info_parts info5
            have hEb : Below (wr.alloc (.cells #[.int .i64 cl.kind, .int .i64 cl.n, .string cl.a, .string cl.b, .slice co cl.data.length cc, .slice po cl.picks.length pc] 34)).heap.size (wr.alloc (.cells #[.int .i64 cl.kind, .int .i64 cl.n, .string cl.a, .string cl.b, .slice co cl.data.length cc, .slice po cl.picks.length pc] 34)) ((wr.alloc (.cells #[.int .i64 cl.kind, .int .i64 cl.n, .string cl.a, .string cl.b, .slice co cl.data.length cc, .slice po cl.picks.length pc] 34)).alloc (.cells #[] 5)) := (Below.refl _ _).alloc (Nat.le_refl _) _
            have hW1s : (wr.alloc (.cells #[.int .i64 cl.kind, .int .i64 cl.n, .string cl.a, .string cl.b, .slice co cl.data.length cc, .slice po cl.picks.length pc] 34)).heap.size = wr.heap.size + 1 := by simp
            have hME := HM.out.below hEb (Nat.le_refl _)
            have hszE := HM.out.size
            have hsrc := Src_sees (below_sees hME hsd rfl)
            have hown : ((wr.alloc (.cells #[.int .i64 cl.kind, .int .i64 cl.n, .string cl.a, .string cl.b, .slice co cl.data.length cc, .slice po cl.picks.length pc] 34)).alloc (.cells #[] 5)).ownsRow (wr.heap.size + 1) 5 1 (.slice (some ⟨wr.heap.size + 1, 0, none⟩) 0 0) 0 [] := by
              have := World.ownsRow_lit (size := 1) (e := 5) (base := wr.heap.size + 1) (wr.alloc (.cells #[.int .i64 cl.kind, .int .i64 cl.n, .string cl.a, .string cl.b, .slice co cl.data.length cc, .slice po cl.picks.length pc] 34)) #[] 0 (by simp) (by decide) rfl
              rw [hW1s] at this
              exact this
            have HME := Hid.mk' hME
            have HM1 := Hid.mk' HM.out
            clear HM HPA hup hsn HCL e0 e1 e2 e3 e4 e5 hl1i hl2i hl3i hdl hpl hal hbl HDV HPV hsd hME
            have hq4 : ((wr.alloc (.cells #[.int .i64 cl.kind, .int .i64 cl.n, .string cl.a, .string cl.b, .slice co cl.data.length cc, .slice po cl.picks.length pc] 34)).alloc (.cells #[] 5)).cell? ⟨wr.heap.size, 4, none⟩ = some (.slice co cl.data.length cc) := HME.out.cell 4
            go_wp2_with (
              at_builtin
              refine wpList_app _ rfl (.tmp 88) (.tmp 90) 31 31 rfl (wr.heap.size + 1) 5 i0 Try.underlying31 hi hz0 hz1 hz2 _ 0 [] rfl hown _ rfl _ _ hsrc (by omega) (by simp) ?_
              intro v1 w3 f1 f2 f3 f4
              rw [List.nil_append, Nat.zero_add] at f1
              obtain ⟨vo1, vc1, rfl⟩ := owns_form f1
              have hm3 : Mid w.heap.size w w3 d x wr.heap.size #[.int .i64 cl.kind, .int .i64 cl.n, .string cl.a, .string cl.b, .slice co cl.data.length cc, .slice po cl.picks.length pc] (.slice vo1 cl.data.length vc1) cl.data p p := mid_mine HM1.out (Nat.le_refl _) (hEb.trans (f2.below hEb.size (fun k hk e => by have := Option.some.inj (show some k = some (wr.heap.size + 1) from e); omega))) (by rw [hW1s]; exact f1)
              have HM0 : Hid (Mid w.heap.size w w3.drew d x wr.heap.size #[.int .i64 cl.kind, .int .i64 cl.n, .string cl.a, .string cl.b, .slice co cl.data.length cc, .slice po cl.picks.length pc] (.slice vo1 cl.data.length vc1) cl.data p p) := hm3.below ((Below.refl _ _).drew) (Nat.le_refl _)
              have hS0 : (w3.drew.cell? ⟨wr.heap.size, 2, none⟩ = some (.string cl.a) ∧ w3.drew.cell? ⟨wr.heap.size, 3, none⟩ = some (.string cl.b) ∧ w3.drew.cell? ⟨wr.heap.size, 4, none⟩ = some (.slice co cl.data.length cc) ∧ w3.drew.cell? ⟨wr.heap.size, 5, none⟩ = some (.slice po cl.picks.length pc)) := ⟨HM0.out.cell 2, HM0.out.cell 3, HM0.out.cell 4, HM0.out.cell 5⟩
              clear hm3 f1 f2 f3 f4 hown hsrc hq4 HME HM1 hEb)
            go_region_held_law (fun w' => w'.cell? ⟨wr.heap.size, 2, none⟩ = some (.string cl.a) ∧ w'.cell? ⟨wr.heap.size, 3, none⟩ = some (.string cl.b) ∧ w'.cell? ⟨wr.heap.size, 4, none⟩ = some (.slice co cl.data.length cc) ∧ w'.cell? ⟨wr.heap.size, 5, none⟩ = some (.slice po cl.picks.length pc)) (first | assumption | (show _ ∧ _ ∧ _ ∧ _; assumption)) (first
              | (go_at_call 12; (first | (with_reducible refine (hd1 _ p (.slice vo1 cl.data.length vc1) (by assumption)).mono ?_) | (with_reducible refine (hd1 _ (appP p cl.a.data.toList cl.data) (.slice vo1 cl.data.length vc1) (by assumption)).mono ?_)); rintro e w5 ⟨rfl, hm5⟩; have hS5 : (w5.cell? ⟨wr.heap.size, 2, none⟩ = some (.string cl.a) ∧ w5.cell? ⟨wr.heap.size, 3, none⟩ = some (.string cl.b) ∧ w5.cell? ⟨wr.heap.size, 4, none⟩ = some (.slice co cl.data.length cc) ∧ w5.cell? ⟨wr.heap.size, 5, none⟩ = some (.slice po cl.picks.length pc)) := ⟨hm5.cell 2, hm5.cell 3, hm5.cell 4, hm5.cell 5⟩; have HM5 := Hid.mk' hm5; clear hm5)
              | (go_at_call 13; (first | (with_reducible refine (hx1 _ p (.slice vo1 cl.data.length vc1) (by assumption)).mono ?_) | (with_reducible refine (hx1 _ (appP p cl.a.data.toList cl.data) (.slice vo1 cl.data.length vc1) (by assumption)).mono ?_)); rintro e w6 ⟨rfl, hm6⟩; have hS6 : (w6.cell? ⟨wr.heap.size, 2, none⟩ = some (.string cl.a) ∧ w6.cell? ⟨wr.heap.size, 3, none⟩ = some (.string cl.b) ∧ w6.cell? ⟨wr.heap.size, 4, none⟩ = some (.slice co cl.data.length cc) ∧ w6.cell? ⟨wr.heap.size, 5, none⟩ = some (.slice po cl.picks.length pc)) := ⟨hm6.cell 2, hm6.cell 3, hm6.cell 4, hm6.cell 5⟩; have HM6 := Hid.mk' hm6; clear hm6))
            all_goals
              have hml : cl.data.length ≤ 1000 := by omega
              go_wp2_with fail
              go_loopg [14] cl.data.length (fun g1 j wx => ∃ (q : Nat) (zs : List Int), q ≤ cl.data.length ∧ g1 = cl.data.length - q ∧ j = .int .i64 q ∧ zs.length = cl.data.length ∧ Mid w.heap.size w wx d x wr.heap.size #[.int .i64 cl.kind, .int .i64 cl.n, .string cl.a, .string cl.b, .slice co cl.data.length cc, .slice po cl.picks.length pc] (.slice vo1 cl.data.length vc1) zs (appP p cl.a.data.toList cl.data) (appP p cl.a.data.toList cl.data))
              case atStart => exact ⟨0, cl.data, by omega, rfl, rfl, rfl, Hid.out (by assumption)⟩
              case round =>
                obtain ⟨q, zs, hq, hgq, rfl, hzl, hmx⟩ := hrel
                have HMX := Hid.mk' hmx
                by_cases hqn : q < cl.data.length
                · have hrow := hmx.row
                  rw [hzl] at hrow
                  obtain ⟨ga, ca, hva, hga, hgla⟩ := hrow.form (by omega)
                  cases hva
                  have hca := hrow.cellAt q (by simp; omega)
                  have hcz : wr.cell? ⟨ga, q, none⟩ ≠ none := by rw [hca]; simp [u8s]; omega
                  have hfz := hrow.frozenAt q
                  obtain ⟨u, hu⟩ : ∃ u, wr.cell? ⟨ga, q, none⟩ = some u := Option.ne_none_iff_exists'.1 hcz
                  have HST := Hid.mk' (hmx.store (Nat.le_refl _) (by rw [hzl]) q 238)
                  have hqi : (q : Int) < (cl.data.length : Int) := by omega
                  clear hmx hrow hca hcz hgla hga
                  go_wp2_with fail
                  go_roundg (cl.data.length - (q + 1))
                  case measure => omega
                  case rel => exact ⟨q + 1, zs.set q 238, by omega, rfl, by go_num, by rw [List.length_set]; exact hzl, HST.out⟩
                · have hqi : ¬ ((q : Int) < (cl.data.length : Int)) := by omega
                  clear hmx
                  go_wp2_with fail
                  go_meet
                  exact ⟨appE p cl.a.data.toList cl.data.length, rfl, rfl, appP p cl.a.data.toList cl.data, _, zs, HMX.out, HPN.out⟩
        have hn0 : ¬ cl.kind = 0 := hj
        clear hj
        by_cases hj : cl.kind = 1
        · as_aux_lemma =>
            have hk0 : (cl.kind == 0) = false := beq_eq_false_iff_ne.2 hn0
            have hk1 : (cl.kind == 1) = true := beq_iff_eq.2 hj
            clear hj
            have hsn := HPA.out.sane (by omega)
            have hup := HM.out.up
            have HPN : Hid (PlayAt (syncP p cl.a.data.toList) rm (k + 1)) := HPA.out.sync hup cl.a.data.toList
            have hd1 : ∀ (W : World) (p2 : PS), Hid (Mid w.heap.size w W d x wr.heap.size #[.int .i64 cl.kind, .int .i64 cl.n, .string cl.a, .string cl.b, .slice co cl.data.length cc, .slice po cl.picks.length pc] (.slice none 0 0) [] p p2) → Calls Try.prog 14 #[ptr d, .string cl.a] W fun e w' => e = .returned (.int .i64 (opE p cl.a.data.toList)) ∧ Mid w.heap.size w w' d x wr.heap.size #[.int .i64 cl.kind, .int .i64 cl.n, .string cl.a, .string cl.b, .slice co cl.data.length cc, .slice po cl.picks.length pc] (.slice none 0 0) [] (syncP p cl.a.data.toList) p2 := fun _ _ q => dSync q.out hsn (Nat.le_refl _) cl.a
            have hx1 : ∀ (W : World) (p1 : PS), Hid (Mid w.heap.size w W d x wr.heap.size #[.int .i64 cl.kind, .int .i64 cl.n, .string cl.a, .string cl.b, .slice co cl.data.length cc, .slice po cl.picks.length pc] (.slice none 0 0) [] p1 p) → Calls Try.prog 15 #[ptr x, .string cl.a] W fun e w' => e = .returned (.int .i64 (opE p cl.a.data.toList)) ∧ Mid w.heap.size w w' d x wr.heap.size #[.int .i64 cl.kind, .int .i64 cl.n, .string cl.a, .string cl.b, .slice co cl.data.length cc, .slice po cl.picks.length pc] (.slice none 0 0) [] p1 (syncP p cl.a.data.toList) := fun _ _ q => xSync q.out hsn (Nat.le_refl _) cl.a (by omega)
            have HM0 : Hid (Mid w.heap.size w (wr.alloc (.cells #[.int .i64 cl.kind, .int .i64 cl.n, .string cl.a, .string cl.b, .slice co cl.data.length cc, .slice po cl.picks.length pc] 34)).drew d x wr.heap.size #[.int .i64 cl.kind, .int .i64 cl.n, .string cl.a, .string cl.b, .slice co cl.data.length cc, .slice po cl.picks.length pc] (.slice none 0 0) [] p p) := HM.out.below ((Below.refl _ _).drew) (Nat.le_refl _)
            have hS0 : ((wr.alloc (.cells #[.int .i64 cl.kind, .int .i64 cl.n, .string cl.a, .string cl.b, .slice co cl.data.length cc, .slice po cl.picks.length pc] 34)).drew.cell? ⟨wr.heap.size, 2, none⟩ = some (.string cl.a) ∧ (wr.alloc (.cells #[.int .i64 cl.kind, .int .i64 cl.n, .string cl.a, .string cl.b, .slice co cl.data.length cc, .slice po cl.picks.length pc] 34)).drew.cell? ⟨wr.heap.size, 3, none⟩ = some (.string cl.b) ∧ (wr.alloc (.cells #[.int .i64 cl.kind, .int .i64 cl.n, .string cl.a, .string cl.b, .slice co cl.data.length cc, .slice po cl.picks.length pc] 34)).drew.cell? ⟨wr.heap.size, 4, none⟩ = some (.slice co cl.data.length cc) ∧ (wr.alloc (.cells #[.int .i64 cl.kind, .int .i64 cl.n, .string cl.a, .string cl.b, .slice co cl.data.length cc, .slice po cl.picks.length pc] 34)).drew.cell? ⟨wr.heap.size, 5, none⟩ = some (.slice po cl.picks.length pc)) := ⟨HM0.out.cell 2, HM0.out.cell 3, HM0.out.cell 4, HM0.out.cell 5⟩
            clear HM HPA hup hsn HCL e0 e1 e2 e3 e4 e5 hl1i hl2i hl3i hl1 hl2 hl3 hdl hpl hal hbl HDV HPV
            go_wp2_with fail
            go_region_held_law (fun w' => w'.cell? ⟨wr.heap.size, 2, none⟩ = some (.string cl.a) ∧ w'.cell? ⟨wr.heap.size, 3, none⟩ = some (.string cl.b) ∧ w'.cell? ⟨wr.heap.size, 4, none⟩ = some (.slice co cl.data.length cc) ∧ w'.cell? ⟨wr.heap.size, 5, none⟩ = some (.slice po cl.picks.length pc)) (first | assumption | (show _ ∧ _ ∧ _ ∧ _; assumption)) (first
              | (go_at_call 14; (first | (with_reducible refine (hd1 _ p (by assumption)).mono ?_) | (with_reducible refine (hd1 _ (syncP p cl.a.data.toList) (by assumption)).mono ?_)); rintro e w5 ⟨rfl, hm5⟩; have hS5 : (w5.cell? ⟨wr.heap.size, 2, none⟩ = some (.string cl.a) ∧ w5.cell? ⟨wr.heap.size, 3, none⟩ = some (.string cl.b) ∧ w5.cell? ⟨wr.heap.size, 4, none⟩ = some (.slice co cl.data.length cc) ∧ w5.cell? ⟨wr.heap.size, 5, none⟩ = some (.slice po cl.picks.length pc)) := ⟨hm5.cell 2, hm5.cell 3, hm5.cell 4, hm5.cell 5⟩; have HM5 := Hid.mk' hm5; clear hm5)
              | (go_at_call 15; (first | (with_reducible refine (hx1 _ p (by assumption)).mono ?_) | (with_reducible refine (hx1 _ (syncP p cl.a.data.toList) (by assumption)).mono ?_)); rintro e w6 ⟨rfl, hm6⟩; have hS6 : (w6.cell? ⟨wr.heap.size, 2, none⟩ = some (.string cl.a) ∧ w6.cell? ⟨wr.heap.size, 3, none⟩ = some (.string cl.b) ∧ w6.cell? ⟨wr.heap.size, 4, none⟩ = some (.slice co cl.data.length cc) ∧ w6.cell? ⟨wr.heap.size, 5, none⟩ = some (.slice po cl.picks.length pc)) := ⟨hm6.cell 2, hm6.cell 3, hm6.cell 4, hm6.cell 5⟩; have HM6 := Hid.mk' hm6; clear hm6))
            all_goals
              go_wp2_with fail
              go_meet
              exact ⟨opE p cl.a.data.toList, rfl, rfl, syncP p cl.a.data.toList, (.slice none 0 0), [], Hid.out (by assumption), HPN.out⟩
        have hn1 : ¬ cl.kind = 1 := hj
        clear hj
        by_cases hj : cl.kind = 2
        · as_aux_lemma =>
            have hk0 : (cl.kind == 0) = false := beq_eq_false_iff_ne.2 hn0
            have hk1 : (cl.kind == 1) = false := beq_eq_false_iff_ne.2 hn1
            have hk2 : (cl.kind == 2) = true := beq_iff_eq.2 hj
            clear hj
            have hsn := HPA.out.sane (by omega)
            have hup := HM.out.up
            have HPN : Hid (PlayAt (renP p cl.a.data.toList cl.b.data.toList) rm (k + 1)) := HPA.out.ren hup cl.a.data.toList cl.b.data.toList
            have hd1 : ∀ (W : World) (p2 : PS), Hid (Mid w.heap.size w W d x wr.heap.size #[.int .i64 cl.kind, .int .i64 cl.n, .string cl.a, .string cl.b, .slice co cl.data.length cc, .slice po cl.picks.length pc] (.slice none 0 0) [] p p2) → Calls Try.prog 16 #[ptr d, .string cl.a, .string cl.b] W fun e w' => e = .returned (.int .i64 (renE p cl.a.data.toList cl.b.data.toList)) ∧ Mid w.heap.size w w' d x wr.heap.size #[.int .i64 cl.kind, .int .i64 cl.n, .string cl.a, .string cl.b, .slice co cl.data.length cc, .slice po cl.picks.length pc] (.slice none 0 0) [] (renP p cl.a.data.toList cl.b.data.toList) p2 := fun _ _ q => dRen q.out hsn (Nat.le_refl _) cl.a cl.b
            have hx1 : ∀ (W : World) (p1 : PS), Hid (Mid w.heap.size w W d x wr.heap.size #[.int .i64 cl.kind, .int .i64 cl.n, .string cl.a, .string cl.b, .slice co cl.data.length cc, .slice po cl.picks.length pc] (.slice none 0 0) [] p1 p) → Calls Try.prog 17 #[ptr x, .string cl.a, .string cl.b] W fun e w' => e = .returned (.int .i64 (renE p cl.a.data.toList cl.b.data.toList)) ∧ Mid w.heap.size w w' d x wr.heap.size #[.int .i64 cl.kind, .int .i64 cl.n, .string cl.a, .string cl.b, .slice co cl.data.length cc, .slice po cl.picks.length pc] (.slice none 0 0) [] p1 (renP p cl.a.data.toList cl.b.data.toList) := fun _ _ q => xRen q.out hsn (Nat.le_refl _) cl.a cl.b (by omega) (by omega)
            have HM0 : Hid (Mid w.heap.size w (wr.alloc (.cells #[.int .i64 cl.kind, .int .i64 cl.n, .string cl.a, .string cl.b, .slice co cl.data.length cc, .slice po cl.picks.length pc] 34)).drew d x wr.heap.size #[.int .i64 cl.kind, .int .i64 cl.n, .string cl.a, .string cl.b, .slice co cl.data.length cc, .slice po cl.picks.length pc] (.slice none 0 0) [] p p) := HM.out.below ((Below.refl _ _).drew) (Nat.le_refl _)
            have hS0 : ((wr.alloc (.cells #[.int .i64 cl.kind, .int .i64 cl.n, .string cl.a, .string cl.b, .slice co cl.data.length cc, .slice po cl.picks.length pc] 34)).drew.cell? ⟨wr.heap.size, 2, none⟩ = some (.string cl.a) ∧ (wr.alloc (.cells #[.int .i64 cl.kind, .int .i64 cl.n, .string cl.a, .string cl.b, .slice co cl.data.length cc, .slice po cl.picks.length pc] 34)).drew.cell? ⟨wr.heap.size, 3, none⟩ = some (.string cl.b) ∧ (wr.alloc (.cells #[.int .i64 cl.kind, .int .i64 cl.n, .string cl.a, .string cl.b, .slice co cl.data.length cc, .slice po cl.picks.length pc] 34)).drew.cell? ⟨wr.heap.size, 4, none⟩ = some (.slice co cl.data.length cc) ∧ (wr.alloc (.cells #[.int .i64 cl.kind, .int .i64 cl.n, .string cl.a, .string cl.b, .slice co cl.data.length cc, .slice po cl.picks.length pc] 34)).drew.cell? ⟨wr.heap.size, 5, none⟩ = some (.slice po cl.picks.length pc)) := ⟨HM0.out.cell 2, HM0.out.cell 3, HM0.out.cell 4, HM0.out.cell 5⟩
            clear HM HPA hup hsn HCL e0 e1 e2 e3 e4 e5 hl1i hl2i hl3i hl1 hl2 hl3 hdl hpl hal hbl HDV HPV
            go_wp2_with fail
            go_region_held_law (fun w' => w'.cell? ⟨wr.heap.size, 2, none⟩ = some (.string cl.a) ∧ w'.cell? ⟨wr.heap.size, 3, none⟩ = some (.string cl.b) ∧ w'.cell? ⟨wr.heap.size, 4, none⟩ = some (.slice co cl.data.length cc) ∧ w'.cell? ⟨wr.heap.size, 5, none⟩ = some (.slice po cl.picks.length pc)) (first | assumption | (show _ ∧ _ ∧ _ ∧ _; assumption)) (first
              | (go_at_call 16; (first | (with_reducible refine (hd1 _ p (by assumption)).mono ?_) | (with_reducible refine (hd1 _ (renP p cl.a.data.toList cl.b.data.toList) (by assumption)).mono ?_)); rintro e w5 ⟨rfl, hm5⟩; have hS5 : (w5.cell? ⟨wr.heap.size, 2, none⟩ = some (.string cl.a) ∧ w5.cell? ⟨wr.heap.size, 3, none⟩ = some (.string cl.b) ∧ w5.cell? ⟨wr.heap.size, 4, none⟩ = some (.slice co cl.data.length cc) ∧ w5.cell? ⟨wr.heap.size, 5, none⟩ = some (.slice po cl.picks.length pc)) := ⟨hm5.cell 2, hm5.cell 3, hm5.cell 4, hm5.cell 5⟩; have HM5 := Hid.mk' hm5; clear hm5)
              | (go_at_call 17; (first | (with_reducible refine (hx1 _ p (by assumption)).mono ?_) | (with_reducible refine (hx1 _ (renP p cl.a.data.toList cl.b.data.toList) (by assumption)).mono ?_)); rintro e w6 ⟨rfl, hm6⟩; have hS6 : (w6.cell? ⟨wr.heap.size, 2, none⟩ = some (.string cl.a) ∧ w6.cell? ⟨wr.heap.size, 3, none⟩ = some (.string cl.b) ∧ w6.cell? ⟨wr.heap.size, 4, none⟩ = some (.slice co cl.data.length cc) ∧ w6.cell? ⟨wr.heap.size, 5, none⟩ = some (.slice po cl.picks.length pc)) := ⟨hm6.cell 2, hm6.cell 3, hm6.cell 4, hm6.cell 5⟩; have HM6 := Hid.mk' hm6; clear hm6))
            all_goals
              go_wp2_with fail
              go_meet
              exact ⟨renE p cl.a.data.toList cl.b.data.toList, rfl, rfl, renP p cl.a.data.toList cl.b.data.toList, (.slice none 0 0), [], Hid.out (by assumption), HPN.out⟩
        have hn2 : ¬ cl.kind = 2 := hj
        clear hj
        by_cases hj : cl.kind = 3
        · as_aux_lemma =>
            have hk0 : (cl.kind == 0) = false := beq_eq_false_iff_ne.2 hn0
            have hk1 : (cl.kind == 1) = false := beq_eq_false_iff_ne.2 hn1
            have hk2 : (cl.kind == 2) = false := beq_eq_false_iff_ne.2 hn2
            have hk3 : (cl.kind == 3) = true := beq_iff_eq.2 hj
            clear hj
            have hsn := HPA.out.sane (by omega)
            have hup := HM.out.up
            have HPN : Hid (PlayAt (remP p cl.a.data.toList) rm (k + 1)) := HPA.out.rem cl.a.data.toList
            have hd1 : ∀ (W : World) (p2 : PS), Hid (Mid w.heap.size w W d x wr.heap.size #[.int .i64 cl.kind, .int .i64 cl.n, .string cl.a, .string cl.b, .slice co cl.data.length cc, .slice po cl.picks.length pc] (.slice none 0 0) [] p p2) → Calls Try.prog 18 #[ptr d, .string cl.a] W fun e w' => e = .returned (.int .i64 (opE p cl.a.data.toList)) ∧ Mid w.heap.size w w' d x wr.heap.size #[.int .i64 cl.kind, .int .i64 cl.n, .string cl.a, .string cl.b, .slice co cl.data.length cc, .slice po cl.picks.length pc] (.slice none 0 0) [] (remP p cl.a.data.toList) p2 := fun _ _ q => dRem q.out hsn (Nat.le_refl _) cl.a
            have hx1 : ∀ (W : World) (p1 : PS), Hid (Mid w.heap.size w W d x wr.heap.size #[.int .i64 cl.kind, .int .i64 cl.n, .string cl.a, .string cl.b, .slice co cl.data.length cc, .slice po cl.picks.length pc] (.slice none 0 0) [] p1 p) → Calls Try.prog 19 #[ptr x, .string cl.a] W fun e w' => e = .returned (.int .i64 (opE p cl.a.data.toList)) ∧ Mid w.heap.size w w' d x wr.heap.size #[.int .i64 cl.kind, .int .i64 cl.n, .string cl.a, .string cl.b, .slice co cl.data.length cc, .slice po cl.picks.length pc] (.slice none 0 0) [] p1 (remP p cl.a.data.toList) := fun _ _ q => xRem q.out hsn (Nat.le_refl _) cl.a (by omega)
            have HM0 : Hid (Mid w.heap.size w (wr.alloc (.cells #[.int .i64 cl.kind, .int .i64 cl.n, .string cl.a, .string cl.b, .slice co cl.data.length cc, .slice po cl.picks.length pc] 34)).drew d x wr.heap.size #[.int .i64 cl.kind, .int .i64 cl.n, .string cl.a, .string cl.b, .slice co cl.data.length cc, .slice po cl.picks.length pc] (.slice none 0 0) [] p p) := HM.out.below ((Below.refl _ _).drew) (Nat.le_refl _)
            have hS0 : ((wr.alloc (.cells #[.int .i64 cl.kind, .int .i64 cl.n, .string cl.a, .string cl.b, .slice co cl.data.length cc, .slice po cl.picks.length pc] 34)).drew.cell? ⟨wr.heap.size, 2, none⟩ = some (.string cl.a) ∧ (wr.alloc (.cells #[.int .i64 cl.kind, .int .i64 cl.n, .string cl.a, .string cl.b, .slice co cl.data.length cc, .slice po cl.picks.length pc] 34)).drew.cell? ⟨wr.heap.size, 3, none⟩ = some (.string cl.b) ∧ (wr.alloc (.cells #[.int .i64 cl.kind, .int .i64 cl.n, .string cl.a, .string cl.b, .slice co cl.data.length cc, .slice po cl.picks.length pc] 34)).drew.cell? ⟨wr.heap.size, 4, none⟩ = some (.slice co cl.data.length cc) ∧ (wr.alloc (.cells #[.int .i64 cl.kind, .int .i64 cl.n, .string cl.a, .string cl.b, .slice co cl.data.length cc, .slice po cl.picks.length pc] 34)).drew.cell? ⟨wr.heap.size, 5, none⟩ = some (.slice po cl.picks.length pc)) := ⟨HM0.out.cell 2, HM0.out.cell 3, HM0.out.cell 4, HM0.out.cell 5⟩
            clear HM HPA hup hsn HCL e0 e1 e2 e3 e4 e5 hl1i hl2i hl3i hl1 hl2 hl3 hdl hpl hal hbl HDV HPV
            go_wp2_with fail
            go_region_held_law (fun w' => w'.cell? ⟨wr.heap.size, 2, none⟩ = some (.string cl.a) ∧ w'.cell? ⟨wr.heap.size, 3, none⟩ = some (.string cl.b) ∧ w'.cell? ⟨wr.heap.size, 4, none⟩ = some (.slice co cl.data.length cc) ∧ w'.cell? ⟨wr.heap.size, 5, none⟩ = some (.slice po cl.picks.length pc)) (first | assumption | (show _ ∧ _ ∧ _ ∧ _; assumption)) (first
              | (go_at_call 18; (first | (with_reducible refine (hd1 _ p (by assumption)).mono ?_) | (with_reducible refine (hd1 _ (remP p cl.a.data.toList) (by assumption)).mono ?_)); rintro e w5 ⟨rfl, hm5⟩; have hS5 : (w5.cell? ⟨wr.heap.size, 2, none⟩ = some (.string cl.a) ∧ w5.cell? ⟨wr.heap.size, 3, none⟩ = some (.string cl.b) ∧ w5.cell? ⟨wr.heap.size, 4, none⟩ = some (.slice co cl.data.length cc) ∧ w5.cell? ⟨wr.heap.size, 5, none⟩ = some (.slice po cl.picks.length pc)) := ⟨hm5.cell 2, hm5.cell 3, hm5.cell 4, hm5.cell 5⟩; have HM5 := Hid.mk' hm5; clear hm5)
              | (go_at_call 19; (first | (with_reducible refine (hx1 _ p (by assumption)).mono ?_) | (with_reducible refine (hx1 _ (remP p cl.a.data.toList) (by assumption)).mono ?_)); rintro e w6 ⟨rfl, hm6⟩; have hS6 : (w6.cell? ⟨wr.heap.size, 2, none⟩ = some (.string cl.a) ∧ w6.cell? ⟨wr.heap.size, 3, none⟩ = some (.string cl.b) ∧ w6.cell? ⟨wr.heap.size, 4, none⟩ = some (.slice co cl.data.length cc) ∧ w6.cell? ⟨wr.heap.size, 5, none⟩ = some (.slice po cl.picks.length pc)) := ⟨hm6.cell 2, hm6.cell 3, hm6.cell 4, hm6.cell 5⟩; have HM6 := Hid.mk' hm6; clear hm6))
            all_goals
              go_wp2_with fail
              go_meet
              exact ⟨opE p cl.a.data.toList, rfl, rfl, remP p cl.a.data.toList, (.slice none 0 0), [], Hid.out (by assumption), HPN.out⟩
        have hn3 : ¬ cl.kind = 3 := hj
        clear hj
        by_cases hj : cl.kind = 4
        · as_aux_lemma =>
            have hk0 : (cl.kind == 0) = false := beq_eq_false_iff_ne.2 hn0
            have hk1 : (cl.kind == 1) = false := beq_eq_false_iff_ne.2 hn1
            have hk2 : (cl.kind == 2) = false := beq_eq_false_iff_ne.2 hn2
            have hk3 : (cl.kind == 3) = false := beq_eq_false_iff_ne.2 hn3
            have hk4 : (cl.kind == 4) = true := beq_iff_eq.2 hj
            clear hj
            have hsn := HPA.out.sane (by omega)
            have HPN : Hid (PlayAt p rm (k + 1)) := HPA.out.more
            have hd1 := dRead HM.out hsn (Nat.le_refl _) cl.a
            have hx1 : ∀ (W : World), Mid w.heap.size w W d x wr.heap.size #[.int .i64 cl.kind, .int .i64 cl.n, .string cl.a, .string cl.b, .slice co cl.data.length cc, .slice po cl.picks.length pc] (.slice none 0 0) [] p p → Calls Try.prog 21 #[ptr x, .string cl.a] W fun e w' => ∃ v, e = .returned (.tuple #[v, .int .i64 (readE p cl.a.data.toList)]) ∧ Sees w' v (readB p cl.a.data.toList) ∧ Mid w.heap.size w w' d x wr.heap.size #[.int .i64 cl.kind, .int .i64 cl.n, .string cl.a, .string cl.b, .slice co cl.data.length cc, .slice po cl.picks.length pc] (.slice none 0 0) [] p p ∧ Below W.heap.size W w' := fun _ q => xRead q hsn (Nat.le_refl _) cl.a (by omega)
            have hsq : ((strOfNums (readB p cl.a.data.toList)).toList == (strOfNums (readB p cl.a.data.toList)).toList) = true := by simp
            have hsq2 : ((strOfNums (readB p cl.a.data.toList)).toList != (strOfNums (readB p cl.a.data.toList)).toList) = false := by simp
            clear HM HPA HCL e0 e1 e2 e3 e4 e5 hl1i hl2i hl3i hl1 hl2 hl3 hdl hpl hal hbl HDV HPV hsn
            go_wp2_with (first
              | (go_at_call 20
                 with_reducible refine hd1.mono ?_
                 rintro e w5 ⟨v5, rfl, hs5, hm5, _⟩
                 obtain ⟨vo5, vc5, hv5⟩ := sees_form hs5
                 have hq2 : w5.cell? ⟨wr.heap.size, 2, none⟩ = some (.string cl.a) := hm5.cell 2
                 have hx2 := hx1 _ hm5
                 have HS5 := Hid.mk' hs5
                 subst hv5
                 clear hm5 hx1 hd1 hs5)
              | (go_at_call 21
                 with_reducible refine hx2.mono ?_
                 rintro e w6 ⟨v6, rfl, hs6, hm6, hb6⟩
                 obtain ⟨vo6, vc6, hv6⟩ := sees_form hs6
                 subst hv6
                 have hc5 := conv_sees (HS5.out.below hb6)
                 have hc6 := conv_sees hs6
                 have HM6 := Hid.mk' hm6
                 clear hm6 hx2 hs6 hb6))
            go_meet
            exact ⟨readE p cl.a.data.toList, rfl, rfl, p, (.slice none 0 0), [], HM6.out, HPN.out⟩
        have hn4 : ¬ cl.kind = 4 := hj
        clear hj
        by_cases hj : cl.kind = 5
        · as_aux_lemma =>
            have hk0 : (cl.kind == 0) = false := beq_eq_false_iff_ne.2 hn0
            have hk1 : (cl.kind == 1) = false := beq_eq_false_iff_ne.2 hn1
            have hk2 : (cl.kind == 2) = false := beq_eq_false_iff_ne.2 hn2
            have hk3 : (cl.kind == 3) = false := beq_eq_false_iff_ne.2 hn3
            have hk4 : (cl.kind == 4) = false := beq_eq_false_iff_ne.2 hn4
            have hk5 : (cl.kind == 5) = true := beq_iff_eq.2 hj
            clear hj
            have hsn := HPA.out.sane (by omega)
            have HPN : Hid (PlayAt p rm (k + 1)) := HPA.out.more
            have hln : (listB p).length ≤ 1000000 := by
              have h1 := hsn.len
              unfold listB
              split
              · simp
              · rw [List.length_map]; omega
            have hd1 := dList HM.out hsn (Nat.le_refl _)
            have hx1 : ∀ (W : World), Mid w.heap.size w W d x wr.heap.size #[.int .i64 cl.kind, .int .i64 cl.n, .string cl.a, .string cl.b, .slice co cl.data.length cc, .slice po cl.picks.length pc] (.slice none 0 0) [] p p → Calls Try.prog 23 #[ptr x] W fun e w' => ∃ v, e = .returned (.tuple #[v, .int .i64 (listE p)]) ∧ w'.ownsRow W.heap.size 9 1 v (listB p).length (strs (listB p)) ∧ Mid w.heap.size w w' d x wr.heap.size #[.int .i64 cl.kind, .int .i64 cl.n, .string cl.a, .string cl.b, .slice co cl.data.length cc, .slice po cl.picks.length pc] (.slice none 0 0) [] p p ∧ Below W.heap.size W w' := fun _ q => xList q hsn (Nat.le_refl _)
            clear HM HPA HCL e0 e1 e2 e3 e4 e5 hl1i hl2i hl3i hl1 hl2 hl3 hdl hpl hal hbl HDV HPV hsn
            go_wp2_with (first
              | (go_at_call 22
                 with_reducible refine hd1.mono ?_
                 rintro e w5 ⟨v5, rfl, hs5, hm5, _⟩
                 obtain ⟨vo5, vc5, rfl⟩ := owns_form hs5
                 have hx2 := hx1 _ hm5
                 have HS5 := Hid.mk' hs5
                 clear hm5 hx1 hd1 hs5)
              | (go_at_call 23
                 with_reducible refine hx2.mono ?_
                 rintro e w6 ⟨v6, rfl, hs6, hm6, hb6⟩
                 obtain ⟨vo6, vc6, rfl⟩ := owns_form hs6
                 have HS5' := Hid.mk' (ownsRow_upd HS5.out (Upd.ofBelow hb6 (S := fun _ => False)) (fun _ _ h => h))
                 have HS6 := Hid.mk' hs6
                 have HM6 := Hid.mk' hm6
                 clear hm6 hx2 hs6 hb6 HS5))
            obtain ⟨n, hn⟩ : ∃ n, (listB p).length = n := ⟨_, rfl⟩
            go_loopg [23] n (fun g1 j wx => ∃ q : Nat, q ≤ n ∧ g1 = n - q ∧ j = .int .i64 q ∧ Below w6.heap.size w6 wx)
            case atStart => exact ⟨0, by omega, rfl, rfl, Below.refl _ _⟩
            case round =>
              obtain ⟨q, hq, hgq, rfl, hbx⟩ := hrel
              have HBX := Hid.mk' hbx
              by_cases hqn : q < n
              · obtain ⟨ga, ca, hva, hga, hgla⟩ := HS5'.out.form (by omega)
                obtain ⟨gb, cb, hvb, hgb, hglb⟩ := HS6.out.form (by omega)
                cases hva
                cases hvb
                have hca := HS5'.out.cellAt q (by simp; omega)
                have hcb := HS6.out.cellAt q (by simp; omega)
                have hql : q < (listB p).length := by omega
                simp only [strs, List.getElem?_map, List.getElem?_eq_getElem hql, Option.map_some] at hca hcb
                replace hca := (hbx.cell (p := ⟨ga, q, none⟩) hgla).trans hca
                replace hcb := (hbx.cell (p := ⟨gb, q, none⟩) hglb).trans hcb
                rw [show encStr (listB p)[q] = .string ⟨(listB p)[q].toArray⟩ from rfl] at hca hcb
                generalize (⟨(listB p)[q].toArray⟩ : ByteArray) = T at hca hcb
                have hTe : (T.toList == T.toList) = true := by simp
                have hTn : (T.toList != T.toList) = false := by simp
                have hqi : (q : Int) < ((listB p).length : Int) := by omega
                clear hbx hql HS5' HS6 hgla hglb hga hgb
                go_wp2_with fail
                go_quiet (fail)
                go_wp2_with fail
                go_roundg (n - (q + 1))
                case measure => omega
                case rel => exact ⟨q + 1, by omega, rfl, by go_num, HBX.out.trans ((Upd.drewN _ _ (fun _ => False)).below HBX.out.size (fun _ _ h => h))⟩
              · have hqi : ¬ ((q : Int) < ((listB p).length : Int)) := by omega
                clear hbx HS5' HS6
                go_wp2_with fail
                go_meet
                exact ⟨listE p, rfl, rfl, p, (.slice none 0 0), [], HM6.out.below HBX.out (Nat.le_refl _), HPN.out⟩
        have hn5 : ¬ cl.kind = 5 := hj
        clear hj
        by_cases hj : cl.kind = 6
        · as_aux_lemma =>
            have hk0 : (cl.kind == 0) = false := beq_eq_false_iff_ne.2 hn0
            have hk1 : (cl.kind == 1) = false := beq_eq_false_iff_ne.2 hn1
            have hk2 : (cl.kind == 2) = false := beq_eq_false_iff_ne.2 hn2
            have hk3 : (cl.kind == 3) = false := beq_eq_false_iff_ne.2 hn3
            have hk4 : (cl.kind == 4) = false := beq_eq_false_iff_ne.2 hn4
            have hk5 : (cl.kind == 5) = false := beq_eq_false_iff_ne.2 hn5
            have hk6 : (cl.kind == 6) = true := beq_iff_eq.2 hj
            clear hj
            have hnb := HCL.out.nb
            have HPN : Hid (PlayAt { p with stops := cl.n } rm (k + 1)) := HPA.out.stop hnb.1 hnb.2
            have hd1 := dStop HM.out (Nat.le_refl _) cl.n
            have hx1 : ∀ (W : World), Mid w.heap.size w W d x wr.heap.size #[.int .i64 cl.kind, .int .i64 cl.n, .string cl.a, .string cl.b, .slice co cl.data.length cc, .slice po cl.picks.length pc] (.slice none 0 0) [] { p with stops := cl.n } p → Calls Try.prog 25 #[ptr x, .int .i64 cl.n] W fun e w' => e = .returned (.tuple #[]) ∧ Mid w.heap.size w w' d x wr.heap.size #[.int .i64 cl.kind, .int .i64 cl.n, .string cl.a, .string cl.b, .slice co cl.data.length cc, .slice po cl.picks.length pc] (.slice none 0 0) [] { p with stops := cl.n } { p with stops := cl.n } := fun _ q => xStop q (Nat.le_refl _) cl.n hnb.2
            clear HM HPA HCL e0 e1 e2 e3 e4 e5 hl1i hl2i hl3i hl1 hl2 hl3 hdl hpl hal hbl HDV HPV
            go_wp2_with (first
              | (go_at_call 24
                 with_reducible refine hd1.mono ?_
                 rintro e w5 ⟨rfl, hm5⟩
                 have hq1 : w5.cell? ⟨wr.heap.size, 1, none⟩ = some (.int .i64 cl.n) := hm5.cell 1
                 have hx2 := hx1 _ hm5
                 clear hm5 hx1 hd1)
              | (go_at_call 25
                 with_reducible refine hx2.mono ?_
                 rintro e w6 ⟨rfl, hm6⟩
                 have HM6 := Hid.mk' hm6
                 clear hm6 hx2))
            go_meet
            exact ⟨0, rfl, rfl, { p with stops := cl.n }, (.slice none 0 0), [], HM6.out, HPN.out⟩
        have hn6 : ¬ cl.kind = 6 := hj
        clear hj
        by_cases hj : cl.kind = 7
        · as_aux_lemma =>
            have hk0 : (cl.kind == 0) = false := beq_eq_false_iff_ne.2 hn0
            have hk1 : (cl.kind == 1) = false := beq_eq_false_iff_ne.2 hn1
            have hk2 : (cl.kind == 2) = false := beq_eq_false_iff_ne.2 hn2
            have hk3 : (cl.kind == 3) = false := beq_eq_false_iff_ne.2 hn3
            have hk4 : (cl.kind == 4) = false := beq_eq_false_iff_ne.2 hn4
            have hk5 : (cl.kind == 5) = false := beq_eq_false_iff_ne.2 hn5
            have hk6 : (cl.kind == 6) = false := beq_eq_false_iff_ne.2 hn6
            have hk7 : (cl.kind == 7) = true := beq_iff_eq.2 hj
            clear hj
            have hsn := HPA.out.sane (by omega)
            have hup := HM.out.up
            have HPN : Hid (PlayAt (crashP p cl.picks) rm (k + 1)) := HPA.out.crash cl.picks
            have hd1 : ∀ (W : World) (p2 : PS), Hid (Mid w.heap.size w W d x wr.heap.size #[.int .i64 cl.kind, .int .i64 cl.n, .string cl.a, .string cl.b, .slice co cl.data.length cc, .slice po cl.picks.length pc] (.slice none 0 0) [] p p2) → Calls Try.prog 26 #[ptr d, .slice po cl.picks.length pc] W fun e w' => e = .returned (.int .i64 ((crashN 0 p.fs : Nat))) ∧ Mid w.heap.size w w' d x wr.heap.size #[.int .i64 cl.kind, .int .i64 cl.n, .string cl.a, .string cl.b, .slice co cl.data.length cc, .slice po cl.picks.length pc] (.slice none 0 0) [] (crashP p cl.picks) p2 := fun _ _ q => dCrash q.out hsn rfl _ cl.picks (by have := HCL.out.picks; rw [HPV.out] at this; exact this)
            have hx1 : ∀ (W : World) (p1 : PS), Hid (Mid w.heap.size w W d x wr.heap.size #[.int .i64 cl.kind, .int .i64 cl.n, .string cl.a, .string cl.b, .slice co cl.data.length cc, .slice po cl.picks.length pc] (.slice none 0 0) [] p1 p) → Calls Try.prog 27 #[ptr x, .slice po cl.picks.length pc] W fun e w' => e = .returned (.int .i64 ((crashN 0 p.fs : Nat))) ∧ Mid w.heap.size w w' d x wr.heap.size #[.int .i64 cl.kind, .int .i64 cl.n, .string cl.a, .string cl.b, .slice co cl.data.length cc, .slice po cl.picks.length pc] (.slice none 0 0) [] p1 (crashP p cl.picks) := fun _ _ q => xCrash q.out hsn rfl _ cl.picks (by have := HCL.out.picks; rw [HPV.out] at this; exact this) hpl
            have HM0 : Hid (Mid w.heap.size w (wr.alloc (.cells #[.int .i64 cl.kind, .int .i64 cl.n, .string cl.a, .string cl.b, .slice co cl.data.length cc, .slice po cl.picks.length pc] 34)).drew d x wr.heap.size #[.int .i64 cl.kind, .int .i64 cl.n, .string cl.a, .string cl.b, .slice co cl.data.length cc, .slice po cl.picks.length pc] (.slice none 0 0) [] p p) := HM.out.below ((Below.refl _ _).drew) (Nat.le_refl _)
            have hS0 : ((wr.alloc (.cells #[.int .i64 cl.kind, .int .i64 cl.n, .string cl.a, .string cl.b, .slice co cl.data.length cc, .slice po cl.picks.length pc] 34)).drew.cell? ⟨wr.heap.size, 2, none⟩ = some (.string cl.a) ∧ (wr.alloc (.cells #[.int .i64 cl.kind, .int .i64 cl.n, .string cl.a, .string cl.b, .slice co cl.data.length cc, .slice po cl.picks.length pc] 34)).drew.cell? ⟨wr.heap.size, 3, none⟩ = some (.string cl.b) ∧ (wr.alloc (.cells #[.int .i64 cl.kind, .int .i64 cl.n, .string cl.a, .string cl.b, .slice co cl.data.length cc, .slice po cl.picks.length pc] 34)).drew.cell? ⟨wr.heap.size, 4, none⟩ = some (.slice co cl.data.length cc) ∧ (wr.alloc (.cells #[.int .i64 cl.kind, .int .i64 cl.n, .string cl.a, .string cl.b, .slice co cl.data.length cc, .slice po cl.picks.length pc] 34)).drew.cell? ⟨wr.heap.size, 5, none⟩ = some (.slice po cl.picks.length pc)) := ⟨HM0.out.cell 2, HM0.out.cell 3, HM0.out.cell 4, HM0.out.cell 5⟩
            have hbq : (((crashN 0 p.fs : Nat) : Int) != ((crashN 0 p.fs : Nat) : Int)) = false := by simp
            clear HM HPA hup hsn HCL e0 e1 e2 e3 e4 e5 hl1i hl2i hl3i hl1 hl2 hl3 hdl hpl hal hbl HDV HPV
            go_wp2_with fail
            go_region_held_law (fun w' => w'.cell? ⟨wr.heap.size, 2, none⟩ = some (.string cl.a) ∧ w'.cell? ⟨wr.heap.size, 3, none⟩ = some (.string cl.b) ∧ w'.cell? ⟨wr.heap.size, 4, none⟩ = some (.slice co cl.data.length cc) ∧ w'.cell? ⟨wr.heap.size, 5, none⟩ = some (.slice po cl.picks.length pc)) (first | assumption | (show _ ∧ _ ∧ _ ∧ _; assumption)) (first
              | (go_at_call 26; (first | (with_reducible refine (hd1 _ p (by assumption)).mono ?_) | (with_reducible refine (hd1 _ (crashP p cl.picks) (by assumption)).mono ?_)); rintro e w5 ⟨rfl, hm5⟩; have hS5 : (w5.cell? ⟨wr.heap.size, 2, none⟩ = some (.string cl.a) ∧ w5.cell? ⟨wr.heap.size, 3, none⟩ = some (.string cl.b) ∧ w5.cell? ⟨wr.heap.size, 4, none⟩ = some (.slice co cl.data.length cc) ∧ w5.cell? ⟨wr.heap.size, 5, none⟩ = some (.slice po cl.picks.length pc)) := ⟨hm5.cell 2, hm5.cell 3, hm5.cell 4, hm5.cell 5⟩; have HM5 := Hid.mk' hm5; clear hm5)
              | (go_at_call 27; (first | (with_reducible refine (hx1 _ p (by assumption)).mono ?_) | (with_reducible refine (hx1 _ (crashP p cl.picks) (by assumption)).mono ?_)); rintro e w6 ⟨rfl, hm6⟩; have hS6 : (w6.cell? ⟨wr.heap.size, 2, none⟩ = some (.string cl.a) ∧ w6.cell? ⟨wr.heap.size, 3, none⟩ = some (.string cl.b) ∧ w6.cell? ⟨wr.heap.size, 4, none⟩ = some (.slice co cl.data.length cc) ∧ w6.cell? ⟨wr.heap.size, 5, none⟩ = some (.slice po cl.picks.length pc)) := ⟨hm6.cell 2, hm6.cell 3, hm6.cell 4, hm6.cell 5⟩; have HM6 := Hid.mk' hm6; clear hm6))
            all_goals
              go_wp2_with fail
              go_meet
              exact ⟨0, rfl, rfl, crashP p cl.picks, (.slice none 0 0), [], Hid.out (by assumption), HPN.out⟩
        have hn7 : ¬ cl.kind = 7 := hj
        clear hj
        as_aux_lemma =>
          have hk0 : (cl.kind == 0) = false := beq_eq_false_iff_ne.2 hn0
          have hk1 : (cl.kind == 1) = false := beq_eq_false_iff_ne.2 hn1
          have hk2 : (cl.kind == 2) = false := beq_eq_false_iff_ne.2 hn2
          have hk3 : (cl.kind == 3) = false := beq_eq_false_iff_ne.2 hn3
          have hk4 : (cl.kind == 4) = false := beq_eq_false_iff_ne.2 hn4
          have hk5 : (cl.kind == 5) = false := beq_eq_false_iff_ne.2 hn5
          have hk6 : (cl.kind == 6) = false := beq_eq_false_iff_ne.2 hn6
          have hk7 : (cl.kind == 7) = false := beq_eq_false_iff_ne.2 hn7
          have HPN : Hid (PlayAt p rm (k + 1)) := HPA.out.more
          clear HPA HCL e0 e1 e2 e3 e4 e5 hl1i hl2i hl3i hl1 hl2 hl3 hdl hpl hal hbl HDV HPV
          go_wp2_with fail
          go_meet
          exact ⟨0, rfl, rfl, p, (.slice none 0 0), [], HM.out, HPN.out⟩
      case rest =>
      as_aux_lemma =>
        obtain ⟨a, rfl, rfl, hpost⟩ := hcut
        obtain ⟨p', vm, zs, hm', hpa'⟩ := hpost
        have hsn := hpa'.sane (by omega)
        have hm0 : Mid w.heap.size w wc.drew d x wr.heap.size #[.int .i64 cl.kind, .int .i64 cl.n, .string cl.a, .string cl.b, .slice co cl.data.length cc, .slice po cl.picks.length pc] vm zs p' p' := hm'.below ((Below.refl _ _).drew) (Nat.le_refl _)
        have hS0 : (wc.drew.cell? ⟨x, 2, none⟩ = some (.int .i64 p'.ops) ∧ wc.drew.cell? ⟨wr.heap.size, 2, none⟩ = some (.string cl.a) ∧ Hid (Mid w.heap.size w wc.drew d x wr.heap.size #[.int .i64 cl.kind, .int .i64 cl.n, .string cl.a, .string cl.b, .slice co cl.data.length cc, .slice po cl.picks.length pc] vm zs p' p')) := ⟨hm0.did, hm0.cell 2, hm0⟩
        have hsl : cl.a.size ≤ 1000000 := by omega
        have h28 : ∀ W : World, (W.cell? ⟨x, 2, none⟩ = some (.int .i64 p'.ops) ∧ W.cell? ⟨wr.heap.size, 2, none⟩ = some (.string cl.a) ∧ Hid (Mid w.heap.size w W d x wr.heap.size #[.int .i64 cl.kind, .int .i64 cl.n, .string cl.a, .string cl.b, .slice co cl.data.length cc, .slice po cl.picks.length pc] vm zs p' p')) → Calls Try.prog 28 #[ptr d] W fun e w' => e = .returned (.int .i64 p'.ops) ∧ w' = W := fun _ q => dOps q.2.2.out
        have h29 : ∀ W : World, (W.cell? ⟨x, 2, none⟩ = some (.int .i64 p'.ops) ∧ W.cell? ⟨wr.heap.size, 2, none⟩ = some (.string cl.a) ∧ Hid (Mid w.heap.size w W d x wr.heap.size #[.int .i64 cl.kind, .int .i64 cl.n, .string cl.a, .string cl.b, .slice co cl.data.length cc, .slice po cl.picks.length pc] vm zs p' p')) → Calls Try.prog 29 #[ptr d] W fun e w' => e = .returned (.int .i64 (total p'.fs)) ∧ w' = W := fun _ q => dUsed q.2.2.out
        have h30 : ∀ W : World, (W.cell? ⟨x, 2, none⟩ = some (.int .i64 p'.ops) ∧ W.cell? ⟨wr.heap.size, 2, none⟩ = some (.string cl.a) ∧ Hid (Mid w.heap.size w W d x wr.heap.size #[.int .i64 cl.kind, .int .i64 cl.n, .string cl.a, .string cl.b, .slice co cl.data.length cc, .slice po cl.picks.length pc] vm zs p' p')) → Calls Try.prog 30 #[ptr x] W fun e w' => e = .returned (.int .i64 (total p'.fs)) ∧ w' = W := fun _ q => xUsed q.2.2.out hsn
        have h31 : ∀ W : World, (W.cell? ⟨x, 2, none⟩ = some (.int .i64 p'.ops) ∧ W.cell? ⟨wr.heap.size, 2, none⟩ = some (.string cl.a) ∧ Hid (Mid w.heap.size w W d x wr.heap.size #[.int .i64 cl.kind, .int .i64 cl.n, .string cl.a, .string cl.b, .slice co cl.data.length cc, .slice po cl.picks.length pc] vm zs p' p')) → Calls Try.prog 31 #[.string cl.a] W fun e w' => e = .returned (.bool (okName cl.a.data.toList)) ∧ (w'.cell? ⟨x, 2, none⟩ = some (.int .i64 p'.ops) ∧ w'.cell? ⟨wr.heap.size, 2, none⟩ = some (.string cl.a) ∧ Hid (Mid w.heap.size w w' d x wr.heap.size #[.int .i64 cl.kind, .int .i64 cl.n, .string cl.a, .string cl.b, .slice co cl.data.length cc, .slice po cl.picks.length pc] vm zs p' p')) := fun _ q => (dName q.2.2.out (Nat.le_refl _) cl.a).mono (fun _ _ hq => ⟨hq.1, hq.2.did, hq.2.cell 2, hq.2⟩)
        have h32 : ∀ W : World, Calls Try.prog 32 #[.string cl.a] W fun e w' => e = .returned (.bool (okName cl.a.data.toList)) ∧ w' = W := fun W => rname_any cl.a W hsl
        have hbb : (okName cl.a.data.toList != okName cl.a.data.toList) = false := by simp
        have hb1 : (a != a) = false := by simp
        have hb2 : (p'.ops != p'.ops) = false := by simp
        have hb3 : ((total p'.fs : Int) != (total p'.fs : Int)) = false := by simp
        have HPA' := Hid.mk' hpa'
        clear hm' hpa' HM HPA HCL hm0 e0 e1 e2 e3 e4 e5 hl1i hl2i hl3i
        go_wp2_with fail
        go_region_held_law (fun w' => w'.cell? ⟨x, 2, none⟩ = some (.int .i64 p'.ops) ∧ w'.cell? ⟨wr.heap.size, 2, none⟩ = some (.string cl.a) ∧ Hid (Mid w.heap.size w w' d x wr.heap.size #[.int .i64 cl.kind, .int .i64 cl.n, .string cl.a, .string cl.b, .slice co cl.data.length cc, .slice po cl.picks.length pc] vm zs p' p')) (first | assumption | (show _ ∧ _ ∧ _; assumption)) (first
          | (go_at_call 28; with_reducible refine (h28 _ (by assumption)).mono ?_; rintro e w' ⟨rfl, rfl⟩)
          | (go_at_call 29; with_reducible refine (h29 _ (by assumption)).mono ?_; rintro e w' ⟨rfl, rfl⟩)
          | (go_at_call 30; with_reducible refine (h30 _ (by assumption)).mono ?_; rintro e w' ⟨rfl, rfl⟩)
          | (go_at_call 31; with_reducible refine (h31 _ (by assumption)).mono ?_; rintro e w6 ⟨rfl, hS6⟩)
          | (go_at_call 32; with_reducible refine (h32 _).mono ?_; rintro e w' ⟨rfl, rfl⟩))
        all_goals
          go_wp2_with fail
          go_roundg (100 - (k + 1))
          case measure => omega
          case rel => exact ⟨k + 1, by omega, rfl, by go_num, playsPost.rel ⟨p', vm, zs, hS6.2.2.out, HPA'.out⟩⟩
    · have HB : Hid (Below w.heap.size w wr) := by obtain ⟨_, _, _, _, _, _, _, _, hb6⟩ := HR.out; exact hb6
      have hlt2 : ¬ ((k : Int) < cs.length ∧ (k : Int) < 100) := by omega
      clear HR
      go_wp2_with fail
      all_goals
        go_ret
        exact ⟨rfl, HB.out⟩
theorem plays_walk (rm : Int) (v : Value) (cs : List Cl) (w : World) (hx : -9223372036854775808 ≤ rm ∧ rm ≤ 9223372036854775807) (hv : SeesC w v cs) (hl : cs.length ≤ maxLen) :
    Calls Try.prog 3 #[.int .i64 rm, v] w fun e w' => e = .returned (.bool true) ∧ Below w.heap.size w w' := by
  by_cases h : rm < 0
  · exact plays_no rm v cs w hx hv hl h
  · exact plays_yes rm v cs w hx hv hl h
end Go.Proofs.Ytmfhfabfhoiegaa
