/- What stays of a file while other files are written, renamed and taken away, and when the disk crashes: plain laws. -/
import Derived.Test.YtmfhfabfhoiegabDeadP
namespace Go.Proofs.Ytmfhfabfhoiegab
open Go Go.RowKit
theorem look_ins_ne {f : PF} {nm : List UInt8} (h : f.name ≠ nm) : ∀ l : List PF, lookK PF.name nm (insK PF.name f l) = lookK PF.name nm l
  | [] => by simp [insK, lookK, h]
  | g :: r => by
    have hf : (f.name == nm) = false := by simpa using h
    simp only [insK]
    split
    · unfold lookK; rw [List.find?_cons_of_neg (by simp [hf])]
    · have ih := look_ins_ne h r
      unfold lookK at *
      cases hg : (g.name == nm)
      · rw [List.find?_cons_of_neg (by simp [hg]), List.find?_cons_of_neg (by simp [hg])]; exact ih
      · rw [List.find?_cons_of_pos (by simp [hg]), List.find?_cons_of_pos (by simp [hg])]
theorem look_del_ne {a nm : List UInt8} (h : nm ≠ a) (l : List PF) : lookK PF.name nm (delK PF.name a l) = lookK PF.name nm l := by
  unfold lookK delK
  rw [List.find?_filter]
  congr 1
  funext x
  cases hx : (x.name == nm)
  · simp
  · have : x.name = nm := by simpa using hx
    simp [this, h]
theorem look_put_ne {f : PF} {a nm : List UInt8} (h : nm ≠ a) (hf : f.name = a) (l : List PF) : lookK PF.name nm (insK PF.name f (delK PF.name a l)) = lookK PF.name nm l := by
  rw [look_ins_ne (by rw [hf]; exact fun e => h e.symm), look_del_ne h]
theorem app_look {p : PS} {a nm : List UInt8} (h : nm ≠ a) (ys : List Int) : (appP p a ys).look nm = p.look nm := by
  by_cases hE : appE p a ys.length = 0
  · rw [appP_yes hE]
    show lookK PF.name nm (insK PF.name _ (delK PF.name a p.begun.fs)) = _
    rw [begun_fs]; exact look_put_ne h rfl _
  · rw [appP_no hE]; unfold PS.look; rw [begun_fs]
theorem sync_look {p : PS} {a nm : List UInt8} (h : nm ≠ a) : (syncP p a).look nm = p.look nm := by
  by_cases hE : opE p a = 0
  · unfold syncP; rw [if_pos hE]
    show lookK PF.name nm (insK PF.name _ (delK PF.name a p.begun.fs)) = _
    rw [begun_fs]; exact look_put_ne h rfl _
  · rw [syncP_no hE]; unfold PS.look; rw [begun_fs]
theorem rem_look {p : PS} {a nm : List UInt8} (h : nm ≠ a) : (remP p a).look nm = p.look nm := by
  by_cases hE : opE p a = 0
  · unfold remP; rw [if_pos hE]; exact look_del_ne h _
  · rw [remP_no hE]; unfold PS.look; rw [begun_fs]
theorem ren_look {p : PS} {a b nm : List UInt8} (h : nm ≠ a) (h2 : nm ≠ b) : (renP p a b).look nm = p.look nm := by
  by_cases hE : renE p a b = 0
  · rw [renP_yes hE]
    show lookK PF.name nm (insK PF.name _ (delK PF.name b (delK PF.name a p.fs))) = _
    rw [look_put_ne h2 rfl, look_del_ne h]
  · rw [renP_no hE]; unfold PS.look; rw [begun_fs]
theorem crash_look (picks : List Int) (nm : List UInt8) (f : PF) : ∀ (n : Nat) (l : List PF), lookK PF.name nm l = some f → lookK PF.name nm (crashL picks n l) = some f ∨ ∃ q, lookK PF.name nm (crashL picks n l) = some (f.lost q)
  | _, [], h => by cases h
  | n, g :: r, h => by
    unfold lookK at h ⊢
    cases hg : (g.name == nm)
    · rw [List.find?_cons_of_neg (by simp [hg])] at h
      simp only [crashL]
      split
      · rw [List.find?_cons_of_neg (by simp [hg])]
        exact crash_look picks nm f n r h
      · rw [List.find?_cons_of_neg (by show ¬ ((g.lost _).name == nm) = true; rw [show (g.lost (picks.getD n 0)).name = g.name from rfl, hg]; simp)]
        exact crash_look picks nm f (n + 1) r h
    · rw [List.find?_cons_of_pos (by simp [hg])] at h
      cases h
      simp only [crashL]
      split
      · rw [List.find?_cons_of_pos (by simp [hg])]; exact .inl rfl
      · rw [List.find?_cons_of_pos (by show ((f.lost _).name == nm) = true; rw [show (f.lost (picks.getD n 0)).name = f.name from rfl, hg])]
        exact .inr ⟨_, rfl⟩
abbrev zz : List UInt8 := [122, 122]
/-- The file that stays: a front of a and b, and a is synced. -/
structure StaysAt (p : PS) (a b : List Int) (o : Nat) (k : Nat) : Prop where
  room : p.room = 1048576
  stops : p.stops = 0
  dead : p.dead = false
  ops : p.ops = o
  tot : total p.fs ≤ 1000 * (k + 1)
  len : p.fs.length ≤ k + 1
  file : ∃ f, p.look zz = some f ∧ f.xs = (a ++ b).take f.xs.length ∧ f.xs.length ≤ a.length + b.length ∧ a.length ≤ f.sy ∧ f.sy ≤ f.xs.length
theorem StaysAt.sane {p : PS} {a b : List Int} {o k : Nat} (h : StaysAt p a b o k) (ho : o ≤ 1000) (hk : k ≤ 50) : p.sane := by
  have := h.tot; have := h.len
  exact ⟨by rw [h.room]; decide, by rw [h.room]; decide, by rw [h.stops]; decide, by rw [h.stops]; decide, by rw [h.ops]; omega, by rw [h.ops]; omega, by omega, by omega⟩
theorem StaysAt.next {p p' : PS} {a b : List Int} {o k : Nat} (h : StaysAt p a b o k) (h1 : p'.room = p.begun.room) (h2 : p'.ops = p.begun.ops) (h3 : p'.stops = p.begun.stops) (h4 : p'.dead = p.begun.dead) (h5 : total p'.fs ≤ total p.fs + 1000) (h6 : p'.fs.length ≤ p.fs.length + 1) (h7 : p'.look zz = p.look zz) : StaysAt p' a b (o + 1) (k + 1) := by
  obtain ⟨b1, b2, b3⟩ := begun_zero h.dead h.stops
  have := h.tot; have := h.len
  refine ⟨by rw [h1, begun_room, h.room], by rw [h3, b2], by rw [h4, b3], by rw [h2, b1, h.ops]; omega, by omega, by omega, ?_⟩
  rw [h7]; exact h.file
theorem StaysAt.crash {p : PS} {a b : List Int} {o k : Nat} (h : StaysAt p a b o k) (picks : List Int) : StaysAt (crashP p picks) a b o k := by
  have := h.tot; have := h.len
  have h1 := crashL_total picks 0 p.fs
  have h2 := crashL_len picks 0 p.fs
  refine ⟨h.room, rfl, rfl, h.ops, by show total (crashL picks 0 p.fs) ≤ _; omega, by show (crashL picks 0 p.fs).length ≤ _; omega, ?_⟩
  obtain ⟨f, hf, hx, hl, hs, hsl⟩ := h.file
  rcases crash_look picks zz f 0 p.fs hf with e | ⟨q, e⟩
  · exact ⟨f, e, hx, hl, hs, hsl⟩
  · have hst := stay_le q (f.xs.length - f.sy)
    have hxl : (f.lost q).xs.length = f.sy + stay q (f.xs.length - f.sy) := by simp only [PF.lost, List.length_take]; omega
    refine ⟨f.lost q, e, ?_, by omega, by show a.length ≤ f.sy + _; omega, by rw [hxl]; exact Nat.le_refl _⟩
    rw [hxl]
    show f.xs.take (f.sy + stay q (f.xs.length - f.sy)) = _
    generalize stay q (f.xs.length - f.sy) = m at *
    obtain ⟨L, hL⟩ : ∃ L, f.xs.length = L := ⟨_, rfl⟩
    rw [hL] at hx hst
    rw [hx, List.take_take, Nat.min_eq_left (by omega)]
theorem StaysAt.read {p : PS} {a b : List Int} {o k : Nat} (h : StaysAt p a b o k) : readE p zz = 0 ∧ readB p zz = (a ++ b).take (readB p zz).length ∧ a.length ≤ (readB p zz).length ∧ (readB p zz).length ≤ a.length + b.length := by
  obtain ⟨f, hf, hx, hl, hs, hsl⟩ := h.file
  have h1 : readE p zz = 0 := by unfold readE PS.fault; rw [h.dead, hf]; rfl
  have h2 : readB p zz = f.xs := by unfold readB oldF; rw [h1, hf]; rfl
  rw [h2]
  exact ⟨h1, hx, by omega, hl⟩
theorem st1 (a : List Int) (h : a.length ≤ 1000) : appE (q0 1048576) zz a.length = 0 ∧ appP (q0 1048576) zz a = ⟨[⟨zz, a, 0⟩], 1048576, 1, 0, false⟩ := by
  have hE : appE (q0 1048576) zz a.length = 0 := appE_ok rfl rfl (by simp [q0, total]; omega)
  exact ⟨hE, (appP_yes hE).trans rfl⟩
theorem st2 (a : List Int) : opE ⟨[⟨zz, a, 0⟩], 1048576, 1, 0, false⟩ zz = 0 ∧ syncP ⟨[⟨zz, a, 0⟩], 1048576, 1, 0, false⟩ zz = ⟨[⟨zz, a, a.length⟩], 1048576, 2, 0, false⟩ := ⟨rfl, rfl⟩
theorem st3 (a b : List Int) (h : a.length + b.length ≤ 1000) : appE ⟨[⟨zz, a, a.length⟩], 1048576, 2, 0, false⟩ zz b.length = 0 ∧ appP ⟨[⟨zz, a, a.length⟩], 1048576, 2, 0, false⟩ zz b = ⟨[⟨zz, a ++ b, a.length⟩], 1048576, 3, 0, false⟩ := by
  have hE : appE ⟨[⟨zz, a, a.length⟩], 1048576, 2, 0, false⟩ zz b.length = 0 := appE_ok rfl rfl (by simp [total]; omega)
  exact ⟨hE, (appP_yes hE).trans rfl⟩
theorem st4 (a b : List Int) (h : a.length + b.length ≤ 1000) : StaysAt ⟨[⟨zz, a ++ b, a.length⟩], 1048576, 3, 0, false⟩ a b 3 0 :=
  ⟨rfl, rfl, rfl, rfl, by simp [total]; omega, by simp, ⟨zz, a ++ b, a.length⟩, rfl, by show a ++ b = (a ++ b).take (a ++ b).length; rw [List.take_length], by simp, Nat.le_refl _, by simp⟩
def staysRel (B : Nat) (w0 wx : World) (d : Nat) (a b : List Int) (k : Nat) : Prop := ∃ g p o, Dk B wx d g p ∧ StaysAt p a b o k ∧ o ≤ 3 + k ∧ Below B w0 wx
section
variable {B d k : Nat} {w0 w : World} {a b : List Int}
theorem stays_app (h : staysRel B w0 w d a b k) (hk : k ≤ 50) (hB : B ≤ w0.heap.size) (s : ByteArray) (v : Value) (ys : List Int) (hne : zz ≠ s.data.toList) (hv : Sees w v ys) (hy : isB ys) (hl : ys.length ≤ 1000) (hv0 : Sees w0 v ys) (hB2 : w0.heap.size ≤ B) :
    Calls Try.prog 7 #[ptr d, .string s, v] w fun e w' => ∃ E, e = .returned (.int .i64 E) ∧ staysRel B w0 w' d a b (k + 1) := by
  obtain ⟨g, p, o, hd, hs, ho, hb⟩ := h
  have hsz := hb.size
  refine (append_any B d g p s v ys w hd (hs.sane (by omega) hk) (by omega) hv hy (hv0.off hd hB2) (by omega)).mono ?_
  rintro e w' ⟨rfl, hp⟩
  obtain ⟨g', k1, k2⟩ := hp.go hd (by omega)
  obtain ⟨a1, a2, a3, a4⟩ := app_rest p s.data.toList ys
  have ht := app_total_le (nm := s.data.toList) (ys := ys) hd.up
  exact ⟨_, rfl, g', _, o + 1, k1, hs.next a1 a2 a3 a4 (by omega) (app_len _ _ _) (app_look hne ys), by omega, hb.trans k2⟩
theorem stays_sync (h : staysRel B w0 w d a b k) (hk : k ≤ 50) (hB : B ≤ w0.heap.size) (s : ByteArray) (hne : zz ≠ s.data.toList) :
    Calls Try.prog 12 #[ptr d, .string s] w fun e w' => ∃ E, e = .returned (.int .i64 E) ∧ staysRel B w0 w' d a b (k + 1) := by
  obtain ⟨g, p, o, hd, hs, ho, hb⟩ := h
  have hsz := hb.size
  refine (sync_any B d g p s w hd (hs.sane (by omega) hk)).mono ?_
  rintro e w' ⟨rfl, hp⟩
  obtain ⟨g', k1, k2⟩ := hp.go hd (by omega)
  obtain ⟨a1, a2, a3, a4⟩ := sync_rest p s.data.toList
  have ht := sync_total (nm := s.data.toList) hd.up
  exact ⟨_, rfl, g', _, o + 1, k1, hs.next a1 a2 a3 a4 (by omega) ht.2 (sync_look hne), by omega, hb.trans k2⟩
theorem stays_ren (h : staysRel B w0 w d a b k) (hk : k ≤ 50) (hB : B ≤ w0.heap.size) (s t : ByteArray) (hne : zz ≠ s.data.toList) (hne2 : zz ≠ t.data.toList) :
    Calls Try.prog 9 #[ptr d, .string s, .string t] w fun e w' => ∃ E, e = .returned (.int .i64 E) ∧ staysRel B w0 w' d a b (k + 1) := by
  obtain ⟨g, p, o, hd, hs, ho, hb⟩ := h
  have hsz := hb.size
  refine (rename_any B d g p s t w hd (hs.sane (by omega) hk)).mono ?_
  rintro e w' ⟨rfl, hp⟩
  obtain ⟨g', k1, k2⟩ := hp.go hd (by omega)
  obtain ⟨a1, a2, a3, a4⟩ := ren_rest p s.data.toList t.data.toList
  have ht := ren_total (a := s.data.toList) (b := t.data.toList) hd.up
  exact ⟨_, rfl, g', _, o + 1, k1, hs.next a1 a2 a3 a4 (by omega) ht.2 (ren_look hne hne2), by omega, hb.trans k2⟩
theorem stays_rem (h : staysRel B w0 w d a b k) (hk : k ≤ 50) (hB : B ≤ w0.heap.size) (s : ByteArray) (hne : zz ≠ s.data.toList) :
    Calls Try.prog 8 #[ptr d, .string s] w fun e w' => ∃ E, e = .returned (.int .i64 E) ∧ staysRel B w0 w' d a b (k + 1) := by
  obtain ⟨g, p, o, hd, hs, ho, hb⟩ := h
  have hsz := hb.size
  refine (remove_any B d g p s w hd (hs.sane (by omega) hk)).mono ?_
  rintro e w' ⟨rfl, hp⟩
  obtain ⟨g', k1, k2⟩ := hp.go hd (by omega)
  obtain ⟨a1, a2, a3, a4⟩ := rem_rest p s.data.toList
  have ht := rem_total p s.data.toList
  exact ⟨_, rfl, g', _, o + 1, k1, hs.next a1 a2 a3 a4 (by omega) (by omega) (rem_look hne), by omega, hb.trans k2⟩
theorem stays_crash (h : staysRel B w0 w d a b k) (hk : k ≤ 50) (hB : B ≤ w0.heap.size) (v : Value) (picks : List Int) (hv : SeesI w v picks) (hv0 : SeesI w0 v picks) (hB2 : w0.heap.size ≤ B) :
    Calls Try.prog 10 #[ptr d, v] w fun e w' => ∃ n : Int, e = .returned (.int .i64 n) ∧ staysRel B w0 w' d a b k := by
  obtain ⟨g, p, o, hd, hs, ho, hb⟩ := h
  have hsz := hb.size
  refine (crash_any B d g p v picks w hd (hs.sane (by omega) hk) hv (hv0.off hd hB2)).mono ?_
  rintro e w' ⟨rfl, hp⟩
  obtain ⟨g', k1, k2⟩ := hp.go hd (by omega)
  exact ⟨_, rfl, g', _, o, k1, hs.crash picks, ho, hb.trans k2⟩
theorem stays_read (h : staysRel B w0 w d a b k) (hk : k ≤ 50) (hB : B ≤ w0.heap.size) :
    Calls Try.prog 13 #[ptr d, .string ⟨#[122, 122]⟩] w fun e w' => ∃ v xs, e = .returned (.tuple #[v, .int .i64 0]) ∧ w'.ownsRow w.heap.size 5 1 v xs.length (u8s xs) ∧ xs = (a ++ b).take xs.length ∧ a.length ≤ xs.length ∧ xs.length ≤ a.length + b.length ∧ Below w.heap.size w w' ∧ staysRel B w0 w' d a b k := by
  obtain ⟨g, p, o, hd, hs, ho, hb⟩ := h
  have hsz := hb.size
  obtain ⟨r1, r2, r3, r4⟩ := hs.read
  refine (read_any B d g p ⟨#[122, 122]⟩ w hd (by have := hs.tot; omega)).mono ?_
  rintro e w' ⟨v, rfl, hov, hbv⟩
  rw [show (⟨#[122, 122]⟩ : ByteArray).data.toList = zz from rfl] at *
  rw [r1]
  exact ⟨v, _, rfl, hov, r2, r3, r4, hbv, g, p, o, hd.below hbv, hs, ho, hb.trans (hbv.mono (by omega))⟩
end
end Go.Proofs.Ytmfhfabfhoiegab
