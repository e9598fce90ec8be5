/- What a record says: say. -/
import Derived.Test.YtecnlfalpfbobaaGreatDoorWC3
import Derived.Test.YtecnlfalpfbobaaGreatDoorWC4
namespace Go.Proofs.YtecnlfalpfbobaaGreatDoor
open Go Go.RowKit
def RecOk (w : World) : RecV → Prop
  | .hard _ _ _ => True
  | .entry x => EvOk w x ∧ i64 x.e.i
  | .base i _ vv => VvOk w vv ∧ i64 i
def RecAway (S : Nat → Prop) : RecV → Prop
  | .hard _ _ _ => True
  | .entry x => EvAway S x
  | .base _ _ vv => VvAway S vv
theorem RecOk.upd {w w' : World} {S : Nat → Prop} : ∀ {r : RecV}, RecOk w r → Upd w w' S → RecAway S r → RecOk w' r
  | .hard _ _ _, _, _, _ => trivial
  | .entry _, h, hu, ha => ⟨h.1.upd hu ha, h.2⟩
  | .base _ _ _, h, hu, ha => ⟨h.1.upd hu ha, h.2⟩
theorem RecOk.below {w w' : World} {r : RecV} (h : RecOk w r) (hu : Below w.heap.size w w') : RecOk w' r :=
  h.upd (Upd.ofBelow hu : Upd w w' (fun _ => False)) (by cases r <;> first | exact trivial | exact fun _ _ _ => id)
theorem RecAway.mono {S T : Nat → Prop} : ∀ {r : RecV}, RecAway S r → (∀ k, T k → S k) → RecAway T r
  | .hard _ _ _, _, _ => trivial
  | .entry _, h, hT => EvAway.mono h hT
  | .base _ _ _, h, hT => VvAway.mono h hT
theorem RecAway.owned {w : World} {b : Nat} {ev ev' : Value} : ∀ {r : RecV}, RecOk w r → RecAway (fun k => k = b ∨ some k = ev.ownBlock) r → Owned w ev ev' → RecAway (fun k => k = b ∨ some k = ev'.ownBlock) r
  | .hard _ _ _, _, _, _ => trivial
  | .entry _, h, ha, ho => EvAway.owned h.1 ha ho
  | .base _ _ _, h, ha, ho => VvAway.owned h.1 ha ho
theorem recOk_fits {w : World} : ∀ {r : RecV}, RecOk w r → r.fits
  | .hard _ _ _, _ => trivial
  | .entry _, h => h.2.2
  | .base _ _ _, h => h.2
theorem SCells.setH {w : World} {b o : Nat} {ht hv hc mi mt : Int} {vv ev : Value} (h : SCells w b o ht hv hc mi mt vv ev) (t v c : Int) :
    SCells (((w.setCell ⟨b, o, none⟩ (.int .i64 t)).setCell ⟨b, o + 1, none⟩ (.int .i64 v)).setCell ⟨b, o + 2, none⟩ (.int .i64 c)) b o t v c mi mt vv ev := by
  have k0 : (w.setCell ⟨b, o, none⟩ (.int .i64 t)).cell? ⟨b, o, none⟩ = some (.int .i64 t) := World.cell?_setCell_same _ _ _ h.c0
  have k1 : (w.setCell ⟨b, o, none⟩ (.int .i64 t)).cell? ⟨b, o + 1, none⟩ = some (.int .i64 hv) := by rw [World.cell?_setCell_other _ _ _ _ (by simp)]; exact h.c1
  have k1' := World.cell?_setCell_same _ _ (Value.int .i64 v) k1
  have k2 : ((w.setCell ⟨b, o, none⟩ (.int .i64 t)).setCell ⟨b, o + 1, none⟩ (.int .i64 v)).cell? ⟨b, o + 2, none⟩ = some (.int .i64 hc) := by rw [World.cell?_setCell_other _ _ _ _ (by simp), World.cell?_setCell_other _ _ _ _ (by simp)]; exact h.c2
  refine ⟨?_, ?_, World.cell?_setCell_same _ _ _ k2, ?_, ?_, ?_, ?_, fun j => ?_⟩
  · rw [World.cell?_setCell_other _ _ _ _ (by simp), World.cell?_setCell_other _ _ _ _ (by simp)]; exact k0
  · rw [World.cell?_setCell_other _ _ _ _ (by simp)]; exact k1'
  · rw [World.cell?_setCell_other _ _ _ _ (by simp), World.cell?_setCell_other _ _ _ _ (by simp), World.cell?_setCell_other _ _ _ _ (by simp)]; exact h.c3
  · rw [World.cell?_setCell_other _ _ _ _ (by simp), World.cell?_setCell_other _ _ _ _ (by simp), World.cell?_setCell_other _ _ _ _ (by simp)]; exact h.c4
  · rw [World.cell?_setCell_other _ _ _ _ (by simp), World.cell?_setCell_other _ _ _ _ (by simp), World.cell?_setCell_other _ _ _ _ (by simp)]; exact h.c5
  · rw [World.cell?_setCell_other _ _ _ _ (by simp), World.cell?_setCell_other _ _ _ _ (by simp), World.cell?_setCell_other _ _ _ _ (by simp)]; exact h.c6
  · rw [World.frozen?_setCell, World.frozen?_setCell, World.frozen?_setCell]; exact h.free j
theorem Smem.hard {B : Nat} {w : World} {b o : Nat} {s : Sm} {ev : Value} (h : Smem B w b o s ev) (t v c : Int) :
    Smem B (((w.setCell ⟨b, o, none⟩ (.int .i64 t)).setCell ⟨b, o + 1, none⟩ (.int .i64 v)).setCell ⟨b, o + 2, none⟩ (.int .i64 c)) b o { s with ht := t, hv := v, hc := c } ev :=
  have hu := Upd.three (Upd.refl w (fun k => k = b)) o (o + 1) (o + 2) (.int .i64 t) (.int .i64 v) (.int .i64 c)
  have hr := h.rest.upd hu (fun k hk e => h.rest.ne (by rw [hk, e])) (fun x hx => (h.rest.ea x hx).mono (fun k hk => .inl hk)) (h.rest.va.mono (fun k hk => .inl hk))
  ⟨h.cells.setH t v c, ⟨hr.row, hr.ents, hr.vot, hr.ne, hr.ea, hr.va, ⟨hr.ok.at_, hr.ok.top, hr.ok.bot⟩, hr.few⟩⟩
theorem SmPost.ahead {B : Nat} {w w1 w2 : World} {b o : Nat} {ev : Value} {s : Sm} (hlt : b < w.heap.size) (hb : Below w.heap.size w w1) (h : SmPost B w1 w2 b o ev s) : SmPost B w w2 b o ev s := by
  obtain ⟨ev', a, u, own, kp⟩ := h
  exact ⟨ev', a, (Upd.ofBelow hb : Upd w w1 (fun k => k = b ∨ some k = ev.ownBlock)).trans u (fun _ _ h => h), Owned.trans (.inl rfl) hb.size own, (Keeps.below hb hlt).trans kp⟩
theorem SmPost.behind {B : Nat} {w w1 w2 : World} {b o : Nat} {ev : Value} {s : Sm} (h : SmPost B w w1 b o ev s) (hb : Below w1.heap.size w1 w2) : SmPost B w w2 b o ev s := by
  obtain ⟨ev', a, u, own, kp⟩ := h
  exact ⟨ev', a.below hb, u.trans (Upd.ofBelow hb : Upd w1 w2 (fun _ => False)) (fun _ _ h => h.elim), own, kp.trans (Keeps.below hb a.cells.lt)⟩
theorem ta153_153 (v : Value) (w : World) : (Instr.typeAssert (.iface 153 v) 107 153 true).run Tryz.prog w = .ok (.tuple #[v, .bool true]) w := by kernel_rfl
theorem ta153_152 (v : Value) (w : World) : (Instr.typeAssert (.iface 153 v) 107 152 true).run Tryz.prog w = .ok (.tuple #[.agg #[.int .i64 0, .int .i64 0, .int .i64 0, .slice none 0 0], .bool false]) w := by kernel_rfl
theorem ta153_117 (v : Value) (w : World) : (Instr.typeAssert (.iface 153 v) 107 117 true).run Tryz.prog w = .ok (.tuple #[.agg #[.int .i64 0, .int .i64 0, .slice none 0 0], .bool false]) w := by kernel_rfl
theorem ta152_153 (v : Value) (w : World) : (Instr.typeAssert (.iface 152 v) 107 153 true).run Tryz.prog w = .ok (.tuple #[.agg #[.int .i64 0, .int .i64 0, .int .i64 0], .bool false]) w := by kernel_rfl
theorem ta152_152 (v : Value) (w : World) : (Instr.typeAssert (.iface 152 v) 107 152 true).run Tryz.prog w = .ok (.tuple #[v, .bool true]) w := by kernel_rfl
theorem ta152_117 (v : Value) (w : World) : (Instr.typeAssert (.iface 152 v) 107 117 true).run Tryz.prog w = .ok (.tuple #[.agg #[.int .i64 0, .int .i64 0, .slice none 0 0], .bool false]) w := by kernel_rfl
theorem ta117_153 (v : Value) (w : World) : (Instr.typeAssert (.iface 117 v) 107 153 true).run Tryz.prog w = .ok (.tuple #[.agg #[.int .i64 0, .int .i64 0, .int .i64 0], .bool false]) w := by kernel_rfl
theorem ta117_152 (v : Value) (w : World) : (Instr.typeAssert (.iface 117 v) 107 152 true).run Tryz.prog w = .ok (.tuple #[.agg #[.int .i64 0, .int .i64 0, .int .i64 0, .slice none 0 0], .bool false]) w := by kernel_rfl
theorem ta117_117 (v : Value) (w : World) : (Instr.typeAssert (.iface 117 v) 107 117 true).run Tryz.prog w = .ok (.tuple #[v, .bool true]) w := by kernel_rfl
set_option maxRecDepth 100000 in
set_option maxHeartbeats 4000000 in
theorem say_any (B b o : Nat) (s : Sm) (ev : Value) (r : RecV) (w : World) (h : Smem B w b o s ev) (hx : RecOk w r) (hxa : RecAway (fun k => k = b ∨ some k = ev.ownBlock) r) (hf : s.es.length < 1000000) (hB : B ≤ w.heap.size) :
    Calls Tryz.prog 51 #[.pointer (some ⟨b, o, none⟩), recVal r] w fun e w' => e = .returned (.tuple #[]) ∧ SmPost B w w' b o ev (s.say r) := by
  cases r with
  | hard t v c =>
    unfold recVal
    have HM := Hid.mk' h
    have HBL := h.cells.lt
    have al := fun (o1 : Obj) => (Below.refl w.heap.size w).alloc (Nat.le_refl _) o1
    have c0 := fun (o1 : Obj) => ((al o1).cell (p := ⟨b, o, none⟩) HBL).trans h.cells.c0
    have c1 := fun (o1 : Obj) => ((al o1).cell (p := ⟨b, o + 1, none⟩) HBL).trans h.cells.c1
    have c2 := fun (o1 : Obj) => ((al o1).cell (p := ⟨b, o + 2, none⟩) HBL).trans h.cells.c2
    have f0 := fun (o1 : Obj) => ((al o1).frozen (p := ⟨b, o, none⟩) HBL).trans (h.cells.free o)
    have f1 := fun (o1 : Obj) => ((al o1).frozen (p := ⟨b, o + 1, none⟩) HBL).trans (h.cells.free (o + 1))
    have f2 := fun (o1 : Obj) => ((al o1).frozen (p := ⟨b, o + 2, none⟩) HBL).trans (h.cells.free (o + 2))
    have d0 := h.cells.c0; have d1 := h.cells.c1; have d2 := h.cells.c2
    have g0 := h.cells.free o; have g1 := h.cells.free (o + 1); have g2 := h.cells.free (o + 2)
    clear h hx hxa al
    have t1 := ta153_153; have t2 := ta153_152; have t3 := ta153_117
    go_enter Tryz.func51, Tryz.ntmps51
    go_wp2
    go_end0
    refine ⟨rfl, SmPost.behind ⟨ev, HM.out.hard t v c, (Upd.three (Upd.refl w (fun k => k = b)) _ _ _ _ _ _).mono (fun k _ hk => .inl hk), .inl rfl, (((Keeps.refl w b o).set o (by omega) _).set (o + 1) (by omega) _).set (o + 2) (by omega) _⟩ ((((Below.refl _ _).alloc (Nat.le_refl _) _).alloc (by simp) _).alloc (by simp; omega) _)⟩
  | entry x =>
    unfold recVal
    have t1 := ta152_153; have t2 := ta152_152; have t3 := ta152_117
    have hb := fun w' (hb : Below w.heap.size w w') => sayEntry_any B b o s ev x w' (h.below hb) (hx.1.upd (Upd.ofBelow hb : Upd w w' (fun _ => False)) (fun _ _ _ => id)) hxa hx.2.2 hx.2.1 hf (Nat.le_trans hB hb.size)
    obtain ⟨vo, vc, hvv⟩ := hx.1.sees.form
    simp only [hvv] at hb ⊢
    have HLB := Hid.mk' h.cells.lt
    clear h hx hxa hvv
    go_enter Tryz.func51, Tryz.ntmps51
    go_wp2_with (go_at_call 96; refine (hb _ (((Below.refl _ _).alloc (Nat.le_refl _) _).alloc (by simp) _)).mono ?_; rintro e w2 ⟨rfl, hp⟩)
    go_end0
    exact ⟨rfl, (hp.ahead HLB.out (((Below.refl _ _).alloc (Nat.le_refl _) _).alloc (by simp) _)).behind ((Below.refl _ _).alloc (Nat.le_refl _) _)⟩
  | base i t vv =>
    unfold recVal
    have t1 := ta117_153; have t2 := ta117_152; have t3 := ta117_117
    have hb := fun w' (hb : Below w.heap.size w w') => sayBase_any B b o s ev i t vv w' (h.below hb) (hx.1.upd (Upd.ofBelow hb : Upd w w' (fun _ => False)) (fun _ _ _ => id)) hxa hx.2 hf
    obtain ⟨vo, vc, hvv⟩ := hx.1.sees.form
    simp only [hvv] at hb ⊢
    have HLB := Hid.mk' h.cells.lt
    clear h hx hxa hvv
    go_enter Tryz.func51, Tryz.ntmps51
    go_wp2_with (go_at_call 97; refine (hb _ ((((Below.refl _ _).alloc (Nat.le_refl _) _).alloc (by simp) _).alloc (by simp; omega) _)).mono ?_; rintro e w2 ⟨rfl, hp⟩)
    go_end0
    exact ⟨rfl, hp.ahead HLB.out ((((Below.refl _ _).alloc (Nat.le_refl _) _).alloc (by simp) _).alloc (by simp; omega) _)⟩
end Go.Proofs.YtecnlfalpfbobaaGreatDoor
