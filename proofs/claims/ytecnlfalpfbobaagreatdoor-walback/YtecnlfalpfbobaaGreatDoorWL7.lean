/- How many files a log has: Files. -/
import Derived.Test.YtecnlfalpfbobaaGreatDoorWL6
namespace Go.Proofs.YtecnlfalpfbobaaGreatDoor
open Go Go.RowKit
set_option maxRecDepth 100000 in
set_option maxHeartbeats 1000000 in
theorem files_any (B l d : Nat) (g : Gu) (p : PS) (w : World) (h0 : w.cell? ⟨l, 0, none⟩ = some (ptr d)) (hd : Dk B w d g p) (hdead : p.dead = false) (hs : p.sane) (hnames : ∀ f ∈ p.fs, LogName f.name) :
    Calls Tryz.prog 28 #[ptr l] w fun e w' => e = .returned (.int .i64 (nums numW (p.fs.map PF.name)).length) ∧ Below w.heap.size w w' := by
  have hfl := hs.len
  have hli := list_any B d g p w hd (by omega)
  have hE : listE p = 0 := by unfold listE; rw [hdead]; rfl
  have hBn : listB p = p.fs.map PF.name := by unfold listB; rw [hdead]; rfl
  rw [hE, hBn] at hli
  have HNM : Hid (∀ x ∈ p.fs.map PF.name, LogName x) := fun x hx => by obtain ⟨f, hf, rfl⟩ := List.mem_map.1 hx; exact hnames f hf
  have hon := on_any l d w h0
  clear hE hBn hnames hs hd h0
  go_enter Tryz.func28, Tryz.ntmps28
  go_wp2_with fail
  refine hon.mono ?_
  rintro e w1 ⟨rfl, h1⟩
  have h1 := h1.symm
  subst h1
  go_wp2_with fail
  refine hli.mono ?_
  rintro e w2 ⟨v2, rfl, hr2, hb2⟩
  obtain ⟨a2, c2, rfl⟩ := owns_form hr2
  have hno := numbersOf_any numW _ (p.fs.map PF.name) w2 ⟨_, RowO.of_owns hr2⟩ (by rw [List.length_map]; omega) (fun x hx w' => logName_num (HNM.out x hx) w')
  rw [List.length_map] at hno
  have HB2 := Hid.mk' hb2
  clear hli hr2 hon hb2
  go_wp2_with (go_at_call 71; refine hno.mono ?_; rintro e w3 ⟨v3, rfl, hr3, hb3⟩; obtain ⟨a3, c3, rfl, _, _⟩ := hr3.form)
  go_ret
  exact ⟨rfl, HB2.out.trans (hb3.mono HB2.out.size)⟩
end Go.Proofs.YtecnlfalpfbobaaGreatDoor
