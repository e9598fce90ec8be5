/- A rune is taken: those that are no blank and no star. -/
import Derived.Test.YtdojpnhjnhecmaaDoorK5
namespace Go.Proofs.YtdojpnhjnhecmaaDoor
open Go Go.RowKit
theorem HasT.set {w : World} (hT : HasT w) {B j : Nat} (hB : 4 ≤ B) (v : Value) : HasT (w.setCell ⟨B, j, none⟩ v) := hT.only ((Only.refl B w).setCell j v) hB
theorem HasT.drewN {w : World} (hT : HasT w) (n : Nat) : HasT (w.drewN n) := hT.keep fun _ _ _ _ h => h
set_option maxHeartbeats 1000000 in
theorem take_starred0 (c : Int) (_h0 : 0 ≤ c) (h1 : c ≠ 32) (h2 : c ≠ 9) (h3 : c ≠ 42) (p : PSt) (B : Nat) (w : World) (hI : InP w B p) (hf : p.f = 0) (hs : p.st 0 = true) :
    Calls Tryd.prog 25 #[.pointer (some ⟨B, 0, none⟩), .int .i32 c] w fun e w' => Took (p.take c.toNat) B w e w' := by
  rw [show p.take c.toNat = none by unfold PSt.take; rw [if_neg (by omega), if_neg (by omega), if_neg (by omega), hf, hs]; rfl]
  have k10 : w.cell? ⟨B, 10, none⟩ = some (.int .i64 0) := (hI.cell 10).trans (by rw [show (0 : Int) = (p.f : Int) by omega]; rfl)
  have k11 : w.cell? ⟨B, 11, none⟩ = some (.bool p.op) := hI.cell 11
  have ks : w.cell? ⟨B, 5, none⟩ = some (.bool true) := (hI.cell 5).trans (by rw [← hs]; rfl)
  have f11 := frozen_of_row w B 11 _ 66 hI
  have e1 := neB h1
  have e2 := neB h2
  have e3 := neB h3
  clear hI hs h1 h2 h3
  go_enter Tryd.func25, Tryd.ntmps25
  go_wp2_with fail
  go_quiet (fail)
  go_wp2
  go_ret
  exact ⟨rfl, ((Only.refl _ _).setCell 11 _).trans (Only.drewN _ _)⟩
set_option maxHeartbeats 1000000 in
theorem take_other0 (c : Int) (_h0 : 0 ≤ c) (h1 : c ≠ 32) (h2 : c ≠ 9) (h3 : c ≠ 42) (h4 : c ≠ 44) (h5 : c ≠ 45) (h6 : c < 48 ∨ 57 < c) (p : PSt) (B : Nat) (w : World) (hI : InP w B p) (hf : p.f = 0) (hs : p.st 0 = false) :
    Calls Tryd.prog 25 #[.pointer (some ⟨B, 0, none⟩), .int .i32 c] w fun e w' => Took (p.take c.toNat) B w e w' := by
  rw [show p.take c.toNat = none by unfold PSt.take; rw [if_neg (by omega), if_neg (by omega), if_neg (by omega), hf, hs, if_neg (by simp), if_neg (by omega), if_neg (by omega), if_neg (by omega)]]
  have k10 : w.cell? ⟨B, 10, none⟩ = some (.int .i64 0) := (hI.cell 10).trans (by rw [show (0 : Int) = (p.f : Int) by omega]; rfl)
  have k11 : w.cell? ⟨B, 11, none⟩ = some (.bool p.op) := hI.cell 11
  have ks : w.cell? ⟨B, 5, none⟩ = some (.bool false) := (hI.cell 5).trans (by rw [← hs]; rfl)
  have f11 := frozen_of_row w B 11 _ 66 hI
  have e1 := neB h1
  have e2 := neB h2
  have e3 := neB h3
  have e4 := neB h4
  have e5 := neB h5
  clear hI hs h1 h2 h3 h4 h5
  rcases h6 with h6 | h6
  · go_enter Tryd.func25, Tryd.ntmps25
    go_wp2_with fail
    go_quiet (fail)
    go_wp2
    go_ret
    exact ⟨rfl, ((Only.refl _ _).setCell 11 _).trans (Only.drewN _ _)⟩
  · have h7 : 48 ≤ c := by omega
    go_enter Tryd.func25, Tryd.ntmps25
    go_wp2_with fail
    go_quiet (fail)
    go_wp2
    go_ret
    exact ⟨rfl, ((Only.refl _ _).setCell 11 _).trans (Only.drewN _ _)⟩
set_option maxHeartbeats 1000000 in
theorem take_comma0 (p : PSt) (B : Nat) (w : World) (hT : HasT w) (hI : InP w B p) (hB : 4 ≤ B) (hp : p.Ok) (hf : p.f = 0) (hs : p.st 0 = false) :
    Calls Tryd.prog 25 #[.pointer (some ⟨B, 0, none⟩), .int .i32 44] w fun e w' => Took (p.take 44) B w e w' := by
  rw [show p.take 44 = p.opened.endI by unfold PSt.take; rw [if_neg (by omega), if_neg (by omega), if_neg (by omega), hf, hs, if_neg (by simp), if_pos rfl]]
  have k10 : w.cell? ⟨B, 10, none⟩ = some (.int .i64 0) := (hI.cell 10).trans (by rw [show (0 : Int) = (p.f : Int) by omega]; rfl)
  have k11 : w.cell? ⟨B, 11, none⟩ = some (.bool p.op) := hI.cell 11
  have ks : w.cell? ⟨B, 5, none⟩ = some (.bool false) := (hI.cell 5).trans (by rw [← hs]; rfl)
  have f11 := frozen_of_row w B 11 _ 66 hI
  have hp' := hp.opened (by omega)
  have hend : ∀ k, Calls Tryd.prog 51 #[.pointer (some ⟨B, 0, none⟩)] ((w.setCell ⟨B, 11, none⟩ (.bool true)).drewN k) _ := fun k => endI_took p.opened B _ ((hT.set hB _).drewN k) (hI.opened.drewN k) hB hp' (by show p.f < 5; omega)
  generalize p.opened.endI = o at *
  clear hI hs hT hp hp'
  go_enter Tryd.func25, Tryd.ntmps25
  go_wp2_with fail
  go_quiet (fail)
  go_wp2_with fail
  cases o with
  | none =>
    refine (hend _).mono ?_
    rintro e w1 ⟨rfl, hO⟩
    have HO := Hid.mk'' ((((Only.refl B w).setCell 11 (.bool true)).trans (Only.drewN _ _)).trans hO)
    clear hO hend
    go_wp2_with fail
    go_ret
    exact ⟨rfl, HO.out⟩
  | some q =>
    refine (hend _).mono ?_
    rintro e w1 ⟨⟨rfl, hI1⟩, hO⟩
    have HO := Hid.mk'' ((((Only.refl B w).setCell 11 (.bool true)).trans (Only.drewN _ _)).trans hO)
    have HI1 := Hid.mk'' hI1
    clear hO hend hI1
    go_wp2_with fail
    go_ret
    exact ⟨⟨rfl, HI1.out⟩, HO.out⟩
set_option maxHeartbeats 1000000 in
theorem take_dash0 (p : PSt) (B : Nat) (w : World) (_hT : HasT w) (hI : InP w B p) (_hB : 4 ≤ B) (hp : p.Ok) (hf : p.f = 0) (hs : p.st 0 = false) :
    Calls Tryd.prog 25 #[.pointer (some ⟨B, 0, none⟩), .int .i32 45] w fun e w' => Took (p.take 45) B w e w' := by
  rw [show p.take 45 = p.opened.dash by unfold PSt.take; rw [if_neg (by omega), if_neg (by omega), if_neg (by omega), hf, hs, if_neg (by simp), if_neg (by omega), if_pos rfl]]
  have k10 : w.cell? ⟨B, 10, none⟩ = some (.int .i64 0) := (hI.cell 10).trans (by rw [show (0 : Int) = (p.f : Int) by omega]; rfl)
  have k11 : w.cell? ⟨B, 11, none⟩ = some (.bool p.op) := hI.cell 11
  have ks : w.cell? ⟨B, 5, none⟩ = some (.bool false) := (hI.cell 5).trans (by rw [← hs]; rfl)
  have f11 := frozen_of_row w B 11 _ 66 hI
  have hp' := hp.opened (by omega)
  have hend : ∀ k, Calls Tryd.prog 52 #[.pointer (some ⟨B, 12, none⟩)] ((w.setCell ⟨B, 11, none⟩ (.bool true)).drewN k) _ := fun k => dash_took p.opened B _ (hI.opened.drewN k)
  generalize p.opened.dash = o at *
  clear hI hs _hT hp hp'
  go_enter Tryd.func25, Tryd.ntmps25
  go_wp2_with fail
  go_quiet (fail)
  go_wp2_with fail
  cases o with
  | none =>
    refine (hend _).mono ?_
    rintro e w1 ⟨rfl, hO⟩
    have HO := Hid.mk'' ((((Only.refl B w).setCell 11 (.bool true)).trans (Only.drewN _ _)).trans hO)
    clear hO hend
    go_wp2_with fail
    go_ret
    exact ⟨rfl, HO.out⟩
  | some q =>
    refine (hend _).mono ?_
    rintro e w1 ⟨⟨rfl, hI1⟩, hO⟩
    have HO := Hid.mk'' ((((Only.refl B w).setCell 11 (.bool true)).trans (Only.drewN _ _)).trans hO)
    have HI1 := Hid.mk'' hI1
    clear hO hend hI1
    go_wp2_with fail
    go_ret
    exact ⟨⟨rfl, HI1.out⟩, HO.out⟩
set_option maxHeartbeats 1000000 in
theorem take_digit0 (n : Nat) (hn : n ≤ 9) (p : PSt) (B : Nat) (w : World) (_hT : HasT w) (hI : InP w B p) (_hB : 4 ≤ B) (hp : p.Ok) (hf : p.f = 0) (hs : p.st 0 = false) :
    Calls Tryd.prog 25 #[.pointer (some ⟨B, 0, none⟩), .int .i32 (48 + n)] w fun e w' => Took (p.take (48 + n)) B w e w' := by
  rw [show p.take (48 + n) = p.opened.digit n by unfold PSt.take; rw [if_neg (by omega), if_neg (by omega), if_neg (by omega), hf, hs, if_neg (by simp), if_neg (by omega), if_neg (by omega), if_pos (by omega), Nat.add_sub_cancel_left]]
  have k10 : w.cell? ⟨B, 10, none⟩ = some (.int .i64 0) := (hI.cell 10).trans (by rw [show (0 : Int) = (p.f : Int) by omega]; rfl)
  have k11 : w.cell? ⟨B, 11, none⟩ = some (.bool p.op) := hI.cell 11
  have ks : w.cell? ⟨B, 5, none⟩ = some (.bool false) := (hI.cell 5).trans (by rw [← hs]; rfl)
  have f11 := frozen_of_row w B 11 _ 66 hI
  have hp' := hp.opened (by omega)
  have hend : ∀ k, Calls Tryd.prog 53 #[.pointer (some ⟨B, 12, none⟩), .int .i64 (48 + (n : Int) - 48)] ((w.setCell ⟨B, 11, none⟩ (.bool true)).drewN k) _ := fun k => by rw [show (48 : Int) + n - 48 = n by omega]; exact digit_took p.opened n B _ (hI.opened.drewN k) hp' hn
  generalize p.opened.digit n = o at *
  have e1 : ((48 : Int) + n == 32) = false := neB (by omega)
  have e2 : ((48 : Int) + n == 9) = false := neB (by omega)
  have e3 : ((48 : Int) + n == 42) = false := neB (by omega)
  have e4 : ((48 : Int) + n == 44) = false := neB (by omega)
  have e5 : ((48 : Int) + n == 45) = false := neB (by omega)
  have e6 : (48 : Int) ≤ 48 + n := by omega
  have e7 : (48 : Int) + n ≤ 57 := by omega
  clear hI hs _hT hp hp'
  go_enter Tryd.func25, Tryd.ntmps25
  go_wp2_with fail
  go_quiet (fail)
  go_wp2_with fail
  cases o with
  | none =>
    refine (hend _).mono ?_
    rintro e w1 ⟨rfl, hO⟩
    have HO := Hid.mk'' ((((Only.refl B w).setCell 11 (.bool true)).trans (Only.drewN _ _)).trans hO)
    clear hO hend
    go_wp2_with fail
    go_ret
    exact ⟨rfl, HO.out⟩
  | some q =>
    refine (hend _).mono ?_
    rintro e w1 ⟨⟨rfl, hI1⟩, hO⟩
    have HO := Hid.mk'' ((((Only.refl B w).setCell 11 (.bool true)).trans (Only.drewN _ _)).trans hO)
    have HI1 := Hid.mk'' hI1
    clear hO hend hI1
    go_wp2_with fail
    go_ret
    exact ⟨⟨rfl, HI1.out⟩, HO.out⟩
set_option maxHeartbeats 1000000 in
theorem take_starred1 (c : Int) (_h0 : 0 ≤ c) (h1 : c ≠ 32) (h2 : c ≠ 9) (h3 : c ≠ 42) (p : PSt) (B : Nat) (w : World) (hI : InP w B p) (hf : p.f = 1) (hs : p.st 1 = true) :
    Calls Tryd.prog 25 #[.pointer (some ⟨B, 0, none⟩), .int .i32 c] w fun e w' => Took (p.take c.toNat) B w e w' := by
  rw [show p.take c.toNat = none by unfold PSt.take; rw [if_neg (by omega), if_neg (by omega), if_neg (by omega), hf, hs]; rfl]
  have k10 : w.cell? ⟨B, 10, none⟩ = some (.int .i64 1) := (hI.cell 10).trans (by rw [show (1 : Int) = (p.f : Int) by omega]; rfl)
  have k11 : w.cell? ⟨B, 11, none⟩ = some (.bool p.op) := hI.cell 11
  have ks : w.cell? ⟨B, 6, none⟩ = some (.bool true) := (hI.cell 6).trans (by rw [← hs]; rfl)
  have f11 := frozen_of_row w B 11 _ 66 hI
  have e1 := neB h1
  have e2 := neB h2
  have e3 := neB h3
  clear hI hs h1 h2 h3
  go_enter Tryd.func25, Tryd.ntmps25
  go_wp2_with fail
  go_quiet (fail)
  go_wp2
  go_ret
  exact ⟨rfl, ((Only.refl _ _).setCell 11 _).trans (Only.drewN _ _)⟩
set_option maxHeartbeats 1000000 in
theorem take_other1 (c : Int) (_h0 : 0 ≤ c) (h1 : c ≠ 32) (h2 : c ≠ 9) (h3 : c ≠ 42) (h4 : c ≠ 44) (h5 : c ≠ 45) (h6 : c < 48 ∨ 57 < c) (p : PSt) (B : Nat) (w : World) (hI : InP w B p) (hf : p.f = 1) (hs : p.st 1 = false) :
    Calls Tryd.prog 25 #[.pointer (some ⟨B, 0, none⟩), .int .i32 c] w fun e w' => Took (p.take c.toNat) B w e w' := by
  rw [show p.take c.toNat = none by unfold PSt.take; rw [if_neg (by omega), if_neg (by omega), if_neg (by omega), hf, hs, if_neg (by simp), if_neg (by omega), if_neg (by omega), if_neg (by omega)]]
  have k10 : w.cell? ⟨B, 10, none⟩ = some (.int .i64 1) := (hI.cell 10).trans (by rw [show (1 : Int) = (p.f : Int) by omega]; rfl)
  have k11 : w.cell? ⟨B, 11, none⟩ = some (.bool p.op) := hI.cell 11
  have ks : w.cell? ⟨B, 6, none⟩ = some (.bool false) := (hI.cell 6).trans (by rw [← hs]; rfl)
  have f11 := frozen_of_row w B 11 _ 66 hI
  have e1 := neB h1
  have e2 := neB h2
  have e3 := neB h3
  have e4 := neB h4
  have e5 := neB h5
  clear hI hs h1 h2 h3 h4 h5
  rcases h6 with h6 | h6
  · go_enter Tryd.func25, Tryd.ntmps25
    go_wp2_with fail
    go_quiet (fail)
    go_wp2
    go_ret
    exact ⟨rfl, ((Only.refl _ _).setCell 11 _).trans (Only.drewN _ _)⟩
  · have h7 : 48 ≤ c := by omega
    go_enter Tryd.func25, Tryd.ntmps25
    go_wp2_with fail
    go_quiet (fail)
    go_wp2
    go_ret
    exact ⟨rfl, ((Only.refl _ _).setCell 11 _).trans (Only.drewN _ _)⟩
set_option maxHeartbeats 1000000 in
theorem take_comma1 (p : PSt) (B : Nat) (w : World) (hT : HasT w) (hI : InP w B p) (hB : 4 ≤ B) (hp : p.Ok) (hf : p.f = 1) (hs : p.st 1 = false) :
    Calls Tryd.prog 25 #[.pointer (some ⟨B, 0, none⟩), .int .i32 44] w fun e w' => Took (p.take 44) B w e w' := by
  rw [show p.take 44 = p.opened.endI by unfold PSt.take; rw [if_neg (by omega), if_neg (by omega), if_neg (by omega), hf, hs, if_neg (by simp), if_pos rfl]]
  have k10 : w.cell? ⟨B, 10, none⟩ = some (.int .i64 1) := (hI.cell 10).trans (by rw [show (1 : Int) = (p.f : Int) by omega]; rfl)
  have k11 : w.cell? ⟨B, 11, none⟩ = some (.bool p.op) := hI.cell 11
  have ks : w.cell? ⟨B, 6, none⟩ = some (.bool false) := (hI.cell 6).trans (by rw [← hs]; rfl)
  have f11 := frozen_of_row w B 11 _ 66 hI
  have hp' := hp.opened (by omega)
  have hend : ∀ k, Calls Tryd.prog 51 #[.pointer (some ⟨B, 0, none⟩)] ((w.setCell ⟨B, 11, none⟩ (.bool true)).drewN k) _ := fun k => endI_took p.opened B _ ((hT.set hB _).drewN k) (hI.opened.drewN k) hB hp' (by show p.f < 5; omega)
  generalize p.opened.endI = o at *
  clear hI hs hT hp hp'
  go_enter Tryd.func25, Tryd.ntmps25
  go_wp2_with fail
  go_quiet (fail)
  go_wp2_with fail
  cases o with
  | none =>
    refine (hend _).mono ?_
    rintro e w1 ⟨rfl, hO⟩
    have HO := Hid.mk'' ((((Only.refl B w).setCell 11 (.bool true)).trans (Only.drewN _ _)).trans hO)
    clear hO hend
    go_wp2_with fail
    go_ret
    exact ⟨rfl, HO.out⟩
  | some q =>
    refine (hend _).mono ?_
    rintro e w1 ⟨⟨rfl, hI1⟩, hO⟩
    have HO := Hid.mk'' ((((Only.refl B w).setCell 11 (.bool true)).trans (Only.drewN _ _)).trans hO)
    have HI1 := Hid.mk'' hI1
    clear hO hend hI1
    go_wp2_with fail
    go_ret
    exact ⟨⟨rfl, HI1.out⟩, HO.out⟩
set_option maxHeartbeats 1000000 in
theorem take_dash1 (p : PSt) (B : Nat) (w : World) (_hT : HasT w) (hI : InP w B p) (_hB : 4 ≤ B) (hp : p.Ok) (hf : p.f = 1) (hs : p.st 1 = false) :
    Calls Tryd.prog 25 #[.pointer (some ⟨B, 0, none⟩), .int .i32 45] w fun e w' => Took (p.take 45) B w e w' := by
  rw [show p.take 45 = p.opened.dash by unfold PSt.take; rw [if_neg (by omega), if_neg (by omega), if_neg (by omega), hf, hs, if_neg (by simp), if_neg (by omega), if_pos rfl]]
  have k10 : w.cell? ⟨B, 10, none⟩ = some (.int .i64 1) := (hI.cell 10).trans (by rw [show (1 : Int) = (p.f : Int) by omega]; rfl)
  have k11 : w.cell? ⟨B, 11, none⟩ = some (.bool p.op) := hI.cell 11
  have ks : w.cell? ⟨B, 6, none⟩ = some (.bool false) := (hI.cell 6).trans (by rw [← hs]; rfl)
  have f11 := frozen_of_row w B 11 _ 66 hI
  have hp' := hp.opened (by omega)
  have hend : ∀ k, Calls Tryd.prog 52 #[.pointer (some ⟨B, 12, none⟩)] ((w.setCell ⟨B, 11, none⟩ (.bool true)).drewN k) _ := fun k => dash_took p.opened B _ (hI.opened.drewN k)
  generalize p.opened.dash = o at *
  clear hI hs _hT hp hp'
  go_enter Tryd.func25, Tryd.ntmps25
  go_wp2_with fail
  go_quiet (fail)
  go_wp2_with fail
  cases o with
  | none =>
    refine (hend _).mono ?_
    rintro e w1 ⟨rfl, hO⟩
    have HO := Hid.mk'' ((((Only.refl B w).setCell 11 (.bool true)).trans (Only.drewN _ _)).trans hO)
    clear hO hend
    go_wp2_with fail
    go_ret
    exact ⟨rfl, HO.out⟩
  | some q =>
    refine (hend _).mono ?_
    rintro e w1 ⟨⟨rfl, hI1⟩, hO⟩
    have HO := Hid.mk'' ((((Only.refl B w).setCell 11 (.bool true)).trans (Only.drewN _ _)).trans hO)
    have HI1 := Hid.mk'' hI1
    clear hO hend hI1
    go_wp2_with fail
    go_ret
    exact ⟨⟨rfl, HI1.out⟩, HO.out⟩
set_option maxHeartbeats 1000000 in
theorem take_digit1 (n : Nat) (hn : n ≤ 9) (p : PSt) (B : Nat) (w : World) (_hT : HasT w) (hI : InP w B p) (_hB : 4 ≤ B) (hp : p.Ok) (hf : p.f = 1) (hs : p.st 1 = false) :
    Calls Tryd.prog 25 #[.pointer (some ⟨B, 0, none⟩), .int .i32 (48 + n)] w fun e w' => Took (p.take (48 + n)) B w e w' := by
  rw [show p.take (48 + n) = p.opened.digit n by unfold PSt.take; rw [if_neg (by omega), if_neg (by omega), if_neg (by omega), hf, hs, if_neg (by simp), if_neg (by omega), if_neg (by omega), if_pos (by omega), Nat.add_sub_cancel_left]]
  have k10 : w.cell? ⟨B, 10, none⟩ = some (.int .i64 1) := (hI.cell 10).trans (by rw [show (1 : Int) = (p.f : Int) by omega]; rfl)
  have k11 : w.cell? ⟨B, 11, none⟩ = some (.bool p.op) := hI.cell 11
  have ks : w.cell? ⟨B, 6, none⟩ = some (.bool false) := (hI.cell 6).trans (by rw [← hs]; rfl)
  have f11 := frozen_of_row w B 11 _ 66 hI
  have hp' := hp.opened (by omega)
  have hend : ∀ k, Calls Tryd.prog 53 #[.pointer (some ⟨B, 12, none⟩), .int .i64 (48 + (n : Int) - 48)] ((w.setCell ⟨B, 11, none⟩ (.bool true)).drewN k) _ := fun k => by rw [show (48 : Int) + n - 48 = n by omega]; exact digit_took p.opened n B _ (hI.opened.drewN k) hp' hn
  generalize p.opened.digit n = o at *
  have e1 : ((48 : Int) + n == 32) = false := neB (by omega)
  have e2 : ((48 : Int) + n == 9) = false := neB (by omega)
  have e3 : ((48 : Int) + n == 42) = false := neB (by omega)
  have e4 : ((48 : Int) + n == 44) = false := neB (by omega)
  have e5 : ((48 : Int) + n == 45) = false := neB (by omega)
  have e6 : (48 : Int) ≤ 48 + n := by omega
  have e7 : (48 : Int) + n ≤ 57 := by omega
  clear hI hs _hT hp hp'
  go_enter Tryd.func25, Tryd.ntmps25
  go_wp2_with fail
  go_quiet (fail)
  go_wp2_with fail
  cases o with
  | none =>
    refine (hend _).mono ?_
    rintro e w1 ⟨rfl, hO⟩
    have HO := Hid.mk'' ((((Only.refl B w).setCell 11 (.bool true)).trans (Only.drewN _ _)).trans hO)
    clear hO hend
    go_wp2_with fail
    go_ret
    exact ⟨rfl, HO.out⟩
  | some q =>
    refine (hend _).mono ?_
    rintro e w1 ⟨⟨rfl, hI1⟩, hO⟩
    have HO := Hid.mk'' ((((Only.refl B w).setCell 11 (.bool true)).trans (Only.drewN _ _)).trans hO)
    have HI1 := Hid.mk'' hI1
    clear hO hend hI1
    go_wp2_with fail
    go_ret
    exact ⟨⟨rfl, HI1.out⟩, HO.out⟩
set_option maxHeartbeats 1000000 in
theorem take_starred2 (c : Int) (_h0 : 0 ≤ c) (h1 : c ≠ 32) (h2 : c ≠ 9) (h3 : c ≠ 42) (p : PSt) (B : Nat) (w : World) (hI : InP w B p) (hf : p.f = 2) (hs : p.st 2 = true) :
    Calls Tryd.prog 25 #[.pointer (some ⟨B, 0, none⟩), .int .i32 c] w fun e w' => Took (p.take c.toNat) B w e w' := by
  rw [show p.take c.toNat = none by unfold PSt.take; rw [if_neg (by omega), if_neg (by omega), if_neg (by omega), hf, hs]; rfl]
  have k10 : w.cell? ⟨B, 10, none⟩ = some (.int .i64 2) := (hI.cell 10).trans (by rw [show (2 : Int) = (p.f : Int) by omega]; rfl)
  have k11 : w.cell? ⟨B, 11, none⟩ = some (.bool p.op) := hI.cell 11
  have ks : w.cell? ⟨B, 7, none⟩ = some (.bool true) := (hI.cell 7).trans (by rw [← hs]; rfl)
  have f11 := frozen_of_row w B 11 _ 66 hI
  have e1 := neB h1
  have e2 := neB h2
  have e3 := neB h3
  clear hI hs h1 h2 h3
  go_enter Tryd.func25, Tryd.ntmps25
  go_wp2_with fail
  go_quiet (fail)
  go_wp2
  go_ret
  exact ⟨rfl, ((Only.refl _ _).setCell 11 _).trans (Only.drewN _ _)⟩
set_option maxHeartbeats 1000000 in
theorem take_other2 (c : Int) (_h0 : 0 ≤ c) (h1 : c ≠ 32) (h2 : c ≠ 9) (h3 : c ≠ 42) (h4 : c ≠ 44) (h5 : c ≠ 45) (h6 : c < 48 ∨ 57 < c) (p : PSt) (B : Nat) (w : World) (hI : InP w B p) (hf : p.f = 2) (hs : p.st 2 = false) :
    Calls Tryd.prog 25 #[.pointer (some ⟨B, 0, none⟩), .int .i32 c] w fun e w' => Took (p.take c.toNat) B w e w' := by
  rw [show p.take c.toNat = none by unfold PSt.take; rw [if_neg (by omega), if_neg (by omega), if_neg (by omega), hf, hs, if_neg (by simp), if_neg (by omega), if_neg (by omega), if_neg (by omega)]]
  have k10 : w.cell? ⟨B, 10, none⟩ = some (.int .i64 2) := (hI.cell 10).trans (by rw [show (2 : Int) = (p.f : Int) by omega]; rfl)
  have k11 : w.cell? ⟨B, 11, none⟩ = some (.bool p.op) := hI.cell 11
  have ks : w.cell? ⟨B, 7, none⟩ = some (.bool false) := (hI.cell 7).trans (by rw [← hs]; rfl)
  have f11 := frozen_of_row w B 11 _ 66 hI
  have e1 := neB h1
  have e2 := neB h2
  have e3 := neB h3
  have e4 := neB h4
  have e5 := neB h5
  clear hI hs h1 h2 h3 h4 h5
  rcases h6 with h6 | h6
  · go_enter Tryd.func25, Tryd.ntmps25
    go_wp2_with fail
    go_quiet (fail)
    go_wp2
    go_ret
    exact ⟨rfl, ((Only.refl _ _).setCell 11 _).trans (Only.drewN _ _)⟩
  · have h7 : 48 ≤ c := by omega
    go_enter Tryd.func25, Tryd.ntmps25
    go_wp2_with fail
    go_quiet (fail)
    go_wp2
    go_ret
    exact ⟨rfl, ((Only.refl _ _).setCell 11 _).trans (Only.drewN _ _)⟩
set_option maxHeartbeats 1000000 in
theorem take_comma2 (p : PSt) (B : Nat) (w : World) (hT : HasT w) (hI : InP w B p) (hB : 4 ≤ B) (hp : p.Ok) (hf : p.f = 2) (hs : p.st 2 = false) :
    Calls Tryd.prog 25 #[.pointer (some ⟨B, 0, none⟩), .int .i32 44] w fun e w' => Took (p.take 44) B w e w' := by
  rw [show p.take 44 = p.opened.endI by unfold PSt.take; rw [if_neg (by omega), if_neg (by omega), if_neg (by omega), hf, hs, if_neg (by simp), if_pos rfl]]
  have k10 : w.cell? ⟨B, 10, none⟩ = some (.int .i64 2) := (hI.cell 10).trans (by rw [show (2 : Int) = (p.f : Int) by omega]; rfl)
  have k11 : w.cell? ⟨B, 11, none⟩ = some (.bool p.op) := hI.cell 11
  have ks : w.cell? ⟨B, 7, none⟩ = some (.bool false) := (hI.cell 7).trans (by rw [← hs]; rfl)
  have f11 := frozen_of_row w B 11 _ 66 hI
  have hp' := hp.opened (by omega)
  have hend : ∀ k, Calls Tryd.prog 51 #[.pointer (some ⟨B, 0, none⟩)] ((w.setCell ⟨B, 11, none⟩ (.bool true)).drewN k) _ := fun k => endI_took p.opened B _ ((hT.set hB _).drewN k) (hI.opened.drewN k) hB hp' (by show p.f < 5; omega)
  generalize p.opened.endI = o at *
  clear hI hs hT hp hp'
  go_enter Tryd.func25, Tryd.ntmps25
  go_wp2_with fail
  go_quiet (fail)
  go_wp2_with fail
  cases o with
  | none =>
    refine (hend _).mono ?_
    rintro e w1 ⟨rfl, hO⟩
    have HO := Hid.mk'' ((((Only.refl B w).setCell 11 (.bool true)).trans (Only.drewN _ _)).trans hO)
    clear hO hend
    go_wp2_with fail
    go_ret
    exact ⟨rfl, HO.out⟩
  | some q =>
    refine (hend _).mono ?_
    rintro e w1 ⟨⟨rfl, hI1⟩, hO⟩
    have HO := Hid.mk'' ((((Only.refl B w).setCell 11 (.bool true)).trans (Only.drewN _ _)).trans hO)
    have HI1 := Hid.mk'' hI1
    clear hO hend hI1
    go_wp2_with fail
    go_ret
    exact ⟨⟨rfl, HI1.out⟩, HO.out⟩
set_option maxHeartbeats 1000000 in
theorem take_dash2 (p : PSt) (B : Nat) (w : World) (_hT : HasT w) (hI : InP w B p) (_hB : 4 ≤ B) (hp : p.Ok) (hf : p.f = 2) (hs : p.st 2 = false) :
    Calls Tryd.prog 25 #[.pointer (some ⟨B, 0, none⟩), .int .i32 45] w fun e w' => Took (p.take 45) B w e w' := by
  rw [show p.take 45 = p.opened.dash by unfold PSt.take; rw [if_neg (by omega), if_neg (by omega), if_neg (by omega), hf, hs, if_neg (by simp), if_neg (by omega), if_pos rfl]]
  have k10 : w.cell? ⟨B, 10, none⟩ = some (.int .i64 2) := (hI.cell 10).trans (by rw [show (2 : Int) = (p.f : Int) by omega]; rfl)
  have k11 : w.cell? ⟨B, 11, none⟩ = some (.bool p.op) := hI.cell 11
  have ks : w.cell? ⟨B, 7, none⟩ = some (.bool false) := (hI.cell 7).trans (by rw [← hs]; rfl)
  have f11 := frozen_of_row w B 11 _ 66 hI
  have hp' := hp.opened (by omega)
  have hend : ∀ k, Calls Tryd.prog 52 #[.pointer (some ⟨B, 12, none⟩)] ((w.setCell ⟨B, 11, none⟩ (.bool true)).drewN k) _ := fun k => dash_took p.opened B _ (hI.opened.drewN k)
  generalize p.opened.dash = o at *
  clear hI hs _hT hp hp'
  go_enter Tryd.func25, Tryd.ntmps25
  go_wp2_with fail
  go_quiet (fail)
  go_wp2_with fail
  cases o with
  | none =>
    refine (hend _).mono ?_
    rintro e w1 ⟨rfl, hO⟩
    have HO := Hid.mk'' ((((Only.refl B w).setCell 11 (.bool true)).trans (Only.drewN _ _)).trans hO)
    clear hO hend
    go_wp2_with fail
    go_ret
    exact ⟨rfl, HO.out⟩
  | some q =>
    refine (hend _).mono ?_
    rintro e w1 ⟨⟨rfl, hI1⟩, hO⟩
    have HO := Hid.mk'' ((((Only.refl B w).setCell 11 (.bool true)).trans (Only.drewN _ _)).trans hO)
    have HI1 := Hid.mk'' hI1
    clear hO hend hI1
    go_wp2_with fail
    go_ret
    exact ⟨⟨rfl, HI1.out⟩, HO.out⟩
set_option maxHeartbeats 1000000 in
theorem take_digit2 (n : Nat) (hn : n ≤ 9) (p : PSt) (B : Nat) (w : World) (_hT : HasT w) (hI : InP w B p) (_hB : 4 ≤ B) (hp : p.Ok) (hf : p.f = 2) (hs : p.st 2 = false) :
    Calls Tryd.prog 25 #[.pointer (some ⟨B, 0, none⟩), .int .i32 (48 + n)] w fun e w' => Took (p.take (48 + n)) B w e w' := by
  rw [show p.take (48 + n) = p.opened.digit n by unfold PSt.take; rw [if_neg (by omega), if_neg (by omega), if_neg (by omega), hf, hs, if_neg (by simp), if_neg (by omega), if_neg (by omega), if_pos (by omega), Nat.add_sub_cancel_left]]
  have k10 : w.cell? ⟨B, 10, none⟩ = some (.int .i64 2) := (hI.cell 10).trans (by rw [show (2 : Int) = (p.f : Int) by omega]; rfl)
  have k11 : w.cell? ⟨B, 11, none⟩ = some (.bool p.op) := hI.cell 11
  have ks : w.cell? ⟨B, 7, none⟩ = some (.bool false) := (hI.cell 7).trans (by rw [← hs]; rfl)
  have f11 := frozen_of_row w B 11 _ 66 hI
  have hp' := hp.opened (by omega)
  have hend : ∀ k, Calls Tryd.prog 53 #[.pointer (some ⟨B, 12, none⟩), .int .i64 (48 + (n : Int) - 48)] ((w.setCell ⟨B, 11, none⟩ (.bool true)).drewN k) _ := fun k => by rw [show (48 : Int) + n - 48 = n by omega]; exact digit_took p.opened n B _ (hI.opened.drewN k) hp' hn
  generalize p.opened.digit n = o at *
  have e1 : ((48 : Int) + n == 32) = false := neB (by omega)
  have e2 : ((48 : Int) + n == 9) = false := neB (by omega)
  have e3 : ((48 : Int) + n == 42) = false := neB (by omega)
  have e4 : ((48 : Int) + n == 44) = false := neB (by omega)
  have e5 : ((48 : Int) + n == 45) = false := neB (by omega)
  have e6 : (48 : Int) ≤ 48 + n := by omega
  have e7 : (48 : Int) + n ≤ 57 := by omega
  clear hI hs _hT hp hp'
  go_enter Tryd.func25, Tryd.ntmps25
  go_wp2_with fail
  go_quiet (fail)
  go_wp2_with fail
  cases o with
  | none =>
    refine (hend _).mono ?_
    rintro e w1 ⟨rfl, hO⟩
    have HO := Hid.mk'' ((((Only.refl B w).setCell 11 (.bool true)).trans (Only.drewN _ _)).trans hO)
    clear hO hend
    go_wp2_with fail
    go_ret
    exact ⟨rfl, HO.out⟩
  | some q =>
    refine (hend _).mono ?_
    rintro e w1 ⟨⟨rfl, hI1⟩, hO⟩
    have HO := Hid.mk'' ((((Only.refl B w).setCell 11 (.bool true)).trans (Only.drewN _ _)).trans hO)
    have HI1 := Hid.mk'' hI1
    clear hO hend hI1
    go_wp2_with fail
    go_ret
    exact ⟨⟨rfl, HI1.out⟩, HO.out⟩
set_option maxHeartbeats 1000000 in
theorem take_starred3 (c : Int) (_h0 : 0 ≤ c) (h1 : c ≠ 32) (h2 : c ≠ 9) (h3 : c ≠ 42) (p : PSt) (B : Nat) (w : World) (hI : InP w B p) (hf : p.f = 3) (hs : p.st 3 = true) :
    Calls Tryd.prog 25 #[.pointer (some ⟨B, 0, none⟩), .int .i32 c] w fun e w' => Took (p.take c.toNat) B w e w' := by
  rw [show p.take c.toNat = none by unfold PSt.take; rw [if_neg (by omega), if_neg (by omega), if_neg (by omega), hf, hs]; rfl]
  have k10 : w.cell? ⟨B, 10, none⟩ = some (.int .i64 3) := (hI.cell 10).trans (by rw [show (3 : Int) = (p.f : Int) by omega]; rfl)
  have k11 : w.cell? ⟨B, 11, none⟩ = some (.bool p.op) := hI.cell 11
  have ks : w.cell? ⟨B, 8, none⟩ = some (.bool true) := (hI.cell 8).trans (by rw [← hs]; rfl)
  have f11 := frozen_of_row w B 11 _ 66 hI
  have e1 := neB h1
  have e2 := neB h2
  have e3 := neB h3
  clear hI hs h1 h2 h3
  go_enter Tryd.func25, Tryd.ntmps25
  go_wp2_with fail
  go_quiet (fail)
  go_wp2
  go_ret
  exact ⟨rfl, ((Only.refl _ _).setCell 11 _).trans (Only.drewN _ _)⟩
set_option maxHeartbeats 1000000 in
theorem take_other3 (c : Int) (_h0 : 0 ≤ c) (h1 : c ≠ 32) (h2 : c ≠ 9) (h3 : c ≠ 42) (h4 : c ≠ 44) (h5 : c ≠ 45) (h6 : c < 48 ∨ 57 < c) (p : PSt) (B : Nat) (w : World) (hI : InP w B p) (hf : p.f = 3) (hs : p.st 3 = false) :
    Calls Tryd.prog 25 #[.pointer (some ⟨B, 0, none⟩), .int .i32 c] w fun e w' => Took (p.take c.toNat) B w e w' := by
  rw [show p.take c.toNat = none by unfold PSt.take; rw [if_neg (by omega), if_neg (by omega), if_neg (by omega), hf, hs, if_neg (by simp), if_neg (by omega), if_neg (by omega), if_neg (by omega)]]
  have k10 : w.cell? ⟨B, 10, none⟩ = some (.int .i64 3) := (hI.cell 10).trans (by rw [show (3 : Int) = (p.f : Int) by omega]; rfl)
  have k11 : w.cell? ⟨B, 11, none⟩ = some (.bool p.op) := hI.cell 11
  have ks : w.cell? ⟨B, 8, none⟩ = some (.bool false) := (hI.cell 8).trans (by rw [← hs]; rfl)
  have f11 := frozen_of_row w B 11 _ 66 hI
  have e1 := neB h1
  have e2 := neB h2
  have e3 := neB h3
  have e4 := neB h4
  have e5 := neB h5
  clear hI hs h1 h2 h3 h4 h5
  rcases h6 with h6 | h6
  · go_enter Tryd.func25, Tryd.ntmps25
    go_wp2_with fail
    go_quiet (fail)
    go_wp2
    go_ret
    exact ⟨rfl, ((Only.refl _ _).setCell 11 _).trans (Only.drewN _ _)⟩
  · have h7 : 48 ≤ c := by omega
    go_enter Tryd.func25, Tryd.ntmps25
    go_wp2_with fail
    go_quiet (fail)
    go_wp2
    go_ret
    exact ⟨rfl, ((Only.refl _ _).setCell 11 _).trans (Only.drewN _ _)⟩
set_option maxHeartbeats 1000000 in
theorem take_comma3 (p : PSt) (B : Nat) (w : World) (hT : HasT w) (hI : InP w B p) (hB : 4 ≤ B) (hp : p.Ok) (hf : p.f = 3) (hs : p.st 3 = false) :
    Calls Tryd.prog 25 #[.pointer (some ⟨B, 0, none⟩), .int .i32 44] w fun e w' => Took (p.take 44) B w e w' := by
  rw [show p.take 44 = p.opened.endI by unfold PSt.take; rw [if_neg (by omega), if_neg (by omega), if_neg (by omega), hf, hs, if_neg (by simp), if_pos rfl]]
  have k10 : w.cell? ⟨B, 10, none⟩ = some (.int .i64 3) := (hI.cell 10).trans (by rw [show (3 : Int) = (p.f : Int) by omega]; rfl)
  have k11 : w.cell? ⟨B, 11, none⟩ = some (.bool p.op) := hI.cell 11
  have ks : w.cell? ⟨B, 8, none⟩ = some (.bool false) := (hI.cell 8).trans (by rw [← hs]; rfl)
  have f11 := frozen_of_row w B 11 _ 66 hI
  have hp' := hp.opened (by omega)
  have hend : ∀ k, Calls Tryd.prog 51 #[.pointer (some ⟨B, 0, none⟩)] ((w.setCell ⟨B, 11, none⟩ (.bool true)).drewN k) _ := fun k => endI_took p.opened B _ ((hT.set hB _).drewN k) (hI.opened.drewN k) hB hp' (by show p.f < 5; omega)
  generalize p.opened.endI = o at *
  clear hI hs hT hp hp'
  go_enter Tryd.func25, Tryd.ntmps25
  go_wp2_with fail
  go_quiet (fail)
  go_wp2_with fail
  cases o with
  | none =>
    refine (hend _).mono ?_
    rintro e w1 ⟨rfl, hO⟩
    have HO := Hid.mk'' ((((Only.refl B w).setCell 11 (.bool true)).trans (Only.drewN _ _)).trans hO)
    clear hO hend
    go_wp2_with fail
    go_ret
    exact ⟨rfl, HO.out⟩
  | some q =>
    refine (hend _).mono ?_
    rintro e w1 ⟨⟨rfl, hI1⟩, hO⟩
    have HO := Hid.mk'' ((((Only.refl B w).setCell 11 (.bool true)).trans (Only.drewN _ _)).trans hO)
    have HI1 := Hid.mk'' hI1
    clear hO hend hI1
    go_wp2_with fail
    go_ret
    exact ⟨⟨rfl, HI1.out⟩, HO.out⟩
set_option maxHeartbeats 1000000 in
theorem take_dash3 (p : PSt) (B : Nat) (w : World) (_hT : HasT w) (hI : InP w B p) (_hB : 4 ≤ B) (hp : p.Ok) (hf : p.f = 3) (hs : p.st 3 = false) :
    Calls Tryd.prog 25 #[.pointer (some ⟨B, 0, none⟩), .int .i32 45] w fun e w' => Took (p.take 45) B w e w' := by
  rw [show p.take 45 = p.opened.dash by unfold PSt.take; rw [if_neg (by omega), if_neg (by omega), if_neg (by omega), hf, hs, if_neg (by simp), if_neg (by omega), if_pos rfl]]
  have k10 : w.cell? ⟨B, 10, none⟩ = some (.int .i64 3) := (hI.cell 10).trans (by rw [show (3 : Int) = (p.f : Int) by omega]; rfl)
  have k11 : w.cell? ⟨B, 11, none⟩ = some (.bool p.op) := hI.cell 11
  have ks : w.cell? ⟨B, 8, none⟩ = some (.bool false) := (hI.cell 8).trans (by rw [← hs]; rfl)
  have f11 := frozen_of_row w B 11 _ 66 hI
  have hp' := hp.opened (by omega)
  have hend : ∀ k, Calls Tryd.prog 52 #[.pointer (some ⟨B, 12, none⟩)] ((w.setCell ⟨B, 11, none⟩ (.bool true)).drewN k) _ := fun k => dash_took p.opened B _ (hI.opened.drewN k)
  generalize p.opened.dash = o at *
  clear hI hs _hT hp hp'
  go_enter Tryd.func25, Tryd.ntmps25
  go_wp2_with fail
  go_quiet (fail)
  go_wp2_with fail
  cases o with
  | none =>
    refine (hend _).mono ?_
    rintro e w1 ⟨rfl, hO⟩
    have HO := Hid.mk'' ((((Only.refl B w).setCell 11 (.bool true)).trans (Only.drewN _ _)).trans hO)
    clear hO hend
    go_wp2_with fail
    go_ret
    exact ⟨rfl, HO.out⟩
  | some q =>
    refine (hend _).mono ?_
    rintro e w1 ⟨⟨rfl, hI1⟩, hO⟩
    have HO := Hid.mk'' ((((Only.refl B w).setCell 11 (.bool true)).trans (Only.drewN _ _)).trans hO)
    have HI1 := Hid.mk'' hI1
    clear hO hend hI1
    go_wp2_with fail
    go_ret
    exact ⟨⟨rfl, HI1.out⟩, HO.out⟩
set_option maxHeartbeats 1000000 in
theorem take_digit3 (n : Nat) (hn : n ≤ 9) (p : PSt) (B : Nat) (w : World) (_hT : HasT w) (hI : InP w B p) (_hB : 4 ≤ B) (hp : p.Ok) (hf : p.f = 3) (hs : p.st 3 = false) :
    Calls Tryd.prog 25 #[.pointer (some ⟨B, 0, none⟩), .int .i32 (48 + n)] w fun e w' => Took (p.take (48 + n)) B w e w' := by
  rw [show p.take (48 + n) = p.opened.digit n by unfold PSt.take; rw [if_neg (by omega), if_neg (by omega), if_neg (by omega), hf, hs, if_neg (by simp), if_neg (by omega), if_neg (by omega), if_pos (by omega), Nat.add_sub_cancel_left]]
  have k10 : w.cell? ⟨B, 10, none⟩ = some (.int .i64 3) := (hI.cell 10).trans (by rw [show (3 : Int) = (p.f : Int) by omega]; rfl)
  have k11 : w.cell? ⟨B, 11, none⟩ = some (.bool p.op) := hI.cell 11
  have ks : w.cell? ⟨B, 8, none⟩ = some (.bool false) := (hI.cell 8).trans (by rw [← hs]; rfl)
  have f11 := frozen_of_row w B 11 _ 66 hI
  have hp' := hp.opened (by omega)
  have hend : ∀ k, Calls Tryd.prog 53 #[.pointer (some ⟨B, 12, none⟩), .int .i64 (48 + (n : Int) - 48)] ((w.setCell ⟨B, 11, none⟩ (.bool true)).drewN k) _ := fun k => by rw [show (48 : Int) + n - 48 = n by omega]; exact digit_took p.opened n B _ (hI.opened.drewN k) hp' hn
  generalize p.opened.digit n = o at *
  have e1 : ((48 : Int) + n == 32) = false := neB (by omega)
  have e2 : ((48 : Int) + n == 9) = false := neB (by omega)
  have e3 : ((48 : Int) + n == 42) = false := neB (by omega)
  have e4 : ((48 : Int) + n == 44) = false := neB (by omega)
  have e5 : ((48 : Int) + n == 45) = false := neB (by omega)
  have e6 : (48 : Int) ≤ 48 + n := by omega
  have e7 : (48 : Int) + n ≤ 57 := by omega
  clear hI hs _hT hp hp'
  go_enter Tryd.func25, Tryd.ntmps25
  go_wp2_with fail
  go_quiet (fail)
  go_wp2_with fail
  cases o with
  | none =>
    refine (hend _).mono ?_
    rintro e w1 ⟨rfl, hO⟩
    have HO := Hid.mk'' ((((Only.refl B w).setCell 11 (.bool true)).trans (Only.drewN _ _)).trans hO)
    clear hO hend
    go_wp2_with fail
    go_ret
    exact ⟨rfl, HO.out⟩
  | some q =>
    refine (hend _).mono ?_
    rintro e w1 ⟨⟨rfl, hI1⟩, hO⟩
    have HO := Hid.mk'' ((((Only.refl B w).setCell 11 (.bool true)).trans (Only.drewN _ _)).trans hO)
    have HI1 := Hid.mk'' hI1
    clear hO hend hI1
    go_wp2_with fail
    go_ret
    exact ⟨⟨rfl, HI1.out⟩, HO.out⟩
set_option maxHeartbeats 1000000 in
theorem take_starred4 (c : Int) (_h0 : 0 ≤ c) (h1 : c ≠ 32) (h2 : c ≠ 9) (h3 : c ≠ 42) (p : PSt) (B : Nat) (w : World) (hI : InP w B p) (hf : p.f = 4) (hs : p.st 4 = true) :
    Calls Tryd.prog 25 #[.pointer (some ⟨B, 0, none⟩), .int .i32 c] w fun e w' => Took (p.take c.toNat) B w e w' := by
  rw [show p.take c.toNat = none by unfold PSt.take; rw [if_neg (by omega), if_neg (by omega), if_neg (by omega), hf, hs]; rfl]
  have k10 : w.cell? ⟨B, 10, none⟩ = some (.int .i64 4) := (hI.cell 10).trans (by rw [show (4 : Int) = (p.f : Int) by omega]; rfl)
  have k11 : w.cell? ⟨B, 11, none⟩ = some (.bool p.op) := hI.cell 11
  have ks : w.cell? ⟨B, 9, none⟩ = some (.bool true) := (hI.cell 9).trans (by rw [← hs]; rfl)
  have f11 := frozen_of_row w B 11 _ 66 hI
  have e1 := neB h1
  have e2 := neB h2
  have e3 := neB h3
  clear hI hs h1 h2 h3
  go_enter Tryd.func25, Tryd.ntmps25
  go_wp2_with fail
  go_quiet (fail)
  go_wp2
  go_ret
  exact ⟨rfl, ((Only.refl _ _).setCell 11 _).trans (Only.drewN _ _)⟩
set_option maxHeartbeats 1000000 in
theorem take_other4 (c : Int) (_h0 : 0 ≤ c) (h1 : c ≠ 32) (h2 : c ≠ 9) (h3 : c ≠ 42) (h4 : c ≠ 44) (h5 : c ≠ 45) (h6 : c < 48 ∨ 57 < c) (p : PSt) (B : Nat) (w : World) (hI : InP w B p) (hf : p.f = 4) (hs : p.st 4 = false) :
    Calls Tryd.prog 25 #[.pointer (some ⟨B, 0, none⟩), .int .i32 c] w fun e w' => Took (p.take c.toNat) B w e w' := by
  rw [show p.take c.toNat = none by unfold PSt.take; rw [if_neg (by omega), if_neg (by omega), if_neg (by omega), hf, hs, if_neg (by simp), if_neg (by omega), if_neg (by omega), if_neg (by omega)]]
  have k10 : w.cell? ⟨B, 10, none⟩ = some (.int .i64 4) := (hI.cell 10).trans (by rw [show (4 : Int) = (p.f : Int) by omega]; rfl)
  have k11 : w.cell? ⟨B, 11, none⟩ = some (.bool p.op) := hI.cell 11
  have ks : w.cell? ⟨B, 9, none⟩ = some (.bool false) := (hI.cell 9).trans (by rw [← hs]; rfl)
  have f11 := frozen_of_row w B 11 _ 66 hI
  have e1 := neB h1
  have e2 := neB h2
  have e3 := neB h3
  have e4 := neB h4
  have e5 := neB h5
  clear hI hs h1 h2 h3 h4 h5
  rcases h6 with h6 | h6
  · go_enter Tryd.func25, Tryd.ntmps25
    go_wp2_with fail
    go_quiet (fail)
    go_wp2
    go_ret
    exact ⟨rfl, ((Only.refl _ _).setCell 11 _).trans (Only.drewN _ _)⟩
  · have h7 : 48 ≤ c := by omega
    go_enter Tryd.func25, Tryd.ntmps25
    go_wp2_with fail
    go_quiet (fail)
    go_wp2
    go_ret
    exact ⟨rfl, ((Only.refl _ _).setCell 11 _).trans (Only.drewN _ _)⟩
set_option maxHeartbeats 1000000 in
theorem take_comma4 (p : PSt) (B : Nat) (w : World) (hT : HasT w) (hI : InP w B p) (hB : 4 ≤ B) (hp : p.Ok) (hf : p.f = 4) (hs : p.st 4 = false) :
    Calls Tryd.prog 25 #[.pointer (some ⟨B, 0, none⟩), .int .i32 44] w fun e w' => Took (p.take 44) B w e w' := by
  rw [show p.take 44 = p.opened.endI by unfold PSt.take; rw [if_neg (by omega), if_neg (by omega), if_neg (by omega), hf, hs, if_neg (by simp), if_pos rfl]]
  have k10 : w.cell? ⟨B, 10, none⟩ = some (.int .i64 4) := (hI.cell 10).trans (by rw [show (4 : Int) = (p.f : Int) by omega]; rfl)
  have k11 : w.cell? ⟨B, 11, none⟩ = some (.bool p.op) := hI.cell 11
  have ks : w.cell? ⟨B, 9, none⟩ = some (.bool false) := (hI.cell 9).trans (by rw [← hs]; rfl)
  have f11 := frozen_of_row w B 11 _ 66 hI
  have hp' := hp.opened (by omega)
  have hend : ∀ k, Calls Tryd.prog 51 #[.pointer (some ⟨B, 0, none⟩)] ((w.setCell ⟨B, 11, none⟩ (.bool true)).drewN k) _ := fun k => endI_took p.opened B _ ((hT.set hB _).drewN k) (hI.opened.drewN k) hB hp' (by show p.f < 5; omega)
  generalize p.opened.endI = o at *
  clear hI hs hT hp hp'
  go_enter Tryd.func25, Tryd.ntmps25
  go_wp2_with fail
  go_quiet (fail)
  go_wp2_with fail
  cases o with
  | none =>
    refine (hend _).mono ?_
    rintro e w1 ⟨rfl, hO⟩
    have HO := Hid.mk'' ((((Only.refl B w).setCell 11 (.bool true)).trans (Only.drewN _ _)).trans hO)
    clear hO hend
    go_wp2_with fail
    go_ret
    exact ⟨rfl, HO.out⟩
  | some q =>
    refine (hend _).mono ?_
    rintro e w1 ⟨⟨rfl, hI1⟩, hO⟩
    have HO := Hid.mk'' ((((Only.refl B w).setCell 11 (.bool true)).trans (Only.drewN _ _)).trans hO)
    have HI1 := Hid.mk'' hI1
    clear hO hend hI1
    go_wp2_with fail
    go_ret
    exact ⟨⟨rfl, HI1.out⟩, HO.out⟩
set_option maxHeartbeats 1000000 in
theorem take_dash4 (p : PSt) (B : Nat) (w : World) (_hT : HasT w) (hI : InP w B p) (_hB : 4 ≤ B) (hp : p.Ok) (hf : p.f = 4) (hs : p.st 4 = false) :
    Calls Tryd.prog 25 #[.pointer (some ⟨B, 0, none⟩), .int .i32 45] w fun e w' => Took (p.take 45) B w e w' := by
  rw [show p.take 45 = p.opened.dash by unfold PSt.take; rw [if_neg (by omega), if_neg (by omega), if_neg (by omega), hf, hs, if_neg (by simp), if_neg (by omega), if_pos rfl]]
  have k10 : w.cell? ⟨B, 10, none⟩ = some (.int .i64 4) := (hI.cell 10).trans (by rw [show (4 : Int) = (p.f : Int) by omega]; rfl)
  have k11 : w.cell? ⟨B, 11, none⟩ = some (.bool p.op) := hI.cell 11
  have ks : w.cell? ⟨B, 9, none⟩ = some (.bool false) := (hI.cell 9).trans (by rw [← hs]; rfl)
  have f11 := frozen_of_row w B 11 _ 66 hI
  have hp' := hp.opened (by omega)
  have hend : ∀ k, Calls Tryd.prog 52 #[.pointer (some ⟨B, 12, none⟩)] ((w.setCell ⟨B, 11, none⟩ (.bool true)).drewN k) _ := fun k => dash_took p.opened B _ (hI.opened.drewN k)
  generalize p.opened.dash = o at *
  clear hI hs _hT hp hp'
  go_enter Tryd.func25, Tryd.ntmps25
  go_wp2_with fail
  go_quiet (fail)
  go_wp2_with fail
  cases o with
  | none =>
    refine (hend _).mono ?_
    rintro e w1 ⟨rfl, hO⟩
    have HO := Hid.mk'' ((((Only.refl B w).setCell 11 (.bool true)).trans (Only.drewN _ _)).trans hO)
    clear hO hend
    go_wp2_with fail
    go_ret
    exact ⟨rfl, HO.out⟩
  | some q =>
    refine (hend _).mono ?_
    rintro e w1 ⟨⟨rfl, hI1⟩, hO⟩
    have HO := Hid.mk'' ((((Only.refl B w).setCell 11 (.bool true)).trans (Only.drewN _ _)).trans hO)
    have HI1 := Hid.mk'' hI1
    clear hO hend hI1
    go_wp2_with fail
    go_ret
    exact ⟨⟨rfl, HI1.out⟩, HO.out⟩
set_option maxHeartbeats 1000000 in
theorem take_digit4 (n : Nat) (hn : n ≤ 9) (p : PSt) (B : Nat) (w : World) (_hT : HasT w) (hI : InP w B p) (_hB : 4 ≤ B) (hp : p.Ok) (hf : p.f = 4) (hs : p.st 4 = false) :
    Calls Tryd.prog 25 #[.pointer (some ⟨B, 0, none⟩), .int .i32 (48 + n)] w fun e w' => Took (p.take (48 + n)) B w e w' := by
  rw [show p.take (48 + n) = p.opened.digit n by unfold PSt.take; rw [if_neg (by omega), if_neg (by omega), if_neg (by omega), hf, hs, if_neg (by simp), if_neg (by omega), if_neg (by omega), if_pos (by omega), Nat.add_sub_cancel_left]]
  have k10 : w.cell? ⟨B, 10, none⟩ = some (.int .i64 4) := (hI.cell 10).trans (by rw [show (4 : Int) = (p.f : Int) by omega]; rfl)
  have k11 : w.cell? ⟨B, 11, none⟩ = some (.bool p.op) := hI.cell 11
  have ks : w.cell? ⟨B, 9, none⟩ = some (.bool false) := (hI.cell 9).trans (by rw [← hs]; rfl)
  have f11 := frozen_of_row w B 11 _ 66 hI
  have hp' := hp.opened (by omega)
  have hend : ∀ k, Calls Tryd.prog 53 #[.pointer (some ⟨B, 12, none⟩), .int .i64 (48 + (n : Int) - 48)] ((w.setCell ⟨B, 11, none⟩ (.bool true)).drewN k) _ := fun k => by rw [show (48 : Int) + n - 48 = n by omega]; exact digit_took p.opened n B _ (hI.opened.drewN k) hp' hn
  generalize p.opened.digit n = o at *
  have e1 : ((48 : Int) + n == 32) = false := neB (by omega)
  have e2 : ((48 : Int) + n == 9) = false := neB (by omega)
  have e3 : ((48 : Int) + n == 42) = false := neB (by omega)
  have e4 : ((48 : Int) + n == 44) = false := neB (by omega)
  have e5 : ((48 : Int) + n == 45) = false := neB (by omega)
  have e6 : (48 : Int) ≤ 48 + n := by omega
  have e7 : (48 : Int) + n ≤ 57 := by omega
  clear hI hs _hT hp hp'
  go_enter Tryd.func25, Tryd.ntmps25
  go_wp2_with fail
  go_quiet (fail)
  go_wp2_with fail
  cases o with
  | none =>
    refine (hend _).mono ?_
    rintro e w1 ⟨rfl, hO⟩
    have HO := Hid.mk'' ((((Only.refl B w).setCell 11 (.bool true)).trans (Only.drewN _ _)).trans hO)
    clear hO hend
    go_wp2_with fail
    go_ret
    exact ⟨rfl, HO.out⟩
  | some q =>
    refine (hend _).mono ?_
    rintro e w1 ⟨⟨rfl, hI1⟩, hO⟩
    have HO := Hid.mk'' ((((Only.refl B w).setCell 11 (.bool true)).trans (Only.drewN _ _)).trans hO)
    have HI1 := Hid.mk'' hI1
    clear hO hend hI1
    go_wp2_with fail
    go_ret
    exact ⟨⟨rfl, HI1.out⟩, HO.out⟩
end Go.Proofs.YtdojpnhjnhecmaaDoor
