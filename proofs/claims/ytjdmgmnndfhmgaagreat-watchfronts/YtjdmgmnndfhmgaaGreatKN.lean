/- The chapter's example. -/
import Derived.Test.YtjdmgmnndfhmgaaGreatLW
namespace Go.Proofs.YtjdmgmnndfhmgaaGreat
open Go Go.RowKit
theorem wholeGo_rise (most : Int) (hm : 1 ≤ most) : ∀ (L : List Evd) (i : Nat), L.Pairwise (fun a b => a.1 < b.1) → wholeGo most L i i = min (i + L.length) (max i most.toNat)
  | [], i, _ => by simp [wholeGo]; omega
  | e :: L, i, h => by
    obtain ⟨h1, h2⟩ := List.pairwise_cons.1 h
    have hla : lastOf e L = true := by
      cases L with
      | nil => rfl
      | cons x r => have := h1 x (by simp); simp [lastOf]; omega
    unfold wholeGo
    rw [if_pos hla, List.length_cons]
    split
    · omega
    · rw [wholeGo_rise most hm L (i + 1) h2]
      omega
theorem wholeN_rise (most : Int) (hm : 1 ≤ most) (L : List Evd) (h : L.Pairwise (fun a b => a.1 < b.1)) : wholeN most L = min L.length most.toNat := by
  unfold wholeN
  rw [wholeGo_rise most hm L 0 h]
  omega
theorem rise_of {E : List Evd} (h : ∀ (i : Nat) (e : Evd), E[i]? = some e → e.1 = (i : Int) + 1) : E.Pairwise (fun a b => a.1 < b.1) := by
  rw [List.pairwise_iff_getElem]
  intro i j hi hj hij
  have h1 := h i _ (List.getElem?_eq_getElem hi)
  have h2 := h j _ (List.getElem?_eq_getElem hj)
  omega
theorem heard_p {E : List Evd} {k : ByteArray} {e : Evd} (h : evP E k e) (lo hi : ByteArray) : heard lo hi e = inR lo hi k := by
  obtain ⟨kv, rfl, hk⟩ := h
  unfold heard evKV
  rw [hk]
abbrev kA : ByteArray := ⟨#[97]⟩
def X0 : Int → Wd := fun _ => ⟨ByteArray.empty, ByteArray.empty, 1, false, [], 0⟩
theorem ptr_nil23 (b : Nat) (W : World) : (binOp BinOp.eql 24 (ptr b) (.pointer none)).run Tryz.prog W = .ok (.bool false) W := by kernel_rfl
theorem ptr_nil25 (b : Nat) (W : World) : (binOp BinOp.eql 31 (ptr b) (.pointer none)).run Tryz.prog W = .ok (.bool false) W := by kernel_rfl
set_option maxRecDepth 100000 in
set_option maxHeartbeats 4000000 in
theorem known_any (w : World) : Calls Tryz.prog 6 #[] w fun e w' => e = .returned (.bool true) ∧ Below w.heap.size w w' := by
  have hnew := ls_new w w (Below.refl _ _)
  have hn1 := ptr_nil23
  have hn2 := ptr_nil25
  go_enter Tryz.func6, Tryz.ntmps6
  go_wp2_with (first
    | (go_at_call 7; refine hnew.mono ?_; rintro e w1 ⟨s, rfl, HS⟩; have hhub := HS.out.hub X0)
    | (go_at_call 8; refine hhub.mono ?_; rintro e w2 ⟨h, rfl, HW⟩))
  clear hnew hhub HS
  go_loopg [3, 4] 3 (fun kx s3 s4 wr => ∃ (i : Nat) (E : List Evd), s3 = .int .i64 i ∧ kx + i = 3 ∧ i ≤ 2 ∧ E.length = i ∧ Hid (LW w wr s h E 0 0 [] X0 ∧ ∀ e ∈ E, heard kA ByteArray.empty e = true))
  case atStart => exact ⟨0, [], rfl, rfl, by omega, rfl, HW.out, fun e he => by cases he⟩
  case round =>
    obtain ⟨i, E, rfl, hkx, hi, hEl, HM⟩ := hrel
    have hElen : E.length ≤ 1000 := by omega
    have HEL := Hid.mkW hEl
    clear hEl
    by_cases hlt : i < 2
    · have hw := HM.out.1.write
      go_wp2_with (first
        | (go_at_call 11; refine hw.mono ?_; rintro e w3 ⟨b, rfl, HO⟩; have hp := HO.out.put hElen kA ⟨#[120]⟩ (by decide) (by decide))
        | (go_at_call 15; refine hp.mono ?_; rintro e w4 ⟨rfl, HP⟩; have hd := HP.out.done hElen)
        | (go_at_call 17; refine hd.mono ?_; rintro e w5 ⟨r, rfl, HD⟩))
      go_roundg (2 - i)
      case measure => omega
      case rel =>
        obtain ⟨ev, q1, q2⟩ := HD.out
        refine ⟨i + 1, E ++ [ev], by congr 1, by omega, by omega, by rw [List.length_append, HEL.out]; rfl, q1, fun e he => ?_⟩
        rcases List.mem_append.1 he with he | he
        · exact HM.out.2 e he
        · have he2 : e = ev := by simpa using he
          rw [he2, heard_p q2]
          decide
    · obtain rfl : i = 2 := by omega
      obtain ⟨H1, H2⟩ := HM.out
      have hwt := H1.watch (by omega) kA ByteArray.empty 1 (by decide) (by decide) (by decide)
      have e0 : ((0 : Nat) : Int) + 1 = 1 := rfl
      rw [e0] at hwt
      have hE2 := HEL.out
      have hrise := rise_of (fun i e hi => H1.revs hi)
      have hrv : ∀ e, E[1]? = some e → e.1 = 2 := fun e he => by have := H1.revs he; omega
      have HFIN : Hid (∀ w3, LW w w3 s h E 0 (0 + 1) ([] ++ [1]) (setX X0 1 ⟨kA, ByteArray.empty, max 1 1, false, [], 0⟩) → Calls Tryz.prog 23 #[ptr h, .int .i64 1, .int .i64 10] w3 fun e w' => ∃ (g c : Nat), e = .returned (.tuple #[.slice (some ⟨g, 0, none⟩) 2 c, .int .i64 0]) ∧ w'.cell? ⟨g, 8, none⟩ = some (.int .i64 2) ∧ 2 ≤ c ∧ Below w.heap.size w w') := fun w3 H3 => by
        have hp := H3.poll (id := 1) (by simp) 10 10 (by decide)
        have hx : setX X0 1 ⟨kA, ByteArray.empty, max 1 1, false, [], 0⟩ 1 = ⟨kA, ByteArray.empty, 1, false, [], 0⟩ := rfl
        rw [hx] at hp
        have hnews : newsE E ⟨kA, ByteArray.empty, 1, false, [], 0⟩ = E := by
          unfold newsE
          show (E.drop 0).filter _ = E
          rw [List.drop_zero, List.filter_eq_self]
          exact H2
        have htell : tellE E 0 ⟨kA, ByteArray.empty, 1, false, [], 0⟩ 10 = E := by
          unfold tellE
          dsimp only
          rw [if_neg (by decide), hnews, wholeN_rise 10 (by decide) E hrise, List.take_of_length_le (by omega)]
        rw [htell, hE2] at hp
        refine hp.mono ?_
        rintro e w' ⟨p, c, rfl, hq⟩
        obtain ⟨q1, q2⟩ := hq.out
        obtain ⟨ev, hev⟩ : ∃ ev, E[1]? = some ev := ⟨_, List.getElem?_eq_getElem (by omega)⟩
        obtain ⟨p', c', ep, hc, hh⟩ := q1
        obtain ⟨g, hg, _, hcell⟩ := hh 1 ev hev
        subst hg
        simp only [Value.slice.injEq] at ep
        obtain ⟨rfl, -, rfl⟩ := ep
        have h0 := hcell 0 (.int .i64 ev.1) (by omega) rfl
        rw [hrv ev hev] at h0
        exact ⟨g, c, rfl, h0, by omega, q2.below⟩
      clear H1 H2 HM hE2 hrise hrv e0 HEL
      go_wp2_with (first
        | (go_at_call 21; refine hwt.mono ?_; rintro e w3 ⟨rfl, HW3⟩; have hpl := HFIN.out w3 HW3.out)
        | (go_at_call 23; refine hpl.mono ?_; rintro e w4 ⟨g4, c4, rfl, hc4, hcc, hb4⟩; have HB4 := Hid.mkW hb4; clear hb4))
      go_ret
      exact ⟨rfl, HB4.out⟩
end Go.Proofs.YtjdmgmnndfhmgaaGreat
