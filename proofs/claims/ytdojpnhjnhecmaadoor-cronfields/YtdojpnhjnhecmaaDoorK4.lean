/- A rune is taken. -/
import Derived.Test.YtdojpnhjnhecmaaDoorK31
import Derived.Test.YtdojpnhjnhecmaaDoorK32
import Derived.Test.YtdojpnhjnhecmaaDoorK33
import Derived.Test.YtdojpnhjnhecmaaDoorK34
namespace Go.Proofs.YtdojpnhjnhecmaaDoor
open Go Go.RowKit
theorem endI_any (p : PSt) (B : Nat) (w : World) (hT : HasT w) (hI : InP w B p) (hB : 4 ≤ B) (hp : p.Ok) (hf : p.f < 5) (hi : p.itemOk = true) :
    Calls Tryd.prog 51 #[.pointer (some ⟨B, 0, none⟩)] w fun e w' => e = .returned (.bool true) ∧ (∃ q, p.endI = some q ∧ InP w' B q) ∧ Only B w w' := by
  have ha := hp.al p.f hf
  rcases f5 hf with h | h | h | h | h <;> rw [h] at ha
  · exact endI_0 p B w hT hI hB h ha hi
  · exact endI_1 p B w hT hI hB h ha hi
  · exact endI_2 p B w hT hI hB h ha hi
  · exact endI_3 p B w hT hI hB h ha hi
  · exact endI_4 p B w hT hI hB h ha hi
theorem endIno_any (p : PSt) (B : Nat) (w : World) (hT : HasT w) (hI : InP w B p) (hB : 4 ≤ B) (hf : p.f < 5) (hi : p.itemOk = false) :
    Calls Tryd.prog 51 #[.pointer (some ⟨B, 0, none⟩)] w fun e w' => e = .returned (.bool false) ∧ Only B w w' := by
  rcases f5 hf with h | h | h | h | h
  · exact endIno_0 p B w hT hI hB h hi
  · exact endIno_1 p B w hT hI hB h hi
  · exact endIno_2 p B w hT hI hB h hi
  · exact endIno_3 p B w hT hI hB h hi
  · exact endIno_4 p B w hT hI hB h hi
/-- What a call of a parser's method leaves, by what the document's parser makes of it. -/
def Took (o : Option PSt) (B : Nat) (w : World) (e : Ending) (w' : World) : Prop :=
  (match o with | some q => e = .returned (.bool true) ∧ InP w' B q | none => e = .returned (.bool false)) ∧ Only B w w'
theorem endF_took (p : PSt) (B : Nat) (w : World) (hT : HasT w) (hI : InP w B p) (hB : 4 ≤ B) (hp : p.Ok) (hf : p.f < 5) :
    Calls Tryd.prog 50 #[.pointer (some ⟨B, 0, none⟩)] w fun e w' => Took p.endF B w e w' := by
  have ha := hp.al p.f hf
  have key : (∃ q, p.endF = some q) ∧ (Calls Tryd.prog 50 #[.pointer (some ⟨B, 0, none⟩)] w fun e w' => e = .returned (.bool true) ∧ (∃ q, p.endF = some q ∧ InP w' B q) ∧ Only B w w') ∨
      p.endF = none ∧ (Calls Tryd.prog 50 #[.pointer (some ⟨B, 0, none⟩)] w fun e w' => e = .returned (.bool false) ∧ Only B w w') := by
    cases hs : p.st p.f with
    | true =>
      refine .inl ⟨⟨_, by unfold PSt.endF; rw [if_pos hs]⟩, ?_⟩
      rcases f5 hf with h | h | h | h | h <;> rw [h] at hs
      · exact endF_star0 p B w hT hI hB h hs
      · exact endF_star1 p B w hT hI hB h hs
      · exact endF_star2 p B w hT hI hB h hs
      · exact endF_star3 p B w hT hI hB h hs
      · exact endF_star4 p B w hT hI hB h hs
    | false =>
      cases hi : p.itemOk with
      | true =>
        refine .inl ⟨⟨_, by unfold PSt.endF PSt.endI; rw [if_neg (by simp [hs]), if_pos hi]; rfl⟩, ?_⟩
        rcases f5 hf with h | h | h | h | h <;> rw [h] at hs ha
        · exact endF_item0 p B w hT hI hB h ha hs hi
        · exact endF_item1 p B w hT hI hB h ha hs hi
        · exact endF_item2 p B w hT hI hB h ha hs hi
        · exact endF_item3 p B w hT hI hB h ha hs hi
        · exact endF_item4 p B w hT hI hB h ha hs hi
      | false =>
        refine .inr ⟨by unfold PSt.endF PSt.endI; rw [if_neg (by simp [hs]), if_neg (by simp [hi])]; rfl, ?_⟩
        rcases f5 hf with h | h | h | h | h <;> rw [h] at hs
        · exact endF_no0 p B w hT hI hB h hs hi
        · exact endF_no1 p B w hT hI hB h hs hi
        · exact endF_no2 p B w hT hI hB h hs hi
        · exact endF_no3 p B w hT hI hB h hs hi
        · exact endF_no4 p B w hT hI hB h hs hi
  rcases key with ⟨⟨q, hq⟩, h⟩ | ⟨hq, h⟩
  · refine h.mono ?_
    rintro e w' ⟨rfl, ⟨q', hq', hI'⟩, hO⟩
    rw [hq'] at hq
    obtain rfl := Option.some.inj hq
    rw [hq']
    exact ⟨⟨rfl, hI'⟩, hO⟩
  · refine h.mono ?_
    rintro e w' ⟨rfl, hO⟩
    rw [hq]
    exact ⟨rfl, hO⟩
theorem endI_took (p : PSt) (B : Nat) (w : World) (hT : HasT w) (hI : InP w B p) (hB : 4 ≤ B) (hp : p.Ok) (hf : p.f < 5) :
    Calls Tryd.prog 51 #[.pointer (some ⟨B, 0, none⟩)] w fun e w' => Took p.endI B w e w' := by
  cases hi : p.itemOk with
  | true =>
    refine (endI_any p B w hT hI hB hp hf hi).mono ?_
    rintro e w' ⟨rfl, ⟨q, hq, hI'⟩, hO⟩
    rw [hq]
    exact ⟨⟨rfl, hI'⟩, hO⟩
  | false =>
    refine (endIno_any p B w hT hI hB hf hi).mono ?_
    rintro e w' ⟨rfl, hO⟩
    rw [show p.endI = none by unfold PSt.endI; rw [if_neg (by simp [hi])]]
    exact ⟨rfl, hO⟩
theorem dash_took (p : PSt) (B : Nat) (w : World) (hI : InP w B p) : Calls Tryd.prog 52 #[.pointer (some ⟨B, 12, none⟩)] w fun e w' => Took p.dash B w e w' := by
  cases hd : p.rg || p.dg == 0 with
  | true =>
    refine (dash_no p B w hI hd).mono ?_
    rintro e w' ⟨rfl, hO⟩
    rw [show p.dash = none by unfold PSt.dash; rw [if_pos hd]]
    exact ⟨rfl, hO⟩
  | false =>
    refine (dash_yes p B w hI hd).mono ?_
    rintro e w' ⟨rfl, hI', hO⟩
    unfold PSt.dash
    rw [hd]
    exact ⟨⟨rfl, hI'⟩, hO⟩
theorem digit_took (p : PSt) (n B : Nat) (w : World) (hI : InP w B p) (hp : p.Ok) (hn : n ≤ 9) : Calls Tryd.prog 53 #[.pointer (some ⟨B, 12, none⟩), .int .i64 n] w fun e w' => Took (p.digit n) B w e w' := by
  have h1 := hp.nm100
  have h2 := hp.dg
  refine (digit_any p n B w hI (by omega) (by omega) hn).mono ?_
  rintro e w' ⟨rfl, hI', hO⟩
  unfold PSt.digit
  by_cases hd : p.dg + 1 ≤ 2
  · rw [if_pos hd]
    exact ⟨⟨by simp [hd], hI'⟩, hO⟩
  · rw [if_neg hd]
    exact ⟨by simp [hd], hO⟩
end Go.Proofs.YtdojpnhjnhecmaaDoor
