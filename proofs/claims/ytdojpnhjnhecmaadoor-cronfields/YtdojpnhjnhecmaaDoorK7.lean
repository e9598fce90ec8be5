/- Parse. -/
import Derived.Test.YtdojpnhjnhecmaaDoorK6
import Derived.Test.YtdojpnhjnhecmaaDoorK6e
import Derived.Laws.RangeString
import Derived.Laws.RangeAny
namespace Go.Proofs.YtdojpnhjnhecmaaDoor
open Go Go.RowKit
/-- Any rune. -/
theorem take_took (c : Int) (h0 : 0 ≤ c) (p : PSt) (B : Nat) (w : World) (hT : HasT w) (hI : InP w B p) (hB : 4 ≤ B) (hp : p.Ok) :
    Calls Tryd.prog 25 #[.pointer (some ⟨B, 0, none⟩), .int .i32 c] w fun e w' => Took (p.take c.toNat) B w e w' := by
  by_cases hb : c = 32 ∨ c = 9
  · exact take_blank c hb p B w hT hI hB hp
  by_cases hf : p.f = 5
  · exact take_full c h0 (by omega) (by omega) p B w hI hf
  have hf5 : p.f < 5 := by have := hp.f; omega
  by_cases hs : c = 42
  · subst hs
    rcases f5 hf5 with h | h | h | h | h
    · exact take_star0 p B w hI h
    · exact take_star1 p B w hI h
    · exact take_star2 p B w hI h
    · exact take_star3 p B w hI h
    · exact take_star4 p B w hI h
  cases hst : p.st p.f with
  | true =>
    rcases f5 hf5 with h | h | h | h | h <;> rw [h] at hst
    · exact take_starred0 c h0 (by omega) (by omega) hs p B w hI h hst
    · exact take_starred1 c h0 (by omega) (by omega) hs p B w hI h hst
    · exact take_starred2 c h0 (by omega) (by omega) hs p B w hI h hst
    · exact take_starred3 c h0 (by omega) (by omega) hs p B w hI h hst
    · exact take_starred4 c h0 (by omega) (by omega) hs p B w hI h hst
  | false =>
    by_cases h44 : c = 44
    · subst h44
      rcases f5 hf5 with h | h | h | h | h <;> rw [h] at hst
      · exact take_comma0 p B w hT hI hB hp h hst
      · exact take_comma1 p B w hT hI hB hp h hst
      · exact take_comma2 p B w hT hI hB hp h hst
      · exact take_comma3 p B w hT hI hB hp h hst
      · exact take_comma4 p B w hT hI hB hp h hst
    by_cases h45 : c = 45
    · subst h45
      rcases f5 hf5 with h | h | h | h | h <;> rw [h] at hst
      · exact take_dash0 p B w hT hI hB hp h hst
      · exact take_dash1 p B w hT hI hB hp h hst
      · exact take_dash2 p B w hT hI hB hp h hst
      · exact take_dash3 p B w hT hI hB hp h hst
      · exact take_dash4 p B w hT hI hB hp h hst
    by_cases hd : 48 ≤ c ∧ c ≤ 57
    · obtain ⟨n, rfl⟩ : ∃ n : Nat, c = 48 + n := ⟨(c - 48).toNat, by omega⟩
      have hn : n ≤ 9 := by omega
      rw [show ((48 : Int) + n).toNat = 48 + n by omega]
      rcases f5 hf5 with h | h | h | h | h <;> rw [h] at hst
      · exact take_digit0 n hn p B w hT hI hB hp h hst
      · exact take_digit1 n hn p B w hT hI hB hp h hst
      · exact take_digit2 n hn p B w hT hI hB hp h hst
      · exact take_digit3 n hn p B w hT hI hB hp h hst
      · exact take_digit4 n hn p B w hT hI hB hp h hst
    · rcases f5 hf5 with h | h | h | h | h <;> rw [h] at hst
      · exact take_other0 c h0 (by omega) (by omega) hs h44 h45 (by omega) p B w hI h hst
      · exact take_other1 c h0 (by omega) (by omega) hs h44 h45 (by omega) p B w hI h hst
      · exact take_other2 c h0 (by omega) (by omega) hs h44 h45 (by omega) p B w hI h hst
      · exact take_other3 c h0 (by omega) (by omega) hs h44 h45 (by omega) p B w hI h hst
      · exact take_other4 c h0 (by omega) (by omega) hs h44 h45 (by omega) p B w hI h hst
end Go.Proofs.YtdojpnhjnhecmaaDoor
