/- What records say: states of a log, whatever their entries are. -/
import Derived.Test.YtecnlfalpfbobaaGreatDoorWP
namespace Go.Proofs.YtecnlfalpfbobaaGreatDoor
open Go Go.RowKit
class Ix (α : Type) where
  ix : α → Int
  tm : α → Int
export Ix (ix tm)
instance : Ix En := ⟨En.i, En.t⟩
structure St (α β : Type) where
  ht : Int
  hv : Int
  hc : Int
  mi : Int
  mt : Int
  vs : β
  es : List α
section
variable {α β γ δ : Type} [Ix α] [Ix γ]
def St.last (s : St α β) : Int := s.mi + s.es.length
/-- Where the entry of an index stands, or would stand. -/
def St.pos (s : St α β) (i : Int) : Nat := min s.es.length (i - s.mi - 1).toNat
def St.found (s : St α β) (i : Int) : Bool := decide (s.mi < i ∧ i ≤ s.mi + s.es.length)
def St.sayE (s : St α β) (e : α) : St α β :=
  if ix e = s.mi + s.pos (ix e) + 1 then { s with es := s.es.take (s.pos (ix e)) ++ [e] } else { s with es := s.es.take (s.pos (ix e)) }
/-- Is there an entry of this index, with this term? -/
def St.meets (s : St α β) (i t : Int) : Bool := s.found i && ((s.es[s.pos i]?).map tm == some t)
def St.sayB (s : St α β) (i t : Int) (vs : β) : St α β :=
  if s.meets i t then ⟨s.ht, s.hv, s.hc, i, t, vs, s.es.drop (s.pos i + 1)⟩
  else if s.mi = i ∧ s.mt = t then ⟨s.ht, s.hv, s.hc, i, t, vs, s.es⟩ else ⟨s.ht, s.hv, s.hc, i, t, vs, []⟩
def St.say (s : St α β) : RecG α β → St α β
  | .hard t v c => { s with ht := t, hv := v, hc := c }
  | .entry e => s.sayE e
  | .base i t vs => s.sayB i t vs
def St.says (s : St α β) (rs : List (RecG α β)) : St α β := rs.foldl St.say s
def blankOf (nil : β) : St α β := ⟨0, -1, 0, 0, 0, nil, []⟩
def RecG.isBase : RecG α β → Bool
  | .base _ _ _ => true
  | _ => false
def baseFirst : List (RecG α β) → Bool
  | [] => false
  | r :: _ => r.isBase
def St.sayFile (nil : β) (s : St α β) (rs : List (RecG α β)) : St α β := (if baseFirst rs then blankOf nil else s).says rs
theorem sayFile_nil (nil : β) (s : St α β) : s.sayFile nil [] = s := rfl
/-- What holds of whatever records say. -/
structure St.ok (s : St α β) : Prop where
  at_ : ∀ j (h : j < s.es.length), ix s.es[j] = s.mi + 1 + j
  top : s.mi + s.es.length ≤ 9223372036854775807
  bot : -9223372036854775808 ≤ s.mi
end
theorem St.pos_le {α β : Type} (s : St α β) (i : Int) : s.pos i ≤ s.es.length := by unfold St.pos; omega
theorem take_pos {α β : Type} (s : St α β) (i : Int) : (s.es.take (s.pos i)).length = s.pos i := by rw [List.length_take]; have := s.pos_le i; omega
theorem blank_ok {α β : Type} [Ix α] (nil : β) : (blankOf nil : St α β).ok := ⟨fun j h => by simp [blankOf] at h, by simp [blankOf], by simp [blankOf]⟩
section
variable {α β γ δ : Type} [Ix α] [Ix γ]
theorem St.ok.sayE {s : St α β} (h : s.ok) (e : α) (he : ix e ≤ 9223372036854775807) : (s.sayE e).ok := by
  have hp := s.pos_le (ix e)
  have hl := take_pos s (ix e)
  have ha := h.at_; have ht := h.top; have hb := h.bot
  unfold St.sayE
  split
  · rename_i hc
    refine ⟨fun j hj => ?_, ?_, hb⟩
    · simp only [List.length_append, hl, List.length_singleton] at hj ⊢
      by_cases hj2 : j < s.pos (ix e)
      · rw [List.getElem_append_left (by omega), List.getElem_take]; exact ha j (by omega)
      · rw [List.getElem_append_right (by omega)]; simp only [List.getElem_singleton]; omega
    · simp only [List.length_append, hl, List.length_singleton]; omega
  · refine ⟨fun j hj => ?_, ?_, hb⟩
    · simp only [hl] at hj ⊢; rw [List.getElem_take]; exact ha j (by omega)
    · simp only [hl]; omega
theorem St.ok.sayB {s : St α β} (h : s.ok) (i t : Int) (vs : β) (hi : i64 i) : (s.sayB i t vs).ok := by
  have hp := s.pos_le i
  have ha := h.at_; have ht := h.top; have hb := h.bot
  unfold i64 at hi
  unfold St.sayB
  split
  · rename_i hm
    simp only [St.meets, St.found, Bool.and_eq_true, decide_eq_true_eq] at hm
    have hpe : s.pos i = (i - s.mi - 1).toNat := by unfold St.pos; omega
    refine ⟨fun j hj => ?_, ?_, hi.1⟩
    · simp only [List.length_drop] at hj ⊢
      rw [List.getElem_drop, ha _ (by omega)]
      omega
    · simp only [List.length_drop]; omega
  · split
    · rename_i hc
      exact ⟨by rw [← hc.1]; exact ha, by rw [← hc.1]; exact ht, by rw [← hc.1]; exact hb⟩
    · exact ⟨fun j hj => by simp at hj, by simpa using hi.2, hi.1⟩
def RecG.fits : RecG α β → Prop
  | .hard _ _ _ => True
  | .entry e => ix e ≤ 9223372036854775807
  | .base i _ _ => i64 i
theorem St.ok.say {s : St α β} (h : s.ok) : ∀ {r : RecG α β}, r.fits → (s.say r).ok
  | .hard _ _ _, _ => ⟨h.at_, h.top, h.bot⟩
  | .entry e, he => h.sayE e he
  | .base i t vs, hi => h.sayB i t vs hi
theorem St.ok.says : ∀ {rs : List (RecG α β)} {s : St α β}, s.ok → (∀ r ∈ rs, r.fits) → (s.says rs).ok
  | [], _, h, _ => h
  | r :: rs, s, h, hr => by
    show ((s.say r).says rs).ok
    exact St.ok.says (h.say (hr r (by simp))) (fun x hx => hr x (by simp [hx]))
theorem St.ok.sayFile {nil : β} {s : St α β} {rs : List (RecG α β)} (h : s.ok) (hr : ∀ r ∈ rs, r.fits) : (s.sayFile nil rs).ok := by
  unfold St.sayFile
  split
  · exact (blank_ok nil).says hr
  · exact h.says hr
theorem says_snoc (s : St α β) (rs : List (RecG α β)) (r : RecG α β) : s.says (rs ++ [r]) = (s.says rs).say r := by simp [St.says]
theorem says_app (s : St α β) (rs qs : List (RecG α β)) : s.says (rs ++ qs) = (s.says rs).says qs := by simp [St.says]

/-! ### The same, of what the entries stand for -/
variable (f : α → γ) (g : β → δ)
def St.map (s : St α β) : St γ δ := ⟨s.ht, s.hv, s.hc, s.mi, s.mt, g s.vs, s.es.map f⟩
def RecG.map : RecG α β → RecG γ δ
  | .hard t v c => .hard t v c
  | .entry e => .entry (f e)
  | .base i t vs => .base i t (g vs)
variable {f g}
end
theorem pos_map {α β γ δ : Type} {f : α → γ} {g : β → δ} (s : St α β) (i : Int) : (s.map f g).pos i = s.pos i := by simp [St.pos, St.map]
theorem isBase_map {α β γ δ : Type} {f : α → γ} {g : β → δ} (r : RecG α β) : (r.map f g).isBase = r.isBase := by cases r <;> rfl
theorem baseFirst_map {α β γ δ : Type} {f : α → γ} {g : β → δ} (rs : List (RecG α β)) : baseFirst (rs.map (RecG.map f g)) = baseFirst rs := by cases rs with | nil => rfl | cons r _ => exact isBase_map r
section
variable {α β γ δ : Type} [Ix α] [Ix γ] {f : α → γ} {g : β → δ}
theorem say_map (hi : ∀ e, ix (f e) = ix e) (ht : ∀ e, tm (f e) = tm e) (s : St α β) : ∀ r : RecG α β, (s.say r).map f g = (s.map f g).say (r.map f g)
  | .hard t v c => rfl
  | .entry e => by
    simp only [St.say, RecG.map, St.sayE, pos_map, hi]
    have : (s.map f g).mi = s.mi := rfl
    rw [this]
    split <;> simp [St.map]
  | .base i t vs => by
    have hm : (s.map f g).meets i t = s.meets i t := by
      unfold St.meets St.found
      rw [pos_map]
      simp only [St.map, List.length_map, List.getElem?_map, Option.map_map]
      congr 3
      funext e
      exact ht e
    simp only [St.say, RecG.map, St.sayB, hm, pos_map]
    have e1 : (s.map f g).mi = s.mi := rfl
    have e2 : (s.map f g).mt = s.mt := rfl
    rw [e1, e2]
    split
    · simp [St.map]
    · split <;> simp [St.map]
theorem says_map (hi : ∀ e, ix (f e) = ix e) (ht : ∀ e, tm (f e) = tm e) : ∀ (rs : List (RecG α β)) (s : St α β), (s.says rs).map f g = (s.map f g).says (rs.map (RecG.map f g))
  | [], _ => rfl
  | r :: rs, s => by
    show ((s.say r).says rs).map f g = ((s.map f g).say (r.map f g)).says (rs.map (RecG.map f g))
    rw [says_map hi ht rs, say_map hi ht]
theorem sayFile_map (hi : ∀ e, ix (f e) = ix e) (ht : ∀ e, tm (f e) = tm e) (nil : β) (s : St α β) (rs : List (RecG α β)) : (s.sayFile nil rs).map f g = (s.map f g).sayFile (g nil) (rs.map (RecG.map f g)) := by
  unfold St.sayFile
  rw [says_map hi ht, baseFirst_map]
  congr 1
  split <;> rfl
end
end Go.Proofs.YtecnlfalpfbobaaGreatDoor
