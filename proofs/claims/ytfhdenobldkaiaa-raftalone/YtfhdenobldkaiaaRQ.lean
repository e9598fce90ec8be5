/- The only voter has its vote; it stands. -/
import Derived.Test.YtfhdenobldkaiaaRP
namespace Go.Proofs.Ytfhdenobldkaiaa
open Go Go.RowKit
/-- How an element of the set of votes reads. -/
def RS (v : Value) : Option (DataW Unit × List MemPlace) :=
  match v with
  | .agg ⟨[]⟩ => some (.agg [], [])
  | _ => none
theorem keyed3 : Maps.Keyed Try.prog 3 := Maps.int_keyed Try.underlying3
theorem key_int {n : Int} (h : -9223372036854775808 ≤ n ∧ n ≤ 9223372036854775807) : keyOf Try.prog 3 (.int .i64 n) = some (.int .i64 n) := by
  have : (Lit.int .i64 n).wf = true := by simp [Lit.wf, IntKind.min, IntKind.max, IntKind.bits, IntKind.signed]; omega
  simp [keyOf, Try.underlying3, mapKey, this]
theorem vote_run {w : World} {b : Nat} (hm : w.ownsMap Try.prog 3 RS b 0 (.map [])) {id : Int} (hid : 0 ≤ id ∧ id < 1073741824) :
    ∃ w', (Instr.mapUpdate 158 (.map (some b)) (.int .i64 id) (.agg #[])).run Try.prog w = .ok () w' ∧ (∀ ty, (Builtin.len_ #[158] ty #[.map (some b)]).run Try.prog w' = .ok (iv 1) w') ∧ Upd w w' (fun k => k = b) := by
  obtain ⟨w', hrun, h1, h2⟩ := hm.update keyed3 Try.underlying158 (by decide) (key_int (n := id) ⟨by omega, by omega⟩) (val := .agg #[]) (d := .agg []) (ps := []) rfl
  refine ⟨w', hrun, fun ty => ?_, (Upd.ofGrown h2).mono (fun k _ e => Option.some.inj e)⟩
  have := h1.len Try.underlying158 ty
  simpa [Maps.size_eq, DataW.put, DataW.insert] using this
theorem ta_stand (l : Nat) (W : World) : (Instr.typeAssert (.iface 157 (ptr l)) 60 157 false).run Try.prog W = .ok (ptr l) W := by kernel_rfl
set_option maxRecDepth 100000 in
set_option maxHeartbeats 1000000 in
theorem count_one {w : World} {d n s mb : Nat} {lim : Int} {a : Nd} {xs : List Value} (h : Nod w d a) (hv : w.ownsRow 0 3 1 a.voters 1 [iv a.id]) (he : w.ownsRow 0 43 4 a.ents n xs) (hr : a.role = .iface 157 (ptr s)) (hs : w.heap[s]? = some (.cells #[iv 0, iv lim, .map (some mb)] 160 (0, 0))) (hm : w.ownsMap Try.prog 3 RS mb 0 (.map [])) (hid : 0 ≤ a.id ∧ a.id < 1073741824) (hxs : xs.length = n * 4) (hn : n ≤ 900) (hc : a.commit = n) (ho : a.old ≤ n) :
    Calls Try.prog 106 #[ptr d, iv a.id] w fun e w' => e = .returned (.tuple #[]) ∧ Led w w' d n a xs (fun z => z = d ∨ z = mb ∨ a.ents.ownBlock = some z) := by
  have c17 : w.cell? ⟨d, 17, none⟩ = some (.iface 157 (ptr s)) := by have := h.cell 17 (u := a.role) rfl; rwa [hr] at this
  have c2 : w.cell? ⟨s, 2, none⟩ = some (.map (some mb)) := cell_of_row _ _ _ _ _ _ hs
  have hta := ta_stand s
  obtain ⟨W1, hrun, hlen, u1⟩ := vote_run hm hid
  have hmb : ∀ k r t, w.heap[k]? = some (.cells r t (0, 0)) → ¬ k = mb := fun k r t hk e => by
    obtain ⟨es, clock, hb, _⟩ := hm
    rw [← e, hk] at hb
    cases hb
  have ownmb : ∀ {B e s : Nat} {v : Value} {n : Nat} {xs : List Value}, w.ownsRow B e s v n xs → ∀ k, v.ownBlock = some k → ¬ k = mb := fun ho k hk => by
    rcases ho.2 with ⟨rfl, _⟩ | ⟨g, cap, cur, rfl, hb, hh, _⟩
    · cases hk
    · cases hk
      exact hmb _ _ _ hh
  have n1 := h.upd u1 (hmb _ _ _ h)
  have v1 := ownsRow_upd hv u1 (ownmb hv)
  have e1 := ownsRow_upd he u1 (ownmb he)
  have hmost := most_one n1 (One.of v1)
  have hlead := lead_one n1 v1 e1 hxs hn hc ho
  have HU := Hid.mkW u1
  clear h hv he hr hs hm hid hc ho hmb ownmb n1 v1 e1 u1
  go_enter Try.func106, Try.ntmps106
  go_wp2_with (first
    | (go_at_call 107; refine hmost.mono ?_; rintro e w' ⟨rfl, hw'⟩; obtain rfl := hw'.symm)
    | (go_at_call 108; refine hlead.mono ?_; rintro e w3 ⟨rfl, HL⟩; have HLL := Hid.mkW HL; clear HL))
  first | go_end0 | refine bodyPost_ret (results_none rfl _ _ _) rfl ?_
  obtain ⟨l, pm, v', a1, a2, a3, a4⟩ := HLL.out.ex
  have hz := HU.out.size
  refine ⟨rfl, ⟨l, pm, v', a1, a2, by omega, a4.imp id (fun ⟨z, e, hz'⟩ => ⟨z, e, by omega⟩)⟩, (HU.out.mono (fun _ _ e => .inr (.inl e))).trans HLL.out.upd (fun z _ e => e.elim .inl (fun e => .inr (.inr e)))⟩
end Go.Proofs.Ytfhdenobldkaiaa
