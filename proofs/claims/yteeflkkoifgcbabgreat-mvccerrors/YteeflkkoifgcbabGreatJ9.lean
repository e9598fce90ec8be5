/- Index.drop, where the root is a leaf. -/
import Derived.Test.YteeflkkoifgcbabGreatGRJ
import Derived.Test.YteeflkkoifgcbabGreatEB
namespace Go.Proofs.YteeflkkoifgcbabGreat
open Go Go.RowKit

theorem Step.beyond {w w' : World} {F F' : List Nat} {x : Nat} (h : Step w w' F F') (hl : x < w.heap.size) (hx : x ∉ F) : x ∉ F' := fun hm => (h.sub x hm).elim hx (fun h => by omega)
theorem Step.with {w w' : World} {F F' : List Nat} {x : Nat} (h : Step w w' F F') (hl : x < w.heap.size) (hx : x ∉ F) : Step w w' (x :: F) (x :: F') := by
  refine ⟨⟨h.upd.os, h.upd.tape, h.upd.output, h.upd.size, fun k hk hn => h.upd.block k hk (fun hm => hn (List.mem_cons_of_mem _ hm))⟩, List.nodup_cons.2 ⟨h.beyond hl hx, h.nd⟩, fun k hk => ?_, fun k hk => ?_⟩
  · rcases List.mem_cons.1 hk with rfl | hk
    · exact .inl (by simp)
    · exact (h.sub k hk).imp (List.mem_cons_of_mem _) id
  · rcases List.mem_cons.1 hk with rfl | hk
    · exact Nat.lt_of_lt_of_le hl h.upd.size
    · exact h.lt k hk
set_option maxRecDepth 100000 in
set_option maxHeartbeats 1000000 in
theorem idrop_leaf {w : World} {x b n : Nat} {iv kv : Value} {its : List Itm} (hx : xrow w x (some ⟨b, 0, none⟩) n) (hN : Nod w b iv kv its []) (hs : Asc (keysI its)) (hl : its.length ≤ 100) (key : ByteArray) (hp : plc its key < its.length) (hxb : x ∉ nf b iv kv) (hn1 : 1 ≤ n) (hn2 : n ≤ 1000000) :
    Calls Tryz.prog 40 #[ptr x, .string key] w fun e w' => e = .returned (.tuple #[]) ∧ ∃ iv', Nod w' b iv' kv (its.take (plc its key) ++ its.drop (plc its key + 1)) [] ∧ xrow w' x (if its.length = 1 then none else some ⟨b, 0, none⟩) ((n : Int) - 1) ∧ Step w w' (x :: nf b iv kv) (x :: nf b iv' kv) := by
  have hd := drop_leaf hN hs hl key hp
  have hlen : (its.take (plc its key) ++ its.drop (plc its key + 1)).length = its.length - 1 := by simp; omega
  generalize its.take (plc its key) ++ its.drop (plc its key + 1) = its' at *
  have hge : 1 ≤ its.length := by omega
  have c0 := hx.c0
  have hxl := hx.lt
  have hfl := hN.foot_lt
  have hnd := hN.nd
  have HX : Hid (∀ w1, Upd w w1 (fun k => k ∈ nf b iv kv) → xrow w1 x (some ⟨b, 0, none⟩) n) := fun w1 hu => (hu.block x hxl hxb).trans hx
  clear hN hs hp hx
  have hx1 : x ∉ nf b iv kv := hxb
  by_cases h1 : its.length = 1
  · rw [if_pos h1]
    obtain rfl : its' = [] := List.eq_nil_of_length_eq_zero (by omega)
    clear hlen
    go_enter Tryz.func40, Tryz.ntmps40
    go_wp2_with (first | (go_at_call 63; refine hd.mono ?_; rintro e w1 ⟨rfl, iv', hN', hS'⟩; have X1 := Hid.mk'' (HX.out _ hS'.upd); have a0 := X1.out.c0; have a1 := X1.out.c1; have a2 := X1.out.free 0; have a3 := X1.out.free 1; have nb := hN'.c0; obtain ⟨ip, ic, hiv', _, _⟩ := owns_form hN'.items; rw [hiv'] at nb; have hkid := kid_none hN' 0) | (go_at_call 64; refine hkid.mono ?_; rintro e w2 ⟨rfl, rfl⟩))
    first | go_end0 | refine bodyPost_ret (results_none rfl _ _ _) rfl ?_
    have hxn : x ∉ nf b iv' kv := hS'.beyond hxl hxb
    have hnd2 : (x :: nf b iv' kv).Nodup := List.nodup_cons.2 ⟨hxn, hN'.nd⟩
    have S1 := hS'.with hxl hxb
    refine ⟨rfl, iv', hN'.agree (fun k hk => ?_), (X1.out.setRoot none).setSize _, (S1.trans (Step.x (S1.lt x (by simp)) hnd2 hN'.foot_lt)).trans (Step.x (by rw [size_setCell]; exact S1.lt x (by simp)) hnd2 (fun k hk => by rw [size_setCell]; exact hN'.foot_lt k hk))⟩
    have hne : k ≠ x := fun e => hxn (e ▸ hk)
    rw [heap_setCell_other _ _ _ _ _ hne, heap_setCell_other _ _ _ _ _ hne]
  · rw [if_neg h1]
    have hpos : 0 < its'.length := by omega
    go_enter Tryz.func40, Tryz.ntmps40
    go_wp2_with (go_at_call 63; refine hd.mono ?_; rintro e w1 ⟨rfl, iv', hN', hS'⟩; have X1 := Hid.mk'' (HX.out _ hS'.upd); have a0 := X1.out.c0; have a1 := X1.out.c1; have a2 := X1.out.free 0; have a3 := X1.out.free 1; have nb := hN'.c0; obtain ⟨ip, ic, hiv', _, _⟩ := owns_form hN'.items; rw [hiv'] at nb)
    first | go_end0 | refine bodyPost_ret (results_none rfl _ _ _) rfl ?_
    have hxn : x ∉ nf b iv' kv := hS'.beyond hxl hxb
    have hnd2 : (x :: nf b iv' kv).Nodup := List.nodup_cons.2 ⟨hxn, hN'.nd⟩
    have S1 := hS'.with hxl hxb
    refine ⟨rfl, iv', hN'.agree (fun k hk => ?_), X1.out.setSize _, S1.trans (Step.x (S1.lt x (by simp)) hnd2 hN'.foot_lt)⟩
    have hne : k ≠ x := fun e => hxn (e ▸ hk)
    rw [heap_setCell_other _ _ _ _ _ hne]
end Go.Proofs.YteeflkkoifgcbabGreat
