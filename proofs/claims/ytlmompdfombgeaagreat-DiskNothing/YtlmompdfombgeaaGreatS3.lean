import Derived.Test.YtlmompdfombgeaaGreatS2
namespace Go.Proofs.YtlmompdfombgeaaGreat
open Go.RowKit Go.MapKept

section
variable {B : Nat} {w : World} {d L Nb Fb p : Nat} {nm : ByteArray} {room limit : Int} {sf : Array MapEntry} {st rd : Int} {safe : List Int} {cs : List Chg} {data : List Int} {m t : Nat} {peak : Int} {nn : Nat} {xs : List Value} {vn k1 k2 : Value} {pend : List Value} {vs vp vd vf : Value} {cL bL cN bN cF : Nat}

set_option maxRecDepth 100000 in
set_option maxHeartbeats 1600000 in
theorem sync1_one (h : One B w d L Nb Fb p nm room limit sf st rd safe cs data (frs m t) peak nn xs vn k1 k2 pend vs vp vd vf cL bL cN bN cF) (hB : B ≤ w.heap.size) (hl : data.length = m + t) (hm : m ≤ safe.length) (hpre : data.take m = safe.take m) (l2 : data.length ≤ 100000000) (l3 : safe.length ≤ 100000000) :
    Calls Tryz.prog 83 #[.pointer (some ⟨p, 0, none⟩)] w fun x w' => x = .returned (.int .i64 0) ∧ ∃ vs', One B w' d L Nb Fb p nm room limit sf st rd data [] data (frs (m + t) 0) data.length nn xs vn k1 k2 [] vs' (.slice none 0 0) vd vf cL bL cN bN cF ∧ Below B w w' := by
  have H := hid h
  have HC := hid (sync_any B p w safe pend data m t peak vs vp vd vf h.file hB hl hm hpre l2 l3)
  clear h
  go_enter Tryz.func83, Tryz.ntmps83
  go_wp2_with (
    go_at_call 84
    refine HC.out.mono ?_
    rintro e w2 ⟨rfl, vs', hf, hk⟩
    have HX := hid (And.intro hf hk)
    clear hf hk)
  go_ret
  obtain ⟨hf, hk⟩ := HX.out
  obtain ⟨q1, q2⟩ := H.out.change (hk.mono (by
    rintro i _ (e | e | e)
    · exact .inl e
    · exact .inr (.inl e)
    · exact .inr (.inr (.inr (.inr e))))) hf (Pends.nil _ _ _ _)
  exact ⟨rfl, vs', q1, q2⟩

set_option maxRecDepth 100000 in
set_option maxHeartbeats 1600000 in
theorem sync_one (h : One B w d L Nb Fb p nm room limit sf st rd safe cs data (frs m t) peak nn xs vn k1 k2 pend vs vp vd vf cL bL cN bN cF) (hB : B ≤ w.heap.size) (hl : data.length = m + t) (hm : m ≤ safe.length) (hpre : data.take m = safe.take m) (l2 : data.length ≤ 100000000) (l3 : safe.length ≤ 100000000) (hok : nmOK nm = true) (hs : nm.size ≤ maxLen) (hst0 : 0 ≤ st) (hst : st ≤ 1000000) :
    Calls Tryz.prog 23 #[.pointer (some ⟨d, 0, none⟩), .string nm] w fun x w' => x = .returned (.int .i64 0) ∧ ∃ vs', One B w' d L Nb Fb p nm room limit sf (st + 1) rd data [] data (frs (m + t) 0) data.length nn xs vn k1 k2 [] vs' (.slice none 0 0) vd vf cL bL cN bN cF ∧ Below B w w' := by
  have hmf : ∀ (fn : Fn) (first cap : Array Value) (w : World), (Instr.makeFunc fn first cap).run Tryz.prog w = .ok (.func fn first cap) w := fun _ _ _ _ => rfl
  have hcall : Calls Tryz.prog 76 #[.pointer (some ⟨d, 0, none⟩), .agg #[.slice (some ⟨w.heap.size, 0, none⟩) 1 1, .bool false, .int .i64 0], .func (.func 83) #[] #[]]
      (w.alloc (.cells #[.string nm] 9)) fun x w3 => x = .returned (.int .i64 0) ∧ ∃ vs', One B w3 d L Nb Fb p nm room limit sf (st + 1) rd data [] data (frs (m + t) 0) data.length nn xs vn k1 k2 [] vs' (.slice none 0 0) vd vf cL bL cN bN cF ∧ Below B w w3 := by
    have hb0 : Below w.heap.size w (w.alloc (.cells #[.string nm] 9)) := (Below.refl _ _).alloc (Nat.le_refl _) _
    have g2 : (w.alloc (.cells #[.string nm] 9)).cell? ⟨w.heap.size, 0, none⟩ = some (.string nm) := by simp [go_sem]
    refine stroke_there (h.below hb0) w.heap.size 0 g2 hok hs (by omega) (by omega) hst0 hst 83 _ 0 _ (enters_of Tryz.func83 (by kernel_rfl) rfl) ?_
    intro w2 ho2 hk2
    refine (sync1_one ho2 (Nat.le_trans hB (Nat.le_trans hb0.size hk2.size)) hl hm hpre l2 l3).mono ?_
    rintro e w3 ⟨rfl, vs', hO, hb⟩
    refine ⟨rfl, vs', hO, ?_⟩
    exact ((hb0.mono hB).trans (hk2.below (Nat.le_trans hB hb0.size) (fun k hk e => by have := h.ge; omega))).trans hb
  have HC := hid hcall
  clear h hcall
  go_enter Tryz.func23, Tryz.ntmps23
  go_wp2_with (
    go_at_call 76
    refine HC.out.mono ?_
    rintro e w3 ⟨rfl, hx⟩
    have HX := hid hx
    clear hx)
  go_ret
  exact ⟨rfl, HX.out⟩

end
end Go.Proofs.YtlmompdfombgeaaGreat
