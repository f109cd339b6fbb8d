import Derived.Test.YtlmompdfombgeabGreatK04
import Derived.Test.YtlmompdfombgeabGreatK03
namespace Go.Proofs.YtlmompdfombgeabGreat
open Go.RowKit Go.MapKept

set_option maxRecDepth 100000 in
set_option maxHeartbeats 1000000 in
theorem stroke_ok (d fn : Nat) (a b c fv : Value) (cap : Array Value) (r : Int) (w : World) (R1 R2 R3 : World → Prop) (he : ∀ args w, (callFunc fn args).run Tryz.prog w = .ok (.enter fn args) w) (_ha : a.cells = #[a]) (_hb : b.cells = #[b]) (_hc : c.cells = #[c])
    (hfind : Calls Tryz.prog 61 #[.pointer (some ⟨d, 0, none⟩), .agg #[a, b, c]] (w.alloc (.cells #[a, b, c] 109)) fun x w1 => x = .returned (.tuple #[fv, .int .i64 0]) ∧ R1 w1)
    (hcount : ∀ w1, R1 w1 → Calls Tryz.prog 63 #[.pointer (some ⟨d, 0, none⟩), .pointer (some ⟨d, 8, none⟩)] w1 fun x w2 => x = .returned (.int .i64 0) ∧ R2 w2)
    (hdo : ∀ w2, R2 w2 → Calls Tryz.prog fn (#[fv] ++ cap) w2 fun x w3 => x = .returned (.int .i64 r) ∧ R3 w3) :
    Calls Tryz.prog 49 #[.pointer (some ⟨d, 0, none⟩), .agg #[a, b, c], .func (.func fn) #[] cap] w fun x w3 => x = .returned (.int .i64 r) ∧ R3 w3 := by
  have HF := hid hfind
  have HC := hid hcount
  have HDo := hid hdo
  clear hfind hcount hdo
  go_enter Tryz.func49, Tryz.ntmps49
  go_wp2_with (first
    | (go_at_call 61; refine HF.out.mono ?_; rintro e w1 ⟨rfl, h1⟩; have H1 := hid h1; clear h1)
    | (go_at_call 63; refine (HC.out _ H1.out).mono ?_; rintro e w2 ⟨rfl, h2⟩; have H2 := hid h2; clear h2)
    | (refine (HDo.out _ H2.out).mono ?_; rintro e w3 ⟨rfl, h3⟩; have H3 := hid h3; clear h3))
  go_ret
  exact ⟨rfl, H3.out⟩

set_option maxRecDepth 100000 in
set_option maxHeartbeats 1000000 in
theorem stroke_no (d fn : Nat) (a b c fv : Value) (cap : Array Value) (r : Int) (w : World) (R1 : World → Prop) (hr : (r == 0) = false) (_ha : a.cells = #[a]) (_hb : b.cells = #[b]) (_hc : c.cells = #[c])
    (hfind : Calls Tryz.prog 61 #[.pointer (some ⟨d, 0, none⟩), .agg #[a, b, c]] (w.alloc (.cells #[a, b, c] 109)) fun x w1 => x = .returned (.tuple #[fv, .int .i64 r]) ∧ R1 w1) :
    Calls Tryz.prog 49 #[.pointer (some ⟨d, 0, none⟩), .agg #[a, b, c], .func (.func fn) #[] cap] w fun x w3 => x = .returned (.int .i64 r) ∧ R1 w3 := by
  have HF := hid hfind
  clear hfind
  go_enter Tryz.func49, Tryz.ntmps49
  go_wp2_with (first
    | (go_at_call 61; refine HF.out.mono ?_; rintro e w1 ⟨rfl, h1⟩; have H1 := hid h1; clear h1))
  go_ret
  exact ⟨rfl, H1.out⟩

end Go.Proofs.YtlmompdfombgeabGreat

namespace Go.Proofs.YtlmompdfombgeabGreat
open Go.RowKit Go.MapKept

theorem cell_cells {w : World} {k o : Nat} {v : Value} (h : w.cell? ⟨k, o, none⟩ = some v) : ∃ cs t fr, w.heap[k]? = some (.cells cs t fr) := by
  unfold World.cell? at h
  dsimp only at h
  split at h
  · rename_i cs t fr hh
    exact ⟨cs, t, fr, hh⟩
  · cases h

theorem cell_ne_map {w : World} {k b o : Nat} {v : Value} {es : Array MapEntry} {c : Nat} (h : w.cell? ⟨k, o, none⟩ = some v) (hb : w.heap[b]? = some (.map es c)) : k ≠ b := by
  obtain ⟨cs, t, fr, hh⟩ := cell_cells h
  exact hp_ne hh hb (by simp)

theorem sl_none (w : World) : Sl w (.slice none 0 0) [] := ⟨none, 0, rfl, Nat.le_refl _, fun h => absurd rfl h⟩

set_option maxRecDepth 100000 in
set_option maxHeartbeats 1000000 in
theorem create1_any (B d xd xn : Nat) (f : Value) (nm : ByteArray) (w : World) (room limit : Int) (L : Nat) (made : Int) (Nb : Nat) (F vn : Value) (off : Bool) (st : Int) (k1 : Value) (rd : Int) (k2 : Value) (fs es : Array MapEntry) (c cN n : Nat) (xs : List Value)
    (hD : DiskB w d room limit (.map (some L)) made (.map (some Nb)) F vn off st k1 rd k2) (hL : w.heap[L]? = some (.map fs c)) (hN : w.heap[Nb]? = some (.map es cN)) (hLN : L ≠ Nb) (hB : B ≤ w.heap.size) (hv : w.ownsRow B 104 3 vn n xs) (hn : n ≤ 1000000)
    (hxd : w.cell? ⟨xd, 0, none⟩ = some (.pointer (some ⟨d, 0, none⟩))) (hxn : w.cell? ⟨xn, 0, none⟩ = some (.string nm))
    (hd1 : xd ≠ d) (hd2 : xn ≠ d)
    (hlim : (fs.size : Int) < limit) (hm0 : 0 ≤ made) (hm : made ≤ 1000000000) (hs : nm.size ≤ 1000000) (hne : nm.toList.isEmpty = false)
    (h1 : Instr.findNow (.int .i64) (.int .i64 (made + 1)) fs.toList 0 = some none) (h2 : Instr.findNow .string (.string ⟨#[]⟩) es.toList 0 = some none) (h3 : Instr.findNow .string (.string nm) es.toList 0 = some none) :
    Calls Tryz.prog 53 #[f, .pointer (some ⟨xd, 0, none⟩), .pointer (some ⟨xn, 0, none⟩)] w fun x w' => x = .returned (.int .i64 0) ∧ ∃ p vs vd vf vn', w.heap.size ≤ p ∧ FileAt w' w.heap.size p [] [] [] [] 0 vs (.slice none 0 0) vd vf ∧
      DiskB w' d room limit (.map (some L)) (made + 1) (.map (some Nb)) F vn' off st k1 rd k2 ∧ w'.heap[L]? = some (.map (fs.push { key := .int .i64 (made + 1), val := .pointer (some ⟨p, 0, none⟩), born := c }) (c + 1)) ∧ w'.heap[Nb]? = some (.map (es.push { key := .string nm, val := .int .i64 (made + 1), born := cN }) (cN + 1)) ∧
      w'.ownsRow B 104 3 vn' (n + 1) (xs ++ [.string ⟨#[]⟩, .string nm, .int .i64 (made + 1)]) ∧ Kept (fun k => k = d ∨ k = L ∨ k = Nb ∨ vn.ownBlock = some k) w w' ∧ (vn'.ownBlock = vn.ownBlock ∨ ∃ k, w.heap.size ≤ k ∧ vn'.ownBlock = some k) := by
  obtain ⟨c0, c1, c2, c3, c4, c5, c6, c7, c8, c9, c10, c11⟩ := hD.cells
  have hlen : ∀ m ty, (Builtin.len_ #[82] ty #[.map (some L)]).run Tryz.prog (w.drewN m) = .ok (.int .i64 fs.size) (w.drewN m) := fun m ty => len_map (w := w.drewN m) Tryz.underlying82 hL ty
  have j : decide (limit ≤ (fs.size : Int)) = false := by simp; omega
  have HX := hid (And.intro hD (And.intro hL (And.intro hN hv)))
  have H1 := hid h1
  have H2 := hid h2
  have H3 := hid h3
  clear c0 c3 c4 c5 c6 c7 c8 c9 c10 c11 hD hL hN hv h1 h2 h3
  go_enter Tryz.func53, Tryz.ntmps53
  go_wp2
  go_quiet (fail)
  go_wp2_with fail
  go_region_with (
    first
    | (go_at_call 55
       refine (add_any d _ [] (w.drewN (nq + 1)) room limit L made (.map (some Nb)) F vn off st k1 rd k2 fs c HX.out.1 HX.out.2.1 H1.out hm0 hm (sl_none _) (by simp) (by simp [Value.ownBlock])).mono ?_
       rintro e w1 ⟨rfl, p, vs, vd, vf, hp, hfile, hD1, hL1, hk0⟩
       have hk1 : Kept (fun k => k = d ∨ k = L) w w1 := ⟨hk0.os, hk0.tape, hk0.output, hk0.size, hk0.block⟩
       have hp' : w.heap.size ≤ p := hp
       have hfile' : FileAt w1 w.heap.size p [] [] [] [] 0 vs (.slice none 0 0) vd vf := hfile
       have e1 := (show w1.cell? ⟨xd, 0, none⟩ = some (.pointer (some ⟨d, 0, none⟩)) from hk1.cell hxd (by rintro (e | e); exact hd1 e; exact cell_ne_map hxd HX.out.2.1 e))
       have e2 := (show w1.cell? ⟨xn, 0, none⟩ = some (.string nm) from hk1.cell hxn (by rintro (e | e); exact hd2 e; exact cell_ne_map hxn HX.out.2.1 e))
       have hN1 := (show w1.heap[Nb]? = some (.map es cN) from hp_kept HX.out.2.2.1 hk1 (by rintro (e | e); exact hp_ne HX.out.1 HX.out.2.2.1 (by simp) e.symm; exact hLN e.symm))
       have hv1 := (show w1.ownsRow B 104 3 vn n xs from ownsRow_kept HX.out.2.2.2 hk1 (by
          rintro k hk (e | e)
          · subst e; obtain ⟨cs, h⟩ := owns_block HX.out.2.2.2 k hk; exact hp_ne HX.out.1 h (by simp) rfl
          · subst e; obtain ⟨cs, h⟩ := owns_block HX.out.2.2.2 k hk; exact hp_ne HX.out.2.1 h (by simp) rfl))
       have HY := hid (And.intro hp' (And.intro hfile' (And.intro hD1 (And.intro hL1 (And.intro hk1 (And.intro hN1 hv1))))))
       clear hp hfile hp' hfile' hk0 hD1 hL1 hk1 hN1 hv1)
    | (go_at_call 54
       refine (pend_names B d ⟨#[]⟩ nm (made + 1) w1 room limit (.map (some L)) (made + 1) Nb F vn off st k1 rd k2 es cN n xs (fun wy => wy.heap[Nb]? = some (.map (es.push { key := .string nm, val := .int .i64 (made + 1), born := cN }) (cN + 1))) HY.out.2.2.1 HY.out.2.2.2.2.2.1 (Nat.le_trans hB HY.out.2.2.2.2.1.size) HY.out.2.2.2.2.2.2 hn (show (0 : Nat) ≤ 1000000 by omega) hs (fun wx hx => do_create nm (made + 1) Nb es cN wx hx H2.out H3.out hne)).mono ?_
       rintro e w2 ⟨rfl, vn', hD2, hN2, hv2, hk2, hvo⟩
       have HZ := hid (And.intro hD2 (And.intro hN2 (And.intro hv2 (And.intro hk2 hvo))))
       clear hD2 hN2 hv2 hk2 hvo))
  all_goals go_wp2
  all_goals go_ret
  all_goals
    obtain ⟨hp, hfile, hD1, hL1, hk1, hN1, hv1⟩ := HY.out
    obtain ⟨hD2, hN2, hv2, hk2, hvo⟩ := HZ.out
    obtain ⟨hD0, hL0, hN0, hv0⟩ := HX.out
    have l1 := hp_lt hD0
    have l2 := hp_lt hN0
    have l3 := fun k h => (hv0.lt k h).2
    refine ⟨rfl, p, vs, vd, vf, vn', hp, hfile.low hk2 hp ?_, hD2, hp_kept hL1 hk2 ?_, hN2, hv2, ?_, ?_⟩
    · rintro k (e | e | e)
      · omega
      · omega
      · exact l3 k e
    · rintro (e | e | e)
      · exact hp_ne hD0 hL0 (by simp) e.symm
      · exact hLN e
      · obtain ⟨cs, h⟩ := owns_block hv0 L e
        exact hp_ne hL0 h (by simp) rfl
    · refine (hk1.mono (S' := fun k => k = d ∨ k = L ∨ k = Nb ∨ vn.ownBlock = some k) ?_).trans hk2 ?_
      · rintro i _ (e | e)
        · exact .inl e
        · exact .inr (.inl e)
      · rintro i _ (e | e | e)
        · exact .inl e
        · exact .inr (.inr (.inl e))
        · exact .inr (.inr (.inr e))
    · rcases hvo with e | ⟨k, e1, e2⟩
      · exact .inl e
      · exact .inr ⟨k, Nat.le_trans hk1.size e1, e2⟩

end Go.Proofs.YtlmompdfombgeabGreat

namespace Go.Proofs.YtlmompdfombgeabGreat
open Go.RowKit Go.MapKept

/-- A pending change. -/
abbrev Chg := Sum (List Int) Nat

/-- What a pending change lies as. -/
def ChgAt (w : World) (B : Nat) (vs vd : Value) (v : Value) : Chg → Prop
  | .inl ys => ∃ sv, v = .iface 116 sv ∧ Sn w sv ys ∧ ∀ k, sv.ownBlock = some k → B ≤ k ∧ (∃ cs, w.heap[k]? = some (.cells cs 5 (0, 0))) ∧ vs.ownBlock ≠ some k ∧ vd.ownBlock ≠ some k
  | .inr n => v = .iface 124 (.int .i64 n)

/-- What pending changes lie as. -/
def Pends (w : World) (B : Nat) (vs vd : Value) (pend : List Value) (cs : List Chg) : Prop :=
  pend.length = cs.length ∧ ∀ (i : Nat) (v : Value) (c : Chg), pend[i]? = some v → cs[i]? = some c → ChgAt w B vs vd v c

theorem ChgAt.kept {w w' : World} {B : Nat} {vs vd vs' vd' v : Value} {c : Chg} {S : Nat → Prop} (h : ChgAt w B vs vd v c) (hk : Kept S w w') (hS : ∀ k cs, w.heap[k]? = some (.cells cs 5 (0, 0)) → vs.ownBlock ≠ some k → vd.ownBlock ≠ some k → ¬ S k)
    (h1 : vs'.ownBlock = vs.ownBlock ∨ ∃ k, w.heap.size ≤ k ∧ vs'.ownBlock = some k) (h2 : vd'.ownBlock = vd.ownBlock ∨ ∃ k, w.heap.size ≤ k ∧ vd'.ownBlock = some k) : ChgAt w' B vs' vd' v c := by
  cases c with
  | inr n => exact h
  | inl ys =>
    obtain ⟨sv, rfl, hs, hb⟩ := h
    refine ⟨sv, rfl, hs.kept hk (fun k e => ?_), fun k e => ?_⟩
    · obtain ⟨_, ⟨cs, a⟩, b, c⟩ := hb k e
      exact hS k cs a b c
    · obtain ⟨x, ⟨cs, a⟩, b, c⟩ := hb k e
      refine ⟨x, ⟨cs, hp_kept a hk (hS k cs a b c)⟩, ?_, ?_⟩
      · rcases h1 with h1 | ⟨j, h1, h3⟩
        · rw [h1]; exact b
        · rw [h3]; intro e2; injection e2 with e2; have := hp_lt a; omega
      · rcases h2 with h2 | ⟨j, h2, h3⟩
        · rw [h2]; exact c
        · rw [h3]; intro e2; injection e2 with e2; have := hp_lt a; omega

theorem Pends.kept {w w' : World} {B : Nat} {vs vd vs' vd' : Value} {pend : List Value} {cs : List Chg} {S : Nat → Prop} (h : Pends w B vs vd pend cs) (hk : Kept S w w') (hS : ∀ k cs, w.heap[k]? = some (.cells cs 5 (0, 0)) → vs.ownBlock ≠ some k → vd.ownBlock ≠ some k → ¬ S k)
    (h1 : vs'.ownBlock = vs.ownBlock ∨ ∃ k, w.heap.size ≤ k ∧ vs'.ownBlock = some k) (h2 : vd'.ownBlock = vd.ownBlock ∨ ∃ k, w.heap.size ≤ k ∧ vd'.ownBlock = some k) : Pends w' B vs' vd' pend cs :=
  ⟨h.1, fun i v c a b => (h.2 i v c a b).kept hk hS h1 h2⟩

theorem Pends.nil (w : World) (B : Nat) (vs vd : Value) : Pends w B vs vd [] [] := ⟨rfl, fun i v c a => by simp at a⟩

theorem Pends.snoc {w : World} {B : Nat} {vs vd : Value} {pend : List Value} {cs : List Chg} {v : Value} {c : Chg} (h : Pends w B vs vd pend cs) (hc : ChgAt w B vs vd v c) : Pends w B vs vd (pend ++ [v]) (cs ++ [c]) := by
  refine ⟨by simp [h.1], fun i a b ha hb => ?_⟩
  rw [List.getElem?_append] at ha hb
  have hl := h.1
  split at ha
  · rename_i hi
    rw [if_pos (by omega)] at hb
    exact h.2 i a b ha hb
  · rename_i hi
    rw [if_neg (by omega)] at hb
    have e : i - pend.length = 0 := by
      rcases Nat.eq_zero_or_pos (i - pend.length) with e | e
      · exact e
      · rw [List.getElem?_eq_none (by simp; omega)] at ha; cases ha
    rw [e] at ha
    rw [← hl, e] at hb
    simp at ha hb
    subst ha hb
    exact hc

/-- A disk with one file, and what lies below B is not its. -/
structure One (B : Nat) (w : World) (d L Nb Fb p : Nat) (nm : ByteArray) (room limit : Int) (sf : Array MapEntry) (st rd : Int) (safe : List Int) (cs : List Chg) (data : List Int) (fresh : List Bool) (peak : Int) (nn : Nat) (xs : List Value) (vn k1 k2 : Value) (pend : List Value) (vs vp vd vf : Value) (cL bL cN bN cF : Nat) : Prop where
  disk : DiskB w d room limit (.map (some L)) 1 (.map (some Nb)) (.map (some Fb)) vn false st k1 rd k2
  hL : w.heap[L]? = some (.map #[{ key := .int .i64 1, val := .pointer (some ⟨p, 0, none⟩), born := bL }] cL)
  hN : w.heap[Nb]? = some (.map #[{ key := .string nm, val := .int .i64 1, born := bN }] cN)
  hF : w.heap[Fb]? = some (.map sf cF)
  nf : Nb ≠ Fb
  bl : bL < cL
  bn : bN < cN
  file : FileAt w B p safe pend data fresh peak vs vp vd vf
  pen : Pends w B vs vd pend cs
  nam : w.ownsRow B 104 3 vn nn xs
  kn1 : NoKinds w k1
  kn2 : NoKinds w k2
  ge : B ≤ d ∧ B ≤ L ∧ B ≤ Nb ∧ B ≤ Fb ∧ B ≤ p

theorem One.kept {B : Nat} {w w' : World} {S : Nat → Prop} {d L Nb Fb p : Nat} {nm : ByteArray} {room limit : Int} {sf : Array MapEntry} {st rd : Int} {safe : List Int} {cs : List Chg} {data : List Int} {fresh : List Bool} {peak : Int} {nn : Nat} {xs : List Value} {vn k1 k2 : Value} {pend : List Value} {vs vp vd vf : Value} {cL bL cN bN cF : Nat}
    (h : One B w d L Nb Fb p nm room limit sf st rd safe cs data fresh peak nn xs vn k1 k2 pend vs vp vd vf cL bL cN bN cF) (hk : Kept S w w') (hS : ∀ k, S k → False) : One B w' d L Nb Fb p nm room limit sf st rd safe cs data fresh peak nn xs vn k1 k2 pend vs vp vd vf cL bL cN bN cF :=
  ⟨hp_kept h.disk hk (fun e => hS _ e), hp_kept h.hL hk (fun e => hS _ e), hp_kept h.hN hk (fun e => hS _ e), hp_kept h.hF hk (fun e => hS _ e), h.nf, h.bl, h.bn, h.file.kept hk (fun e => hS _ e) (fun _ _ e => hS _ e) (fun _ _ e => hS _ e) (fun _ _ e => hS _ e) (fun _ _ e => hS _ e),
   h.pen.kept hk (fun _ _ _ _ _ e => hS _ e) (.inl rfl) (.inl rfl), ownsRow_kept h.nam hk (fun _ _ e => hS _ e), h.kn1.kept hk (fun _ _ _ e => hS _ e), h.kn2.kept hk (fun _ _ _ e => hS _ e), h.ge⟩

theorem One.below {B : Nat} {w w' : World} {d L Nb Fb p : Nat} {nm : ByteArray} {room limit : Int} {sf : Array MapEntry} {st rd : Int} {safe : List Int} {cs : List Chg} {data : List Int} {fresh : List Bool} {peak : Int} {nn : Nat} {xs : List Value} {vn k1 k2 : Value} {pend : List Value} {vs vp vd vf : Value} {cL bL cN bN cF : Nat}
    (h : One B w d L Nb Fb p nm room limit sf st rd safe cs data fresh peak nn xs vn k1 k2 pend vs vp vd vf cL bL cN bN cF) (hk : Below w.heap.size w w') : One B w' d L Nb Fb p nm room limit sf st rd safe cs data fresh peak nn xs vn k1 k2 pend vs vp vd vf cL bL cN bN cF :=
  h.kept (Kept.ofBelow hk) (fun _ e => e)

/-- A stroke counted. -/
theorem One.stroke {B : Nat} {w : World} {d L Nb Fb p : Nat} {nm : ByteArray} {room limit : Int} {sf : Array MapEntry} {st rd : Int} {safe : List Int} {cs : List Chg} {data : List Int} {fresh : List Bool} {peak : Int} {nn : Nat} {xs : List Value} {vn k1 k2 : Value} {pend : List Value} {vs vp vd vf : Value} {cL bL cN bN cF : Nat}
    (h : One B w d L Nb Fb p nm room limit sf st rd safe cs data fresh peak nn xs vn k1 k2 pend vs vp vd vf cL bL cN bN cF) (n : Int) (nq : Nat) : One B ((w.setCell ⟨d, 8, none⟩ (.int .i64 n)).drewN nq) d L Nb Fb p nm room limit sf n rd safe cs data fresh peak nn xs vn k1 k2 pend vs vp vd vf cL bL cN bN cF := by
  have hk : Kept (fun k => k = d) w ((w.setCell ⟨d, 8, none⟩ (.int .i64 n)).drewN nq) := by
    have h0 := (Kept.refl (fun k => k = d) w).setCell (p := ⟨d, 8, none⟩) (fun _ => rfl) (.int .i64 n)
    exact ⟨h0.os, h0.tape, h0.output, h0.size, h0.block⟩
  have hd := h.disk
  refine ⟨set_block (i := 8) hd _, hp_kept h.hL hk (fun e => hp_ne hd h.hL (by simp) e.symm), hp_kept h.hN hk (fun e => hp_ne hd h.hN (by simp) e.symm), hp_kept h.hF hk (fun e => hp_ne hd h.hF (by simp) e.symm), h.nf, h.bl, h.bn, h.file.kept hk (fun e => hp_ne hd h.file.blk (by simp) e.symm) ?_ ?_ ?_ ?_, h.pen.kept hk ?_ (.inl rfl) (.inl rfl), ownsRow_kept h.nam hk ?_, h.kn1.kept hk ?_, h.kn2.kept hk ?_, h.ge⟩
  · intro k hq e; subst e; exact own_ne_blk h.file.os hd (by decide) hq
  · intro k hq e; subst e; exact own_ne_blk h.file.op hd (by decide) hq
  · intro k hq e; subst e; exact own_ne_blk h.file.od hd (by decide) hq
  · intro k hq e; subst e; exact own_ne_blk h.file.of hd (by decide) hq
  · intro k cs a _ _ e; subst e; exact hp_ne hd a (by simp) rfl
  · intro k hq e; subst e; exact own_ne_blk h.nam hd (by decide) hq
  · intro b c a e; subst e; exact hp_ne hd a (by simp) rfl
  · intro b c a e; subst e; exact hp_ne hd a (by simp) rfl

end Go.Proofs.YtlmompdfombgeabGreat

namespace Go.Proofs.YtlmompdfombgeabGreat
open Go.RowKit Go.MapKept

theorem One.change {B : Nat} {w w' : World} {d L Nb Fb p : Nat} {nm : ByteArray} {room limit : Int} {sf : Array MapEntry} {st rd : Int} {safe : List Int} {cs : List Chg} {data : List Int} {fresh : List Bool} {peak : Int} {nn : Nat} {xs : List Value} {vn k1 k2 : Value} {pend : List Value} {vs vp vd vf : Value} {cL bL cN bN cF : Nat}
    (h : One B w d L Nb Fb p nm room limit sf st rd safe cs data fresh peak nn xs vn k1 k2 pend vs vp vd vf cL bL cN bN cF)
    (hk : Kept (fun k => k = p ∨ vs.ownBlock = some k ∨ vp.ownBlock = some k ∨ vd.ownBlock = some k ∨ vf.ownBlock = some k) w w')
    {safe' : List Int} {cs' : List Chg} {data' : List Int} {fresh' : List Bool} {peak' : Int} {pend' : List Value} {vs' vp' vd' vf' : Value} (hf : FileAt w' B p safe' pend' data' fresh' peak' vs' vp' vd' vf') (hp : Pends w' B vs' vd' pend' cs') :
    One B w' d L Nb Fb p nm room limit sf st rd safe' cs' data' fresh' peak' nn xs vn k1 k2 pend' vs' vp' vd' vf' cL bL cN bN cF ∧ Below B w w' := by
  have hd := h.disk
  have hx : ∀ (k : Nat) (o : Obj), w.heap[k]? = some o → (∀ cs t fr, o = .cells cs t fr → t ≠ 96 ∧ t ≠ 5 ∧ t ≠ 134 ∧ t ≠ 4) → ¬ (k = p ∨ vs.ownBlock = some k ∨ vp.ownBlock = some k ∨ vd.ownBlock = some k ∨ vf.ownBlock = some k) := by
    intro k o ho hn
    have key : ∀ (cs : Array Value) (t : TypeId), w.heap[k]? = some (.cells cs t (0, 0)) → t = 96 ∨ t = 5 ∨ t = 134 ∨ t = 4 → False := by
      intro cs t hc ht
      rw [ho] at hc
      injection hc with hc
      obtain ⟨a, b, c, e⟩ := hn _ _ _ hc
      rcases ht with ht | ht | ht | ht
      · exact a ht
      · exact b ht
      · exact c ht
      · exact e ht
    rintro (e | e | e | e | e)
    · subst e; exact key _ _ h.file.blk (.inl rfl)
    · obtain ⟨cs, a⟩ := owns_block h.file.os k e; exact key _ _ a (.inr (.inl rfl))
    · obtain ⟨cs, a⟩ := owns_block h.file.op k e; exact key _ _ a (.inr (.inr (.inl rfl)))
    · obtain ⟨cs, a⟩ := owns_block h.file.od k e; exact key _ _ a (.inr (.inl rfl))
    · obtain ⟨cs, a⟩ := owns_block h.file.of k e; exact key _ _ a (.inr (.inr (.inr rfl)))
  have hm : ∀ (k : Nat) (es : Array MapEntry) (c : Nat), w.heap[k]? = some (.map es c) → ¬ (k = p ∨ vs.ownBlock = some k ∨ vp.ownBlock = some k ∨ vd.ownBlock = some k ∨ vf.ownBlock = some k) := fun k es c a => hx k _ a (fun _ _ _ e => by cases e)
  refine ⟨⟨hp_kept hd hk (hx _ _ hd (fun _ _ _ e => by injection e with _ e _; subst e; decide)), hp_kept h.hL hk (hm _ _ _ h.hL), hp_kept h.hN hk (hm _ _ _ h.hN), hp_kept h.hF hk (hm _ _ _ h.hF), h.nf, h.bl, h.bn, hf, hp, ownsRow_kept h.nam hk ?_, h.kn1.kept hk (fun b c a => hm _ _ _ a), h.kn2.kept hk (fun b c a => hm _ _ _ a), h.ge⟩, ?_⟩
  · intro k e
    obtain ⟨cs, a⟩ := owns_block h.nam k e
    exact hx _ _ a (fun _ _ _ e => by injection e with _ e _; subst e; decide)
  · refine ⟨hk.os, hk.tape, hk.output, hk.size, fun k hkb => ?_⟩
    by_cases hl : k < w.heap.size
    · refine hk.block k hl ?_
      rintro (e | e | e | e | e)
      · have := h.ge; omega
      · have := (h.file.os.lt k e).1; omega
      · have := (h.file.op.lt k e).1; omega
      · have := (h.file.od.lt k e).1; omega
      · have := (h.file.of.lt k e).1; omega
    · have := hp_lt hd
      have := h.ge
      omega

section
variable {B : Nat} {w : World} {d L Nb Fb p : Nat} {nm : ByteArray} {room limit : Int} {sf : Array MapEntry} {st rd : Int} {safe : List Int} {cs : List Chg} {data : List Int} {fresh : List Bool} {peak : Int} {nn : Nat} {xs : List Value} {vn k1 k2 : Value} {pend : List Value} {vs vp vd vf : Value} {cL bL cN bN cF : Nat}

set_option maxRecDepth 100000 in
set_option maxHeartbeats 1600000 in
theorem append1_one (h : One B w d L Nb Fb p nm room limit sf st rd safe cs data fresh peak nn xs vn k1 k2 pend vs vp vd vf cL bL cN bN cF) (hB : B ≤ w.heap.size) (xd xx : Nat) (ao : Option Addr) (cap : Nat) (ys : List Int) (hxd : w.cell? ⟨xd, 0, none⟩ = some (.pointer (some ⟨d, 0, none⟩))) (hxx : w.cell? ⟨xx, 0, none⟩ = some (.slice ao ys.length cap)) (hsl : Sl w (.slice ao ys.length cap) ys) (hne : 0 < ys.length)
    (l1 : pend.length ≤ 1000000) (l2 : data.length ≤ 100000000) (l3 : fresh.length ≤ 100000000) (l4 : ys.length ≤ 100000000) (hp0 : 0 ≤ peak) (hp1 : peak ≤ 1000000000) (hroom : max peak (data.length + ys.length : Int) ≤ room) :
    Calls Tryz.prog 56 #[.pointer (some ⟨p, 0, none⟩), .pointer (some ⟨xd, 0, none⟩), .pointer (some ⟨xx, 0, none⟩)] w fun x w' => x = .returned (.int .i64 0) ∧ ∃ pend' vp' vd' vf', One B w' d L Nb Fb p nm room limit sf st rd safe (cs ++ [.inl ys]) (data ++ ys) (fresh ++ List.replicate ys.length true) (max peak (data ++ ys).length) nn xs vn k1 k2 pend' vs vp' vd' vf' cL bL cN bN cF ∧ Below B w w' := by
  obtain ⟨c0, c1, c2, c3, c4, c5, c6, c7, c8, c9, c10, c11⟩ := h.disk.cells
  obtain ⟨p0, p1, p2, p3, p4⟩ := cells5 h.file.blk
  obtain ⟨ad, cd, hvd⟩ := own_shape h.file.od
  rw [hvd] at p2
  obtain ⟨mx, hmx⟩ : ∃ mx, mx = max peak (data.length + ys.length : Int) := ⟨_, rfl⟩
  rw [← hmx] at hroom
  have hm1 : mx ≤ 1000000000 := by rw [hmx]; simp only [Int.max_def]; split <;> omega
  have hm2 : 0 ≤ mx := by rw [hmx]; simp only [Int.max_def]; split <;> omega
  have j : decide (room < mx) = false := by simp; omega
  have HMX := hid hmx
  have HO := hid h
  have HSL := hid hsl
  clear h hsl c1 c3 c4 c5 c6 c7 c8 c9 c10 c11 p0 p1 p3 hmx
  go_enter Tryz.func56, Tryz.ntmps56
  go_wp2_with (
    go_at_call 57
    refine (held_one L cL bL p _ peak _ HO.out.hL HO.out.bl p4 hp0 hp1).mono ?_
    rintro e w1 ⟨rfl, hb⟩
    have a1 := (hb.cell (World.block_lt_of_cell? _ _ hxd)).trans hxd
    have a2 := (hb.cell (World.block_lt_of_cell? _ _ hxx)).trans hxx
    have a3 := (hb.cell (World.block_lt_of_cell? _ _ p2)).trans p2
    have a4 := (hb.cell (World.block_lt_of_cell? _ _ p4)).trans p4
    have a5 := (hb.cell (World.block_lt_of_cell? _ _ c0)).trans c0
    have HB1 := hid hb
    clear hb)
  go_region
  rw [← HMX.out]
  have j' : decide (room < peak - peak + mx) = false := by simp; omega
  go_wp2_with fail
  go_quiet (fail)
  have hBW : Below w.heap.size w (w1.drew.drewN nq) := below_drewN (HB1.out.drew) nq
  have hWO := HO.out.below hBW
  have hWS := HSL.out.below hBW
  have hWx := (hBW.cell (World.block_lt_of_cell? _ _ hxx)).trans hxx
  obtain ⟨W, hW⟩ : ∃ W, W = w1.drew.drewN nq := ⟨_, rfl⟩
  rw [← hW] at hBW hWO hWS hWx ⊢
  have HWO := hid (And.intro hBW (And.intro hWO hWS))
  have hgt : (0 : Int) < (ys.length : Int) := by omega
  clear hW hBW hWO hWS a1 a2 a3 a4 a5 HB1 hxd hxx c0 c2 p2 p4 j j' HO HSL
  go_wp2_with (first
    | (go_at_call 39
       refine (copied_any _ ys _ HWO.out.2.2 (by omega)).mono ?_
       rintro e w2 ⟨rfl, ho, hb⟩
       have HC := hid (And.intro ho hb)
       clear ho hb)
    | (go_at_call 58; go_loud (
       refine (pendApp_any B p (.slice (some ⟨W.heap.size, 0, none⟩) ys.length ys.length) ys w2 safe pend data fresh peak vs vp vd vf (HWO.out.2.1.below HC.out.2).file (sn_of_owns (HC.out.1.owns (Nat.zero_le _) (by unfold maxLen; omega))) (Nat.le_trans hB (Nat.le_trans HWO.out.1.size HC.out.2.size)) l1 l2 l3 l4 hp0 hp1 ?hsb).mono ?_
       case hsb =>
         intro k hk
         simp [Value.ownBlock] at hk
         have h1 := hp_lt HWO.out.2.1.file.blk
         refine ⟨by omega, fun e => ?_⟩
         have := (HWO.out.2.1.file.op.lt k e).2
         omega
       rintro e w3 ⟨rfl, vp', vd', vf', hf3, hl3, hk3, -, -⟩
       have HZ := hid (And.intro hf3 (And.intro hl3 hk3))
       clear hf3 hl3 hk3)))
  go_ret
  obtain ⟨hBW, hWO, hWS⟩ := HWO.out
  obtain ⟨ho, hb⟩ := HC.out
  obtain ⟨hf3, hl3, hk3⟩ := HZ.out
  have h2 := hWO.below hb
  have hk4 : Kept (fun k => k = p ∨ vs.ownBlock = some k ∨ vp.ownBlock = some k ∨ vd.ownBlock = some k ∨ vf.ownBlock = some k) w2 w3 := hk3.mono (by
    rintro i _ (e | e | e | e)
    · exact .inl e
    · exact .inr (.inr (.inl e))
    · exact .inr (.inr (.inr (.inl e)))
    · exact .inr (.inr (.inr (.inr e))))
  have hS : ∀ (k : Nat) (c5 : Array Value), w2.heap[k]? = some (.cells c5 5 (0, 0)) → vs.ownBlock ≠ some k → vd.ownBlock ≠ some k → ¬ (k = p ∨ vp.ownBlock = some k ∨ vd.ownBlock = some k ∨ vf.ownBlock = some k) := by
    intro k c5 a b c
    rintro (e | e | e | e)
    · subst e; rw [h2.file.blk] at a; cases a
    · obtain ⟨c6, a2⟩ := owns_block h2.file.op k e; rw [a2] at a; cases a
    · exact c e
    · obtain ⟨c6, a2⟩ := owns_block h2.file.of k e; rw [a2] at a; cases a
  have hpen := h2.pen.kept (vs' := vs) (vd' := vd') hk3 hS (.inl rfl) hl3
  have hWl := hWO.file
  have hnew : ChgAt w2 B vs vd (.iface 116 (.slice (some ⟨W.heap.size, 0, none⟩) ys.length ys.length)) (.inl ys) := by
    refine ⟨_, rfl, sn_of_owns (ho.owns (Nat.zero_le _) (by unfold maxLen; omega)), ?_⟩
    intro k hk
    simp [Value.ownBlock] at hk
    subst hk
    refine ⟨Nat.le_trans hB hBW.size, ⟨_, ho⟩, fun e => ?_, fun e => ?_⟩
    · exact Nat.lt_irrefl _ (hWl.os.lt _ e).2
    · exact Nat.lt_irrefl _ (hWl.od.lt _ e).2
  have hnew3 := hnew.kept (vs' := vs) (vd' := vd') hk3 hS (.inl rfl) hl3
  obtain ⟨q1, q2⟩ := h2.change hk4 hf3 (hpen.snoc hnew3)
  exact ⟨rfl, _, _, _, _, q1, ((hBW.mono hB).trans (hb.mono (Nat.le_trans hB hBW.size))).trans q2⟩

end
end Go.Proofs.YtlmompdfombgeabGreat

namespace Go.Proofs.YtlmompdfombgeabGreat
open Go.RowKit Go.MapKept

theorem keptd {w w1 : World} {d n : Nat} {x : Value} {nq : Nat} (h : Below w.heap.size w w1) : Kept (fun k => k = d) w ((w1.setCell ⟨d, n, none⟩ x).drewN nq) := by
  have h0 := ((Kept.ofBelow h).mono (S' := fun k => k = d) (fun _ _ e => e.elim)).setCell (p := ⟨d, n, none⟩) (fun _ => rfl) x
  exact ⟨h0.os, h0.tape, h0.output, h0.size, h0.block⟩

section
variable {B : Nat} {w : World} {d L Nb Fb p : Nat} {nm : ByteArray} {room limit : Int} {sf : Array MapEntry} {st rd : Int} {safe : List Int} {cs : List Chg} {data : List Int} {fresh : List Bool} {peak : Int} {nn : Nat} {xs : List Value} {vn k1 k2 : Value} {pend : List Value} {vs vp vd vf : Value} {cL bL cN bN cF : Nat}

theorem beq_self (s : ByteArray) : (s == s) = true := (bytes_beq s s).2 rfl

theorem One.find (h : One B w d L Nb Fb p nm room limit sf st rd safe cs data fresh peak nn xs vn k1 k2 pend vs vp vd vf cL bL cN bN cF) (g : Nat) (sz : Int) (hg : w.cell? ⟨g, 0, none⟩ = some (.string nm)) (hok : nmOK nm = true) (hs : nm.size ≤ maxLen) (h0 : 0 ≤ sz) (h1 : sz ≤ data.length) :
    Calls Tryz.prog 61 #[.pointer (some ⟨d, 0, none⟩), .agg #[.slice (some ⟨g, 0, none⟩) 1 1, .bool false, .int .i64 sz]] w fun x w' => x = .returned (.tuple #[.pointer (some ⟨p, 0, none⟩), .int .i64 0]) ∧ Below w.heap.size w w' := by
  obtain ⟨c0, c1, c2, c3, c4, c5, c6, c7, c8, c9, c10, c11⟩ := h.disk.cells
  obtain ⟨p0, p1, p2, p3, p4⟩ := cells5 h.file.blk
  obtain ⟨ad, cd, hvd⟩ := own_shape h.file.od
  rw [hvd] at p2
  exact find_there d g Nb L p nm _ _ cN cL 0 0 1 sz ad data.length cd w c7 c4 c2 h.hN h.hL hg hok hs (by simp [Instr.findNow, Instr.sameNow, beq_self]) (by simp [Instr.findNow, Instr.sameNow]) p2 h0 h1

theorem stroke_there (h : One B w d L Nb Fb p nm room limit sf st rd safe cs data fresh peak nn xs vn k1 k2 pend vs vp vd vf cL bL cN bN cF) (g : Nat) (sz : Int) (hg : w.cell? ⟨g, 0, none⟩ = some (.string nm)) (hok : nmOK nm = true) (hs : nm.size ≤ maxLen) (h0 : 0 ≤ sz) (h1 : sz ≤ data.length) (hst0 : 0 ≤ st) (hst : st ≤ 1000000)
    (fn : Nat) (cap : Array Value) (r : Int) (R3 : World → Prop) (he : ∀ args w, (callFunc fn args).run Tryz.prog w = .ok (.enter fn args) w)
    (hdo : ∀ w2, One B w2 d L Nb Fb p nm room limit sf (st + 1) rd safe cs data fresh peak nn xs vn k1 k2 pend vs vp vd vf cL bL cN bN cF → Kept (fun k => k = d) w w2 → Calls Tryz.prog fn (#[.pointer (some ⟨p, 0, none⟩)] ++ cap) w2 fun x w3 => x = .returned (.int .i64 r) ∧ R3 w3) :
    Calls Tryz.prog 49 #[.pointer (some ⟨d, 0, none⟩), .agg #[.slice (some ⟨g, 0, none⟩) 1 1, .bool false, .int .i64 sz], .func (.func fn) #[] cap] w fun x w3 => x = .returned (.int .i64 r) ∧ R3 w3 := by
  have hba : Below w.heap.size w (w.alloc (.cells #[.slice (some ⟨g, 0, none⟩) 1 1, .bool false, .int .i64 sz] 109)) := (Below.refl _ _).alloc (Nat.le_refl _) _
  refine stroke_ok d fn _ _ _ _ cap r w (fun w1 => Below w.heap.size w w1) (fun w2 => One B w2 d L Nb Fb p nm room limit sf (st + 1) rd safe cs data fresh peak nn xs vn k1 k2 pend vs vp vd vf cL bL cN bN cF ∧ Kept (fun k => k = d) w w2) R3 he rfl rfl rfl ?_ ?_ (fun w2 h2 => hdo w2 h2.1 h2.2)
  · refine ((h.below hba).find g sz ((hba.cell (World.block_lt_of_cell? _ _ hg)).trans hg) hok hs h0 h1).mono ?_
    rintro e w1 ⟨rfl, hb⟩
    exact ⟨rfl, hba.trans (hb.mono (by simp))⟩
  · intro w1 hb
    have hw := h.below hb
    obtain ⟨c0, c1, c2, c3, c4, c5, c6, c7, c8, c9, c10, c11⟩ := hw.disk.cells
    refine (count_any d 8 st k1 w1 _ _ hw.disk c8 c9 hst0 (by omega) hw.kn1).mono ?_
    rintro e w2 ⟨nq, rfl, rfl⟩
    exact ⟨rfl, hw.stroke (st + 1) nq, keptd hb⟩

set_option maxRecDepth 100000 in
set_option maxHeartbeats 1600000 in
theorem append_one (h : One B w d L Nb Fb p nm room limit sf st rd safe cs data fresh peak nn xs vn k1 k2 pend vs vp vd vf cL bL cN bN cF) (hB : B ≤ w.heap.size) (ao : Option Addr) (cap : Nat) (ys : List Int) (hsl : Sl w (.slice ao ys.length cap) ys) (hsd : ∀ k, (Value.slice ao ys.length cap).ownBlock = some k → k ≠ d) (hne : 0 < ys.length) (hok : nmOK nm = true) (hs : nm.size ≤ maxLen) (hst0 : 0 ≤ st) (hst : st ≤ 1000000)
    (l1 : pend.length ≤ 1000000) (l2 : data.length ≤ 100000000) (l3 : fresh.length ≤ 100000000) (l4 : ys.length ≤ 100000000) (hp0 : 0 ≤ peak) (hp1 : peak ≤ 1000000000) (hroom : max peak (data.length + ys.length : Int) ≤ room) :
    Calls Tryz.prog 22 #[.pointer (some ⟨d, 0, none⟩), .string nm, .slice ao ys.length cap] w fun x w' => x = .returned (.int .i64 0) ∧ ∃ pend' vp' vd' vf', One B w' d L Nb Fb p nm room limit sf (st + 1) rd safe (cs ++ [.inl ys]) (data ++ ys) (fresh ++ List.replicate ys.length true) (max peak (data ++ ys).length) nn xs vn k1 k2 pend' vs vp' vd' vf' cL bL cN bN cF ∧ Below B w w' := by
  have hmf : ∀ (fn : Fn) (first cap : Array Value) (w : World), (Instr.makeFunc fn first cap).run Tryz.prog w = .ok (.func fn first cap) w := fun _ _ _ _ => rfl
  have hcall : Calls Tryz.prog 49 #[.pointer (some ⟨d, 0, none⟩), .agg #[.slice (some ⟨w.heap.size + 1 + 1, 0, none⟩) 1 1, .bool false, .int .i64 0], .func (.func 56) #[] #[.pointer (some ⟨w.heap.size, 0, none⟩), .pointer (some ⟨w.heap.size + 1, 0, none⟩)]]
      (((w.alloc (.cells #[.pointer (some ⟨d, 0, none⟩)] 34)).alloc (.cells #[.slice ao ys.length cap] 27)).alloc (.cells #[.string nm] 9)) fun x w3 => x = .returned (.int .i64 0) ∧ ∃ pend' vp' vd' vf', One B w3 d L Nb Fb p nm room limit sf (st + 1) rd safe (cs ++ [.inl ys]) (data ++ ys) (fresh ++ List.replicate ys.length true) (max peak (data ++ ys).length) nn xs vn k1 k2 pend' vs vp' vd' vf' cL bL cN bN cF ∧ Below B w w3 := by
    have hb0 : Below w.heap.size w (((w.alloc (.cells #[.pointer (some ⟨d, 0, none⟩)] 34)).alloc (.cells #[.slice ao ys.length cap] 27)).alloc (.cells #[.string nm] 9)) := (((Below.refl _ _).alloc (Nat.le_refl _) _).alloc (by simp) _).alloc (by simp; omega) _
    have hdl := hp_lt h.disk
    have g0 : (((w.alloc (.cells #[.pointer (some ⟨d, 0, none⟩)] 34)).alloc (.cells #[.slice ao ys.length cap] 27)).alloc (.cells #[.string nm] 9)).cell? ⟨w.heap.size, 0, none⟩ = some (.pointer (some ⟨d, 0, none⟩)) := by simp [go_sem]
    have g1 : (((w.alloc (.cells #[.pointer (some ⟨d, 0, none⟩)] 34)).alloc (.cells #[.slice ao ys.length cap] 27)).alloc (.cells #[.string nm] 9)).cell? ⟨w.heap.size + 1, 0, none⟩ = some (.slice ao ys.length cap) := by simp [go_sem]
    have g2 : (((w.alloc (.cells #[.pointer (some ⟨d, 0, none⟩)] 34)).alloc (.cells #[.slice ao ys.length cap] 27)).alloc (.cells #[.string nm] 9)).cell? ⟨w.heap.size + 1 + 1, 0, none⟩ = some (.string nm) := by simp [go_sem]
    have hsz : (((w.alloc (.cells #[.pointer (some ⟨d, 0, none⟩)] 34)).alloc (.cells #[.slice ao ys.length cap] 27)).alloc (.cells #[.string nm] 9)).heap.size = w.heap.size + 3 := by simp
    obtain ⟨W, hW⟩ : ∃ W, W = (((w.alloc (.cells #[.pointer (some ⟨d, 0, none⟩)] 34)).alloc (.cells #[.slice ao ys.length cap] 27)).alloc (.cells #[.string nm] 9)) := ⟨_, rfl⟩
    rw [← hW] at hb0 g0 g1 g2 hsz ⊢
    refine stroke_there (h.below hb0) (w.heap.size + 1 + 1) 0 g2 hok hs (by omega) (by omega) hst0 hst 56 _ 0 _ (enters_of Tryz.func56 (by kernel_rfl) rfl) ?_
    intro w2 ho2 hk2
    refine (append1_one ho2 (by have := hk2.size; omega) w.heap.size (w.heap.size + 1) ao cap ys (hk2.cell g0 (fun e => by simp at e; omega)) (hk2.cell g1 (fun e => by simp at e; omega)) ((hsl.below hb0).kept hk2 (fun k hk e => hsd k hk e)) hne l1 l2 l3 l4 hp0 hp1 hroom).mono ?_
    rintro e w3 ⟨rfl, pend', vp', vd', vf', hO, hb⟩
    refine ⟨rfl, pend', vp', vd', vf', hO, ?_⟩
    exact ((hb0.mono hB).trans (hk2.below (by omega) (fun k hk e => by have := h.ge; omega))).trans hb
  have HC := hid hcall
  clear h hsl hcall
  go_enter Tryz.func22, Tryz.ntmps22
  go_wp2_with (
    go_at_call 49
    refine HC.out.mono ?_
    rintro e w3 ⟨rfl, hx⟩
    have HX := hid hx
    clear hx)
  go_ret
  exact ⟨rfl, HX.out⟩

end
end Go.Proofs.YtlmompdfombgeabGreat
