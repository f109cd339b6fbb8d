import Derived.Test.YtlmompdfombgeaaGreatH1
import Derived.Test.YtlmompdfombgeaaGreatD7
namespace Go.Proofs.YtlmompdfombgeaaGreat
open Go.RowKit Go.MapKept

/-- A pending change. -/
abbrev Chg := Sum (List Int) Nat

/-- What a pending change lies as. -/
def ChgAt (w : World) (B : Nat) (vs vd : Value) (v : Value) : Chg → Prop
  | .inl ys => ∃ sv, v = .iface 124 sv ∧ Sn w sv ys ∧ ∀ k, sv.ownBlock = some k → B ≤ k ∧ (∃ cs, w.heap[k]? = some (.cells cs 5 (0, 0))) ∧ vs.ownBlock ≠ some k ∧ vd.ownBlock ≠ some k
  | .inr n => v = .iface 125 (.int .i64 n)

/-- What pending changes lie as. -/
def Pends (w : World) (B : Nat) (vs vd : Value) (pend : List Value) (cs : List Chg) : Prop :=
  pend.length = cs.length ∧ ∀ (i : Nat) (v : Value) (c : Chg), pend[i]? = some v → cs[i]? = some c → ChgAt w B vs vd v c

theorem ChgAt.kept {w w' : World} {B : Nat} {vs vd vs' vd' v : Value} {c : Chg} {S : Nat → Prop} (h : ChgAt w B vs vd v c) (hk : Kept S w w') (hS : ∀ k cs, w.heap[k]? = some (.cells cs 5 (0, 0)) → vs.ownBlock ≠ some k → vd.ownBlock ≠ some k → ¬ S k)
    (h1 : vs'.ownBlock = vs.ownBlock ∨ ∃ k, w.heap.size ≤ k ∧ vs'.ownBlock = some k) (h2 : vd'.ownBlock = vd.ownBlock ∨ ∃ k, w.heap.size ≤ k ∧ vd'.ownBlock = some k) : ChgAt w' B vs' vd' v c := by
  cases c with
  | inr n => exact h
  | inl ys =>
    obtain ⟨sv, rfl, hs, hb⟩ := h
    refine ⟨sv, rfl, hs.kept hk (fun k e => ?_), fun k e => ?_⟩
    · obtain ⟨_, ⟨cs, a⟩, b, c⟩ := hb k e
      exact hS k cs a b c
    · obtain ⟨x, ⟨cs, a⟩, b, c⟩ := hb k e
      refine ⟨x, ⟨cs, hp_kept a hk (hS k cs a b c)⟩, ?_, ?_⟩
      · rcases h1 with h1 | ⟨j, h1, h3⟩
        · rw [h1]; exact b
        · rw [h3]; intro e2; injection e2 with e2; have := hp_lt a; omega
      · rcases h2 with h2 | ⟨j, h2, h3⟩
        · rw [h2]; exact c
        · rw [h3]; intro e2; injection e2 with e2; have := hp_lt a; omega

theorem Pends.kept {w w' : World} {B : Nat} {vs vd vs' vd' : Value} {pend : List Value} {cs : List Chg} {S : Nat → Prop} (h : Pends w B vs vd pend cs) (hk : Kept S w w') (hS : ∀ k cs, w.heap[k]? = some (.cells cs 5 (0, 0)) → vs.ownBlock ≠ some k → vd.ownBlock ≠ some k → ¬ S k)
    (h1 : vs'.ownBlock = vs.ownBlock ∨ ∃ k, w.heap.size ≤ k ∧ vs'.ownBlock = some k) (h2 : vd'.ownBlock = vd.ownBlock ∨ ∃ k, w.heap.size ≤ k ∧ vd'.ownBlock = some k) : Pends w' B vs' vd' pend cs :=
  ⟨h.1, fun i v c a b => (h.2 i v c a b).kept hk hS h1 h2⟩

theorem Pends.nil (w : World) (B : Nat) (vs vd : Value) : Pends w B vs vd [] [] := ⟨rfl, fun i v c a => by simp at a⟩

theorem Pends.snoc {w : World} {B : Nat} {vs vd : Value} {pend : List Value} {cs : List Chg} {v : Value} {c : Chg} (h : Pends w B vs vd pend cs) (hc : ChgAt w B vs vd v c) : Pends w B vs vd (pend ++ [v]) (cs ++ [c]) := by
  refine ⟨by simp [h.1], fun i a b ha hb => ?_⟩
  rw [List.getElem?_append] at ha hb
  have hl := h.1
  split at ha
  · rename_i hi
    rw [if_pos (by omega)] at hb
    exact h.2 i a b ha hb
  · rename_i hi
    rw [if_neg (by omega)] at hb
    have e : i - pend.length = 0 := by
      rcases Nat.eq_zero_or_pos (i - pend.length) with e | e
      · exact e
      · rw [List.getElem?_eq_none (by simp; omega)] at ha; cases ha
    rw [e] at ha
    rw [← hl, e] at hb
    simp at ha hb
    subst ha hb
    exact hc

/-- A disk with one file, and what lies below B is not its. -/
structure One (B : Nat) (w : World) (d L Nb Fb p : Nat) (nm : ByteArray) (room limit : Int) (sf : Array MapEntry) (st rd : Int) (safe : List Int) (cs : List Chg) (data : List Int) (fresh : List Bool) (peak : Int) (nn : Nat) (xs : List Value) (vn k1 k2 : Value) (pend : List Value) (vs vp vd vf : Value) (cL bL cN bN cF : Nat) : Prop where
  disk : DiskB w d room limit (.map (some L)) 1 (.map (some Nb)) (.map (some Fb)) vn false st k1 rd k2
  hL : w.heap[L]? = some (.map #[{ key := .int .i64 1, val := .pointer (some ⟨p, 0, none⟩), born := bL }] cL)
  hN : w.heap[Nb]? = some (.map #[{ key := .string nm, val := .int .i64 1, born := bN }] cN)
  hF : w.heap[Fb]? = some (.map sf cF)
  nf : Nb ≠ Fb
  bl : bL < cL
  bn : bN < cN
  file : FileAt w B p safe pend data fresh peak vs vp vd vf
  pen : Pends w B vs vd pend cs
  nam : w.ownsRow B 121 3 vn nn xs
  kn1 : NoKinds w k1
  kn2 : NoKinds w k2
  ge : B ≤ d ∧ B ≤ L ∧ B ≤ Nb ∧ B ≤ Fb ∧ B ≤ p

theorem One.kept {B : Nat} {w w' : World} {S : Nat → Prop} {d L Nb Fb p : Nat} {nm : ByteArray} {room limit : Int} {sf : Array MapEntry} {st rd : Int} {safe : List Int} {cs : List Chg} {data : List Int} {fresh : List Bool} {peak : Int} {nn : Nat} {xs : List Value} {vn k1 k2 : Value} {pend : List Value} {vs vp vd vf : Value} {cL bL cN bN cF : Nat}
    (h : One B w d L Nb Fb p nm room limit sf st rd safe cs data fresh peak nn xs vn k1 k2 pend vs vp vd vf cL bL cN bN cF) (hk : Kept S w w') (hS : ∀ k, S k → False) : One B w' d L Nb Fb p nm room limit sf st rd safe cs data fresh peak nn xs vn k1 k2 pend vs vp vd vf cL bL cN bN cF :=
  ⟨hp_kept h.disk hk (fun e => hS _ e), hp_kept h.hL hk (fun e => hS _ e), hp_kept h.hN hk (fun e => hS _ e), hp_kept h.hF hk (fun e => hS _ e), h.nf, h.bl, h.bn, h.file.kept hk (fun e => hS _ e) (fun _ _ e => hS _ e) (fun _ _ e => hS _ e) (fun _ _ e => hS _ e) (fun _ _ e => hS _ e),
   h.pen.kept hk (fun _ _ _ _ _ e => hS _ e) (.inl rfl) (.inl rfl), ownsRow_kept h.nam hk (fun _ _ e => hS _ e), h.kn1.kept hk (fun _ _ _ e => hS _ e), h.kn2.kept hk (fun _ _ _ e => hS _ e), h.ge⟩

theorem One.below {B : Nat} {w w' : World} {d L Nb Fb p : Nat} {nm : ByteArray} {room limit : Int} {sf : Array MapEntry} {st rd : Int} {safe : List Int} {cs : List Chg} {data : List Int} {fresh : List Bool} {peak : Int} {nn : Nat} {xs : List Value} {vn k1 k2 : Value} {pend : List Value} {vs vp vd vf : Value} {cL bL cN bN cF : Nat}
    (h : One B w d L Nb Fb p nm room limit sf st rd safe cs data fresh peak nn xs vn k1 k2 pend vs vp vd vf cL bL cN bN cF) (hk : Below w.heap.size w w') : One B w' d L Nb Fb p nm room limit sf st rd safe cs data fresh peak nn xs vn k1 k2 pend vs vp vd vf cL bL cN bN cF :=
  h.kept (Kept.ofBelow hk) (fun _ e => e)

/-- A stroke counted. -/
theorem One.stroke {B : Nat} {w : World} {d L Nb Fb p : Nat} {nm : ByteArray} {room limit : Int} {sf : Array MapEntry} {st rd : Int} {safe : List Int} {cs : List Chg} {data : List Int} {fresh : List Bool} {peak : Int} {nn : Nat} {xs : List Value} {vn k1 k2 : Value} {pend : List Value} {vs vp vd vf : Value} {cL bL cN bN cF : Nat}
    (h : One B w d L Nb Fb p nm room limit sf st rd safe cs data fresh peak nn xs vn k1 k2 pend vs vp vd vf cL bL cN bN cF) (n : Int) (nq : Nat) : One B ((w.setCell ⟨d, 8, none⟩ (.int .i64 n)).drewN nq) d L Nb Fb p nm room limit sf n rd safe cs data fresh peak nn xs vn k1 k2 pend vs vp vd vf cL bL cN bN cF := by
  have hk : Kept (fun k => k = d) w ((w.setCell ⟨d, 8, none⟩ (.int .i64 n)).drewN nq) := by
    have h0 := (Kept.refl (fun k => k = d) w).setCell (p := ⟨d, 8, none⟩) (fun _ => rfl) (.int .i64 n)
    exact ⟨h0.os, h0.tape, h0.output, h0.size, h0.block⟩
  have hd := h.disk
  refine ⟨set_block (i := 8) hd _, hp_kept h.hL hk (fun e => hp_ne hd h.hL (by simp) e.symm), hp_kept h.hN hk (fun e => hp_ne hd h.hN (by simp) e.symm), hp_kept h.hF hk (fun e => hp_ne hd h.hF (by simp) e.symm), h.nf, h.bl, h.bn, h.file.kept hk (fun e => hp_ne hd h.file.blk (by simp) e.symm) ?_ ?_ ?_ ?_, h.pen.kept hk ?_ (.inl rfl) (.inl rfl), ownsRow_kept h.nam hk ?_, h.kn1.kept hk ?_, h.kn2.kept hk ?_, h.ge⟩
  · intro k hq e; subst e; exact own_ne_blk h.file.os hd (by decide) hq
  · intro k hq e; subst e; exact own_ne_blk h.file.op hd (by decide) hq
  · intro k hq e; subst e; exact own_ne_blk h.file.od hd (by decide) hq
  · intro k hq e; subst e; exact own_ne_blk h.file.of hd (by decide) hq
  · intro k cs a _ _ e; subst e; exact hp_ne hd a (by simp) rfl
  · intro k hq e; subst e; exact own_ne_blk h.nam hd (by decide) hq
  · intro b c a e; subst e; exact hp_ne hd a (by simp) rfl
  · intro b c a e; subst e; exact hp_ne hd a (by simp) rfl

end Go.Proofs.YtlmompdfombgeaaGreat
