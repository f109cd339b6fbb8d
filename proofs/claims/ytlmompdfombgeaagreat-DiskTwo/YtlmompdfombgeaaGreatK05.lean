import Derived.Test.YtlmompdfombgeaaGreatK04
namespace Go.Proofs.YtlmompdfombgeaaGreat
open Go.RowKit Go.MapKept

/-- A pending change. -/
abbrev Chg := Sum (List Int) Nat

/-- What a pending change lies as. -/
def ChgAt (w : World) (B : Nat) (vs vd : Value) (v : Value) : Chg → Prop
  | .inl ys => ∃ sv, v = .iface 124 sv ∧ Sn w sv ys ∧ ∀ k, sv.ownBlock = some k → B ≤ k ∧ (∃ cs, w.heap[k]? = some (.cells cs 5 (0, 0))) ∧ vs.ownBlock ≠ some k ∧ vd.ownBlock ≠ some k
  | .inr n => v = .iface 125 (.int .i64 n)

/-- What pending changes lie as. -/
def Pends (w : World) (B : Nat) (vs vd : Value) (pend : List Value) (cs : List Chg) : Prop :=
  pend.length = cs.length ∧ ∀ (i : Nat) (v : Value) (c : Chg), pend[i]? = some v → cs[i]? = some c → ChgAt w B vs vd v c

theorem ChgAt.kept {w w' : World} {B : Nat} {vs vd vs' vd' v : Value} {c : Chg} {S : Nat → Prop} (h : ChgAt w B vs vd v c) (hk : Kept S w w') (hS : ∀ k cs, w.heap[k]? = some (.cells cs 5 (0, 0)) → vs.ownBlock ≠ some k → vd.ownBlock ≠ some k → ¬ S k)
    (h1 : vs'.ownBlock = vs.ownBlock ∨ ∃ k, w.heap.size ≤ k ∧ vs'.ownBlock = some k) (h2 : vd'.ownBlock = vd.ownBlock ∨ ∃ k, w.heap.size ≤ k ∧ vd'.ownBlock = some k) : ChgAt w' B vs' vd' v c := by
  cases c with
  | inr n => exact h
  | inl ys =>
    obtain ⟨sv, rfl, hs, hb⟩ := h
    refine ⟨sv, rfl, hs.kept hk (fun k e => ?_), fun k e => ?_⟩
    · obtain ⟨_, ⟨cs, a⟩, b, c⟩ := hb k e
      exact hS k cs a b c
    · obtain ⟨x, ⟨cs, a⟩, b, c⟩ := hb k e
      refine ⟨x, ⟨cs, hp_kept a hk (hS k cs a b c)⟩, ?_, ?_⟩
      · rcases h1 with h1 | ⟨j, h1, h3⟩
        · rw [h1]; exact b
        · rw [h3]; intro e2; injection e2 with e2; have := hp_lt a; omega
      · rcases h2 with h2 | ⟨j, h2, h3⟩
        · rw [h2]; exact c
        · rw [h3]; intro e2; injection e2 with e2; have := hp_lt a; omega

theorem Pends.kept {w w' : World} {B : Nat} {vs vd vs' vd' : Value} {pend : List Value} {cs : List Chg} {S : Nat → Prop} (h : Pends w B vs vd pend cs) (hk : Kept S w w') (hS : ∀ k cs, w.heap[k]? = some (.cells cs 5 (0, 0)) → vs.ownBlock ≠ some k → vd.ownBlock ≠ some k → ¬ S k)
    (h1 : vs'.ownBlock = vs.ownBlock ∨ ∃ k, w.heap.size ≤ k ∧ vs'.ownBlock = some k) (h2 : vd'.ownBlock = vd.ownBlock ∨ ∃ k, w.heap.size ≤ k ∧ vd'.ownBlock = some k) : Pends w' B vs' vd' pend cs :=
  ⟨h.1, fun i v c a b => (h.2 i v c a b).kept hk hS h1 h2⟩

theorem Pends.nil (w : World) (B : Nat) (vs vd : Value) : Pends w B vs vd [] [] := ⟨rfl, fun i v c a => by simp at a⟩

theorem Pends.snoc {w : World} {B : Nat} {vs vd : Value} {pend : List Value} {cs : List Chg} {v : Value} {c : Chg} (h : Pends w B vs vd pend cs) (hc : ChgAt w B vs vd v c) : Pends w B vs vd (pend ++ [v]) (cs ++ [c]) := by
  refine ⟨by simp [h.1], fun i a b ha hb => ?_⟩
  rw [List.getElem?_append] at ha hb
  have hl := h.1
  split at ha
  · rename_i hi
    rw [if_pos (by omega)] at hb
    exact h.2 i a b ha hb
  · rename_i hi
    rw [if_neg (by omega)] at hb
    have e : i - pend.length = 0 := by
      rcases Nat.eq_zero_or_pos (i - pend.length) with e | e
      · exact e
      · rw [List.getElem?_eq_none (by simp; omega)] at ha; cases ha
    rw [e] at ha
    rw [← hl, e] at hb
    simp at ha hb
    subst ha hb
    exact hc

/-- A disk with one file, and what lies below B is not its. -/
structure One (B : Nat) (w : World) (d L Nb Fb p : Nat) (nm : ByteArray) (room limit : Int) (sf : Array MapEntry) (st rd : Int) (safe : List Int) (cs : List Chg) (data : List Int) (fresh : List Bool) (peak : Int) (nn : Nat) (xs : List Value) (vn k1 k2 : Value) (pend : List Value) (vs vp vd vf : Value) (cL bL cN bN cF : Nat) : Prop where
  disk : DiskB w d room limit (.map (some L)) 1 (.map (some Nb)) (.map (some Fb)) vn false st k1 rd k2
  hL : w.heap[L]? = some (.map #[{ key := .int .i64 1, val := .pointer (some ⟨p, 0, none⟩), born := bL }] cL)
  hN : w.heap[Nb]? = some (.map #[{ key := .string nm, val := .int .i64 1, born := bN }] cN)
  hF : w.heap[Fb]? = some (.map sf cF)
  nf : Nb ≠ Fb
  bl : bL < cL
  bn : bN < cN
  file : FileAt w B p safe pend data fresh peak vs vp vd vf
  pen : Pends w B vs vd pend cs
  nam : w.ownsRow B 121 3 vn nn xs
  kn1 : NoKinds w k1
  kn2 : NoKinds w k2
  ge : B ≤ d ∧ B ≤ L ∧ B ≤ Nb ∧ B ≤ Fb ∧ B ≤ p

theorem One.kept {B : Nat} {w w' : World} {S : Nat → Prop} {d L Nb Fb p : Nat} {nm : ByteArray} {room limit : Int} {sf : Array MapEntry} {st rd : Int} {safe : List Int} {cs : List Chg} {data : List Int} {fresh : List Bool} {peak : Int} {nn : Nat} {xs : List Value} {vn k1 k2 : Value} {pend : List Value} {vs vp vd vf : Value} {cL bL cN bN cF : Nat}
    (h : One B w d L Nb Fb p nm room limit sf st rd safe cs data fresh peak nn xs vn k1 k2 pend vs vp vd vf cL bL cN bN cF) (hk : Kept S w w') (hS : ∀ k, S k → False) : One B w' d L Nb Fb p nm room limit sf st rd safe cs data fresh peak nn xs vn k1 k2 pend vs vp vd vf cL bL cN bN cF :=
  ⟨hp_kept h.disk hk (fun e => hS _ e), hp_kept h.hL hk (fun e => hS _ e), hp_kept h.hN hk (fun e => hS _ e), hp_kept h.hF hk (fun e => hS _ e), h.nf, h.bl, h.bn, h.file.kept hk (fun e => hS _ e) (fun _ _ e => hS _ e) (fun _ _ e => hS _ e) (fun _ _ e => hS _ e) (fun _ _ e => hS _ e),
   h.pen.kept hk (fun _ _ _ _ _ e => hS _ e) (.inl rfl) (.inl rfl), ownsRow_kept h.nam hk (fun _ _ e => hS _ e), h.kn1.kept hk (fun _ _ _ e => hS _ e), h.kn2.kept hk (fun _ _ _ e => hS _ e), h.ge⟩

theorem One.below {B : Nat} {w w' : World} {d L Nb Fb p : Nat} {nm : ByteArray} {room limit : Int} {sf : Array MapEntry} {st rd : Int} {safe : List Int} {cs : List Chg} {data : List Int} {fresh : List Bool} {peak : Int} {nn : Nat} {xs : List Value} {vn k1 k2 : Value} {pend : List Value} {vs vp vd vf : Value} {cL bL cN bN cF : Nat}
    (h : One B w d L Nb Fb p nm room limit sf st rd safe cs data fresh peak nn xs vn k1 k2 pend vs vp vd vf cL bL cN bN cF) (hk : Below w.heap.size w w') : One B w' d L Nb Fb p nm room limit sf st rd safe cs data fresh peak nn xs vn k1 k2 pend vs vp vd vf cL bL cN bN cF :=
  h.kept (Kept.ofBelow hk) (fun _ e => e)

/-- A stroke counted. -/
theorem One.stroke {B : Nat} {w : World} {d L Nb Fb p : Nat} {nm : ByteArray} {room limit : Int} {sf : Array MapEntry} {st rd : Int} {safe : List Int} {cs : List Chg} {data : List Int} {fresh : List Bool} {peak : Int} {nn : Nat} {xs : List Value} {vn k1 k2 : Value} {pend : List Value} {vs vp vd vf : Value} {cL bL cN bN cF : Nat}
    (h : One B w d L Nb Fb p nm room limit sf st rd safe cs data fresh peak nn xs vn k1 k2 pend vs vp vd vf cL bL cN bN cF) (n : Int) (nq : Nat) : One B ((w.setCell ⟨d, 8, none⟩ (.int .i64 n)).drewN nq) d L Nb Fb p nm room limit sf n rd safe cs data fresh peak nn xs vn k1 k2 pend vs vp vd vf cL bL cN bN cF := by
  have hk : Kept (fun k => k = d) w ((w.setCell ⟨d, 8, none⟩ (.int .i64 n)).drewN nq) := by
    have h0 := (Kept.refl (fun k => k = d) w).setCell (p := ⟨d, 8, none⟩) (fun _ => rfl) (.int .i64 n)
    exact ⟨h0.os, h0.tape, h0.output, h0.size, h0.block⟩
  have hd := h.disk
  refine ⟨set_block (i := 8) hd _, hp_kept h.hL hk (fun e => hp_ne hd h.hL (by simp) e.symm), hp_kept h.hN hk (fun e => hp_ne hd h.hN (by simp) e.symm), hp_kept h.hF hk (fun e => hp_ne hd h.hF (by simp) e.symm), h.nf, h.bl, h.bn, h.file.kept hk (fun e => hp_ne hd h.file.blk (by simp) e.symm) ?_ ?_ ?_ ?_, h.pen.kept hk ?_ (.inl rfl) (.inl rfl), ownsRow_kept h.nam hk ?_, h.kn1.kept hk ?_, h.kn2.kept hk ?_, h.ge⟩
  · intro k hq e; subst e; exact own_ne_blk h.file.os hd (by decide) hq
  · intro k hq e; subst e; exact own_ne_blk h.file.op hd (by decide) hq
  · intro k hq e; subst e; exact own_ne_blk h.file.od hd (by decide) hq
  · intro k hq e; subst e; exact own_ne_blk h.file.of hd (by decide) hq
  · intro k cs a _ _ e; subst e; exact hp_ne hd a (by simp) rfl
  · intro k hq e; subst e; exact own_ne_blk h.nam hd (by decide) hq
  · intro b c a e; subst e; exact hp_ne hd a (by simp) rfl
  · intro b c a e; subst e; exact hp_ne hd a (by simp) rfl

end Go.Proofs.YtlmompdfombgeaaGreat

namespace Go.Proofs.YtlmompdfombgeaaGreat
open Go.RowKit Go.MapKept

theorem One.change {B : Nat} {w w' : World} {d L Nb Fb p : Nat} {nm : ByteArray} {room limit : Int} {sf : Array MapEntry} {st rd : Int} {safe : List Int} {cs : List Chg} {data : List Int} {fresh : List Bool} {peak : Int} {nn : Nat} {xs : List Value} {vn k1 k2 : Value} {pend : List Value} {vs vp vd vf : Value} {cL bL cN bN cF : Nat}
    (h : One B w d L Nb Fb p nm room limit sf st rd safe cs data fresh peak nn xs vn k1 k2 pend vs vp vd vf cL bL cN bN cF)
    (hk : Kept (fun k => k = p ∨ vs.ownBlock = some k ∨ vp.ownBlock = some k ∨ vd.ownBlock = some k ∨ vf.ownBlock = some k) w w')
    {safe' : List Int} {cs' : List Chg} {data' : List Int} {fresh' : List Bool} {peak' : Int} {pend' : List Value} {vs' vp' vd' vf' : Value} (hf : FileAt w' B p safe' pend' data' fresh' peak' vs' vp' vd' vf') (hp : Pends w' B vs' vd' pend' cs') :
    One B w' d L Nb Fb p nm room limit sf st rd safe' cs' data' fresh' peak' nn xs vn k1 k2 pend' vs' vp' vd' vf' cL bL cN bN cF ∧ Below B w w' := by
  have hd := h.disk
  have hx : ∀ (k : Nat) (o : Obj), w.heap[k]? = some o → (∀ cs t fr, o = .cells cs t fr → t ≠ 112 ∧ t ≠ 5 ∧ t ≠ 171 ∧ t ≠ 4) → ¬ (k = p ∨ vs.ownBlock = some k ∨ vp.ownBlock = some k ∨ vd.ownBlock = some k ∨ vf.ownBlock = some k) := by
    intro k o ho hn
    have key : ∀ (cs : Array Value) (t : TypeId), w.heap[k]? = some (.cells cs t (0, 0)) → t = 112 ∨ t = 5 ∨ t = 171 ∨ t = 4 → False := by
      intro cs t hc ht
      rw [ho] at hc
      injection hc with hc
      obtain ⟨a, b, c, e⟩ := hn _ _ _ hc
      rcases ht with ht | ht | ht | ht
      · exact a ht
      · exact b ht
      · exact c ht
      · exact e ht
    rintro (e | e | e | e | e)
    · subst e; exact key _ _ h.file.blk (.inl rfl)
    · obtain ⟨cs, a⟩ := owns_block h.file.os k e; exact key _ _ a (.inr (.inl rfl))
    · obtain ⟨cs, a⟩ := owns_block h.file.op k e; exact key _ _ a (.inr (.inr (.inl rfl)))
    · obtain ⟨cs, a⟩ := owns_block h.file.od k e; exact key _ _ a (.inr (.inl rfl))
    · obtain ⟨cs, a⟩ := owns_block h.file.of k e; exact key _ _ a (.inr (.inr (.inr rfl)))
  have hm : ∀ (k : Nat) (es : Array MapEntry) (c : Nat), w.heap[k]? = some (.map es c) → ¬ (k = p ∨ vs.ownBlock = some k ∨ vp.ownBlock = some k ∨ vd.ownBlock = some k ∨ vf.ownBlock = some k) := fun k es c a => hx k _ a (fun _ _ _ e => by cases e)
  refine ⟨⟨hp_kept hd hk (hx _ _ hd (fun _ _ _ e => by injection e with _ e _; subst e; decide)), hp_kept h.hL hk (hm _ _ _ h.hL), hp_kept h.hN hk (hm _ _ _ h.hN), hp_kept h.hF hk (hm _ _ _ h.hF), h.nf, h.bl, h.bn, hf, hp, ownsRow_kept h.nam hk ?_, h.kn1.kept hk (fun b c a => hm _ _ _ a), h.kn2.kept hk (fun b c a => hm _ _ _ a), h.ge⟩, ?_⟩
  · intro k e
    obtain ⟨cs, a⟩ := owns_block h.nam k e
    exact hx _ _ a (fun _ _ _ e => by injection e with _ e _; subst e; decide)
  · refine ⟨hk.os, hk.tape, hk.output, hk.size, fun k hkb => ?_⟩
    by_cases hl : k < w.heap.size
    · refine hk.block k hl ?_
      rintro (e | e | e | e | e)
      · have := h.ge; omega
      · have := (h.file.os.lt k e).1; omega
      · have := (h.file.op.lt k e).1; omega
      · have := (h.file.od.lt k e).1; omega
      · have := (h.file.of.lt k e).1; omega
    · have := hp_lt hd
      have := h.ge
      omega

section
variable {B : Nat} {w : World} {d L Nb Fb p : Nat} {nm : ByteArray} {room limit : Int} {sf : Array MapEntry} {st rd : Int} {safe : List Int} {cs : List Chg} {data : List Int} {fresh : List Bool} {peak : Int} {nn : Nat} {xs : List Value} {vn k1 k2 : Value} {pend : List Value} {vs vp vd vf : Value} {cL bL cN bN cF : Nat}

set_option maxRecDepth 100000 in
set_option maxHeartbeats 1600000 in
theorem append1_one (h : One B w d L Nb Fb p nm room limit sf st rd safe cs data fresh peak nn xs vn k1 k2 pend vs vp vd vf cL bL cN bN cF) (hB : B ≤ w.heap.size) (xd xx : Nat) (ao : Option Addr) (cap : Nat) (ys : List Int) (hxd : w.cell? ⟨xd, 0, none⟩ = some (.pointer (some ⟨d, 0, none⟩))) (hxx : w.cell? ⟨xx, 0, none⟩ = some (.slice ao ys.length cap)) (hsl : Sl w (.slice ao ys.length cap) ys) (hne : 0 < ys.length)
    (l1 : pend.length ≤ 1000000) (l2 : data.length ≤ 100000000) (l3 : fresh.length ≤ 100000000) (l4 : ys.length ≤ 100000000) (hp0 : 0 ≤ peak) (hp1 : peak ≤ 1000000000) (hroom : max peak (data.length + ys.length : Int) ≤ room) :
    Calls Tryz.prog 80 #[.pointer (some ⟨p, 0, none⟩), .pointer (some ⟨xd, 0, none⟩), .pointer (some ⟨xx, 0, none⟩)] w fun x w' => x = .returned (.int .i64 0) ∧ ∃ pend' vp' vd' vf', One B w' d L Nb Fb p nm room limit sf st rd safe (cs ++ [.inl ys]) (data ++ ys) (fresh ++ List.replicate ys.length true) (max peak (data ++ ys).length) nn xs vn k1 k2 pend' vs vp' vd' vf' cL bL cN bN cF ∧ Below B w w' := by
  obtain ⟨c0, c1, c2, c3, c4, c5, c6, c7, c8, c9, c10, c11⟩ := h.disk.cells
  obtain ⟨p0, p1, p2, p3, p4⟩ := cells5 h.file.blk
  obtain ⟨ad, cd, hvd⟩ := own_shape h.file.od
  rw [hvd] at p2
  obtain ⟨mx, hmx⟩ : ∃ mx, mx = max peak (data.length + ys.length : Int) := ⟨_, rfl⟩
  rw [← hmx] at hroom
  have hm1 : mx ≤ 1000000000 := by rw [hmx]; simp only [Int.max_def]; split <;> omega
  have hm2 : 0 ≤ mx := by rw [hmx]; simp only [Int.max_def]; split <;> omega
  have j : decide (room < mx) = false := by simp; omega
  have HMX := hid hmx
  have HO := hid h
  have HSL := hid hsl
  clear h hsl c1 c3 c4 c5 c6 c7 c8 c9 c10 c11 p0 p1 p3 hmx
  go_enter Tryz.func80, Tryz.ntmps80
  go_wp2_with (
    go_at_call 74
    refine (held_one L cL bL p _ peak _ HO.out.hL HO.out.bl p4 hp0 hp1).mono ?_
    rintro e w1 ⟨rfl, hb⟩
    have a1 := (hb.cell (World.block_lt_of_cell? _ _ hxd)).trans hxd
    have a2 := (hb.cell (World.block_lt_of_cell? _ _ hxx)).trans hxx
    have a3 := (hb.cell (World.block_lt_of_cell? _ _ p2)).trans p2
    have a4 := (hb.cell (World.block_lt_of_cell? _ _ p4)).trans p4
    have a5 := (hb.cell (World.block_lt_of_cell? _ _ c0)).trans c0
    have HB1 := hid hb
    clear hb)
  go_region
  rw [← HMX.out]
  have j' : decide (room < peak - peak + mx) = false := by simp; omega
  go_wp2_with fail
  go_quiet (fail)
  have hBW : Below w.heap.size w (w1.drew.drewN nq) := below_drewN (HB1.out.drew) nq
  have hWO := HO.out.below hBW
  have hWS := HSL.out.below hBW
  have hWx := (hBW.cell (World.block_lt_of_cell? _ _ hxx)).trans hxx
  obtain ⟨W, hW⟩ : ∃ W, W = w1.drew.drewN nq := ⟨_, rfl⟩
  rw [← hW] at hBW hWO hWS hWx ⊢
  have HWO := hid (And.intro hBW (And.intro hWO hWS))
  have hgt : (0 : Int) < (ys.length : Int) := by omega
  clear hW hBW hWO hWS a1 a2 a3 a4 a5 HB1 hxd hxx c0 c2 p2 p4 j j' HO HSL
  go_wp2_with (first
    | (go_at_call 71
       refine (copied_any _ ys _ HWO.out.2.2 (by omega)).mono ?_
       rintro e w2 ⟨rfl, ho, hb⟩
       have HC := hid (And.intro ho hb)
       clear ho hb)
    | (go_at_call 81; go_loud (
       refine (pendApp_any B p (.slice (some ⟨W.heap.size, 0, none⟩) ys.length ys.length) ys w2 safe pend data fresh peak vs vp vd vf (HWO.out.2.1.below HC.out.2).file (sn_of_owns (HC.out.1.owns (Nat.zero_le _) (by unfold maxLen; omega))) (Nat.le_trans hB (Nat.le_trans HWO.out.1.size HC.out.2.size)) l1 l2 l3 l4 hp0 hp1 ?hsb).mono ?_
       case hsb =>
         intro k hk
         simp [Value.ownBlock] at hk
         have h1 := hp_lt HWO.out.2.1.file.blk
         refine ⟨by omega, fun e => ?_⟩
         have := (HWO.out.2.1.file.op.lt k e).2
         omega
       rintro e w3 ⟨rfl, vp', vd', vf', hf3, hl3, hk3, -, -⟩
       have HZ := hid (And.intro hf3 (And.intro hl3 hk3))
       clear hf3 hl3 hk3)))
  go_ret
  obtain ⟨hBW, hWO, hWS⟩ := HWO.out
  obtain ⟨ho, hb⟩ := HC.out
  obtain ⟨hf3, hl3, hk3⟩ := HZ.out
  have h2 := hWO.below hb
  have hk4 : Kept (fun k => k = p ∨ vs.ownBlock = some k ∨ vp.ownBlock = some k ∨ vd.ownBlock = some k ∨ vf.ownBlock = some k) w2 w3 := hk3.mono (by
    rintro i _ (e | e | e | e)
    · exact .inl e
    · exact .inr (.inr (.inl e))
    · exact .inr (.inr (.inr (.inl e)))
    · exact .inr (.inr (.inr (.inr e))))
  have hS : ∀ (k : Nat) (c5 : Array Value), w2.heap[k]? = some (.cells c5 5 (0, 0)) → vs.ownBlock ≠ some k → vd.ownBlock ≠ some k → ¬ (k = p ∨ vp.ownBlock = some k ∨ vd.ownBlock = some k ∨ vf.ownBlock = some k) := by
    intro k c5 a b c
    rintro (e | e | e | e)
    · subst e; rw [h2.file.blk] at a; cases a
    · obtain ⟨c6, a2⟩ := owns_block h2.file.op k e; rw [a2] at a; cases a
    · exact c e
    · obtain ⟨c6, a2⟩ := owns_block h2.file.of k e; rw [a2] at a; cases a
  have hpen := h2.pen.kept (vs' := vs) (vd' := vd') hk3 hS (.inl rfl) hl3
  have hWl := hWO.file
  have hnew : ChgAt w2 B vs vd (.iface 124 (.slice (some ⟨W.heap.size, 0, none⟩) ys.length ys.length)) (.inl ys) := by
    refine ⟨_, rfl, sn_of_owns (ho.owns (Nat.zero_le _) (by unfold maxLen; omega)), ?_⟩
    intro k hk
    simp [Value.ownBlock] at hk
    subst hk
    refine ⟨Nat.le_trans hB hBW.size, ⟨_, ho⟩, fun e => ?_, fun e => ?_⟩
    · exact Nat.lt_irrefl _ (hWl.os.lt _ e).2
    · exact Nat.lt_irrefl _ (hWl.od.lt _ e).2
  have hnew3 := hnew.kept (vs' := vs) (vd' := vd') hk3 hS (.inl rfl) hl3
  obtain ⟨q1, q2⟩ := h2.change hk4 hf3 (hpen.snoc hnew3)
  exact ⟨rfl, _, _, _, _, q1, ((hBW.mono hB).trans (hb.mono (Nat.le_trans hB hBW.size))).trans q2⟩

end
end Go.Proofs.YtlmompdfombgeaaGreat

namespace Go.Proofs.YtlmompdfombgeaaGreat
open Go.RowKit Go.MapKept

theorem keptd {w w1 : World} {d n : Nat} {x : Value} {nq : Nat} (h : Below w.heap.size w w1) : Kept (fun k => k = d) w ((w1.setCell ⟨d, n, none⟩ x).drewN nq) := by
  have h0 := ((Kept.ofBelow h).mono (S' := fun k => k = d) (fun _ _ e => e.elim)).setCell (p := ⟨d, n, none⟩) (fun _ => rfl) x
  exact ⟨h0.os, h0.tape, h0.output, h0.size, h0.block⟩

section
variable {B : Nat} {w : World} {d L Nb Fb p : Nat} {nm : ByteArray} {room limit : Int} {sf : Array MapEntry} {st rd : Int} {safe : List Int} {cs : List Chg} {data : List Int} {fresh : List Bool} {peak : Int} {nn : Nat} {xs : List Value} {vn k1 k2 : Value} {pend : List Value} {vs vp vd vf : Value} {cL bL cN bN cF : Nat}

theorem beq_self (s : ByteArray) : (s == s) = true := (bytes_beq s s).2 rfl

theorem One.find (h : One B w d L Nb Fb p nm room limit sf st rd safe cs data fresh peak nn xs vn k1 k2 pend vs vp vd vf cL bL cN bN cF) (g : Nat) (sz : Int) (hg : w.cell? ⟨g, 0, none⟩ = some (.string nm)) (hok : nmOK nm = true) (hs : nm.size ≤ maxLen) (h0 : 0 ≤ sz) (h1 : sz ≤ data.length) :
    Calls Tryz.prog 69 #[.pointer (some ⟨d, 0, none⟩), .agg #[.slice (some ⟨g, 0, none⟩) 1 1, .bool false, .int .i64 sz]] w fun x w' => x = .returned (.tuple #[.pointer (some ⟨p, 0, none⟩), .int .i64 0]) ∧ Below w.heap.size w w' := by
  obtain ⟨c0, c1, c2, c3, c4, c5, c6, c7, c8, c9, c10, c11⟩ := h.disk.cells
  obtain ⟨p0, p1, p2, p3, p4⟩ := cells5 h.file.blk
  obtain ⟨ad, cd, hvd⟩ := own_shape h.file.od
  rw [hvd] at p2
  exact find_there d g Nb L p nm _ _ cN cL 0 0 1 sz ad data.length cd w c7 c4 c2 h.hN h.hL hg hok hs (by simp [Instr.findNow, Instr.sameNow, beq_self]) (by simp [Instr.findNow, Instr.sameNow]) p2 h0 h1

theorem stroke_there (h : One B w d L Nb Fb p nm room limit sf st rd safe cs data fresh peak nn xs vn k1 k2 pend vs vp vd vf cL bL cN bN cF) (g : Nat) (sz : Int) (hg : w.cell? ⟨g, 0, none⟩ = some (.string nm)) (hok : nmOK nm = true) (hs : nm.size ≤ maxLen) (h0 : 0 ≤ sz) (h1 : sz ≤ data.length) (hst0 : 0 ≤ st) (hst : st ≤ 1000000)
    (fn : Nat) (cap : Array Value) (r : Int) (R3 : World → Prop) (he : ∀ args w, (callFunc fn args).run Tryz.prog w = .ok (.enter fn args) w)
    (hdo : ∀ w2, One B w2 d L Nb Fb p nm room limit sf (st + 1) rd safe cs data fresh peak nn xs vn k1 k2 pend vs vp vd vf cL bL cN bN cF → Kept (fun k => k = d) w w2 → Calls Tryz.prog fn (#[.pointer (some ⟨p, 0, none⟩)] ++ cap) w2 fun x w3 => x = .returned (.int .i64 r) ∧ R3 w3) :
    Calls Tryz.prog 76 #[.pointer (some ⟨d, 0, none⟩), .agg #[.slice (some ⟨g, 0, none⟩) 1 1, .bool false, .int .i64 sz], .func (.func fn) #[] cap] w fun x w3 => x = .returned (.int .i64 r) ∧ R3 w3 := by
  have hba : Below w.heap.size w (w.alloc (.cells #[.slice (some ⟨g, 0, none⟩) 1 1, .bool false, .int .i64 sz] 104)) := (Below.refl _ _).alloc (Nat.le_refl _) _
  refine stroke_ok d fn _ _ _ _ cap r w (fun w1 => Below w.heap.size w w1) (fun w2 => One B w2 d L Nb Fb p nm room limit sf (st + 1) rd safe cs data fresh peak nn xs vn k1 k2 pend vs vp vd vf cL bL cN bN cF ∧ Kept (fun k => k = d) w w2) R3 he rfl rfl rfl ?_ ?_ (fun w2 h2 => hdo w2 h2.1 h2.2)
  · refine ((h.below hba).find g sz ((hba.cell (World.block_lt_of_cell? _ _ hg)).trans hg) hok hs h0 h1).mono ?_
    rintro e w1 ⟨rfl, hb⟩
    exact ⟨rfl, hba.trans (hb.mono (by simp))⟩
  · intro w1 hb
    have hw := h.below hb
    obtain ⟨c0, c1, c2, c3, c4, c5, c6, c7, c8, c9, c10, c11⟩ := hw.disk.cells
    refine (count_any d 8 st k1 w1 _ _ hw.disk c8 c9 hst0 (by omega) hw.kn1).mono ?_
    rintro e w2 ⟨nq, rfl, rfl⟩
    exact ⟨rfl, hw.stroke (st + 1) nq, keptd hb⟩

set_option maxRecDepth 100000 in
set_option maxHeartbeats 1600000 in
theorem append_one (h : One B w d L Nb Fb p nm room limit sf st rd safe cs data fresh peak nn xs vn k1 k2 pend vs vp vd vf cL bL cN bN cF) (hB : B ≤ w.heap.size) (ao : Option Addr) (cap : Nat) (ys : List Int) (hsl : Sl w (.slice ao ys.length cap) ys) (hsd : ∀ k, (Value.slice ao ys.length cap).ownBlock = some k → k ≠ d) (hne : 0 < ys.length) (hok : nmOK nm = true) (hs : nm.size ≤ maxLen) (hst0 : 0 ≤ st) (hst : st ≤ 1000000)
    (l1 : pend.length ≤ 1000000) (l2 : data.length ≤ 100000000) (l3 : fresh.length ≤ 100000000) (l4 : ys.length ≤ 100000000) (hp0 : 0 ≤ peak) (hp1 : peak ≤ 1000000000) (hroom : max peak (data.length + ys.length : Int) ≤ room) :
    Calls Tryz.prog 21 #[.pointer (some ⟨d, 0, none⟩), .string nm, .slice ao ys.length cap] w fun x w' => x = .returned (.int .i64 0) ∧ ∃ pend' vp' vd' vf', One B w' d L Nb Fb p nm room limit sf (st + 1) rd safe (cs ++ [.inl ys]) (data ++ ys) (fresh ++ List.replicate ys.length true) (max peak (data ++ ys).length) nn xs vn k1 k2 pend' vs vp' vd' vf' cL bL cN bN cF ∧ Below B w w' := by
  have hmf : ∀ (fn : Fn) (first cap : Array Value) (w : World), (Instr.makeFunc fn first cap).run Tryz.prog w = .ok (.func fn first cap) w := fun _ _ _ _ => rfl
  have hcall : Calls Tryz.prog 76 #[.pointer (some ⟨d, 0, none⟩), .agg #[.slice (some ⟨w.heap.size + 1 + 1, 0, none⟩) 1 1, .bool false, .int .i64 0], .func (.func 80) #[] #[.pointer (some ⟨w.heap.size, 0, none⟩), .pointer (some ⟨w.heap.size + 1, 0, none⟩)]]
      (((w.alloc (.cells #[.pointer (some ⟨d, 0, none⟩)] 22)).alloc (.cells #[.slice ao ys.length cap] 35)).alloc (.cells #[.string nm] 9)) fun x w3 => x = .returned (.int .i64 0) ∧ ∃ pend' vp' vd' vf', One B w3 d L Nb Fb p nm room limit sf (st + 1) rd safe (cs ++ [.inl ys]) (data ++ ys) (fresh ++ List.replicate ys.length true) (max peak (data ++ ys).length) nn xs vn k1 k2 pend' vs vp' vd' vf' cL bL cN bN cF ∧ Below B w w3 := by
    have hb0 : Below w.heap.size w (((w.alloc (.cells #[.pointer (some ⟨d, 0, none⟩)] 22)).alloc (.cells #[.slice ao ys.length cap] 35)).alloc (.cells #[.string nm] 9)) := (((Below.refl _ _).alloc (Nat.le_refl _) _).alloc (by simp) _).alloc (by simp; omega) _
    have hdl := hp_lt h.disk
    have g0 : (((w.alloc (.cells #[.pointer (some ⟨d, 0, none⟩)] 22)).alloc (.cells #[.slice ao ys.length cap] 35)).alloc (.cells #[.string nm] 9)).cell? ⟨w.heap.size, 0, none⟩ = some (.pointer (some ⟨d, 0, none⟩)) := by simp [go_sem]
    have g1 : (((w.alloc (.cells #[.pointer (some ⟨d, 0, none⟩)] 22)).alloc (.cells #[.slice ao ys.length cap] 35)).alloc (.cells #[.string nm] 9)).cell? ⟨w.heap.size + 1, 0, none⟩ = some (.slice ao ys.length cap) := by simp [go_sem]
    have g2 : (((w.alloc (.cells #[.pointer (some ⟨d, 0, none⟩)] 22)).alloc (.cells #[.slice ao ys.length cap] 35)).alloc (.cells #[.string nm] 9)).cell? ⟨w.heap.size + 1 + 1, 0, none⟩ = some (.string nm) := by simp [go_sem]
    have hsz : (((w.alloc (.cells #[.pointer (some ⟨d, 0, none⟩)] 22)).alloc (.cells #[.slice ao ys.length cap] 35)).alloc (.cells #[.string nm] 9)).heap.size = w.heap.size + 3 := by simp
    obtain ⟨W, hW⟩ : ∃ W, W = (((w.alloc (.cells #[.pointer (some ⟨d, 0, none⟩)] 22)).alloc (.cells #[.slice ao ys.length cap] 35)).alloc (.cells #[.string nm] 9)) := ⟨_, rfl⟩
    rw [← hW] at hb0 g0 g1 g2 hsz ⊢
    refine stroke_there (h.below hb0) (w.heap.size + 1 + 1) 0 g2 hok hs (by omega) (by omega) hst0 hst 80 _ 0 _ (enters_of Tryz.func80 (by kernel_rfl) rfl) ?_
    intro w2 ho2 hk2
    refine (append1_one ho2 (by have := hk2.size; omega) w.heap.size (w.heap.size + 1) ao cap ys (hk2.cell g0 (fun e => by simp at e; omega)) (hk2.cell g1 (fun e => by simp at e; omega)) ((hsl.below hb0).kept hk2 (fun k hk e => hsd k hk e)) hne l1 l2 l3 l4 hp0 hp1 hroom).mono ?_
    rintro e w3 ⟨rfl, pend', vp', vd', vf', hO, hb⟩
    refine ⟨rfl, pend', vp', vd', vf', hO, ?_⟩
    exact ((hb0.mono hB).trans (hk2.below (by omega) (fun k hk e => by have := h.ge; omega))).trans hb
  have HC := hid hcall
  clear h hsl hcall
  go_enter Tryz.func21, Tryz.ntmps21
  go_wp2_with (
    go_at_call 76
    refine HC.out.mono ?_
    rintro e w3 ⟨rfl, hx⟩
    have HX := hid hx
    clear hx)
  go_ret
  exact ⟨rfl, HX.out⟩

end
end Go.Proofs.YtlmompdfombgeaaGreat

namespace Go.Proofs.YtlmompdfombgeaaGreat
open Go.RowKit

/-- Which bytes a change brought: the last t of them. -/
def frs (m t : Nat) : List Bool := List.replicate m false ++ List.replicate t true

theorem frs_len (m t : Nat) : (frs m t).length = m + t := by simp [frs]
theorem frs_get (m t k : Nat) (h : k < m + t) : (frs m t)[k]? = some (decide (m ≤ k)) := by
  unfold frs
  rw [List.getElem?_append]
  split
  · rename_i h1
    simp at h1
    have : ¬ m ≤ k := by omega
    simp [h1, this]
  · rename_i h1
    simp at h1
    rw [List.getElem?_replicate, if_pos (by simp; omega)]
    simp [h1]
theorem frs_app (m t n : Nat) : frs m t ++ List.replicate n true = frs m (t + n) := by
  simp [frs, List.append_assoc]
theorem frs_zero (m : Nat) : frs m 0 = List.replicate m false := by simp [frs]

set_option maxRecDepth 100000 in
set_option maxHeartbeats 1600000 in
theorem sync_any (B p : Nat) (w : World) (safe : List Int) (pend : List Value) (data : List Int) (m t : Nat) (peak : Int) (vs vp vd vf : Value) (h : FileAt w B p safe pend data (frs m t) peak vs vp vd vf) (hB : B ≤ w.heap.size) (hl : data.length = m + t) (hm : m ≤ safe.length) (hpre : data.take m = safe.take m) (l2 : data.length ≤ 100000000) (l3 : safe.length ≤ 100000000) :
    Calls Tryz.prog 84 #[.pointer (some ⟨p, 0, none⟩)] w fun x w' => x = .returned (.tuple #[]) ∧ ∃ vs', FileAt w' B p data [] data (frs (m + t) 0) data.length vs' (.slice none 0 0) vd vf ∧ Kept (fun k => k = p ∨ vs.ownBlock = some k ∨ vf.ownBlock = some k) w w' ∧ (vs'.ownBlock = vs.ownBlock ∨ ∃ k, w.heap.size ≤ k ∧ vs'.ownBlock = some k) := by
  obtain ⟨c0, c1, c2, c3, c4⟩ := cells5 h.blk
  have ff : ∀ o, w.frozen? ⟨p, o, none⟩ = false := fun o => free_of_block h.blk
  have hpl := hp_lt h.blk
  have hvd : vd.ownBlock ≠ some p := own_ne_blk h.od h.blk (by decide)
  have hvf : vf.ownBlock ≠ some p := own_ne_blk h.of h.blk (by decide)
  have hvs : vs.ownBlock ≠ some p := own_ne_blk h.os h.blk (by decide)
  obtain ⟨sv, hsv1, hsv2, hsv3⟩ := own_to h.os m hm
  obtain ⟨dv, hdv1, hdv2, hdv3⟩ := sn_from (sn_of_owns h.od) m (by omega)
  have hfo := h.of
  rw [frs_len] at hfo
  obtain ⟨fv, hfv1, hfv2⟩ := clear_from hfo m (by omega)
  have hcell : ∀ k, k < m + t → ∀ g cap, vf = .slice (some ⟨g, 0, none⟩) (m + t) cap → w.cell? ⟨g, k, none⟩ = some (.bool (decide (m ≤ k))) := by
    intro k hk g cap hg
    have := hfo.cells (g := g) (by rw [hg]; rfl) k (.bool (decide (m ≤ k))) (by simp [BB, frs_get m t k hk])
    rwa [add_lit, Nat.zero_add] at this
  have hvfs : m + t = 0 ∨ ∃ g cap, vf = .slice (some ⟨g, 0, none⟩) (m + t) cap := by
    rcases hfo.2 with ⟨_, h2⟩ | ⟨g, cap, cur, h2, _⟩
    · exact .inl h2
    · exact .inr ⟨g, cap, h2⟩
  obtain ⟨ad, cd, hvd2⟩ := own_shape h.od
  rw [hvd2] at c2
  have H := hid h
  have HC := hid hcell
  have HV := hid hvfs
  have HSV := hid (And.intro hsv2 hsv3)
  have HDV := hid (And.intro hdv2 hdv3)
  have HFV := hid hfv2
  have HP := hid hpre
  have hvfo := own_shape hfo
  obtain ⟨af, cf, hvf2⟩ := hvfo
  rw [hvf2] at c3 hfv1
  rw [hvd2] at hdv1
  have HL := hid hl
  clear h hcell hvfs hsv2 hsv3 hdv2 hdv3 hfv2 hpre hfo
  rw [show (data.length : Nat) = m + t from hl] at c2 hdv1 l2
  clear hl
  go_enter Tryz.func84, Tryz.ntmps84
  go_wp2
  go_loop [2] (fun i => ∃ k : Nat, m ≤ k ∧ k ≤ m + t ∧ i = .int .i64 k) (fun i => (intOf i).toNat)
  case atStart => exact ⟨m + t, by omega, by omega, by go_num⟩
  case round =>
    obtain ⟨k, hk1, hk2, rfl⟩ := hrel
    by_cases hgt : m < k
    · obtain ⟨g, cap, hg⟩ := HV.out.resolve_left (by omega)
      have hx := HC.out (k - 1) (by omega) g cap hg
      have hd1 : decide (m ≤ k - 1) = true := by simp; omega
      rw [hd1] at hx
      rw [hvf2] at hg
      injection hg with g1 g2 g3
      subst g1
      have i1 : (0 : Int) < (k : Int) := by omega
      have i2 : (0 : Int) ≤ (k : Int) - 1 := by omega
      have i3 : (k : Int) - 1 < ((m + t : Nat) : Int) := by omega
      have hx2 : w.cell? ⟨g, ((k : Int) - 1).toNat, none⟩ = some (.bool true) := by rw [show ((k : Int) - 1).toNat = k - 1 by omega]; exact hx
      go_wp2
      go_round
      case rel => exact ⟨k - 1, by omega, by omega, by rw [show ((k - 1 : Nat) : Int) = (k : Int) - 1 by omega]⟩
      case measure => simp [intOf]; omega
    · obtain rfl : k = m := by omega
      have hgo : (k = 0) ∨ (∃ g cap, vf = .slice (some ⟨g, 0, none⟩) (k + t) cap ∧ 0 < k ∧ w.cell? ⟨g, k - 1, none⟩ = some (.bool false)) := by
        rcases Nat.eq_zero_or_pos k with h0 | h0
        · exact .inl h0
        · obtain ⟨g, cap, hg⟩ := HV.out.resolve_left (by omega)
          have hx := HC.out (k - 1) (by omega) g cap hg
          have hd1 : decide (k ≤ k - 1) = false := by simp; omega
          rw [hd1] at hx
          exact .inr ⟨g, cap, hg, h0, hx⟩
      have hds : (data.drop k).length = t := by have := HL.out; simp; omega
      have hve : sv.ownBlock = vs.ownBlock := HSV.out.2
      have hvs' : sv.ownBlock ≠ some p := by rw [hve]; exact hvs
      have hpw := World.new_ne w ⟨p, 0, none⟩ c0
      rcases hgo with h0 | ⟨g, cap, hg, h0, hx⟩
      case' inr =>
        rw [hvf2] at hg
        injection hg with g1 g2 g3
        have i1 : (0 : Int) < (k : Int) := by omega
        have i2 : (0 : Int) ≤ (k : Int) - 1 := by omega
        have i3 : (k : Int) - 1 < ((k + t : Nat) : Int) := by omega
        have hx2 : w.cell? ⟨g, k - 1, none⟩ = some (.bool false) := hx
        have hix : ∀ wx : World, (Instr.indexAt 107 (.slice af (k + t) cf) (.int .i64 ((k : Int) - 1))).run Tryz.prog wx = .ok (.pointer (some ⟨g, k - 1, none⟩)) wx := by
          intro wx
          rw [g1]
          have e1 : ¬ ((k : Int) - 1 < 0) := by omega
          simp [go_sem]
          omega
        clear g1 g2 g3
      case' inl =>
        have i1 : decide ((0 : Int) < (k : Int)) = false := by simp; omega
        have i2 : decide (0 < k) = false := by simp; omega
        clear h0
      all_goals
        clear HC HV
        go_wp2_with fail
        go_region_law
          ((refine step_append_sn _ (by rfl) _ _ 35 5 Tryz.underlying35 (by rfl) B sv k (safe.take k) (by rfl) (HSV.out.1.drew) dv (data.drop k) (by rfl) (HDV.out.1.below (Below.refl _ _).drew) (by omega) hB ?_; intro ao c w1 ho1 hg1 hl1; have b0 := (hg1.out.cell_far ⟨p, 0, none⟩ (by simpa using hpl) (Ne.symm hvs')).trans c0; have b1 := (hg1.out.cell_far ⟨p, 1, none⟩ (by simpa using hpl) (Ne.symm hvs')).trans c1; have b2 := (hg1.out.cell_far ⟨p, 2, none⟩ (by simpa using hpl) (Ne.symm hvs')).trans c2; have b3 := (hg1.out.cell_far ⟨p, 3, none⟩ (by simpa using hpl) (Ne.symm hvs')).trans c3; have b4 := (hg1.out.cell_far ⟨p, 4, none⟩ (by simpa using hpl) (Ne.symm hvs')).trans c4; have bf : (∀ o, w1.frozen? ⟨p, o, none⟩ = false) := (fun o => (hg1.out.frozen_far ⟨p, o, none⟩ (by simpa using hpl) (Ne.symm hvs')).trans (ff o))))
      all_goals
        have h := H.out
        have ge1 : w1.heap[p]? = some (.cells #[vs, vp, vd, vf, .int .i64 peak] 112 (0, 0)) := (hg1.out.block p (by simpa using hpl) (Ne.symm hvs')).trans h.blk
        have K0 : Kept (fun j => vs.ownBlock = some j) w w1 := (Kept.refl _ w).drew.grown hg1.out (fun j _ e => by rw [← hve]; exact e)
        have hdat : safe.take k ++ data.drop k = data := by rw [← HP.out, List.take_append_drop]
        have ho2 := ho1.out
        rw [hdat] at ho2
        have hlen : k + (data.drop k).length = k + t := by rw [hds]
        rw [hlen] at ho2
        have hl2 := hl1.out
        rw [hlen] at hl2
        obtain ⟨V, hV⟩ : ∃ V, V = Value.slice ao (k + t) c := ⟨_, rfl⟩
        rw [← hV] at ho2 hl2
        have hVp : V.ownBlock ≠ some p := own_ne_blk ho2 ge1 (by decide)
        have K1 : Kept (fun j => j = p) w1 (w1.setCell ⟨p, 0, none⟩ V) := (Kept.refl (fun j => j = p) w1).setCell (p := ⟨p, 0, none⟩) (fun _ => rfl) _
        have g1 : (w1.setCell ⟨p, 0, none⟩ V).heap[p]? = some (.cells #[V, vp, vd, vf, .int .i64 peak] 112 (0, 0)) := set_block (i := 0) ge1 _
        have o1 := ownsRow_kept ho2 K1 (fun j hj e => by subst e; exact hVp hj)
        have o2 := ownsRow_kept (ownsRow_kept h.od K0 (fun j hj e => h.sep j e hj)) K1 (fun j hj e => by subst e; exact hvd hj)
        have o3 := ownsRow_kept (ownsRow_kept h.of K0 (fun j hj e => own_ne h.of h.os (by decide) j hj e)) K1 (fun j hj e => by subst e; exact hvf hj)
        have sp : ∀ j, V.ownBlock = some j → vd.ownBlock ≠ some j := by
          intro j e1 e2
          rcases hl2 with e3 | e3
          · rw [e3, hve] at e1; exact h.sep j e1 e2
          · rw [e3] at e1; injection e1 with e1
            have := (h.od.lt j e2).2
            simp at e1
            omega
        have hVl : V.ownBlock = vs.ownBlock ∨ ∃ k, w.heap.size ≤ k ∧ V.ownBlock = some k := by
          rcases hl2 with e3 | e3
          · exact .inl (e3.trans hve)
          · exact .inr ⟨_, by simp, e3⟩
        have HVL := hid hVl
        clear hVl
        have kk : Kept (fun j => j = p ∨ vs.ownBlock = some j ∨ vf.ownBlock = some j) w (w1.setCell ⟨p, 0, none⟩ V) := (K0.mono (fun i _ e => .inr (.inl e))).trans K1 (fun i _ e => .inl e)
        rw [← hV]
        obtain ⟨W1, hW1⟩ : ∃ W1, W1 = w1.setCell ⟨p, 0, none⟩ V := ⟨_, rfl⟩
        rw [← hW1] at g1 o1 o2 o3 kk ⊢
        obtain ⟨x0, x1, x2, x3, x4⟩ := cells5 g1
        rw [hvf2] at x3
        have xf : ∀ o, W1.frozen? ⟨p, o, none⟩ = false := fun o => free_of_block g1
        rw [frs_len] at o3
        have HG := hid (And.intro g1 (And.intro o1 (And.intro o2 (And.intro o3 (And.intro sp kk)))))
        have HV := hid hV
        clear hW1 g1 o1 o2 o3 sp kk K0 K1 ge1 ho1 hg1 hl1 ho2 hl2 h b0 b1 b2 b3 b4 bf c0 c1 c2 c3 c4 ff hdat hV
        go_wp2_with (first
          | (refine wpList_clear _ rfl _ rfl fv rfl (fun w' => w'.ownsRow B 4 1 vf (k + t) (BB ((frs k t).take k ++ List.replicate (k + t - k) false)) ∧ W1.grownBy w' vf.ownBlock) (fun ty => HFV.out W1 ty HG.out.2.2.2.1) ?_
             intro w2 hr2
             have y0 := (hr2.out.2.cell_far ⟨p, 0, none⟩ (hp_lt HG.out.1) (Ne.symm hvf)).trans x0
             have y1 := (hr2.out.2.cell_far ⟨p, 1, none⟩ (hp_lt HG.out.1) (Ne.symm hvf)).trans x1
             have y4 := (hr2.out.2.cell_far ⟨p, 4, none⟩ (hp_lt HG.out.1) (Ne.symm hvf)).trans x4
             have yf := (show ∀ o, w2.frozen? ⟨p, o, none⟩ = false from fun o => (hr2.out.2.frozen_far ⟨p, o, none⟩ (hp_lt HG.out.1) (Ne.symm hvf)).trans (xf o))
             rw [HV.out] at y0))
      all_goals
        go_end0
        obtain ⟨g1, o1, o2, o3, sp, kk⟩ := HG.out
        obtain ⟨r1, r2⟩ := hr2.out
        have g2 : w2.heap[p]? = some (.cells #[V, vp, vd, vf, .int .i64 peak] 112 (0, 0)) := (r2.block p (hp_lt g1) (Ne.symm hvf)).trans g1
        have K2 : Kept (fun j => vf.ownBlock = some j) W1 w2 := (Kept.refl _ W1).grown r2 (fun j _ e => e)
        have K3 : Kept (fun j => j = p) w2 ((w2.setCell ⟨p, 1, none⟩ (.slice none 0 0)).setCell ⟨p, 4, none⟩ (.int .i64 ((k : Int) + (t : Int)))) := ((Kept.refl (fun j => j = p) w2).setCell (p := ⟨p, 1, none⟩) (fun _ => rfl) _).setCell (p := ⟨p, 4, none⟩) (fun _ => rfl) _
        have hVp : V.ownBlock ≠ some p := own_ne_blk o1 g1 (by decide)
        have hll := HL.out
        have hfr : (frs k t).take k ++ List.replicate (k + t - k) false = frs (k + t) 0 := by
          simp only [frs, List.replicate_zero, List.append_nil]
          rw [List.take_left' (by simp), List.replicate_append_replicate]
          congr 1
          omega
        rw [hfr] at r1
        refine ⟨rfl, V, ⟨?_, ?_, ?_, ?_, ?_, sp⟩, (kk.trans K2 (fun i _ e => .inr (.inr e))).trans K3 (fun i _ e => .inl e), HVL.out⟩
        · rw [show ((data.length : Nat) : Int) = (k : Int) + (t : Int) by omega]
          exact set_block (i := 4) (set_block (i := 1) g2 _) _
        · rw [hll]
          exact ownsRow_kept (ownsRow_kept o1 K2 (fun j hj e => own_ne o1 o3 (by decide) j hj e)) K3 (fun j hj e => by subst e; exact hVp hj)
        · exact owns_nil _ _ _ _
        · exact ownsRow_kept (ownsRow_kept o2 K2 (fun j hj e => own_ne o2 o3 (by decide) j hj e)) K3 (fun j hj e => by subst e; exact hvd hj)
        · rw [frs_len, Nat.add_zero]
          exact ownsRow_kept r1 K3 (fun j hj e => by subst e; exact hvf hj)

end Go.Proofs.YtlmompdfombgeaaGreat
