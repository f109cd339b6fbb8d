import Derived.Test.YtlmompdfombgeaaGreatO1
namespace Go.Proofs.YtlmompdfombgeaaGreat
open Go.RowKit Go.MapKept

theorem One.change {B : Nat} {w w' : World} {d L Nb Fb p : Nat} {nm : ByteArray} {room limit : Int} {sf : Array MapEntry} {st rd : Int} {safe : List Int} {cs : List Chg} {data : List Int} {fresh : List Bool} {peak : Int} {nn : Nat} {xs : List Value} {vn k1 k2 : Value} {pend : List Value} {vs vp vd vf : Value} {cL bL cN bN cF : Nat}
    (h : One B w d L Nb Fb p nm room limit sf st rd safe cs data fresh peak nn xs vn k1 k2 pend vs vp vd vf cL bL cN bN cF)
    (hk : Kept (fun k => k = p ∨ vs.ownBlock = some k ∨ vp.ownBlock = some k ∨ vd.ownBlock = some k ∨ vf.ownBlock = some k) w w')
    {safe' : List Int} {cs' : List Chg} {data' : List Int} {fresh' : List Bool} {peak' : Int} {pend' : List Value} {vs' vp' vd' vf' : Value} (hf : FileAt w' B p safe' pend' data' fresh' peak' vs' vp' vd' vf') (hp : Pends w' B vs' vd' pend' cs') :
    One B w' d L Nb Fb p nm room limit sf st rd safe' cs' data' fresh' peak' nn xs vn k1 k2 pend' vs' vp' vd' vf' cL bL cN bN cF ∧ Below B w w' := by
  have hd := h.disk
  have hx : ∀ (k : Nat) (o : Obj), w.heap[k]? = some o → (∀ cs t fr, o = .cells cs t fr → t ≠ 112 ∧ t ≠ 5 ∧ t ≠ 171 ∧ t ≠ 4) → ¬ (k = p ∨ vs.ownBlock = some k ∨ vp.ownBlock = some k ∨ vd.ownBlock = some k ∨ vf.ownBlock = some k) := by
    intro k o ho hn
    have key : ∀ (cs : Array Value) (t : TypeId), w.heap[k]? = some (.cells cs t (0, 0)) → t = 112 ∨ t = 5 ∨ t = 171 ∨ t = 4 → False := by
      intro cs t hc ht
      rw [ho] at hc
      injection hc with hc
      obtain ⟨a, b, c, e⟩ := hn _ _ _ hc
      rcases ht with ht | ht | ht | ht
      · exact a ht
      · exact b ht
      · exact c ht
      · exact e ht
    rintro (e | e | e | e | e)
    · subst e; exact key _ _ h.file.blk (.inl rfl)
    · obtain ⟨cs, a⟩ := owns_block h.file.os k e; exact key _ _ a (.inr (.inl rfl))
    · obtain ⟨cs, a⟩ := owns_block h.file.op k e; exact key _ _ a (.inr (.inr (.inl rfl)))
    · obtain ⟨cs, a⟩ := owns_block h.file.od k e; exact key _ _ a (.inr (.inl rfl))
    · obtain ⟨cs, a⟩ := owns_block h.file.of k e; exact key _ _ a (.inr (.inr (.inr rfl)))
  have hm : ∀ (k : Nat) (es : Array MapEntry) (c : Nat), w.heap[k]? = some (.map es c) → ¬ (k = p ∨ vs.ownBlock = some k ∨ vp.ownBlock = some k ∨ vd.ownBlock = some k ∨ vf.ownBlock = some k) := fun k es c a => hx k _ a (fun _ _ _ e => by cases e)
  refine ⟨⟨hp_kept hd hk (hx _ _ hd (fun _ _ _ e => by injection e with _ e _; subst e; decide)), hp_kept h.hL hk (hm _ _ _ h.hL), hp_kept h.hN hk (hm _ _ _ h.hN), hp_kept h.hF hk (hm _ _ _ h.hF), h.nf, h.bl, h.bn, hf, hp, ownsRow_kept h.nam hk ?_, h.kn1.kept hk (fun b c a => hm _ _ _ a), h.kn2.kept hk (fun b c a => hm _ _ _ a), h.ge⟩, ?_⟩
  · intro k e
    obtain ⟨cs, a⟩ := owns_block h.nam k e
    exact hx _ _ a (fun _ _ _ e => by injection e with _ e _; subst e; decide)
  · refine ⟨hk.os, hk.tape, hk.output, hk.size, fun k hkb => ?_⟩
    by_cases hl : k < w.heap.size
    · refine hk.block k hl ?_
      rintro (e | e | e | e | e)
      · have := h.ge; omega
      · have := (h.file.os.lt k e).1; omega
      · have := (h.file.op.lt k e).1; omega
      · have := (h.file.od.lt k e).1; omega
      · have := (h.file.of.lt k e).1; omega
    · have := hp_lt hd
      have := h.ge
      omega

section
variable {B : Nat} {w : World} {d L Nb Fb p : Nat} {nm : ByteArray} {room limit : Int} {sf : Array MapEntry} {st rd : Int} {safe : List Int} {cs : List Chg} {data : List Int} {fresh : List Bool} {peak : Int} {nn : Nat} {xs : List Value} {vn k1 k2 : Value} {pend : List Value} {vs vp vd vf : Value} {cL bL cN bN cF : Nat}

set_option maxRecDepth 100000 in
set_option maxHeartbeats 1600000 in
theorem append1_one (h : One B w d L Nb Fb p nm room limit sf st rd safe cs data fresh peak nn xs vn k1 k2 pend vs vp vd vf cL bL cN bN cF) (hB : B ≤ w.heap.size) (xd xx : Nat) (ao : Option Addr) (cap : Nat) (ys : List Int) (hxd : w.cell? ⟨xd, 0, none⟩ = some (.pointer (some ⟨d, 0, none⟩))) (hxx : w.cell? ⟨xx, 0, none⟩ = some (.slice ao ys.length cap)) (hsl : Sl w (.slice ao ys.length cap) ys) (hne : 0 < ys.length)
    (l1 : pend.length ≤ 1000000) (l2 : data.length ≤ 100000000) (l3 : fresh.length ≤ 100000000) (l4 : ys.length ≤ 100000000) (hp0 : 0 ≤ peak) (hp1 : peak ≤ 1000000000) (hroom : max peak (data.length + ys.length : Int) ≤ room) :
    Calls Tryz.prog 80 #[.pointer (some ⟨p, 0, none⟩), .pointer (some ⟨xd, 0, none⟩), .pointer (some ⟨xx, 0, none⟩)] w fun x w' => x = .returned (.int .i64 0) ∧ ∃ pend' vp' vd' vf', One B w' d L Nb Fb p nm room limit sf st rd safe (cs ++ [.inl ys]) (data ++ ys) (fresh ++ List.replicate ys.length true) (max peak (data ++ ys).length) nn xs vn k1 k2 pend' vs vp' vd' vf' cL bL cN bN cF ∧ Below B w w' := by
  obtain ⟨c0, c1, c2, c3, c4, c5, c6, c7, c8, c9, c10, c11⟩ := h.disk.cells
  obtain ⟨p0, p1, p2, p3, p4⟩ := cells5 h.file.blk
  obtain ⟨ad, cd, hvd⟩ := own_shape h.file.od
  rw [hvd] at p2
  obtain ⟨mx, hmx⟩ : ∃ mx, mx = max peak (data.length + ys.length : Int) := ⟨_, rfl⟩
  rw [← hmx] at hroom
  have hm1 : mx ≤ 1000000000 := by rw [hmx]; simp only [Int.max_def]; split <;> omega
  have hm2 : 0 ≤ mx := by rw [hmx]; simp only [Int.max_def]; split <;> omega
  have j : decide (room < mx) = false := by simp; omega
  have HMX := hid hmx
  have HO := hid h
  have HSL := hid hsl
  clear h hsl c1 c3 c4 c5 c6 c7 c8 c9 c10 c11 p0 p1 p3 hmx
  go_enter Tryz.func80, Tryz.ntmps80
  go_wp2_with (
    go_at_call 74
    refine (held_one L cL bL p _ peak _ HO.out.hL HO.out.bl p4 hp0 hp1).mono ?_
    rintro e w1 ⟨rfl, hb⟩
    have a1 := (hb.cell (World.block_lt_of_cell? _ _ hxd)).trans hxd
    have a2 := (hb.cell (World.block_lt_of_cell? _ _ hxx)).trans hxx
    have a3 := (hb.cell (World.block_lt_of_cell? _ _ p2)).trans p2
    have a4 := (hb.cell (World.block_lt_of_cell? _ _ p4)).trans p4
    have a5 := (hb.cell (World.block_lt_of_cell? _ _ c0)).trans c0
    have HB1 := hid hb
    clear hb)
  go_region
  rw [← HMX.out]
  have j' : decide (room < peak - peak + mx) = false := by simp; omega
  go_wp2_with fail
  go_quiet (fail)
  have hBW : Below w.heap.size w (w1.drew.drewN nq) := below_drewN (HB1.out.drew) nq
  have hWO := HO.out.below hBW
  have hWS := HSL.out.below hBW
  have hWx := (hBW.cell (World.block_lt_of_cell? _ _ hxx)).trans hxx
  obtain ⟨W, hW⟩ : ∃ W, W = w1.drew.drewN nq := ⟨_, rfl⟩
  rw [← hW] at hBW hWO hWS hWx ⊢
  have HWO := hid (And.intro hBW (And.intro hWO hWS))
  have hgt : (0 : Int) < (ys.length : Int) := by omega
  clear hW hBW hWO hWS a1 a2 a3 a4 a5 HB1 hxd hxx c0 c2 p2 p4 j j' HO HSL
  go_wp2_with (first
    | (go_at_call 71
       refine (copied_any _ ys _ HWO.out.2.2 (by omega)).mono ?_
       rintro e w2 ⟨rfl, ho, hb⟩
       have HC := hid (And.intro ho hb)
       clear ho hb)
    | (go_at_call 81; go_loud (
       refine (pendApp_any B p (.slice (some ⟨W.heap.size, 0, none⟩) ys.length ys.length) ys w2 safe pend data fresh peak vs vp vd vf (HWO.out.2.1.below HC.out.2).file (sn_of_owns (HC.out.1.owns (Nat.zero_le _) (by unfold maxLen; omega))) (Nat.le_trans hB (Nat.le_trans HWO.out.1.size HC.out.2.size)) l1 l2 l3 l4 hp0 hp1 ?hsb).mono ?_
       case hsb =>
         intro k hk
         simp [Value.ownBlock] at hk
         have h1 := hp_lt HWO.out.2.1.file.blk
         refine ⟨by omega, fun e => ?_⟩
         have := (HWO.out.2.1.file.op.lt k e).2
         omega
       rintro e w3 ⟨rfl, vp', vd', vf', hf3, hl3, hk3⟩
       have HZ := hid (And.intro hf3 (And.intro hl3 hk3))
       clear hf3 hl3 hk3)))
  go_ret
  obtain ⟨hBW, hWO, hWS⟩ := HWO.out
  obtain ⟨ho, hb⟩ := HC.out
  obtain ⟨hf3, hl3, hk3⟩ := HZ.out
  have h2 := hWO.below hb
  have hk4 : Kept (fun k => k = p ∨ vs.ownBlock = some k ∨ vp.ownBlock = some k ∨ vd.ownBlock = some k ∨ vf.ownBlock = some k) w2 w3 := hk3.mono (by
    rintro i _ (e | e | e | e)
    · exact .inl e
    · exact .inr (.inr (.inl e))
    · exact .inr (.inr (.inr (.inl e)))
    · exact .inr (.inr (.inr (.inr e))))
  have hS : ∀ (k : Nat) (c5 : Array Value), w2.heap[k]? = some (.cells c5 5 (0, 0)) → vs.ownBlock ≠ some k → vd.ownBlock ≠ some k → ¬ (k = p ∨ vp.ownBlock = some k ∨ vd.ownBlock = some k ∨ vf.ownBlock = some k) := by
    intro k c5 a b c
    rintro (e | e | e | e)
    · subst e; rw [h2.file.blk] at a; cases a
    · obtain ⟨c6, a2⟩ := owns_block h2.file.op k e; rw [a2] at a; cases a
    · exact c e
    · obtain ⟨c6, a2⟩ := owns_block h2.file.of k e; rw [a2] at a; cases a
  have hpen := h2.pen.kept (vs' := vs) (vd' := vd') hk3 hS (.inl rfl) hl3
  have hWl := hWO.file
  have hnew : ChgAt w2 B vs vd (.iface 124 (.slice (some ⟨W.heap.size, 0, none⟩) ys.length ys.length)) (.inl ys) := by
    refine ⟨_, rfl, sn_of_owns (ho.owns (Nat.zero_le _) (by unfold maxLen; omega)), ?_⟩
    intro k hk
    simp [Value.ownBlock] at hk
    subst hk
    refine ⟨Nat.le_trans hB hBW.size, ⟨_, ho⟩, fun e => ?_, fun e => ?_⟩
    · exact Nat.lt_irrefl _ (hWl.os.lt _ e).2
    · exact Nat.lt_irrefl _ (hWl.od.lt _ e).2
  have hnew3 := hnew.kept (vs' := vs) (vd' := vd') hk3 hS (.inl rfl) hl3
  obtain ⟨q1, q2⟩ := h2.change hk4 hf3 (hpen.snoc hnew3)
  exact ⟨rfl, _, _, _, _, q1, ((hBW.mono hB).trans (hb.mono (Nat.le_trans hB hBW.size))).trans q2⟩

end
end Go.Proofs.YtlmompdfombgeaaGreat
