import Derived.Test.YthcoigbkdbkojabGreatK26
set_option maxRecDepth 100000
namespace Go.Proofs.YthcoigbkdbkojabGreat
open Go.RowKit Go.MapKept
open V (hp_new hp_lt hp_below hp_alloc kl)
structure EffS (B R : Nat) (st at_ : Int) (td : List Vd) (wr : List (ByteArray × Vd)) (lk : List (ByteArray × ByteArray)) (v : Value) (W : World) : Prop where
  ex : ∃ t1 k1 t2 k2 t3 k3, v = .agg #[.int .i64 st, .int .i64 at_, .slice t1 td.length k1, .slice t2 wr.length k2, .slice t3 lk.length k3] ∧ W.ownsRow B 29 3 (.slice t1 td.length k1) td.length (td.flatMap vcs) ∧ W.ownsRow B 45 4 (.slice t2 wr.length k2) wr.length (wr.flatMap ecs) ∧ W.ownsRow B 55 2 (.slice t3 lk.length k3) lk.length (lk.flatMap lcs) ∧
    (¬ (Value.slice t1 td.length k1).ownBlock = some R) ∧ (¬ (Value.slice t2 wr.length k2).ownBlock = some R) ∧ (¬ (Value.slice t3 lk.length k3).ownBlock = some R)
section
variable {B R : Nat} {st at_ : Int} {td : List Vd} {wr : List (ByteArray × Vd)} {lk : List (ByteArray × ByteArray)} {v : Value} {W W' : World}
theorem EffS.kept (h : EffS B R st at_ td wr lk v W) (hk : Kept (fun k => k = R) W W') : EffS B R st at_ td wr lk v W' := by
  obtain ⟨t1, k1, t2, k2, t3, k3, e, h1, h2, h3, n1, n2, n3⟩ := h.ex
  exact ⟨t1, k1, t2, k2, t3, k3, e, ownsRow_kept h1 hk (fun q hq e => n1 (by rw [hq, e])), ownsRow_kept h2 hk (fun q hq e => n2 (by rw [hq, e])), ownsRow_kept h3 hk (fun q hq e => n3 (by rw [hq, e])), n1, n2, n3⟩
theorem EffS.low (h : EffS B R st at_ td wr lk v W) {B' R' : Nat} (hB : B' ≤ B) (hR : R' < B) : EffS B' R' st at_ td wr lk v W := by
  obtain ⟨t1, k1, t2, k2, t3, k3, e, h1, h2, h3, n1, n2, n3⟩ := h.ex
  exact ⟨t1, k1, t2, k2, t3, k3, e, owns_mono h1 hB, owns_mono h2 hB, owns_mono h3 hB, fun e => by have := (h1.lt _ e).1; omega, fun e => by have := (h2.lt _ e).1; omega, fun e => by have := (h3.lt _ e).1; omega⟩
theorem effs_nil (B R : Nat) (st at_ : Int) (W : World) : EffS B R st at_ [] [] [] (.agg #[.int .i64 st, .int .i64 at_, .slice none 0 0, .slice none 0 0, .slice none 0 0]) W :=
  ⟨none, 0, none, 0, none, 0, rfl, owns_nil _ _ _ _, owns_nil _ _ _ _, owns_nil _ _ _ _, (fun e => by cases e), (fun e => by cases e), (fun e => by cases e)⟩
end
def qTd (r : Qr) : List Vd := if r.2.2 = 1 then r.1.td else []
def qWr (r : Qr) : List (ByteArray × Vd) := if r.2.2 = 1 then dnL (kvV r.1.l) else []
theorem dnL_len (kv : List (ByteArray × Value)) : (dnL kv).length = kv.length := by
  unfold dnL
  rw [List.length_map]
  simp [sk, List.length_mergeSort]
structure JQ (n : Nat) (k : Nat) (q : Qm) : Prop where
  ok : QOk q
  kl : k ≤ n
  lk : q.lk.length ≤ k
  ll : q.l.length ≤ k
  td : q.td.length ≤ 64
  lo : ∀ x ∈ q.lk, lkOk x.1 x.2 ∧ x.1.size ≤ 1000 ∧ x.2.size ≤ 1000
def q0 : Qm := ⟨fun _ => ⟨0, 0, emp⟩, [], [], []⟩
theorem jq0 (n : Nat) : JQ n 0 q0 := ⟨⟨fun _ => vok_z0, (fun _ h => nomatch h), (fun _ h => nomatch h), (fun _ h => nomatch h)⟩, Nat.zero_le _, Nat.le_refl _, Nat.le_refl _, Nat.zero_le _, (fun _ h => nomatch h)⟩
noncomputable abbrev sqf (dig : Int → List Int) (L : KV) (al : List Vd) (k : Nat) (x : Ins) (q : Qm) : Qr := stepQ dig L al k x q x.op.toNat
def InsOk (ar : Int) (xs : List Ins) : Prop := ∀ (k : Nat) x, xs[k]? = some x → insErr x ar ((xs.length : Int) - 1 - k) = 0 ∧ inR x.i = true
theorem op_of {x : Ins} {ar bh : Int} (h : insErr x ar bh = 0) (h16 : x.op ≠ 16) : x.op = x.op.toNat ∧ 1 ≤ x.op.toNat ∧ x.op.toNat ≤ 15 := by
  unfold insErr at h
  split at h
  · omega
  · cases h
theorem sp_step {dig : Int → List Int} {L : KV} {al : List Vd} {xs : List Ins} {ar : Int} (hL : LOk L) (hal : ∀ v ∈ al, vok v) (hxs : InsOk ar xs) {k : Nat} {x : Ins} {q : Qm} (hJ : JQ xs.length k q) (hk : xs[k]? = some x) (h16 : x.op ≠ 16) :
    SP q k ((xs.length : Int) - 1 - k) (sqf dig L al k x q) := by
  obtain ⟨h1, h2⟩ := hxs k x hk
  obtain ⟨e, h3, h4⟩ := op_of h1 h16
  have hlt := (List.getElem?_eq_some_iff.1 hk).1
  exact sp_any hL hal hJ.ok hJ.td (by omega) _ h3 h4 e h1 h2
theorem jq_step {dig : Int → List Int} {L : KV} {al : List Vd} {xs : List Ins} {ar : Int} (hL : LOk L) (hal : ∀ v ∈ al, vok v) (hxs : InsOk ar xs) {k : Nat} {x : Ins} {q : Qm} (hJ : JQ xs.length k q) (hk : xs[k]? = some x) (h16 : x.op ≠ 16) (h0 : (sqf dig L al k x q).2.2 = 0) :
    ∃ k' : Nat, (sqf dig L al k x q).2.1 = k' ∧ k ≤ k' ∧ k' < xs.length ∧ JQ xs.length (k' + 1) (sqf dig L al k x q).1 := by
  have hs := sp_step (dig := dig) hL hal hxs hJ hk h16
  have hlt := (List.getElem?_eq_some_iff.1 hk).1
  obtain ⟨g1, g2⟩ := hs.go h0
  obtain ⟨k', hk'⟩ : ∃ k' : Nat, (sqf dig L al k x q).2.1 = k' := ⟨(sqf dig L al k x q).2.1.toNat, by omega⟩
  refine ⟨k', hk', by omega, by omega, ⟨hs.ok, by omega, ?_, ?_, hs.td, ?_⟩⟩
  · have h1 := hJ.lk
    rcases hs.lk with e | ⟨f, t, e, -⟩
    · rw [e]; omega
    · rw [e, List.length_append]; show q.lk.length + 1 ≤ _; omega
  · have h1 := hJ.ll
    have h2 := hs.ll
    omega
  · rcases hs.lk with e | ⟨f, t, e, h1⟩
    · rw [e]; exact hJ.lo
    · rw [e]
      intro y hy
      rcases List.mem_append.1 hy with h | h
      · exact hJ.lo y h
      · rw [List.mem_singleton.1 h]; exact h1
theorem runH_of {ws : World} {mb M p : Nat} {av : Value} {dig : Int → List Int} {L : KV} {al : List Vd} {xs : List Ins} {ar : Int} (hV : VL ws p L) (hL : LOk L) (hal : ∀ v ∈ al, vok v) (ha : Va ws av al) (hd : Digs dig ws) (har : ar = al.length) (hal16 : al.length ≤ 16) (hl : xs.length ≤ 64) (hxs : InsOk ar xs) :
    RunH ws ws.heap.size mb M (.iface 42 (.pointer (some ⟨p, 0, none⟩))) av xs (sqf dig L al) (JQ xs.length) := by
  refine ⟨?_, fun k x q hJ hk h16 h0 => jq_step hL hal hxs hJ hk h16 h0, fun k x q hJ hk h16 h0 => (sp_step hL hal hxs hJ hk h16).no h0⟩
  intro k x q hJ hk h16
  obtain ⟨h1, h2⟩ := hxs k x hk
  obtain ⟨e, h3, h4⟩ := op_of h1 h16
  have hlt := (List.getElem?_eq_some_iff.1 hk).1
  refine ⟨x.op.toNat, e, h3, h4, ?_⟩
  intro W tv lv hx hb
  have hmv : MV W ws.heap.size mb ((q.mc (.iface 42 (.pointer (some ⟨p, 0, none⟩))) av).ms k tv lv M) q.td q.lk M q.l p L :=
    ⟨hx, rfl, fun W' hW => hV.below (hb.trans hW), hL.v, hJ.ok.kk, fun key => (seen_vok hL.ok hJ.ok.lv key).2⟩
  have e1 := hJ.lk
  exact step_any x.op.toNat h3 h4 e h1 hmv hJ.ok har hal16 (ha.below hb) (by omega) hJ.td (by omega) (by omega) (by omega) (hd.below hb)
theorem exec_any (p : Nat) (av S : Value) (nm : ByteArray) (ar : Int) (xs : List Ins) (al : List Vd) (w : World) (R1 : Int) (dig : Int → List Int) (L : KV) (hc : CodeAt w S xs) (ha : Va w av al) (hl : xs.length ≤ 64) (hla : al.length ≤ 16)
    (hp : procChk nm ar xs = (R1, 0)) (hv : ∀ x ∈ al, vok x) (har : ar = al.length) (hV : VL w p L) (hL : LOk L) (hd : Digs dig w) (hxs : InsOk ar xs) :
    Calls Tryz.prog 7 #[.iface 42 (.pointer (some ⟨p, 0, none⟩)), .agg #[.string nm, .int .i64 ar, S], av] w fun e w' => ∃ v, e = .returned v ∧
      EffS (w.heap.size + 2) (w.heap.size + 1) (runQ (sqf dig L al) xs (xs.length + 1) 0 q0).2.2 (runQ (sqf dig L al) xs (xs.length + 1) 0 q0).2.1 (qTd (runQ (sqf dig L al) xs (xs.length + 1) 0 q0)) (qWr (runQ (sqf dig L al) xs (xs.length + 1) 0 q0)) (runQ (sqf dig L al) xs (xs.length + 1) 0 q0).1.lk v w' ∧ Below w.heap.size w w' := by
  obtain ⟨RR, hRR⟩ : ∃ RR, runQ (sqf dig L al) xs (xs.length + 1) 0 q0 = RR := ⟨_, rfl⟩
  rw [hRR]
  refine run12_of 42 p av S nm ar xs al w R1 hc ha hl (by omega) hp (fun x hx => (hv x hx).1) har (EffS (w.heap.size + 2) (w.heap.size + 1) RR.2.2 RR.2.1 (qTd RR) (qWr RR) RR.1.lk) ?_ (fun v W W' h hk => h.kept hk)
  intro W1 W mb M hb1 hsz hmy hbW
  have hrun := run_any W1 W W1.heap.size mb M (.iface 42 (.pointer (some ⟨p, 0, none⟩))) av xs (sqf dig L al) (JQ xs.length) q0 S (fun r => EffS W1.heap.size (W.heap.size + 1) r.2.2 r.2.1 (qTd r) (qWr r) r.1.lk) hmy (jq0 _) hbW hl (fun W' hb => (hc.below hb1).below hb)
    (runH_of (hV.below hb1) hL hv (ha.below hb1) (hd.below hb1) har hla hl hxs) ?_ ?_ (fun r v W W' h hk => h.kept hk)
  · rw [hRR] at hrun
    refine hrun.mono ?_
    rintro e w' ⟨v, rfl, hE, hb⟩
    have hE2 := hE.low (B' := w.heap.size + 2) (R' := w.heap.size + 1) hsz (by omega)
    obtain ⟨t1, k1, t2, k2, t3, k3, rfl, -⟩ := hE.ex
    exact ⟨_, _, _, _, _, _, _, _, _, _, _, rfl, hE2, hb⟩
  · intro W2 tv lv k q hJ hx hrb hb2
    have hll := hJ.ll
    have hkl := hJ.kl
    refine (done_any hx (by rw [show (kvV q.l).length = q.l.length by simp [kvV]]; omega) (fun x hx => ?_) (fun x hx => ?_)).mono ?_
    · obtain ⟨y, hy, rfl⟩ := List.mem_map.1 hx
      have := isKey_256 (hJ.ok.kk y hy)
      show y.1.size ≤ _
      omega
    · obtain ⟨y, hy, rfl⟩ := List.mem_map.1 hx
      have := vok_size (hJ.ok.lv y hy)
      exact ⟨y.2, rfl, by omega⟩
    · rintro e w' ⟨a, c, rfl, ho, hb⟩
      obtain ⟨t1, k1, e1⟩ := own_shape hx.td
      obtain ⟨t3, k3, e3⟩ := own_shape hx.lk
      have o1 := ownsRow_kept hx.td (Kept.ofBelow hb) (fun _ _ e => e)
      have o3 := ownsRow_kept hx.lk (Kept.ofBelow hb) (fun _ _ e => e)
      have n1 := hx.td
      have n3 := hx.lk
      rw [e1] at o1 n1 ⊢
      rw [e3] at o3 n3 ⊢
      rw [← dnL_len] at ho ⊢
      refine ⟨t1, _, k1, a, _, c, t3, _, k3, rfl, ⟨t1, k1, a, c, t3, k3, rfl, o1, owns_mono ho hx.bB, o3, ?_, ?_, ?_⟩, hb⟩
      · exact fun e => owns_blk n1 e hrb.e (fun cs e => by injection e with _ e; cases e)
      · exact fun e => by have h1 := (ho.lt _ e).1; have h2 := hp_lt hrb.e; omega
      · exact fun e => owns_blk n3 e hrb.e (fun cs e => by injection e with _ e; cases e)
  · rintro W2 tv al' n cl k q st hx hrb hst ⟨k0, x, q1, hJ, hk, h16, hsq⟩
    have hs := sp_step (dig := dig) hL hv hxs hJ hk h16
    rw [hsq] at hs
    have hs1 : ¬ st = 1 := by
      rcases hs.st with e | e | e | e | e | e <;> (dsimp only at e; omega)
    obtain ⟨t3, k3, e3⟩ := own_shape hx.lk
    have o3 := hx.lk
    have e4 : (Value.slice al' n cl) = .slice t3 q.lk.length k3 := e3
    injection e4 with e5 e6 e7
    subst e5 e6 e7
    show EffS _ _ st _ (qTd (q, (k : Int), st)) (qWr (q, (k : Int), st)) q.lk _ _
    unfold qTd qWr
    dsimp only
    rw [if_neg hs1, if_neg hs1]
    refine ⟨none, 0, none, 0, al', cl, rfl, owns_nil _ _ _ _, owns_nil _ _ _ _, o3, (fun e => by cases e), (fun e => by cases e), ?_⟩
    exact fun e => owns_blk o3 e hrb.e (fun cs e => by injection e with _ e; cases e)
end Go.Proofs.YthcoigbkdbkojabGreat
namespace Go.Proofs.YthcoigbkdbkojabGreat
open Go.RowKit Go.MapKept
open V (hp_new hp_lt hp_below hp_alloc)
theorem set5k {w : World} {r : Nat} {a b c d e : Value} {t : TypeId} (_h : w.heap[r]? = some (.cells #[a, b, c, d, e] t (0, 0))) (x y z u v : Value) :
    Kept (fun k => k = r) w (((((w.setCell ⟨r, 0, none⟩ x).setCell ⟨r, 1, none⟩ y).setCell ⟨r, 2, none⟩ z).setCell ⟨r, 3, none⟩ u).setCell ⟨r, 4, none⟩ v) :=
  (((((Kept.refl (fun k => k = r) w).setCell (p := ⟨r, 0, none⟩) (fun _ => rfl) _).setCell (p := ⟨r, 1, none⟩) (fun _ => rfl) _).setCell (p := ⟨r, 2, none⟩) (fun _ => rfl) _).setCell (p := ⟨r, 3, none⟩) (fun _ => rfl) _).setCell (p := ⟨r, 4, none⟩) (fun _ => rfl) _
abbrev effZ (st : Int) : Value := .agg #[.int .i64 st, .int .i64 0, .slice none 0 0, .slice none 0 0, .slice none 0 0]
set_option maxHeartbeats 8000000 in
theorem run12_proc (vv : Value) (av S : Value) (nm : ByteArray) (ar : Int) (xs : List Ins) (w : World) (R1 R2 : Int) (hc : CodeAt w S xs) (hl : xs.length ≤ 1000) (hp : procChk nm ar xs = (R1, R2)) (hne : R2 ≠ 0) :
    Calls Tryz.prog 7 #[vv, .agg #[.string nm, .int .i64 ar, S], av] w fun e w' => e = .returned (effZ 0) ∧ Below w.heap.size w w' := by
  obtain ⟨ac, cc, rfl, hcc, hcc2⟩ := hc
  have HPC := hid (show ∀ W, Below w.heap.size w W → Calls Tryz.prog 20 #[.agg #[.string nm, .int .i64 ar, .slice ac xs.length cc]] W fun e w' => e = .returned (.tuple #[.int .i64 R1, .int .i64 R2]) ∧ Below W.heap.size W w' from fun W hb => by
    have h1 := pcheck_any nm ar (.slice ac xs.length cc) xs W (CodeAt.below ⟨ac, cc, rfl, hcc, hcc2⟩ hb) (by omega)
    rw [hp] at h1
    exact h1)
  have hb2 : Below w.heap.size w ((w.alloc (.cells #[.string nm, .int .i64 ar, .slice ac xs.length cc] 34)).alloc (.cells #[.int .i64 0, .int .i64 0, .slice none 0 0, .slice none 0 0, .slice none 0 0] 40)) := (below1 w _).alloc (by simp) _
  have HB2 := hid (And.intro hb2 (two2 w (.cells #[.string nm, .int .i64 ar, .slice ac xs.length cc] 34) (.cells #[.int .i64 0, .int .i64 0, .slice none 0 0, .slice none 0 0, .slice none 0 0] 40)))
  have hn0 : (R2 == 0) = false := by simpa using hne
  clear hp hcc2 hb2 hne
  go_enter Tryz.func7, Tryz.ntmps7
  go_wp2_with (first
    | (go_at_call 20
       refine (HPC.out _ HB2.out.1).mono ?_
       rintro e w2 ⟨rfl, hb2⟩
       have h43 := blk_of hb2 HB2.out.2 (hp_lt HB2.out.2)
       obtain ⟨f0, f1, f2, f3, f4, f5⟩ := cells5f h43
       have hz := hp_lt h43
       have H2 := hid (And.intro h43 (below_on HB2.out.1 hb2))
       clear hb2 h43))
  refine bodyPost_ret (ret_eff2 Tryz.results7 rfl (set5 H2.out.1 _ _ _ _ _)) rfl ?_
  exact ⟨rfl, H2.out.2.trans ((set5k H2.out.1 _ _ _ _ _).below H2.out.2.size (fun k hk e => by omega))⟩
set_option maxHeartbeats 8000000 in
theorem run12_args (vv : Value) (av S : Value) (nm : ByteArray) (ar : Int) (xs : List Ins) (l : List Vd) (w : World) (R1 : Int) (hc : CodeAt w S xs) (ha : Va w av l) (hl : xs.length ≤ 1000) (hla : l.length ≤ 1000) (hp : procChk nm ar xs = (R1, 0)) (st : Int)
    (hst : (st = 0 ∧ ∃ x ∈ l, chk x.k x.i x.t ≠ 0) ∨ (st = 8 ∧ (∀ x ∈ l, chk x.k x.i x.t = 0) ∧ (l.length : Int) ≠ ar)) :
    Calls Tryz.prog 7 #[vv, .agg #[.string nm, .int .i64 ar, S], av] w fun e w' => e = .returned (effZ st) ∧ Below w.heap.size w w' := by
  obtain ⟨aa, ca, rfl, hca, hca2⟩ := ha
  obtain ⟨ac, cc, rfl, hcc, hcc2⟩ := hc
  have HPC := hid (show ∀ W, Below w.heap.size w W → Calls Tryz.prog 20 #[.agg #[.string nm, .int .i64 ar, .slice ac xs.length cc]] W fun e w' => e = .returned (.tuple #[.int .i64 R1, .int .i64 0]) ∧ Below W.heap.size W w' from fun W hb => by
    have h1 := pcheck_any nm ar (.slice ac xs.length cc) xs W (CodeAt.below ⟨ac, cc, rfl, hcc, hcc2⟩ hb) (by omega)
    rw [hp] at h1
    exact h1)
  have hVa : Va w (.slice aa l.length ca) l := ⟨aa, ca, rfl, hca, hca2⟩
  have hb2 : Below w.heap.size w ((w.alloc (.cells #[.string nm, .int .i64 ar, .slice ac xs.length cc] 34)).alloc (.cells #[.int .i64 0, .int .i64 0, .slice none 0 0, .slice none 0 0, .slice none 0 0] 40)) := (below1 w _).alloc (by simp) _
  have HB2 := hid (And.intro hb2 (And.intro (two1 w (.cells #[.string nm, .int .i64 ar, .slice ac xs.length cc] 34) (.cells #[.int .i64 0, .int .i64 0, .slice none 0 0, .slice none 0 0, .slice none 0 0] 40)) (two2 w (.cells #[.string nm, .int .i64 ar, .slice ac xs.length cc] 34) (.cells #[.int .i64 0, .int .i64 0, .slice none 0 0, .slice none 0 0, .slice none 0 0] 40))))
  have H := hid (And.intro hVa hst)
  clear hVa hst hp hca2 hcc2 hb2
  go_enter Tryz.func7, Tryz.ntmps7
  go_wp2_with (first
    | (go_at_call 20
       refine (HPC.out _ HB2.out.1).mono ?_
       rintro e w2 ⟨rfl, hb2⟩
       have H2 := hid (And.intro (blk_of hb2 HB2.out.2.1 (hp_lt HB2.out.2.1)) (And.intro (blk_of hb2 HB2.out.2.2 (hp_lt HB2.out.2.2)) (And.intro (below_on HB2.out.1 hb2) (show w.heap.size + 2 ≤ w2.heap.size by have := hb2.size; simp at this; omega))))
       clear hb2))
  go_loopw [22] (fun ix wr => ∃ k : Nat, k ≤ l.length ∧ ix = .int .i64 k ∧ Hid (Below w2.heap.size w2 wr ∧ ∀ j x, j < k → l[j]? = some x → chk x.k x.i x.t = 0)) (fun ix _ => l.length - (intOf ix).toNat)
  case atStart => exact ⟨0, Nat.zero_le _, by go_num, hid ⟨Below.refl _ _, fun j x hj => absurd hj (Nat.not_lt_zero _)⟩⟩
  case round =>
    obtain ⟨k, hk, rfl, HR⟩ := hrel
    by_cases hlt : k < l.length
    · have i1 : (k : Int) < (l.length : Int) := by omega
      obtain ⟨ao2, cap2, e, -, hcd⟩ := H.out.1
      injection e with e1 _ e3
      obtain ⟨ba, oa, e4, hce⟩ := hcd (fun e => by rw [e] at hlt; simp at hlt)
      subst e1 e3
      subst e4
      have hkx : l[k]? = some l[k] := List.getElem?_eq_getElem hlt
      have hmem : l[k] ∈ l := List.getElem_mem hlt
      obtain ⟨x, hxe⟩ : ∃ x, x = l[k] := ⟨_, rfl⟩
      rw [← hxe] at hkx hmem
      obtain ⟨xk, xi, xt⟩ := x
      obtain ⟨x0, x1, x2⟩ := hce k _ hkx
      have hbw := below_on H2.out.2.2.1 HR.out.1
      have y0 := (hbw.cell (World.block_lt_of_cell? _ _ x0)).trans x0
      have y1 := (hbw.cell (World.block_lt_of_cell? _ _ x1)).trans x1
      have y2 := (hbw.cell (World.block_lt_of_cell? _ _ x2)).trans x2
      dsimp only at y0 y1 y2
      have h43 := blk_of HR.out.1 H2.out.2.1 (hp_lt H2.out.2.1)
      have HCK := hid (fun W => check_any xk xi xt W)
      by_cases hkc : chk xk xi xt = 0
      · rw [hkc] at HCK
        have HALL := hid (show ∀ j x, j < k + 1 → l[j]? = some x → chk x.k x.i x.t = 0 from fun j y hj hy => by
          rcases Nat.lt_succ_iff_lt_or_eq.1 hj with h | h
          · exact HR.out.2 j y h hy
          · subst h
            rw [hkx] at hy
            injection hy with hy
            subst hy
            exact hkc)
        clear hbw x0 x1 x2 hcd hce hkx hxe hkc hmem h43
        go_wp2_with (first
          | (go_at_call 21
             refine (HCK.out _).mono ?_
             rintro e w3 ⟨rfl, hb3⟩
             have H3 := hid (below_on HR.out.1 (below_on (below1 wr _) hb3))
             clear hb3))
        go_roundw
        case rel => exact ⟨k + 1, by omega, by go_num, hid ⟨H3.out, HALL.out⟩⟩
        case measure => simp [intOf]; omega
      · have hst0 : st = 0 := by
          rcases H.out.2 with h | h
          · exact h.1
          · exact absurd (h.2.1 _ hmem) hkc
        obtain ⟨ce, hce2⟩ : ∃ ce, ce = chk xk xi xt := ⟨_, rfl⟩
        rw [← hce2] at HCK hkc
        have hce0 : (ce == 0) = false := by simpa using hkc
        have HH := hid (And.intro h43 (And.intro hbw hst0))
        clear hbw x0 x1 x2 hcd hce hkx hxe hkc hmem h43 hce2 hst0
        go_wp2_with (first
          | (go_at_call 21
             refine (HCK.out _).mono ?_
             rintro e w3 ⟨rfl, hb3⟩
             have hb4 := below_on (below1 wr _) hb3
             have h43 := blk_of hb4 HH.out.1 (hp_lt HH.out.1)
             obtain ⟨f0, f1, f2, f3, f4, f5⟩ := cells5f h43
             have hz := hp_lt h43
             have H3 := hid (And.intro h43 (below_on HH.out.2.1 hb4))
             clear hb3 hb4 h43))
        refine bodyPost_ret (ret_eff2 Tryz.results7 rfl (set5 H3.out.1 _ _ _ _ _)) rfl ?_
        rw [HH.out.2.2]
        exact ⟨rfl, H3.out.2.trans ((set5k H3.out.1 _ _ _ _ _).below H3.out.2.size (fun k hk e => by omega))⟩
    · obtain rfl : l.length = k := by omega
      have i1 : ¬ (l.length : Int) < (l.length : Int) := by omega
      have hcnt : st = 8 ∧ (l.length : Int) ≠ ar := by
        rcases H.out.2 with ⟨-, x, hx, h⟩ | h
        · obtain ⟨j, hj, e⟩ := List.getElem_of_mem hx
          exact absurd (HR.out.2 j x hj (by rw [List.getElem?_eq_getElem hj, e])) h
        · exact ⟨h.1, h.2.2⟩
      obtain ⟨hst8, hne⟩ := hcnt
      have hne0 : ((l.length : Int) == ar) = false := by simpa using hne
      have h25 := blk_of HR.out.1 H2.out.1 (hp_lt H2.out.1)
      have h43 := blk_of HR.out.1 H2.out.2.1 (hp_lt H2.out.2.1)
      have z1 : wr.cell? ⟨w.heap.size, 1, none⟩ = some (.int .i64 ar) := by rw [cell_of_row _ _ _ _ _ _ h25]; rfl
      have hzz := hp_lt h25
      obtain ⟨f0, f1, f2, f3, f4, f5⟩ := cells5f h43
      have hz := hp_lt h43
      have H3 := hid (And.intro h43 (And.intro (below_on H2.out.2.2.1 HR.out.1) hst8))
      clear h25 h43 hne hst8
      go_wp2_with fail
      refine bodyPost_ret (ret_eff2 Tryz.results7 rfl (set5 H3.out.1 _ _ _ _ _)) rfl ?_
      rw [H3.out.2.2]
      exact ⟨rfl, H3.out.2.1.trans ((set5k H3.out.1 _ _ _ _ _).below H3.out.2.1.size (fun k hk e => by omega))⟩
end Go.Proofs.YthcoigbkdbkojabGreat
namespace Go.Proofs.YthcoigbkdbkojabGreat
open Go.RowKit Go.MapKept
open V (hp_new hp_lt hp_below hp_alloc kl)
theorem dnL_mem {l : KV} {z : ByteArray × Vd} (h : z ∈ dnL (kvV l)) : z ∈ l := by
  unfold dnL at h
  obtain ⟨bs, hbs, rfl⟩ := List.mem_map.1 h
  have hk := sk_key hbs
  obtain ⟨v, h1, h2⟩ := lkpM_mem hk
  obtain ⟨x, hx, e⟩ := List.mem_map.1 h2
  injection e with e1 e2
  rw [h1]
  show ((⟨bs.toArray⟩ : ByteArray), vdOfM v) ∈ l
  rw [← e1, ← e2]
  exact hx
theorem dnL_asc {l : KV} (hn : (l.map Prod.fst).Nodup) : Asc (dnL (kvV l)) := by
  have hs : (sk (kvV l)).Pairwise (fun a b => decide (a ≤ b) = true) := by
    unfold sk
    refine List.pairwise_mergeSort ?_ ?_ _
    · intro a b c h1 h2
      rw [decide_eq_true_eq] at *
      exact List.le_trans h1 h2
    · intro a b
      rw [Bool.or_eq_true, decide_eq_true_eq, decide_eq_true_eq]
      exact List.le_total a b
  have hd : (sk (kvV l)).Nodup := by
    unfold sk
    rw [(List.mergeSort_perm _ _).nodup_iff]
    have e : (kvV l).map (fun x => x.1.data.toList) = (l.map Prod.fst).map (fun b => b.data.toList) := by
      unfold kvV
      rw [List.map_map, List.map_map]
      rfl
    rw [e]
    refine List.Pairwise.map _ ?_ hn
    intro a b h e2
    apply h
    have e3 := Array.toList_inj.1 e2
    cases a; cases b
    exact congrArg ByteArray.mk e3
  have h2 : (sk (kvV l)).Pairwise (fun a b => a < b) := by
    refine (hs.and hd).imp ?_
    rintro a b ⟨h1, h2⟩
    rw [decide_eq_true_eq] at h1
    by_cases h3 : a < b
    · exact h3
    · exact absurd (List.le_antisymm h1 (List.not_lt.1 h3)) h2
  unfold Asc dnL
  refine List.Pairwise.map _ ?_ h2
  intro a b h
  show Op.bytesLess (ByteArray.toList ⟨a.toArray⟩) (ByteArray.toList ⟨b.toArray⟩) = true
  rw [V.bl_eq, Lib.toList_data, Lib.toList_data]
  simpa using h
theorem codeChk_ok {ar : Int} {len : Nat} : ∀ {i : Nat} {xs : List Ins} {a : Int}, codeChk ar len i xs = (a, 0) → ∀ k x, xs[k]? = some x → insErr x ar ((len : Int) - 1 - (i + k : Nat)) = 0
  | _, [], _, _, k, x, h => by simp at h
  | i, y :: ys, a, hc, k, x, h => by
    unfold codeChk at hc
    by_cases e : insErr y ar ((len : Int) - 1 - i) = 0
    · rw [if_pos e] at hc
      cases k with
      | zero =>
        simp at h
        subst h
        exact e
      | succ k =>
        simp at h
        have h1 := codeChk_ok hc k x h
        rw [show i + (k + 1) = i + 1 + k by omega]
        exact h1
    · rw [if_neg e] at hc
      injection hc with _ hc
      exact absurd hc e
theorem procChk_ok {nm : ByteArray} {ar : Int} {xs : List Ins} (h : (procChk nm ar xs).2 = 0) (hi : ∀ x ∈ xs, inR x.i = true) : xs.length ≤ 64 ∧ 0 ≤ ar ∧ ar ≤ 16 ∧ InsOk ar xs := by
  unfold procChk at h
  split at h
  · split at h
    · rename_i hw
      split at h
      · rename_i hl
        have hw2 := within_of hw
        refine ⟨hl, hw2.1, hw2.2, fun k x hk => ⟨?_, hi x (List.mem_of_getElem? hk)⟩⟩
        have h1 : codeChk ar xs.length 0 xs = ((codeChk ar xs.length 0 xs).1, 0) := Prod.ext rfl h
        have h2 := codeChk_ok h1 k x hk
        rwa [Nat.zero_add] at h2
      · cases h
    · cases h
  · cases h
def REnd (n : Nat) (R : Qr) : Prop :=
  (R.2.2 = 1 ∧ R.2.1 = 0 ∧ ∃ k, JQ n k R.1 ∧ (R.1.l.map Prod.fst).Nodup) ∨
  ((R.2.2 = 2 ∨ R.2.2 = 3 ∨ R.2.2 = 4 ∨ R.2.2 = 5 ∨ R.2.2 = 6) ∧ (∃ k : Nat, R.2.1 = k ∧ k < n) ∧ R.1.lk.length ≤ n ∧ ∀ x ∈ R.1.lk, lkOk x.1 x.2)
theorem kset_nodup {key : ByteArray} {v : Vd} : ∀ {l : KV}, (l.map Prod.fst).Nodup → ((kset key v l).map Prod.fst).Nodup
  | [], _ => by unfold kset; simp
  | x :: l, h => by
    rw [List.map_cons, List.nodup_cons] at h
    unfold kset
    by_cases e : x.1 = key
    · rw [if_pos e, List.map_cons, List.nodup_cons]
      exact ⟨by rw [← e]; exact h.1, h.2⟩
    · rw [if_neg e, List.map_cons, List.nodup_cons]
      refine ⟨fun hm => ?_, kset_nodup h.2⟩
      rcases (kset_keys key v l x.1).1 hm with h1 | h1
      · exact e h1
      · exact h.1 h1
theorem step_nodup {dig : Int → List Int} {L : KV} {al : List Vd} {pc : Int} {x : Ins} {q : Qm} (h : (q.l.map Prod.fst).Nodup) (o : Nat) (h1 : 1 ≤ o) (h2 : o ≤ 15) : ((stepQ dig L al pc x q o).1.l.map Prod.fst).Nodup := by
  have hr : ∀ (a : Int) (R : Vd × Int), (qRck q pc a R).1.l = q.l := by
    intro a R
    unfold qRck
    split <;> rfl
  have ht : ∀ (R : Vd × Int × ByteArray), (qThr q pc x R).1.l = q.l := by
    intro R
    unfold qThr
    split
    · split
      · split
        · rfl
        · split <;> rfl
      · rfl
    · rfl
  rcases (by omega : o = 1 ∨ o = 2 ∨ o = 3 ∨ o = 4 ∨ o = 5 ∨ o = 6 ∨ o = 7 ∨ o = 8 ∨ o = 9 ∨ o = 10 ∨ o = 11 ∨ o = 12 ∨ o = 13 ∨ o = 14 ∨ o = 15) with rfl | rfl | rfl | rfl | rfl | rfl | rfl | rfl | rfl | rfl | rfl | rfl | rfl | rfl | rfl
  · exact h
  · exact h
  · rw [stepQ_3]
    split
    · split <;> exact h
    · exact h
  · rw [stepQ_4]
    split
    · exact kset_nodup h
    · exact h
  · rw [stepQ_5]
    split
    · exact kset_nodup h
    · exact h
  · rw [show (stepQ dig L al pc x q 6).1.l = q.l from hr _ _]; exact h
  · rw [show (stepQ dig L al pc x q 7).1.l = q.l from hr _ _]; exact h
  · rw [show (stepQ dig L al pc x q 8).1.l = q.l from hr _ _]; exact h
  · rw [show (stepQ dig L al pc x q 9).1.l = q.l from hr _ _]; exact h
  · exact h
  · exact h
  · rw [show (stepQ dig L al pc x q 12).1.l = q.l from ht _]; exact h
  · rw [show (stepQ dig L al pc x q 13).1.l = q.l from ht _]; exact h
  · rw [stepQ_14]
    split <;> exact h
  · show ((if q.td.length = 64 then (q, pc, 5) else ({ q with td := q.td ++ [q.rg x.a] }, pc, 0) : Qr).1.l.map Prod.fst).Nodup
    split <;> exact h
theorem runQ_end {dig : Int → List Int} {L : KV} {al : List Vd} {xs : List Ins} {ar : Int} (hL : LOk L) (hal : ∀ v ∈ al, vok v) (hxs : InsOk ar xs) : ∀ (n k : Nat) (q : Qm), JQ xs.length k q → (q.l.map Prod.fst).Nodup → xs.length < n + k → REnd xs.length (runQ (sqf dig L al) xs n k q)
  | 0, k, q, hJ, _, h => by have := hJ.kl; omega
  | n + 1, k, q, hJ, hn, h => by
    unfold runQ
    cases hk : xs[k]? with
    | none => exact .inl ⟨rfl, rfl, k, hJ, hn⟩
    | some x =>
      dsimp only
      split
      · exact .inl ⟨rfl, rfl, k, hJ, hn⟩
      · rename_i h16
        obtain ⟨h3, h4⟩ := hxs k x hk
        obtain ⟨e, h5, h6⟩ := op_of h3 h16
        split
        · rename_i h0
          obtain ⟨k', e1, e2, e3, e4⟩ := jq_step (dig := dig) hL hal hxs hJ hk h16 h0
          rw [e1, Int.toNat_natCast]
          exact runQ_end hL hal hxs n (k' + 1) _ e4 (step_nodup hn _ h5 h6) (by omega)
        · rename_i h0
          have hs := sp_step (dig := dig) hL hal hxs hJ hk h16
          have hlt := (List.getElem?_eq_some_iff.1 hk).1
          refine .inr ⟨hs.st.resolve_left h0, ⟨k, hs.no h0, hlt⟩, ?_, ?_⟩
          · have h1 := hJ.lk
            rcases hs.lk with e | ⟨f, t, e, -⟩
            · rw [e]; omega
            · rw [e, List.length_append]; show q.lk.length + 1 ≤ _; omega
          · rcases hs.lk with e | ⟨f, t, e, h1, -⟩
            · rw [e]; exact fun y hy => (hJ.lo y hy).1
            · rw [e]
              intro y hy
              rcases List.mem_append.1 hy with h | h
              · exact (hJ.lo y h).1
              · rw [List.mem_singleton.1 h]; exact h1
structure Ef where
  st : Int
  at_ : Int
  td : List Vd
  wr : List (ByteArray × Vd)
  lk : List (ByteArray × ByteArray)
noncomputable def efR (dig : Int → List Int) (L : KV) (nm : ByteArray) (ar : Int) (xs : List Ins) (al : List Vd) : Ef :=
  open Classical in
  if (procChk nm ar xs).2 ≠ 0 then ⟨0, 0, [], [], []⟩
  else if ∃ x ∈ al, chk x.k x.i x.t ≠ 0 then ⟨0, 0, [], [], []⟩
  else if (al.length : Int) ≠ ar then ⟨8, 0, [], [], []⟩
  else ⟨(runQ (sqf dig L al) xs (xs.length + 1) 0 q0).2.2, (runQ (sqf dig L al) xs (xs.length + 1) 0 q0).2.1, qTd (runQ (sqf dig L al) xs (xs.length + 1) 0 q0), qWr (runQ (sqf dig L al) xs (xs.length + 1) 0 q0), (runQ (sqf dig L al) xs (xs.length + 1) 0 q0).1.lk⟩
abbrev EfAt (B R : Nat) (f : Ef) (v : Value) (W : World) : Prop := EffS B R f.st f.at_ f.td f.wr f.lk v W
theorem exec_all (p : Nat) (av S : Value) (nm : ByteArray) (ar : Int) (xs : List Ins) (al : List Vd) (w : World) (dig : Int → List Int) (L : KV) (hc : CodeAt w S xs) (ha : Va w av al) (hl : xs.length ≤ 1000) (hla : al.length ≤ 1000)
    (hi : ∀ x ∈ xs, inR x.i = true) (hv : ∀ x ∈ al, inR x.i = true) (hV : VL w p L) (hL : LOk L) (hd : Digs dig w) :
    Calls Tryz.prog 7 #[.iface 42 (.pointer (some ⟨p, 0, none⟩)), .agg #[.string nm, .int .i64 ar, S], av] w fun e w' => ∃ v, e = .returned v ∧ EfAt (w.heap.size + 2) (w.heap.size + 1) (efR dig L nm ar xs al) v w' ∧ Below w.heap.size w w' := by
  unfold efR
  by_cases h1 : (procChk nm ar xs).2 ≠ 0
  · rw [if_pos h1]
    refine (run12_proc _ av S nm ar xs w _ _ hc hl rfl h1).mono ?_
    rintro e w' ⟨rfl, hb⟩
    exact ⟨_, rfl, effs_nil _ _ _ _ _, hb⟩
  · rw [if_neg h1]
    have h1' : (procChk nm ar xs).2 = 0 := by simpa using h1
    have hpc : procChk nm ar xs = ((procChk nm ar xs).1, 0) := Prod.ext rfl h1'
    by_cases h2 : ∃ x ∈ al, chk x.k x.i x.t ≠ 0
    · rw [if_pos h2]
      refine (run12_args _ av S nm ar xs al w _ hc ha hl hla hpc 0 (.inl ⟨rfl, h2⟩)).mono ?_
      rintro e w' ⟨rfl, hb⟩
      exact ⟨_, rfl, effs_nil _ _ _ _ _, hb⟩
    · rw [if_neg h2]
      have h2' : ∀ x ∈ al, chk x.k x.i x.t = 0 := fun x hx => by
        by_cases e : chk x.k x.i x.t = 0
        · exact e
        · exact absurd ⟨x, hx, e⟩ h2
      by_cases h3 : (al.length : Int) ≠ ar
      · rw [if_pos h3]
        refine (run12_args _ av S nm ar xs al w _ hc ha hl hla hpc 8 (.inr ⟨rfl, h2', h3⟩)).mono ?_
        rintro e w' ⟨rfl, hb⟩
        exact ⟨_, rfl, effs_nil _ _ _ _ _, hb⟩
      · rw [if_neg h3]
        have h3' : (al.length : Int) = ar := by simpa using h3
        obtain ⟨h64, h0, h16, hins⟩ := procChk_ok h1' hi
        exact exec_any p av S nm ar xs al w _ dig L hc ha h64 (by omega) hpc (fun x hx => ⟨h2' x hx, hv x hx⟩) h3'.symm hV hL hd hins
structure EndsOk (n : Nat) (f : Ef) : Prop where
  cls : (f.st = 1 ∧ f.at_ = 0) ∨ ((f.st = 2 ∨ f.st = 3 ∨ f.st = 4 ∨ f.st = 5 ∨ f.st = 6) ∧ (∃ k : Nat, f.at_ = k ∧ k < n) ∧ f.td = [] ∧ f.wr = []) ∨ ((f.st = 0 ∨ f.st = 8) ∧ f.at_ = 0 ∧ f.td = [] ∧ f.wr = [] ∧ f.lk = [])
  tdl : f.td.length ≤ 64
  wrl : f.wr.length ≤ 64
  lkl : f.lk.length ≤ 64
  tdv : ∀ v ∈ f.td, vok v
  wrv : ∀ x ∈ f.wr, isKeyB x.1 = true ∧ vok x.2
  wra : Asc f.wr
  lko : ∀ x ∈ f.lk, lkOk x.1 x.2
theorem ef_ends {dig : Int → List Int} {L : KV} {nm : ByteArray} {ar : Int} {xs : List Ins} {al : List Vd} (hL : LOk L) (hi : ∀ x ∈ xs, inR x.i = true) (hv : ∀ x ∈ al, inR x.i = true) : EndsOk xs.length (efR dig L nm ar xs al) := by
  have hz : ∀ st : Int, st = 0 ∨ st = 8 → EndsOk xs.length ⟨st, 0, [], [], []⟩ := fun st h =>
    ⟨.inr (.inr ⟨h, rfl, rfl, rfl, rfl⟩), Nat.zero_le _, Nat.zero_le _, Nat.zero_le _, (fun _ h => nomatch h), (fun _ h => nomatch h), List.Pairwise.nil, (fun _ h => nomatch h)⟩
  unfold efR
  by_cases h1 : (procChk nm ar xs).2 ≠ 0
  · rw [if_pos h1]; exact hz 0 (.inl rfl)
  · rw [if_neg h1]
    by_cases h2 : ∃ x ∈ al, chk x.k x.i x.t ≠ 0
    · rw [if_pos h2]; exact hz 0 (.inl rfl)
    · rw [if_neg h2]
      have h2' : ∀ x ∈ al, chk x.k x.i x.t = 0 := fun x hx => by
        by_cases e : chk x.k x.i x.t = 0
        · exact e
        · exact absurd ⟨x, hx, e⟩ h2
      by_cases h3 : (al.length : Int) ≠ ar
      · rw [if_pos h3]; exact hz 8 (.inr rfl)
      · rw [if_neg h3]
        have h1' : (procChk nm ar xs).2 = 0 := by simpa using h1
        obtain ⟨h64, -, -, hins⟩ := procChk_ok h1' hi
        have hr := runQ_end (dig := dig) hL (fun x hx => ⟨h2' x hx, hv x hx⟩) hins (xs.length + 1) 0 q0 (jq0 _) List.nodup_nil (by omega)
        generalize runQ (sqf dig L al) xs (xs.length + 1) 0 q0 = R at hr
        obtain ⟨q, pc, st⟩ := R
        rcases hr with ⟨e1, e2, k, hJ, hn⟩ | ⟨e1, ⟨k, e2, e3⟩, e4, e5⟩
        · dsimp only at e1 e2 hJ hn
          subst e1 e2
          have g1 := hJ.kl
          have g2 := hJ.lk
          have g3 := hJ.ll
          have hw : qWr (q, 0, 1) = dnL (kvV q.l) := if_pos rfl
          have ht : qTd (q, 0, 1) = q.td := if_pos rfl
          refine ⟨.inl ⟨rfl, rfl⟩, ?_, ?_, ?_, ?_, ?_, ?_, fun x hx => (hJ.lo x hx).1⟩
          · dsimp only; rw [ht]; exact hJ.td
          · dsimp only; rw [hw, dnL_len, show (kvV q.l).length = q.l.length by simp [kvV]]; omega
          · dsimp only; omega
          · dsimp only; rw [ht]; exact hJ.ok.td
          · dsimp only; rw [hw]; exact fun x hx => ⟨hJ.ok.kk x (dnL_mem hx), hJ.ok.lv x (dnL_mem hx)⟩
          · dsimp only; rw [hw]; exact dnL_asc hn
        · dsimp only at e1 e2 e4 e5
          have hs1 : ¬ st = 1 := by omega
          have hw : qWr (q, pc, st) = [] := if_neg hs1
          have ht : qTd (q, pc, st) = [] := if_neg hs1
          refine ⟨.inr (.inl ⟨e1, ⟨k, e2, e3⟩, ht, hw⟩), ?_, ?_, ?_, ?_, ?_, ?_, e5⟩
          · dsimp only; rw [ht]; exact Nat.zero_le _
          · dsimp only; rw [hw]; exact Nat.zero_le _
          · dsimp only; omega
          · dsimp only; rw [ht]; exact (fun _ h => nomatch h)
          · dsimp only; rw [hw]; exact (fun _ h => nomatch h)
          · dsimp only; rw [hw]; exact List.Pairwise.nil
end Go.Proofs.YthcoigbkdbkojabGreat
