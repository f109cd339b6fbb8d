import Derived.Test.YtdnlfacfleemeaaK15
import Derived.Test.YtdnlfacfleemeaaK20
import Derived.Test.YtdnlfacfleemeaaK23
namespace Go.Proofs.Ytdnlfacfleemeaa
open Go.RowKit

theorem tkVs_laid (most : Int) : ∀ (vs : List Vd) (ps rest : List Int), (∀ v ∈ vs, chk v.k v.i v.t = 0 ∧ VdOk v ∧ ((encB v.k v.i v.t).length : Int) ≤ most) →
    tkVs (ps ++ (vs.flatMap vB ++ rest)) most vs.length ps.length = .ok (vs, ps.length + (vs.flatMap vB).length) := by
  intro vs
  induction vs with
  | nil => intro ps rest _; simp [tkVs]
  | cons v vs ih =>
    intro ps rest h
    obtain ⟨h1, h2, h3⟩ := h v (by simp)
    have e : ps ++ ((v :: vs).flatMap vB ++ rest) = ps ++ (rowF 10 ((encB v.k v.i v.t).length : Nat) ++ (encB v.k v.i v.t ++ (vs.flatMap vB ++ rest))) := by simp [vB, List.append_assoc]
    have t := tkVal_laid most ps (vs.flatMap vB ++ rest) v.k v.i v.t h2.1 h2.2 h1 h3
    rw [List.length_cons, tkVs, e, t]
    dsimp only
    have e2 : ps ++ (rowF 10 ((encB v.k v.i v.t).length : Nat) ++ (encB v.k v.i v.t ++ (vs.flatMap vB ++ rest))) = (ps ++ vB v) ++ (vs.flatMap vB ++ rest) := by simp [vB, List.append_assoc]
    have e3 : ps.length + ((rowF 10 ((encB v.k v.i v.t).length : Nat)).length + (encB v.k v.i v.t).length) = (ps ++ vB v).length := by simp [vB]
    rw [e2, e3, ih _ _ (fun u hu => h u (by simp [hu]))]
    dsimp only
    rw [mkStr_strBs]
    simp [Nat.add_assoc]

theorem tkTx_laid (t : Txd) (hc : txChk t = 0) (ho : TxOk t) (ps rest : List Int) : tkTx (ps ++ (txB t ++ rest)) ps.length = .ok (t, ps.length + (txB t).length) := by
  rcases txChk_good t hc with ⟨hk, hn, hv, hp⟩ | ⟨hk, hpn, hpa, hx, hnm, hlv, hv⟩
  · obtain ⟨k, pn, pa, xs, nm, vs⟩ := t
    dsimp only at hk hn hv hp
    subst hk hn hv
    have hlen := procB_small pn pa xs hp
    have eB : txB ⟨1, pn, pa, xs, emp, []⟩ = [1] ++ (rowF 10 ((procB pn pa xs).length : Nat) ++ procB pn pa xs) := by unfold txB; dsimp only; rw [if_pos rfl, List.append_assoc]
    rw [eB]
    obtain ⟨bs, hbs⟩ : ∃ bs, bs = ps ++ ([1] ++ (rowF 10 ((procB pn pa xs).length : Nat) ++ procB pn pa xs) ++ rest) := ⟨_, rfl⟩
    have hbl : ((procB pn pa xs).length : Int) ≤ (bs.length : Int) := by rw [hbs]; simp only [List.length_append, List.length_singleton]; omega
    have p1 : bs = ps ++ ([1] ++ (rowF 10 ((procB pn pa xs).length : Nat) ++ (procB pn pa xs ++ rest))) := by rw [hbs]; simp [List.append_assoc]
    have p2 : bs = (ps ++ [1]) ++ (rowF 10 ((procB pn pa xs).length : Nat) ++ (procB pn pa xs ++ rest)) := by rw [hbs]; simp [List.append_assoc]
    have t1 := take_byte ps (rowF 10 ((procB pn pa xs).length : Nat) ++ (procB pn pa xs ++ rest)) 1 (by decide) (by decide)
    have t2 := takeZ_text (bs.length : Int) (ps ++ [1]) (procB pn pa xs) rest hbl (by omega)
    rw [← p1] at t1
    rw [← p2] at t2
    rw [show (ps ++ [(1 : Int)]).length = ps.length + 1 by simp] at t2
    rw [← hbs]
    unfold tkTx
    rw [t1]
    dsimp only
    rw [if_pos rfl, if_pos rfl]
    unfold tkDef
    rw [t2]
    dsimp only
    rw [if_pos rfl, dec_procB pn pa xs hp ho.1]
    dsimp only
    rw [mkStr_strBs]
    congr 2
    simp
    omega
  · obtain ⟨k, pn, pa, xs, nm, vs⟩ := t
    dsimp only at hk hpn hpa hx hnm hlv hv
    subst hk hpn hpa hx
    have hsz := name_size hnm
    have hsl := strBs_len nm
    have eB : txB ⟨2, emp, 0, [], nm, vs⟩ = [2] ++ (rowF 10 ((strBs nm).length : Nat) ++ (strBs nm ++ (rowF 10 (vs.length : Int) ++ vs.flatMap vB))) := by unfold txB; dsimp only; rw [if_neg (by decide)]; simp [List.append_assoc]
    rw [eB]
    obtain ⟨bs, hbs⟩ : ∃ bs, bs = ps ++ ([2] ++ (rowF 10 ((strBs nm).length : Nat) ++ (strBs nm ++ (rowF 10 (vs.length : Int) ++ vs.flatMap vB))) ++ rest) := ⟨_, rfl⟩
    have p1 : bs = ps ++ ([2] ++ (rowF 10 ((strBs nm).length : Nat) ++ (strBs nm ++ (rowF 10 (vs.length : Int) ++ (vs.flatMap vB ++ rest))))) := by rw [hbs]; simp [List.append_assoc]
    have p2 : bs = (ps ++ [2]) ++ (rowF 10 ((strBs nm).length : Nat) ++ (strBs nm ++ (rowF 10 (vs.length : Int) ++ (vs.flatMap vB ++ rest)))) := by rw [hbs]; simp [List.append_assoc]
    have p3 : bs = (ps ++ [2] ++ (rowF 10 ((strBs nm).length : Nat) ++ strBs nm)) ++ (rowF 10 (vs.length : Int) ++ (vs.flatMap vB ++ rest)) := by rw [hbs]; simp [List.append_assoc]
    have p4 : bs = (ps ++ [2] ++ (rowF 10 ((strBs nm).length : Nat) ++ strBs nm) ++ rowF 10 (vs.length : Int)) ++ (vs.flatMap vB ++ rest) := by rw [hbs]; simp [List.append_assoc]
    have hvl : ∀ v ∈ vs, ((encB v.k v.i v.t).length : Int) ≤ (bs.length : Int) := by
      intro v hv2
      have h1 : (vB v).length ≤ (vs.flatMap vB).length := by
        clear hv hlv hbs p1 p2 p3 p4 eB hc ho
        induction vs with
        | nil => simp at hv2
        | cons y ys ih =>
          rw [List.flatMap_cons, List.length_append]
          rcases List.mem_cons.1 hv2 with rfl | h
          · omega
          · have := ih h; omega
      have h2 : (encB v.k v.i v.t).length ≤ (vB v).length := by unfold vB; rw [List.length_append]; omega
      rw [p4]
      simp only [List.length_append]
      omega
    have t1 := take_byte ps (rowF 10 ((strBs nm).length : Nat) ++ (strBs nm ++ (rowF 10 (vs.length : Int) ++ (vs.flatMap vB ++ rest)))) 2 (by decide) (by decide)
    have t2 := takeZ_text 32 (ps ++ [2]) (strBs nm) (rowF 10 (vs.length : Int) ++ (vs.flatMap vB ++ rest)) (by omega) (by omega)
    have t3 := take_num (ps ++ [2] ++ (rowF 10 ((strBs nm).length : Nat) ++ strBs nm)) (vs.flatMap vB ++ rest) (vs.length : Int) (by omega) (by omega)
    have t4 := tkVs_laid (bs.length : Int) vs (ps ++ [2] ++ (rowF 10 ((strBs nm).length : Nat) ++ strBs nm) ++ rowF 10 (vs.length : Int)) rest (fun v hv2 => ⟨hv v hv2, ho.2 v hv2, hvl v hv2⟩)
    rw [← p1] at t1
    rw [← p2] at t2
    rw [← p3] at t3
    rw [← p4] at t4
    have q2 : (ps ++ [(2 : Int)]).length = ps.length + 1 := by simp
    have q3 : ps.length + 1 + ((rowF 10 ((strBs nm).length : Int)).length + (strBs nm).length) = (ps ++ [2] ++ (rowF 10 ((strBs nm).length : Nat) ++ strBs nm)).length := by simp; omega
    have q4 : (ps ++ [2] ++ (rowF 10 ((strBs nm).length : Nat) ++ strBs nm)).length + (rowF 10 (vs.length : Int)).length = (ps ++ [2] ++ (rowF 10 ((strBs nm).length : Nat) ++ strBs nm) ++ rowF 10 (vs.length : Int)).length := by simp only [List.length_append]
    rw [q2] at t2
    rw [← hbs]
    unfold tkTx
    rw [t1]
    dsimp only
    rw [if_pos rfl, if_neg (by decide), if_pos rfl]
    unfold tkCal
    rw [t2]
    dsimp only
    rw [if_pos rfl, q3]
    unfold tkCalN
    rw [t3]
    dsimp only
    rw [if_pos rfl, if_pos (by omega), Int.toNat_natCast, q4, t4]
    dsimp only
    rw [mkStr_strBs]
    congr 2
    simp only [List.length_append, List.length_singleton]
    omega

theorem tkTs_laid : ∀ (ts : List Txd) (ps rest : List Int), (∀ t ∈ ts, txChk t = 0 ∧ TxOk t) → tkTs (ps ++ (ts.flatMap txB ++ rest)) ts.length ps.length = .ok (ts, ps.length + (ts.flatMap txB).length) := by
  intro ts
  induction ts with
  | nil => intro ps rest _; simp [tkTs]
  | cons t ts ih =>
    intro ps rest h
    obtain ⟨h1, h2⟩ := h t (by simp)
    have e : ps ++ ((t :: ts).flatMap txB ++ rest) = ps ++ (txB t ++ (ts.flatMap txB ++ rest)) := by simp [List.append_assoc]
    have e2 : ps ++ (txB t ++ (ts.flatMap txB ++ rest)) = (ps ++ txB t) ++ (ts.flatMap txB ++ rest) := by simp [List.append_assoc]
    have e3 : ps.length + (txB t).length = (ps ++ txB t).length := by simp
    rw [List.length_cons, tkTs, e, tkTx_laid t h1 h2]
    dsimp only
    rw [e2, e3, ih _ _ (fun u hu => h u (by simp [hu]))]
    dsimp only
    simp [Nat.add_assoc]

/-- There and back: P12.4. -/
theorem dec_batB (f : Int) (ts : List Txd) (hc : batChk f ts = 0) (ho : ∀ t ∈ ts, TxOk t) (hl : (batB f ts).length ≤ 65536) : decBat (batB f ts) = .ok (f, ts) := by
  obtain ⟨f0, f1, l0, l1, l2, hts⟩ := batChk_good f ts hc
  have t1 := take_num [] (rowF 10 (ts.length : Int) ++ (ts.flatMap txB ++ [])) f (by omega) (by omega)
  have t2 := take_num (rowF 10 f) (ts.flatMap txB ++ []) (ts.length : Int) (by omega) (by omega)
  have t3 := tkTs_laid ts (rowF 10 f ++ rowF 10 (ts.length : Int)) [] (fun t ht => ⟨tsChk_all ts hts t ht, ho t ht⟩)
  have p1 : batB f ts = [] ++ (rowF 10 f ++ (rowF 10 (ts.length : Int) ++ (ts.flatMap txB ++ []))) := by unfold batB; simp [List.append_assoc]
  have p2 : batB f ts = rowF 10 f ++ (rowF 10 (ts.length : Int) ++ (ts.flatMap txB ++ [])) := by unfold batB; simp [List.append_assoc]
  have p3 : batB f ts = (rowF 10 f ++ rowF 10 (ts.length : Int)) ++ (ts.flatMap txB ++ []) := by unfold batB; simp [List.append_assoc]
  rw [← p1] at t1
  rw [← p2] at t2
  rw [← p3] at t3
  have q1 : ([] : List Int).length + (rowF 10 f).length = (rowF 10 f).length := by simp
  have q2 : (rowF 10 f).length + (rowF 10 (ts.length : Int)).length = (rowF 10 f ++ rowF 10 (ts.length : Int)).length := by simp
  unfold decBat
  rw [if_pos hl]
  have hT : tkBat (batB f ts) = .ok (f, ts) := by
    unfold tkBat
    rw [show takeZ 1 0 (batB f ts) 0 0 = _ from t1]
    dsimp only
    rw [if_pos rfl, q1]
    unfold tkBatN
    rw [t2]
    dsimp only
    rw [if_pos rfl, if_pos (by omega), Int.toNat_natCast, q2, t3]
    unfold tkBEnd
    dsimp only
    have hE : endZ (batB f ts).length ((rowF 10 f ++ rowF 10 (ts.length : Int)).length + (ts.flatMap txB).length) 0 = 0 := by
      unfold endZ
      rw [if_pos rfl, if_neg]
      rw [p3]
      simp
      omega
    rw [hE, if_pos rfl]
  rw [hT]
  dsimp only
  rw [if_pos hc]

theorem batE_ok {f : Int} {ts : List Txd} {l : List Int} (h : batE f ts = .ok l) : batChk f ts = 0 ∧ (batB f ts).length ≤ 65536 ∧ l = batB f ts := by
  unfold batE at h
  split at h
  · split at h
    · rename_i h1 h2
      injection h with h
      exact ⟨h1, h2, h.symm⟩
    · cases h
  · cases h

/-- Two batches have the same bytes just if they are the same. -/
theorem batE_inj {f f' : Int} {ts ts' : List Txd} {l l' : List Int} (h : batE f ts = .ok l) (h' : batE f' ts' = .ok l') (ho : ∀ t ∈ ts, TxOk t) (ho' : ∀ t ∈ ts', TxOk t) : l = l' ↔ f = f' ∧ ts = ts' := by
  obtain ⟨a1, a2, rfl⟩ := batE_ok h
  obtain ⟨b1, b2, rfl⟩ := batE_ok h'
  constructor
  · intro e
    have d1 := dec_batB f ts a1 ho a2
    have d2 := dec_batB f' ts' b1 ho' b2
    rw [e, d2] at d1
    injection d1 with d1
    injection d1 with e1 e2
    exact ⟨e1.symm, e2.symm⟩
  · rintro ⟨rfl, rfl⟩
    rfl

theorem txB_oct (t : Txd) (hc : txChk t = 0) (ho : TxOk t) : Oct (txB t) := by
  rcases txChk_good t hc with ⟨hk, _, _, hp⟩ | ⟨hk, _, _, _, hnm, hlv, hv⟩
  · unfold txB
    rw [if_pos hk]
    have hl := procB_small t.pn t.pa t.xs hp
    exact oct_app (oct_app (fun y hy => by simp at hy; omega) (oct_row 10 _ (by omega) (by omega))) (procB_oct t.pn t.pa t.xs hp ho.1)
  · unfold txB
    rw [if_neg (by omega)]
    have hsz := name_size hnm
    have hsl := strBs_len t.nm
    refine oct_app (oct_app (oct_app (oct_app (fun y hy => by simp at hy; omega) (oct_row 10 _ (by omega) (by omega))) (oct_str t.nm)) (oct_row 10 _ (by omega) (by omega))) ?_
    intro y hy
    obtain ⟨v, hv1, hv2⟩ := List.mem_flatMap.1 hy
    have hl := encB_len v.k v.i v.t (hv v hv1) (ho.2 v hv1).1 (ho.2 v hv1).2
    exact oct_app (oct_row 10 _ (by omega) (by have := hl.1; omega)) hl.2 y hv2

theorem batB_oct (f : Int) (ts : List Txd) (hc : batChk f ts = 0) (ho : ∀ t ∈ ts, TxOk t) : Oct (batB f ts) := by
  obtain ⟨f0, f1, l0, l1, l2, hts⟩ := batChk_good f ts hc
  unfold batB
  refine oct_app (oct_app (oct_row 10 _ (by omega) (by omega)) (oct_row 10 _ (by omega) (by omega))) ?_
  intro y hy
  obtain ⟨t, h1, h2⟩ := List.mem_flatMap.1 hy
  exact txB_oct t (tsChk_all ts hts t h1) (ho t h1) y h2

end Go.Proofs.Ytdnlfacfleemeaa

namespace Go.Proofs.Ytdnlfacfleemeaa
open Go.RowKit Go.Lib

/-- A batch and a transaction as a law is handed them. -/
structure Bx (w W : World) (f : Int) (S : Value) (x : Tx2) : Prop where
  r4 : W.heap[w.heap.size]? = some (bo f S)
  r5 : W.heap[w.heap.size + 1]? = some (txo x.t x.S1 x.S2 30)
  hb : Below w.heap.size w W

theorem Bx.below {w W W' : World} {f : Int} {S : Value} {x : Tx2} (h : Bx w W f S x) (hb : Below W.heap.size W W') : Bx w W' f S x := ⟨blk_of hb h.r4 (lt_of h.r4), blk_of hb h.r5 (lt_of h.r5), below_on h.hb hb⟩

theorem bx_start (w : World) (f : Int) (S : Value) (x : Tx2) : Bx w ((w.alloc (bo f S)).alloc (txo x.t x.S1 x.S2 30)) f S x := ⟨two1 w _ _, two2 w _ _, below2 w _ _⟩

theorem one_ts {w W : World} {x : Tx2} (hx : Tx2Ok w x) (hb : Below w.heap.size w W) : TsAt 0 (W.alloc (txo x.t x.S1 x.S2 30)) (.slice (some ⟨W.heap.size, 0, none⟩) 1 1) [x.t] := by
  refine ⟨_, _, rfl, Nat.le_refl _, fun _ => ⟨_, _, rfl, Nat.zero_le _, fun j t ht => ?_⟩⟩
  have hj : j = 0 := by
    have := (List.getElem?_eq_some_iff.1 ht).1
    simpa using this
  subst hj
  simp at ht
  subst ht
  obtain ⟨c0, c1, c2, c3, c4, c5, -⟩ := vfacts6 (heap_alloc_new W (txo x.t x.S1 x.S2 30))
  have hb2 := below_on hb (below1 W (txo x.t x.S1 x.S2 30))
  exact ⟨_, _, ⟨c0, c1, c2, c3, c4, c5⟩, hx.1.same (Same.below hb2), hx.2.1.same (Same.below hb2)⟩

/-- A twin in a world. -/
structure Tn (B : Nat) (W : World) (tb c : Nat) (zs : List Tx2) (ts : List Txd) : Prop where
  hz : zs.map Tx2.t = ts
  hc : ts.length + 5 ≤ c
  hB : B ≤ tb
  bk : ∃ cur, W.heap[tb]? = some (.cells cur 30 (0, 0))
  at' : ∀ (j : Nat) (z : Tx2), (zs ++ tMarks 5)[j]? = some z → TxC W tb (j * 6) z.t z.S1 z.S2
  zl : ∀ z ∈ zs, ZL B W.heap.size W z

theorem Tn.below {B : Nat} {W W' : World} {tb c : Nat} {zs : List Tx2} {ts : List Txd} (h : Tn B W tb c zs ts) (hb : Below W.heap.size W W') : Tn B W' tb c zs ts := by
  obtain ⟨cur, hc⟩ := h.bk
  have hs := hb.block _ (lt_of hc)
  exact ⟨h.hz, h.hc, h.hB, ⟨cur, hs.trans hc⟩, fun j z hz => (h.at' j z hz).same hs, fun z hz => (h.zl z hz).keep hb.size (Kept.ofBelow hb) (fun _ _ _ _ _ _ _ h => h)⟩

theorem Tn.get {B : Nat} {W : World} {tb c : Nat} {zs : List Tx2} {ts : List Txd} (h : Tn B W tb c zs ts) {j : Nat} {t : Txd} (ht : ts[j]? = some t) : ∃ z, z ∈ zs ∧ z.t = t ∧ TxC W tb (j * 6) t z.S1 z.S2 := by
  rw [← h.hz, List.getElem?_map] at ht
  cases hy : zs[j]? with
  | none => rw [hy] at ht; cases ht
  | some z =>
    rw [hy] at ht
    injection ht with ht
    subst ht
    refine ⟨z, List.mem_of_getElem? hy, rfl, h.at' j z ?_⟩
    rw [List.getElem?_append_left (List.getElem?_eq_some_iff.1 hy).1]
    exact hy

theorem Tn.ts {B : Nat} {W : World} {tb c : Nat} {zs : List Tx2} {ts : List Txd} (h : Tn B W tb c zs ts) : TsAt 0 W (.slice (some ⟨tb, 0, none⟩) ts.length c) ts := by
  have := h.hc
  refine ⟨_, _, rfl, by omega, fun _ => ⟨tb, 0, rfl, Nat.zero_le _, fun j t ht => ?_⟩⟩
  obtain ⟨z, hz, rfl, hc⟩ := h.get ht
  rw [Nat.zero_add]
  exact ⟨_, _, hc, (h.zl z hz).cd.mono (Nat.zero_le _), (h.zl z hz).vs.mono (Nat.zero_le _)⟩

/-- Another transaction stands in it. -/
theorem Tn.set {w W : World} {B tb c : Nat} {zs : List Tx2} {ts : List Txd} (h : Tn B W tb c zs ts) (hb : Below w.heap.size w W) (hB : w.heap.size ≤ B) {x : Tx2} (hx : Tx2Ok w x) {i : Nat} (hi : i < ts.length) :
    TsAt 0 (put6o W tb (i * 6) (.int .i64 x.t.k) (.string x.t.pn) (.int .i64 x.t.pa) x.S1 (.string x.t.nm) x.S2) (.slice (some ⟨tb, 0, none⟩) ts.length c) (ts.set i x.t) ∧ Kept (fun k => k = tb) W (put6o W tb (i * 6) (.int .i64 x.t.k) (.string x.t.pn) (.int .i64 x.t.pa) x.S1 (.string x.t.nm) x.S2) := by
  have hk := kept6o W tb (i * 6) (.int .i64 x.t.k) (.string x.t.pn) (.int .i64 x.t.pa) x.S1 (.string x.t.nm) x.S2
  have hc := h.hc
  have hBt := h.hB
  refine ⟨⟨_, _, by rw [List.length_set], by rw [List.length_set]; omega, fun _ => ⟨tb, 0, rfl, Nat.zero_le _, fun j t ht => ?_⟩⟩, hk⟩
  rw [Nat.zero_add]
  have hb2 : Below w.heap.size w (put6o W tb (i * 6) (.int .i64 x.t.k) (.string x.t.pn) (.int .i64 x.t.pa) x.S1 (.string x.t.nm) x.S2) := hb.trans (hk.below hb.size (fun k h1 h2 => by omega))
  by_cases hji : j = i
  · subst hji
    rw [List.getElem?_set_self hi] at ht
    injection ht with ht
    subst ht
    obtain ⟨u, hu⟩ : ∃ u, ts[j]? = some u := ⟨_, List.getElem?_eq_getElem hi⟩
    obtain ⟨z, hz, _, hcz⟩ := h.get hu
    exact ⟨_, _, put6_at hcz x.t x.S1 x.S2, hx.1.same (Same.below hb2), hx.2.1.same (Same.below hb2)⟩
  · rw [List.getElem?_set_ne (fun e => hji e.symm)] at ht
    obtain ⟨z, hz, rfl, hcz⟩ := h.get ht
    have hzl := (h.zl z hz).keep (C' := W.heap.size) (Nat.le_refl _) hk (fun g cur ty _ _ h2 h3 e => by
      obtain ⟨cu, hcu⟩ := h.bk
      rw [e, hcu] at h2
      simp at h2
      exact h3 h2.2.symm)
    exact ⟨_, _, hcz.moved (fun m hm => put6_off _ _ _ _ _ _ (by omega)), hzl.cd.mono (Nat.zero_le _), hzl.vs.mono (Nat.zero_le _)⟩

theorem set_all {P : Txd → Prop} {ts : List Txd} {i : Nat} {x : Txd} (h : ∀ t ∈ ts, P t) (hx : P x) : ∀ t ∈ ts.set i x, P t := by
  intro t ht
  rcases List.mem_or_eq_of_mem_set ht with h1 | h1
  · exact h t h1
  · rw [h1]; exact hx

theorem sma_L {ts : List Txd} (h : Sma ts) : ∀ t ∈ ts, TxL t := fun t ht => ⟨by have := (h.2 t ht).2; omega, by have := (h.2 t ht).1; omega⟩

set_option maxRecDepth 100000 in
set_option maxHeartbeats 4000000 in
theorem back_long (f : Int) (S : Value) (ys : List Tx2) (x : Tx2) (i fi : Int) (w : World) (h : BatR w S ys) (hx : Tx2Ok w x) (hs : ¬ (Sma (ys.map Tx2.t) ∧ Sma [x.t])) :
    Calls Try.prog 3 #[.agg #[.int .i64 f, S], txv x.t x.S1 x.S2, .int .i64 i, .int .i64 fi] w fun e w' => e = .returned (.bool true) ∧ Below w.heap.size w w' := by
  have H0 := hid (bx_start w f S x)
  have HTS := hid h.ts
  have HL1 := hid (fun W (hb : Below w.heap.size w W) => long_any 0 f S (ys.map Tx2.t) W (h.ts.below hb))
  have HL2 := hid (fun W (hb : Below w.heap.size w W) => long_any 0 0 _ [x.t] _ (one_ts hx hb))
  unfold LgP at HL1 HL2
  obtain ⟨ao, cap, rfl, -⟩ := h.1.shape
  obtain ⟨t, a1, c1, a2, c2⟩ := x
  dsimp only [Tx2.S1, Tx2.S2] at *
  clear h hx
  by_cases s1 : Sma (ys.map Tx2.t)
  · have s2 : ¬ Sma [t] := fun h => hs ⟨s1, h⟩
    rw [decide_eq_true s1] at HL1
    rw [decide_eq_false s2] at HL2
    clear hs s1 s2
    go_enter Try.func3, Try.ntmps3
    go_wp2_with (go_at_call 6; first
      | ((with_reducible show Calls _ _ _ (World.alloc (World.alloc w _) _) _)
         refine (HL1.out _ H0.out.hb).mono ?_
         rintro e w1 ⟨rfl, hb1⟩
         have H1 := hid (H0.out.below hb1)
         obtain ⟨q0, q1, q2, q3, q4, q5, -⟩ := vfacts6 H1.out.r5
         clear hb1)
      | (refine (HL2.out _ H1.out.hb).mono ?_
         rintro e w2 ⟨rfl, hb2⟩
         have H2 := hid (below_on H1.out.hb (below_on (below1 w1 _) hb2))
         clear hb2))
    go_ret
    exact ⟨rfl, H2.out⟩
  · rw [decide_eq_false s1] at HL1
    clear hs s1
    go_enter Try.func3, Try.ntmps3
    go_wp2_with (go_at_call 6
                 refine (HL1.out _ H0.out.hb).mono ?_
                 rintro e w1 ⟨rfl, hb1⟩
                 have H1 := hid (H0.out.below hb1)
                 clear hb1)
    go_ret
    exact ⟨rfl, H1.out.hb⟩

end Go.Proofs.Ytdnlfacfleemeaa

namespace Go.Proofs.Ytdnlfacfleemeaa
open Go.RowKit Go.Lib

theorem batE_err (f : Int) (ts : List Txd) (E : Int) (h : batE f ts = .error E) : E ≠ 0 := by
  unfold batE at h
  split at h
  · split at h
    · cases h
    · injection h with h; rw [← h]; decide
  · rename_i h0; injection h with h; rw [← h]; exact h0

/-- The law with the twin. -/
structure Bk4 (w W : World) (f : Int) (S : Value) (x : Tx2) (g : Nat) (l : List Int) (B tb c : Nat) (zs : List Tx2) (ts : List Txd) (q : Nat) (o : Obj) : Prop where
  bx : Bx w W f S x
  ow : Own W g l
  tn : Tn B W tb c zs ts
  rq : W.heap[q]? = some o
  lB : w.heap.size + 1 < B
  lg : g < q
  lt : tb < q
  lz : ∀ z ∈ zs, ZL B q W z
  lq : w.heap.size + 1 < q

theorem Bk4.below {w W W' : World} {f : Int} {S : Value} {x : Tx2} {g : Nat} {l : List Int} {B tb c : Nat} {zs : List Tx2} {ts : List Txd} {q : Nat} {o : Obj} (h : Bk4 w W f S x g l B tb c zs ts q o) (hb : Below W.heap.size W W') : Bk4 w W' f S x g l B tb c zs ts q o :=
  ⟨h.bx.below hb, blk_of hb h.ow (lt_of h.ow), h.tn.below hb, blk_of hb h.rq (lt_of h.rq), h.lB, h.lg, h.lt, fun z hz => (h.lz z hz).keep (Nat.le_refl _) (Kept.ofBelow hb) (fun _ _ _ _ _ _ _ h => h), h.lq⟩

theorem Bk4.first {w W : World} {f : Int} {S : Value} {x : Tx2} {g : Nat} {l : List Int} {B tb c : Nat} {zs : List Tx2} {ts : List Txd} {q : Nat} {a0 S' : Value} (h : Bk4 w W f S x g l B tb c zs ts q (.cells #[a0, S'] 24)) (v : Value) : Bk4 w (W.setCell ⟨q, 0, none⟩ v) f S x g l B tb c zs ts q (.cells #[v, S'] 24) := by
  have hk : Kept (fun k => k = q) W (W.setCell ⟨q, 0, none⟩ v) := (Kept.refl (fun k => k = q) W).setCell (p := ⟨q, 0, none⟩) (fun _ => rfl) _
  have h1 := h.lq
  have h2 := h.lg
  have h3 := h.lt
  have hrq := h.rq
  obtain ⟨cur, hcur⟩ := h.tn.bk
  have st := hk.block tb (lt_of hcur) (by omega)
  exact ⟨⟨(hk.block _ (lt_of h.bx.r4) (by omega)).trans h.bx.r4, (hk.block _ (lt_of h.bx.r5) (by omega)).trans h.bx.r5, h.bx.hb.trans (hk.below h.bx.hb.size (fun k h1 h2 => by omega))⟩, (hk.block _ (lt_of h.ow) (by omega)).trans h.ow,
    ⟨h.tn.hz, h.tn.hc, h.tn.hB, ⟨cur, st.trans hcur⟩, fun j z hz => (h.tn.at' j z hz).same st, fun z hz => (h.lz z hz).keep (by have := lt_of h.rq; have := hk.size; omega) hk (fun g _ _ _ h1 _ _ => by omega)⟩,
    by simp [World.setCell, Array.getElem?_modify, hrq], h.lB, h.lg, h.lt, fun z hz => (h.lz z hz).keep (Nat.le_refl _) hk (fun g _ _ _ h1 _ _ => by omega), h.lq⟩

/-- With another transaction in it. -/
structure Bq (w W : World) (f : Int) (S : Value) (x : Tx2) (g : Nat) (l : List Int) (q : Nat) (S' : Value) (ts : List Txd) : Prop where
  bx : Bx w W f S x
  ow : Own W g l
  st : TsAt 0 W S' ts
  rq : W.heap[q]? = some (bo f S')

theorem Bk4.set {w W : World} {f : Int} {S : Value} {x : Tx2} {g : Nat} {l : List Int} {B tb c : Nat} {zs : List Tx2} {ts : List Txd} {q : Nat} (h : Bk4 w W f S x g l B tb c zs ts q (bo f (.slice (some ⟨tb, 0, none⟩) ts.length c))) (hx : Tx2Ok w x) {i : Nat} (hi : i < ts.length) :
    Bq w (put6o W tb (i * 6) (.int .i64 x.t.k) (.string x.t.pn) (.int .i64 x.t.pa) x.S1 (.string x.t.nm) x.S2) f S x g l q (.slice (some ⟨tb, 0, none⟩) ts.length c) (ts.set i x.t) := by
  have hlB := h.lB
  have hlt := h.lt
  have hB := h.tn.hB
  obtain ⟨h1, hk⟩ := h.tn.set h.bx.hb (by omega) hx hi
  have hgt : g ≠ tb := by
    intro e
    obtain ⟨cur, hcur⟩ := h.tn.bk
    have := h.ow
    unfold Own at this
    rw [e, hcur] at this
    simp at this
  exact ⟨⟨(hk.block _ (lt_of h.bx.r4) (by omega)).trans h.bx.r4, (hk.block _ (lt_of h.bx.r5) (by omega)).trans h.bx.r5, h.bx.hb.trans (hk.below h.bx.hb.size (fun k h1 h2 => by omega))⟩, (hk.block _ (lt_of h.ow) hgt).trans h.ow, h1, (hk.block _ (lt_of h.rq) (by omega)).trans h.rq⟩

theorem bk4_start {w w6 w7 : World} {f : Int} {S : Value} {x : Tx2} {g : Nat} {l : List Int} {tb c : Nat} {zs : List Tx2} {ts : List Txd} {cur : Array Value} (h6 : Bx w w6 f S x ∧ Own w6 g l) (hz : zs.map Tx2.t = ts) (hc : ts.length + 5 ≤ c) (hB : w6.heap.size ≤ tb) (hblk : w7.heap[tb]? = some (.cells cur 30 (0, 0)))
    (hat : ∀ (j : Nat) (z : Tx2), (zs ++ tMarks 5)[j]? = some z → TxC w7 tb (j * 6) z.t z.S1 z.S2) (hzl : ∀ z ∈ zs, ZL w6.heap.size w7.heap.size w7 z) (hb7 : Below w6.heap.size w6 w7) (o : Obj) :
    Bk4 w (w7.alloc o) f S x g l w6.heap.size tb c zs ts w7.heap.size o := by
  have ha := below1 w7 o
  have hb := below_on hb7 ha
  have hl := lt_of h6.1.r5
  have hs := hb7.size
  exact ⟨h6.1.below hb, blk_of hb h6.2 (lt_of h6.2), (Tn.mk hz hc hB ⟨cur, hblk⟩ hat hzl).below ha, heap_alloc_new w7 o, hl, by have := lt_of h6.2; omega, lt_of hblk, fun z hz => (hzl z hz).keep (Nat.le_refl _) (Kept.ofBelow ha) (fun _ _ _ _ _ _ _ h => h), by omega⟩

set_option maxRecDepth 100000 in
set_option maxHeartbeats 32000000 in
theorem back_no (f : Int) (S : Value) (ys : List Tx2) (x : Tx2) (i fi : Int) (w : World) (h : BatR w S ys) (hx : Tx2Ok w x) (hs1 : Sma (ys.map Tx2.t)) (hs2 : Sma [x.t]) (hno : ∀ l, batE f (ys.map Tx2.t) ≠ .ok l) :
    Calls Try.prog 3 #[.agg #[.int .i64 f, S], txv x.t x.S1 x.S2, .int .i64 i, .int .i64 fi] w fun e w' => e = .returned (.bool true) ∧ Below w.heap.size w w' := by
  have H0 := hid (bx_start w f S x)
  have HB := hid h
  have HTS := hid h.ts
  have HX := hid hx
  have HSA := hid hs1
  have HSX := hid hs2
  have ho : ∀ t ∈ ys.map Tx2.t, TxOk t := by
    intro t ht
    obtain ⟨y, hy, rfl⟩ := List.mem_map.1 ht
    exact (h.2 y hy).2.2
  have HO := hid ho
  have hl3 : ys.length ≤ 300 := by have := hs1.1; rwa [List.length_map] at this
  have HL1 := hid (fun W (hb : Below w.heap.size w W) => long_any 0 f S (ys.map Tx2.t) W (HTS.out.below hb))
  have HL2 := hid (fun W (hb : Below w.heap.size w W) => long_any 0 0 _ [x.t] _ (one_ts HX.out hb))
  unfold LgP at HL1 HL2
  rw [decide_eq_true hs1] at HL1
  rw [decide_eq_true hs2] at HL2
  have HC := hid (fun W (hb : Below w.heap.size w W) => bcheck_any 0 f S (ys.map Tx2.t) W (HTS.out.below hb) (sma_L HSA.out) (by rw [List.length_map]; omega))
  have HE := hid (fun W (hb : Below w.heap.size w W) => bencode_any 0 f S (ys.map Tx2.t) W (HTS.out.below hb) (sma_L HSA.out) (by rw [List.length_map]; omega) HO.out)
  have HTW := hid (fun W (hb : Below w.heap.size w W) => twin_any f S ys W (HB.out.below hb) HSA.out)
  obtain ⟨ao, cap, rfl, -⟩ := h.1.shape
  obtain ⟨ts, hts⟩ : ∃ ts, ts = ys.map Tx2.t := ⟨_, rfl⟩
  have hly : ys.length = ts.length := by rw [hts, List.length_map]
  rw [← hts] at HSA HO HTS HC HE HTW hno
  rw [hly] at HTS HL1 HC HE HTW H0 hl3 ⊢
  clear h hx hs1 hs2 ho HB hts hly
  by_cases hE : batChk f ts = 0
  · rw [hE] at HC
    cases hR : batE f ts with
    | error E =>
      have hE4 : E = 4 := by
        unfold batE at hR
        rw [if_pos hE] at hR
        split at hR
        · cases hR
        · injection hR with hR; exact hR.symm
      subst hE4
      rw [hR] at HE
      unfold BEnc at HE
      dsimp only at HE
      obtain ⟨t, a1, c1, a2, c2⟩ := x
      dsimp only [Tx2.S1, Tx2.S2] at *
      clear hR hE
      go_enter Try.func3, Try.ntmps3
      go_wp2_with (first
        | (go_at_call 6
           first
           | ((with_reducible show Calls _ _ _ (World.alloc (World.alloc w _) _) _)
              refine (HL1.out _ H0.out.hb).mono ?_
              rintro e w1 ⟨rfl, hb1⟩
              have H1 := hid (H0.out.below hb1)
              obtain ⟨q0, q1, q2, q3, q4, q5, -⟩ := vfacts6 H1.out.r5
              clear hb1)
           | (refine (HL2.out _ H1.out.hb).mono ?_
              rintro e w2 ⟨rfl, hb2⟩
              have H2 := hid (H1.out.below (below_on (below1 w1 _) hb2))
              obtain ⟨p0, p1, -⟩ := vfacts2 H2.out.r4
              clear hb2))
        | (go_at_call 7
           refine (HC.out _ H2.out.hb).mono ?_
           rintro e w3 ⟨rfl, hb3⟩
           have H3 := hid (H2.out.below hb3)
           obtain ⟨p0, p1, -⟩ := vfacts2 H3.out.r4
           clear hb3)
        | (go_at_call 8
           refine (HE.out _ H3.out.hb).mono ?_
           rintro e w4 ⟨hb4, rfl⟩
           have H4 := hid (H3.out.below hb4)
           clear hb4)
        | (go_at_call 9
           refine (known_any _).mono ?_
           rintro e w5 ⟨rfl, hb5⟩
           have H5 := hid (below_on H4.out.hb hb5)
           clear hb5))
      go_ret
      exact ⟨rfl, H5.out⟩
    | ok l => exact absurd hR (hno l)
  · have he2 : (batChk f ts == 0) = false := by simpa using hE
    have hR : batE f ts = .error (batChk f ts) := by unfold batE; rw [if_neg hE]
    rw [hR] at HE
    unfold BEnc at HE
    dsimp only at HE
    generalize batChk f ts = E at *
    obtain ⟨t, a1, c1, a2, c2⟩ := x
    dsimp only [Tx2.S1, Tx2.S2] at *
    clear hR hE
    go_enter Try.func3, Try.ntmps3
    go_wp2_with (first
      | (go_at_call 6
         first
         | ((with_reducible show Calls _ _ _ (World.alloc (World.alloc w _) _) _)
            refine (HL1.out _ H0.out.hb).mono ?_
            rintro e w1 ⟨rfl, hb1⟩
            have H1 := hid (H0.out.below hb1)
            obtain ⟨q0, q1, q2, q3, q4, q5, -⟩ := vfacts6 H1.out.r5
            clear hb1)
         | (refine (HL2.out _ H1.out.hb).mono ?_
            rintro e w2 ⟨rfl, hb2⟩
            have H2 := hid (H1.out.below (below_on (below1 w1 _) hb2))
            obtain ⟨p0, p1, -⟩ := vfacts2 H2.out.r4
            clear hb2))
      | (go_at_call 7
         refine (HC.out _ H2.out.hb).mono ?_
         rintro e w3 ⟨rfl, hb3⟩
         have H3 := hid (H2.out.below hb3)
         obtain ⟨p0, p1, -⟩ := vfacts2 H3.out.r4
         clear hb3)
      | (go_at_call 8
         refine (HE.out _ H3.out.hb).mono ?_
         rintro e w4 ⟨hb4, rfl⟩
         have H4 := hid (H3.out.below hb4)
         clear hb4)
      | (go_at_call 9
         refine (known_any _).mono ?_
         rintro e w5 ⟨rfl, hb5⟩
         have H5 := hid (below_on H4.out.hb hb5)
         clear hb5))
    go_ret
    exact ⟨rfl, H5.out⟩

end Go.Proofs.Ytdnlfacfleemeaa
